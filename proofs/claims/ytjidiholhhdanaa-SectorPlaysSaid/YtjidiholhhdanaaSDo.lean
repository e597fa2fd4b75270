/-
  The contract of the law's do: a call of both devices is answered alike. Conditions: they hold the same.
-/
import Derived.Test.YtjidiholhhdanaaSPair
namespace Go.Proofs.Ytjidiholhhdanaa
open Go.RowKit
set_option linter.unusedVariables false
set_option maxRecDepth 100000

def allT : List TypeId := devT ++ refT
theorem kp_dev {B : Nat} {w w' : World} (h : Kp devT B w w') : Kp allT B w w' := h.mono (Nat.le_refl _) (fun t ht => List.mem_append_left _ ht)
theorem kp_ref {B : Nat} {w w' : World} (h : Kp refT B w w') : Kp allT B w w' := h.mono (Nat.le_refl _) (fun t ht => List.mem_append_right _ ht)

/-- Both devices hold the same. -/
def Rel (w : World) (B pb rp n m : Nat) : Prop :=
  ∃ (bd bl : Nat) (v vl vw : Value) (D L : List UInt8) (way : List Wr) (ops fall left : Nat) (off : Bool), Dev w B pb bd bl v n D L way ops fall off ∧ RDev w B rp vl vw n D way left off ops ∧
    Lat n D L way ∧ Falls left ops fall ∧ left ≤ 9223372036854775807 ∧ ops ≤ m ∧ way.length ≤ m

theorem rel_below {w w' : World} {B pb rp n m : Nat} (h : Rel w B pb rp n m) (hb : Below w.heap.size w w') : Rel w' B pb rp n m := by
  obtain ⟨bd, bl, v, vl, vw, D, L, way, ops, fall, left, off, hd, hr, h1, h2, h3, h4, h5⟩ := h
  exact ⟨bd, bl, v, vl, vw, D, L, way, ops, fall, left, off, hd.kp (ts := []) (B' := 0) (Kp.of_below hb) (by simp) (by simp) (by simp), hr.kp (ts := []) (B' := 0) (Kp.of_below hb) (by simp) (by simp) (by simp), h1, h2, h3, h4, h5⟩

/-- A slice of bytes in old memory. -/
def OldB (w : World) (B : Nat) (a : Option Addr) (len cap : Nat) (l : List UInt8) : Prop := IsB w a len cap l ∧ ∀ b off, a = some ⟨b, off, none⟩ → 0 < len → b < B
theorem OldB.kp {w w' : World} {B : Nat} {a : Option Addr} {len cap : Nat} {l : List UInt8} {ts : List TypeId} (h : OldB w B a len cap l) (hk : Kp ts B w w') : OldB w' B a len cap l := by
  refine ⟨⟨h.1.length, ?_, h.1.nil, h.1.room, h.1.most⟩, h.2⟩
  rcases h.1.at_ with h0 | ⟨b, off, rfl, hlt, hc⟩
  · exact .inl h0
  · by_cases h0 : len = 0
    · exact .inl h0
    · have hb := h.2 b off rfl (by omega)
      exact .inr ⟨b, off, rfl, Nat.lt_of_lt_of_le hlt hk.size, fun i hi => (World.cell?_of_block (w := w) (hk.block b hlt (.inl hb))).trans (hc i hi)⟩
theorem OldB.src {w : World} {B : Nat} {a : Option Addr} {len cap : Nat} {l : List UInt8} (h : OldB w B a len cap l) : Src w B a len l := by
  refine ⟨h.1.length, fun h256 => ?_⟩
  rcases h.1.at_ with h0 | ⟨b, off, rfl, hlt, hc⟩
  · omega
  · exact ⟨b, off, rfl, fun j hj => hc j (by omega), hlt, .inl (h.2 b off rfl (by omega))⟩
theorem src_new {w : World} {B b : Nat} {l : List UInt8} (h : Has w b ((wholeL l).map bv) 5) : Src w B (some ⟨b, 0, none⟩) 256 (wholeL l) :=
  ⟨wholeL_length l, fun _ => ⟨b, 0, rfl, cells_of h (wholeL_length l), h.lt, .inr ⟨_, h⟩⟩⟩

def actL (z N : Int) (a : Option Addr) (len cap : Nat) (ka : Option Addr) (kl kc : Nat) (torn cut : Int) : List Value := [.int .u8 z, .int .i64 N, .slice a len cap, .slice ka kl kc, .int .i64 torn, .int .i64 cut]
/-- Behind do. -/
def DoP (B pb rp n m : Nat) (w : World) (e : Ending) (w' : World) : Prop := e = .returned (.bool true) ∧ Rel w' B pb rp n (m + 1) ∧ Kp allT B w w'

set_option maxHeartbeats 8000000 in
theorem do_0 {w : World} {B pb rp n m : Nat} (hrel : Rel w B pb rp n m) (hm : m ≤ 900) (hn : 0 < n) (hB : B ≤ w.heap.size) (z N : Int) (a : Option Addr) (len cap : Nat) (l : List UInt8) (ka : Option Addr) (kl kc : Nat) (ks : List Bool) (torn cut : Int) (hP : OldB w B a len cap l) (hK : IsO w B ka kl kc ks) (hz0 : 0 ≤ z) (hz1 : z ≤ 255) (hm1 : z.tmod 7 = 0) (hm2 : z % 7 = 0) :
    Calls Try.prog 10 #[.pointer (some ⟨pb, 0, none⟩), .pointer (some ⟨rp, 0, none⟩), .agg (actL z N a len cap ka kl kc torn cut).toArray] w (DoP B pb rp n m w) := by
  obtain ⟨bd, bl, v, vl, vw, D, L, way, ops, fall, left, off, hd, hr, hlat, hf, hleft, hops, hway⟩ := hrel
  obtain ⟨A, hA⟩ : ∃ A, A = w.heap.size := ⟨_, rfl⟩
  obtain ⟨w0, hw0⟩ : ∃ w0, w0 = w.alloc (.cells (actL z N a len cap ka kl kc torn cut).toArray 34) := ⟨_, rfl⟩
  have hb0 : Below w.heap.size w w0 := by rw [hw0]; exact (Below.refl _ _).alloc (Nat.le_refl _) _
  have X0 : Hid (Has w0 A (actL z N a len cap ka kl kc torn cut) 34) := Lib.hid (by rw [hw0, hA]; exact Has.new w _ _)
  have D0 := Lib.hid (hd.kp (ts := []) (B' := 0) (Kp.of_below hb0) (by simp) (by simp) (by simp))
  have R0 := Lib.hid (hr.kp (ts := []) (B' := 0) (Kp.of_below hb0) (by simp) (by simp) (by simp))
  have P0 : Hid (OldB w0 B a len cap l) := Lib.hid (hP.kp (ts := []) (Kp.of_below hb0))
  have O0 : Hid (IsO w0 B ka kl kc ks) := Lib.hid (hK.kp (ts := []) (Kp.of_below hb0) (by simp))
  have K0 : Hid (Kp allT B w w0) := Lib.hid (Kp.of_below hb0)
  have B0 : Hid (B ≤ w0.heap.size) := Lib.hid (Nat.le_trans hB hb0.size)
  have HLAT := Lib.hid hlat
  have HF := Lib.hid hf
  have HA := Lib.hid hA
  have HW0 := Lib.hid hw0
  clear hd hr hlat hf hb0 hP hK hA hw0 hB
  obtain ⟨C, L', way', ops', off', left', hf2, hl2, hleft2, ho2, hw2, hwr, hpu⟩ := write_pair (rp := rp) (vl := vl) (vw := vw) D0.out HF.out HLAT.out hleft (by omega) (by omega) N 256 (wholeL l)
  have HWR := Lib.hid hwr
  have HPU := Lib.hid hpu
  have HF2 := Lib.hid hf2
  have HL2 := Lib.hid hl2
  clear hwr hpu hf2 hl2
  go_enter Try.func10, Try.ntmps10
  go_upto_region 1 with fail
  rw [show w.alloc (.cells (actL z N a len cap ka kl kc torn cut).toArray 34) = w0 from HW0.out.symm, ← HA.out]
  clear HW0
  have x0 := X0.out.cellAt (i := 0) rfl
  have x1 := X0.out.cellAt (i := 1) rfl
  have x2 := X0.out.cellAt (i := 2) rfl
  have x3 := X0.out.cellAt (i := 3) rfl
  have x4 := X0.out.cellAt (i := 4) rfl
  have x5 := X0.out.cellAt (i := 5) rfl
  go_upto_region 4 with fail
  clear x0 x1 x2 x3 x4 x5
  refine wp_region_held_drew (S := fun W => Has W A (actL z N a len cap ka kl kc torn cut) 34) (by kernel_rfl) X0.out.drew (fun hHeld => ?_)
  refine wpAnyH_take (i := 0) (oi := { dst := some 17, op := Op.move (Operand.tmp 0), type := 24, pos := "law.go:43", after := #[], guard := none }) (v := .pointer (some ⟨pb, 0, none⟩)) rfl (by kernel_rfl) (by kernel_rfl) (by kernel_rfl) (fun _ _ _ h => h)
    (Or.inl ⟨by rfl, by intro w hSw;  clear hSw; go_simp⟩) hHeld ?_
  try simp only [Act.put, List.setIfInBounds_toArray, List.set_cons_zero, List.set_cons_succ]
  refine wpAnyH_take (i := 1) (oi := { dst := some 18, op := Op.fieldAddr 34 (Operand.tmp 5) 1, type := 0, pos := "law.go:43", after := #[], guard := none }) (v := .pointer (some ⟨A, 1, none⟩)) rfl (by kernel_rfl) (by kernel_rfl) (by kernel_rfl) (fun _ _ _ h => h)
    (Or.inl ⟨by rfl, by intro w hSw;  clear hSw; go_simp⟩) hHeld ?_
  try simp only [Act.put, List.setIfInBounds_toArray, List.set_cons_zero, List.set_cons_succ]
  refine wpAnyH_take (i := 2) (oi := { dst := some 19, op := Op.load 3 (Operand.tmp 18), type := 3, pos := "law.go:43", after := #[{ on := 1, ground := Ground.data }], guard := none }) (v := .int .i64 N) rfl (by kernel_rfl) (by kernel_rfl) (by kernel_rfl) (fun _ _ _ h => h)
    (Or.inl ⟨by rfl, by intro w hSw; have s1 := hSw.cellAt (i := 1) rfl; clear hSw; go_simp⟩) hHeld ?_
  try simp only [Act.put, List.setIfInBounds_toArray, List.set_cons_zero, List.set_cons_succ]
  refine wpAnyH_take (i := 3) (oi := { dst := some 20, op := Op.fieldAddr 34 (Operand.tmp 5) 2, type := 0, pos := "law.go:43", after := #[], guard := none }) (v := .pointer (some ⟨A, 2, none⟩)) rfl (by kernel_rfl) (by kernel_rfl) (by kernel_rfl) (fun _ _ _ h => h)
    (Or.inl ⟨by rfl, by intro w hSw;  clear hSw; go_simp⟩) hHeld ?_
  try simp only [Act.put, List.setIfInBounds_toArray, List.set_cons_zero, List.set_cons_succ]
  refine wpAnyH_take (i := 4) (oi := { dst := some 21, op := Op.load 31 (Operand.tmp 20), type := 31, pos := "law.go:43", after := #[{ on := 3, ground := Ground.data }], guard := none }) (v := .slice a len cap) rfl (by kernel_rfl) (by kernel_rfl) (by kernel_rfl) (fun _ _ _ h => h)
    (Or.inl ⟨by rfl, by intro w hSw; have s2 := hSw.cellAt (i := 2) rfl; clear hSw; go_simp⟩) hHeld ?_
  try simp only [Act.put, List.setIfInBounds_toArray, List.set_cons_zero, List.set_cons_succ]
  refine wpAnyH_take (i := 7) (oi := { dst := some 24, op := Op.move (Operand.tmp 1), type := 28, pos := "law.go:43", after := #[], guard := none }) (v := .pointer (some ⟨rp, 0, none⟩)) rfl (by kernel_rfl) (by kernel_rfl) (by kernel_rfl) (fun _ _ _ h => h)
    (Or.inl ⟨by rfl, by intro w hSw;  clear hSw; go_simp⟩) hHeld ?_
  try simp only [Act.put, List.setIfInBounds_toArray, List.set_cons_zero, List.set_cons_succ]
  refine wpAnyH_take (i := 8) (oi := { dst := some 25, op := Op.fieldAddr 34 (Operand.tmp 5) 1, type := 0, pos := "law.go:43", after := #[], guard := none }) (v := .pointer (some ⟨A, 1, none⟩)) rfl (by kernel_rfl) (by kernel_rfl) (by kernel_rfl) (fun _ _ _ h => h)
    (Or.inl ⟨by rfl, by intro w hSw;  clear hSw; go_simp⟩) hHeld ?_
  try simp only [Act.put, List.setIfInBounds_toArray, List.set_cons_zero, List.set_cons_succ]
  refine wpAnyH_take (i := 9) (oi := { dst := some 26, op := Op.load 3 (Operand.tmp 25), type := 3, pos := "law.go:43", after := #[{ on := 8, ground := Ground.data }], guard := none }) (v := .int .i64 N) rfl (by kernel_rfl) (by kernel_rfl) (by kernel_rfl) (fun _ _ _ h => h)
    (Or.inl ⟨by rfl, by intro w hSw; have s1 := hSw.cellAt (i := 1) rfl; clear hSw; go_simp⟩) hHeld ?_
  try simp only [Act.put, List.setIfInBounds_toArray, List.set_cons_zero, List.set_cons_succ]
  refine wpAnyH_take (i := 10) (oi := { dst := some 27, op := Op.fieldAddr 34 (Operand.tmp 5) 2, type := 0, pos := "law.go:43", after := #[], guard := none }) (v := .pointer (some ⟨A, 2, none⟩)) rfl (by kernel_rfl) (by kernel_rfl) (by kernel_rfl) (fun _ _ _ h => h)
    (Or.inl ⟨by rfl, by intro w hSw;  clear hSw; go_simp⟩) hHeld ?_
  try simp only [Act.put, List.setIfInBounds_toArray, List.set_cons_zero, List.set_cons_succ]
  refine wpAnyH_take (i := 11) (oi := { dst := some 28, op := Op.load 31 (Operand.tmp 27), type := 31, pos := "law.go:43", after := #[{ on := 10, ground := Ground.data }], guard := none }) (v := .slice a len cap) rfl (by kernel_rfl) (by kernel_rfl) (by kernel_rfl) (fun _ _ _ h => h)
    (Or.inl ⟨by rfl, by intro w hSw; have s2 := hSw.cellAt (i := 2) rfl; clear hSw; go_simp⟩) hHeld ?_
  try simp only [Act.put, List.setIfInBounds_toArray, List.set_cons_zero, List.set_cons_succ]
  refine wpAnyH_ready (rs := [5]) (by kernel_rfl) (by simp) ?_
  refine AllReadyH.cons (o := { dst := some 22, op := Op.call { callee := Callee.value (Operand.func 18), args := #[Operand.tmp 21], argTypes := #[31] }, type := 31, pos := "law.go:43", after := #[{ on := 4, ground := Ground.data }], guard := none }) rfl (fun K hK => ?_) AllReadyH.nil
  go_simp
  refine (whole_any a len cap l w0.drew (P0.out.1.later (Below.refl _ _).drew)).mono ?_
  rintro e w1 ⟨b1, rfl, hx, _, hb⟩
  have hb' : Below w0.heap.size w0 w1 := ((Below.refl _ _).drew).trans hb
  have S1 := Lib.hid (src_new (B := B) hx)
  have X1 := Lib.hid (X0.out.below hb' X0.out.lt)
  have D1 := Lib.hid (D0.out.kp (ts := []) (B' := 0) (Kp.of_below hb') (by simp) (by simp) (by simp))
  have R1 := Lib.hid (R0.out.kp (ts := []) (B' := 0) (Kp.of_below hb') (by simp) (by simp) (by simp))
  have P1 : Hid (OldB w1 B a len cap l) := Lib.hid (P0.out.kp (ts := []) (Kp.of_below hb'))
  have K1 : Hid (Kp allT B w w1) := Lib.hid (K0.out.trans (Kp.of_below hb'))
  have B1 : Hid (B ≤ w1.heap.size) := Lib.hid (Nat.le_trans B0.out hb'.size)
  clear hx hb hb'
  refine hK.out _ _ X1.out (fun hHw1 => ?_)
  clear hK K hHeld
  try simp only [Act.put, List.setIfInBounds_toArray, List.set_cons_zero, List.set_cons_succ]
  refine wpAnyH_ready (rs := [6]) (by kernel_rfl) (by simp) ?_
  refine AllReadyH.cons (o := { dst := some 23, op := Op.call { callee := Callee.value (Operand.func 19), args := #[Operand.tmp 17, Operand.tmp 19, Operand.tmp 22], argTypes := #[24, 3, 31] }, type := 25, pos := "law.go:43", after := #[{ on := 0, ground := Ground.data }, { on := 2, ground := Ground.data }, { on := 5, ground := Ground.data }, { on := 5, ground := Ground.chain }], guard := none }) rfl (fun K hK => ?_) AllReadyH.nil
  go_simp
  refine (HWR.out w1 _ 256 D1.out S1.out B1.out).mono ?_
  rintro e w2 ⟨rfl, ⟨v2, hd⟩, hk⟩
  have D2 := Lib.hid hd
  have X2 := Lib.hid (X1.out.kp hk (by decide))
  have R2 := Lib.hid (R1.out.kp hk (by decide) (by decide) (by decide))
  have P2 := Lib.hid (P1.out.kp hk)
  have K2 := Lib.hid (K1.out.trans (kp_dev hk))
  have B2 : Hid (B ≤ w2.heap.size) := Lib.hid (Nat.le_trans B1.out hk.size)
  clear hd hk
  refine hK.out _ _ X2.out (fun hHw2 => ?_)
  clear hK K hHw1
  try simp only [Act.put, List.setIfInBounds_toArray, List.set_cons_zero, List.set_cons_succ]
  refine wpAnyH_ready (rs := [12]) (by kernel_rfl) (by simp) ?_
  refine AllReadyH.cons (o := { dst := some 29, op := Op.call { callee := Callee.value (Operand.func 18), args := #[Operand.tmp 28], argTypes := #[31] }, type := 31, pos := "law.go:43", after := #[{ on := 11, ground := Ground.data }, { on := 6, ground := Ground.chain }], guard := none }) rfl (fun K hK => ?_) AllReadyH.nil
  go_simp
  refine (whole_any a len cap l w2 P2.out.1).mono ?_
  rintro e w3 ⟨b2, rfl, hx, _, hb⟩
  have S3 := Lib.hid (src_new (B := B) hx)
  have X3 := Lib.hid (X2.out.below hb X2.out.lt)
  have D3 := Lib.hid (D2.out.kp (ts := []) (B' := 0) (Kp.of_below hb) (by simp) (by simp) (by simp))
  have R3 := Lib.hid (R2.out.kp (ts := []) (B' := 0) (Kp.of_below hb) (by simp) (by simp) (by simp))
  have K3 : Hid (Kp allT B w w3) := Lib.hid (K2.out.trans (Kp.of_below hb))
  have B3 : Hid (B ≤ w3.heap.size) := Lib.hid (Nat.le_trans B2.out hb.size)
  clear hx hb
  refine hK.out _ _ X3.out (fun hHw3 => ?_)
  clear hK K hHw2
  try simp only [Act.put, List.setIfInBounds_toArray, List.set_cons_zero, List.set_cons_succ]
  refine wpAnyH_ready (rs := [13]) (by kernel_rfl) (by simp) ?_
  refine AllReadyH.cons (o := { dst := some 30, op := Op.call { callee := Callee.value (Operand.func 23), args := #[Operand.tmp 24, Operand.tmp 26, Operand.tmp 29], argTypes := #[28, 3, 31] }, type := 3, pos := "law.go:43", after := #[{ on := 7, ground := Ground.data }, { on := 9, ground := Ground.data }, { on := 12, ground := Ground.data }, { on := 12, ground := Ground.chain }], guard := none }) rfl (fun K hK => ?_) AllReadyH.nil
  go_simp
  refine (HPU.out w3 _ 256 R3.out S3.out B3.out).mono ?_
  rintro e w9 ⟨rfl, ⟨vw2, hr⟩, hk⟩
  have DW := Lib.hid (D3.out.kp hk (by decide) (by decide) (by decide))
  have RW := Lib.hid hr
  have XW := Lib.hid (X3.out.kp hk (by decide))
  have KW := Lib.hid (K3.out.trans (kp_ref hk))
  clear hr hk
  refine hK.out _ _ XW.out (fun hHw4 => ?_)
  clear hK K hHw3
  try simp only [Act.put, List.setIfInBounds_toArray, List.set_cons_zero, List.set_cons_succ]
  refine wpAnyH_take (i := 14) (oi := { dst := some 31, op := Op.binOp BinOp.eql 3 (Operand.tmp 23) (Operand.tmp 30) 3, type := 4, pos := "law.go:43", after := #[{ on := 6, ground := Ground.data }, { on := 13, ground := Ground.data }], guard := none }) (v := .bool true) rfl (by kernel_rfl) (by kernel_rfl) (by kernel_rfl) (fun _ _ _ h => h)
    (Or.inl ⟨by rfl, by intro w hSw;  clear hSw; go_simp⟩) hHw4 ?_
  try simp only [Act.put, List.setIfInBounds_toArray, List.set_cons_zero, List.set_cons_succ]
  refine wpAnyH_take (i := 15) (oi := { dst := some 6, op := Op.assign (Operand.tmp 31), type := 4, pos := "law.go:43", after := #[{ on := 14, ground := Ground.data }, { on := 13, ground := Ground.chain }, { on := 0, ground := Ground.phase }, { on := 1, ground := Ground.phase }, { on := 2, ground := Ground.phase }, { on := 3, ground := Ground.phase }, { on := 4, ground := Ground.phase }, { on := 5, ground := Ground.phase }, { on := 6, ground := Ground.phase }, { on := 7, ground := Ground.phase }, { on := 8, ground := Ground.phase }, { on := 9, ground := Ground.phase }, { on := 10, ground := Ground.phase }, { on := 11, ground := Ground.phase }, { on := 12, ground := Ground.phase }, { on := 13, ground := Ground.phase }, { on := 14, ground := Ground.phase }], guard := none }) (v := .bool true) rfl (by kernel_rfl) (by kernel_rfl) (by kernel_rfl) (fun _ _ _ h => h)
    (Or.inl ⟨by rfl, by intro w hSw;  clear hSw; go_simp⟩) hHw4 ?_
  try simp only [Act.put, List.setIfInBounds_toArray, List.set_cons_zero, List.set_cons_succ]
  refine wpAnyH_done (by kernel_rfl) ?_ _
  clear hHw4
  go_wp2_with fail
  go_ret
  refine ⟨rfl, ⟨bd, bl, _, _, _, _, _, _, _, _, _, _, DW.out, RW.out, HL2.out, HF2.out, hleft2, by omega, by omega⟩, KW.out⟩

set_option maxHeartbeats 8000000 in
theorem do_1 {w : World} {B pb rp n m : Nat} (hrel : Rel w B pb rp n m) (hm : m ≤ 900) (hn : 0 < n) (hB : B ≤ w.heap.size) (z N : Int) (a : Option Addr) (len cap : Nat) (l : List UInt8) (ka : Option Addr) (kl kc : Nat) (ks : List Bool) (torn cut : Int) (hP : OldB w B a len cap l) (hK : IsO w B ka kl kc ks) (hz0 : 0 ≤ z) (hz1 : z ≤ 255) (hm1 : z.tmod 7 = 1) (hm2 : z % 7 = 1) :
    Calls Try.prog 10 #[.pointer (some ⟨pb, 0, none⟩), .pointer (some ⟨rp, 0, none⟩), .agg (actL z N a len cap ka kl kc torn cut).toArray] w (DoP B pb rp n m w) := by
  obtain ⟨bd, bl, v, vl, vw, D, L, way, ops, fall, left, off, hd, hr, hlat, hf, hleft, hops, hway⟩ := hrel
  obtain ⟨A, hA⟩ : ∃ A, A = w.heap.size := ⟨_, rfl⟩
  obtain ⟨w0, hw0⟩ : ∃ w0, w0 = w.alloc (.cells (actL z N a len cap ka kl kc torn cut).toArray 34) := ⟨_, rfl⟩
  have hb0 : Below w.heap.size w w0 := by rw [hw0]; exact (Below.refl _ _).alloc (Nat.le_refl _) _
  have X0 : Hid (Has w0 A (actL z N a len cap ka kl kc torn cut) 34) := Lib.hid (by rw [hw0, hA]; exact Has.new w _ _)
  have D0 := Lib.hid (hd.kp (ts := []) (B' := 0) (Kp.of_below hb0) (by simp) (by simp) (by simp))
  have R0 := Lib.hid (hr.kp (ts := []) (B' := 0) (Kp.of_below hb0) (by simp) (by simp) (by simp))
  have P0 : Hid (OldB w0 B a len cap l) := Lib.hid (hP.kp (ts := []) (Kp.of_below hb0))
  have O0 : Hid (IsO w0 B ka kl kc ks) := Lib.hid (hK.kp (ts := []) (Kp.of_below hb0) (by simp))
  have K0 : Hid (Kp allT B w w0) := Lib.hid (Kp.of_below hb0)
  have B0 : Hid (B ≤ w0.heap.size) := Lib.hid (Nat.le_trans hB hb0.size)
  have HLAT := Lib.hid hlat
  have HF := Lib.hid hf
  have HA := Lib.hid hA
  have HW0 := Lib.hid hw0
  clear hd hr hlat hf hb0 hP hK hA hw0 hB
  obtain ⟨C, L', way', ops', off', left', hf2, hl2, hleft2, ho2, hw2, hwr, hpu⟩ := write_pair (rp := rp) (vl := vl) (vw := vw) D0.out HF.out HLAT.out hleft (by omega) (by omega) N 256 (wholeL l)
  have HWR := Lib.hid hwr
  have HPU := Lib.hid hpu
  have HF2 := Lib.hid hf2
  have HL2 := Lib.hid hl2
  clear hwr hpu hf2 hl2
  go_enter Try.func10, Try.ntmps10
  go_upto_region 1 with fail
  rw [show w.alloc (.cells (actL z N a len cap ka kl kc torn cut).toArray 34) = w0 from HW0.out.symm, ← HA.out]
  clear HW0
  have x0 := X0.out.cellAt (i := 0) rfl
  have x1 := X0.out.cellAt (i := 1) rfl
  have x2 := X0.out.cellAt (i := 2) rfl
  have x3 := X0.out.cellAt (i := 3) rfl
  have x4 := X0.out.cellAt (i := 4) rfl
  have x5 := X0.out.cellAt (i := 5) rfl
  go_upto_region 4 with fail
  clear x0 x1 x2 x3 x4 x5
  refine wp_region_held_drew (S := fun W => Has W A (actL z N a len cap ka kl kc torn cut) 34) (by kernel_rfl) X0.out.drew (fun hHeld => ?_)
  refine wpAnyH_take (i := 0) (oi := { dst := some 17, op := Op.move (Operand.tmp 0), type := 24, pos := "law.go:43", after := #[], guard := none }) (v := .pointer (some ⟨pb, 0, none⟩)) rfl (by kernel_rfl) (by kernel_rfl) (by kernel_rfl) (fun _ _ _ h => h)
    (Or.inl ⟨by rfl, by intro w hSw;  clear hSw; go_simp⟩) hHeld ?_
  try simp only [Act.put, List.setIfInBounds_toArray, List.set_cons_zero, List.set_cons_succ]
  refine wpAnyH_take (i := 1) (oi := { dst := some 18, op := Op.fieldAddr 34 (Operand.tmp 5) 1, type := 0, pos := "law.go:43", after := #[], guard := none }) (v := .pointer (some ⟨A, 1, none⟩)) rfl (by kernel_rfl) (by kernel_rfl) (by kernel_rfl) (fun _ _ _ h => h)
    (Or.inl ⟨by rfl, by intro w hSw;  clear hSw; go_simp⟩) hHeld ?_
  try simp only [Act.put, List.setIfInBounds_toArray, List.set_cons_zero, List.set_cons_succ]
  refine wpAnyH_take (i := 2) (oi := { dst := some 19, op := Op.load 3 (Operand.tmp 18), type := 3, pos := "law.go:43", after := #[{ on := 1, ground := Ground.data }], guard := none }) (v := .int .i64 N) rfl (by kernel_rfl) (by kernel_rfl) (by kernel_rfl) (fun _ _ _ h => h)
    (Or.inl ⟨by rfl, by intro w hSw; have s1 := hSw.cellAt (i := 1) rfl; clear hSw; go_simp⟩) hHeld ?_
  try simp only [Act.put, List.setIfInBounds_toArray, List.set_cons_zero, List.set_cons_succ]
  refine wpAnyH_take (i := 3) (oi := { dst := some 20, op := Op.fieldAddr 34 (Operand.tmp 5) 2, type := 0, pos := "law.go:43", after := #[], guard := none }) (v := .pointer (some ⟨A, 2, none⟩)) rfl (by kernel_rfl) (by kernel_rfl) (by kernel_rfl) (fun _ _ _ h => h)
    (Or.inl ⟨by rfl, by intro w hSw;  clear hSw; go_simp⟩) hHeld ?_
  try simp only [Act.put, List.setIfInBounds_toArray, List.set_cons_zero, List.set_cons_succ]
  refine wpAnyH_take (i := 4) (oi := { dst := some 21, op := Op.load 31 (Operand.tmp 20), type := 31, pos := "law.go:43", after := #[{ on := 3, ground := Ground.data }], guard := none }) (v := .slice a len cap) rfl (by kernel_rfl) (by kernel_rfl) (by kernel_rfl) (fun _ _ _ h => h)
    (Or.inl ⟨by rfl, by intro w hSw; have s2 := hSw.cellAt (i := 2) rfl; clear hSw; go_simp⟩) hHeld ?_
  try simp only [Act.put, List.setIfInBounds_toArray, List.set_cons_zero, List.set_cons_succ]
  refine wpAnyH_take (i := 7) (oi := { dst := some 24, op := Op.move (Operand.tmp 1), type := 28, pos := "law.go:43", after := #[], guard := none }) (v := .pointer (some ⟨rp, 0, none⟩)) rfl (by kernel_rfl) (by kernel_rfl) (by kernel_rfl) (fun _ _ _ h => h)
    (Or.inl ⟨by rfl, by intro w hSw;  clear hSw; go_simp⟩) hHeld ?_
  try simp only [Act.put, List.setIfInBounds_toArray, List.set_cons_zero, List.set_cons_succ]
  refine wpAnyH_take (i := 8) (oi := { dst := some 25, op := Op.fieldAddr 34 (Operand.tmp 5) 1, type := 0, pos := "law.go:43", after := #[], guard := none }) (v := .pointer (some ⟨A, 1, none⟩)) rfl (by kernel_rfl) (by kernel_rfl) (by kernel_rfl) (fun _ _ _ h => h)
    (Or.inl ⟨by rfl, by intro w hSw;  clear hSw; go_simp⟩) hHeld ?_
  try simp only [Act.put, List.setIfInBounds_toArray, List.set_cons_zero, List.set_cons_succ]
  refine wpAnyH_take (i := 9) (oi := { dst := some 26, op := Op.load 3 (Operand.tmp 25), type := 3, pos := "law.go:43", after := #[{ on := 8, ground := Ground.data }], guard := none }) (v := .int .i64 N) rfl (by kernel_rfl) (by kernel_rfl) (by kernel_rfl) (fun _ _ _ h => h)
    (Or.inl ⟨by rfl, by intro w hSw; have s1 := hSw.cellAt (i := 1) rfl; clear hSw; go_simp⟩) hHeld ?_
  try simp only [Act.put, List.setIfInBounds_toArray, List.set_cons_zero, List.set_cons_succ]
  refine wpAnyH_take (i := 10) (oi := { dst := some 27, op := Op.fieldAddr 34 (Operand.tmp 5) 2, type := 0, pos := "law.go:43", after := #[], guard := none }) (v := .pointer (some ⟨A, 2, none⟩)) rfl (by kernel_rfl) (by kernel_rfl) (by kernel_rfl) (fun _ _ _ h => h)
    (Or.inl ⟨by rfl, by intro w hSw;  clear hSw; go_simp⟩) hHeld ?_
  try simp only [Act.put, List.setIfInBounds_toArray, List.set_cons_zero, List.set_cons_succ]
  refine wpAnyH_take (i := 11) (oi := { dst := some 28, op := Op.load 31 (Operand.tmp 27), type := 31, pos := "law.go:43", after := #[{ on := 10, ground := Ground.data }], guard := none }) (v := .slice a len cap) rfl (by kernel_rfl) (by kernel_rfl) (by kernel_rfl) (fun _ _ _ h => h)
    (Or.inl ⟨by rfl, by intro w hSw; have s2 := hSw.cellAt (i := 2) rfl; clear hSw; go_simp⟩) hHeld ?_
  try simp only [Act.put, List.setIfInBounds_toArray, List.set_cons_zero, List.set_cons_succ]
  refine wpAnyH_ready (rs := [5]) (by kernel_rfl) (by simp) ?_
  refine AllReadyH.cons (o := { dst := some 22, op := Op.call { callee := Callee.value (Operand.func 18), args := #[Operand.tmp 21], argTypes := #[31] }, type := 31, pos := "law.go:43", after := #[{ on := 4, ground := Ground.data }], guard := none }) rfl (fun K hK => ?_) AllReadyH.nil
  go_simp
  refine (whole_any a len cap l w0.drew (P0.out.1.later (Below.refl _ _).drew)).mono ?_
  rintro e w1 ⟨b1, rfl, hx, _, hb⟩
  have hb' : Below w0.heap.size w0 w1 := ((Below.refl _ _).drew).trans hb
  have S1 := Lib.hid (src_new (B := B) hx)
  have X1 := Lib.hid (X0.out.below hb' X0.out.lt)
  have D1 := Lib.hid (D0.out.kp (ts := []) (B' := 0) (Kp.of_below hb') (by simp) (by simp) (by simp))
  have R1 := Lib.hid (R0.out.kp (ts := []) (B' := 0) (Kp.of_below hb') (by simp) (by simp) (by simp))
  have P1 : Hid (OldB w1 B a len cap l) := Lib.hid (P0.out.kp (ts := []) (Kp.of_below hb'))
  have K1 : Hid (Kp allT B w w1) := Lib.hid (K0.out.trans (Kp.of_below hb'))
  have B1 : Hid (B ≤ w1.heap.size) := Lib.hid (Nat.le_trans B0.out hb'.size)
  clear hx hb hb'
  refine hK.out _ _ X1.out (fun hHw1 => ?_)
  clear hK K hHeld
  try simp only [Act.put, List.setIfInBounds_toArray, List.set_cons_zero, List.set_cons_succ]
  refine wpAnyH_ready (rs := [6]) (by kernel_rfl) (by simp) ?_
  refine AllReadyH.cons (o := { dst := some 23, op := Op.call { callee := Callee.value (Operand.func 19), args := #[Operand.tmp 17, Operand.tmp 19, Operand.tmp 22], argTypes := #[24, 3, 31] }, type := 25, pos := "law.go:43", after := #[{ on := 0, ground := Ground.data }, { on := 2, ground := Ground.data }, { on := 5, ground := Ground.data }, { on := 5, ground := Ground.chain }], guard := none }) rfl (fun K hK => ?_) AllReadyH.nil
  go_simp
  refine (HWR.out w1 _ 256 D1.out S1.out B1.out).mono ?_
  rintro e w2 ⟨rfl, ⟨v2, hd⟩, hk⟩
  have D2 := Lib.hid hd
  have X2 := Lib.hid (X1.out.kp hk (by decide))
  have R2 := Lib.hid (R1.out.kp hk (by decide) (by decide) (by decide))
  have P2 := Lib.hid (P1.out.kp hk)
  have K2 := Lib.hid (K1.out.trans (kp_dev hk))
  have B2 : Hid (B ≤ w2.heap.size) := Lib.hid (Nat.le_trans B1.out hk.size)
  clear hd hk
  refine hK.out _ _ X2.out (fun hHw2 => ?_)
  clear hK K hHw1
  try simp only [Act.put, List.setIfInBounds_toArray, List.set_cons_zero, List.set_cons_succ]
  refine wpAnyH_ready (rs := [12]) (by kernel_rfl) (by simp) ?_
  refine AllReadyH.cons (o := { dst := some 29, op := Op.call { callee := Callee.value (Operand.func 18), args := #[Operand.tmp 28], argTypes := #[31] }, type := 31, pos := "law.go:43", after := #[{ on := 11, ground := Ground.data }, { on := 6, ground := Ground.chain }], guard := none }) rfl (fun K hK => ?_) AllReadyH.nil
  go_simp
  refine (whole_any a len cap l w2 P2.out.1).mono ?_
  rintro e w3 ⟨b2, rfl, hx, _, hb⟩
  have S3 := Lib.hid (src_new (B := B) hx)
  have X3 := Lib.hid (X2.out.below hb X2.out.lt)
  have D3 := Lib.hid (D2.out.kp (ts := []) (B' := 0) (Kp.of_below hb) (by simp) (by simp) (by simp))
  have R3 := Lib.hid (R2.out.kp (ts := []) (B' := 0) (Kp.of_below hb) (by simp) (by simp) (by simp))
  have K3 : Hid (Kp allT B w w3) := Lib.hid (K2.out.trans (Kp.of_below hb))
  have B3 : Hid (B ≤ w3.heap.size) := Lib.hid (Nat.le_trans B2.out hb.size)
  clear hx hb
  refine hK.out _ _ X3.out (fun hHw3 => ?_)
  clear hK K hHw2
  try simp only [Act.put, List.setIfInBounds_toArray, List.set_cons_zero, List.set_cons_succ]
  refine wpAnyH_ready (rs := [13]) (by kernel_rfl) (by simp) ?_
  refine AllReadyH.cons (o := { dst := some 30, op := Op.call { callee := Callee.value (Operand.func 23), args := #[Operand.tmp 24, Operand.tmp 26, Operand.tmp 29], argTypes := #[28, 3, 31] }, type := 3, pos := "law.go:43", after := #[{ on := 7, ground := Ground.data }, { on := 9, ground := Ground.data }, { on := 12, ground := Ground.data }, { on := 12, ground := Ground.chain }], guard := none }) rfl (fun K hK => ?_) AllReadyH.nil
  go_simp
  refine (HPU.out w3 _ 256 R3.out S3.out B3.out).mono ?_
  rintro e w9 ⟨rfl, ⟨vw2, hr⟩, hk⟩
  have DW := Lib.hid (D3.out.kp hk (by decide) (by decide) (by decide))
  have RW := Lib.hid hr
  have XW := Lib.hid (X3.out.kp hk (by decide))
  have KW := Lib.hid (K3.out.trans (kp_ref hk))
  clear hr hk
  refine hK.out _ _ XW.out (fun hHw4 => ?_)
  clear hK K hHw3
  try simp only [Act.put, List.setIfInBounds_toArray, List.set_cons_zero, List.set_cons_succ]
  refine wpAnyH_take (i := 14) (oi := { dst := some 31, op := Op.binOp BinOp.eql 3 (Operand.tmp 23) (Operand.tmp 30) 3, type := 4, pos := "law.go:43", after := #[{ on := 6, ground := Ground.data }, { on := 13, ground := Ground.data }], guard := none }) (v := .bool true) rfl (by kernel_rfl) (by kernel_rfl) (by kernel_rfl) (fun _ _ _ h => h)
    (Or.inl ⟨by rfl, by intro w hSw;  clear hSw; go_simp⟩) hHw4 ?_
  try simp only [Act.put, List.setIfInBounds_toArray, List.set_cons_zero, List.set_cons_succ]
  refine wpAnyH_take (i := 15) (oi := { dst := some 6, op := Op.assign (Operand.tmp 31), type := 4, pos := "law.go:43", after := #[{ on := 14, ground := Ground.data }, { on := 13, ground := Ground.chain }, { on := 0, ground := Ground.phase }, { on := 1, ground := Ground.phase }, { on := 2, ground := Ground.phase }, { on := 3, ground := Ground.phase }, { on := 4, ground := Ground.phase }, { on := 5, ground := Ground.phase }, { on := 6, ground := Ground.phase }, { on := 7, ground := Ground.phase }, { on := 8, ground := Ground.phase }, { on := 9, ground := Ground.phase }, { on := 10, ground := Ground.phase }, { on := 11, ground := Ground.phase }, { on := 12, ground := Ground.phase }, { on := 13, ground := Ground.phase }, { on := 14, ground := Ground.phase }], guard := none }) (v := .bool true) rfl (by kernel_rfl) (by kernel_rfl) (by kernel_rfl) (fun _ _ _ h => h)
    (Or.inl ⟨by rfl, by intro w hSw;  clear hSw; go_simp⟩) hHw4 ?_
  try simp only [Act.put, List.setIfInBounds_toArray, List.set_cons_zero, List.set_cons_succ]
  refine wpAnyH_done (by kernel_rfl) ?_ _
  clear hHw4
  go_wp2_with fail
  go_ret
  refine ⟨rfl, ⟨bd, bl, _, _, _, _, _, _, _, _, _, _, DW.out, RW.out, HL2.out, HF2.out, hleft2, by omega, by omega⟩, KW.out⟩

set_option maxHeartbeats 8000000 in
theorem do_2 {w : World} {B pb rp n m : Nat} (hrel : Rel w B pb rp n m) (hm : m ≤ 900) (hn : 0 < n) (hB : B ≤ w.heap.size) (z N : Int) (a : Option Addr) (len cap : Nat) (l : List UInt8) (ka : Option Addr) (kl kc : Nat) (ks : List Bool) (torn cut : Int) (hP : OldB w B a len cap l) (hK : IsO w B ka kl kc ks) (hz0 : 0 ≤ z) (hz1 : z ≤ 255) (hm1 : z.tmod 7 = 2) (hm2 : z % 7 = 2) :
    Calls Try.prog 10 #[.pointer (some ⟨pb, 0, none⟩), .pointer (some ⟨rp, 0, none⟩), .agg (actL z N a len cap ka kl kc torn cut).toArray] w (DoP B pb rp n m w) := by
  obtain ⟨bd, bl, v, vl, vw, D, L, way, ops, fall, left, off, hd, hr, hlat, hf, hleft, hops, hway⟩ := hrel
  obtain ⟨A, hA⟩ : ∃ A, A = w.heap.size := ⟨_, rfl⟩
  obtain ⟨w0, hw0⟩ : ∃ w0, w0 = w.alloc (.cells (actL z N a len cap ka kl kc torn cut).toArray 34) := ⟨_, rfl⟩
  have hb0 : Below w.heap.size w w0 := by rw [hw0]; exact (Below.refl _ _).alloc (Nat.le_refl _) _
  have X0 : Hid (Has w0 A (actL z N a len cap ka kl kc torn cut) 34) := Lib.hid (by rw [hw0, hA]; exact Has.new w _ _)
  have D0 := Lib.hid (hd.kp (ts := []) (B' := 0) (Kp.of_below hb0) (by simp) (by simp) (by simp))
  have R0 := Lib.hid (hr.kp (ts := []) (B' := 0) (Kp.of_below hb0) (by simp) (by simp) (by simp))
  have P0 : Hid (OldB w0 B a len cap l) := Lib.hid (hP.kp (ts := []) (Kp.of_below hb0))
  have O0 : Hid (IsO w0 B ka kl kc ks) := Lib.hid (hK.kp (ts := []) (Kp.of_below hb0) (by simp))
  have K0 : Hid (Kp allT B w w0) := Lib.hid (Kp.of_below hb0)
  have B0 : Hid (B ≤ w0.heap.size) := Lib.hid (Nat.le_trans hB hb0.size)
  have HLAT := Lib.hid hlat
  have HF := Lib.hid hf
  have HA := Lib.hid hA
  have HW0 := Lib.hid hw0
  clear hd hr hlat hf hb0 hP hK hA hw0 hB
  obtain ⟨C, L', way', ops', off', left', hf2, hl2, hleft2, ho2, hw2, hwr, hpu⟩ := write_pair (rp := rp) (vl := vl) (vw := vw) D0.out HF.out HLAT.out hleft (by omega) (by omega) N len l
  have HWR := Lib.hid hwr
  have HPU := Lib.hid hpu
  have HF2 := Lib.hid hf2
  have HL2 := Lib.hid hl2
  clear hwr hpu hf2 hl2
  go_enter Try.func10, Try.ntmps10
  go_upto_region 1 with fail
  rw [show w.alloc (.cells (actL z N a len cap ka kl kc torn cut).toArray 34) = w0 from HW0.out.symm, ← HA.out]
  clear HW0
  have x0 := X0.out.cellAt (i := 0) rfl
  have x1 := X0.out.cellAt (i := 1) rfl
  have x2 := X0.out.cellAt (i := 2) rfl
  have x3 := X0.out.cellAt (i := 3) rfl
  have x4 := X0.out.cellAt (i := 4) rfl
  have x5 := X0.out.cellAt (i := 5) rfl
  go_upto_region 6 with fail
  clear x0 x1 x2 x3 x4 x5
  refine wp_region_held_drew (S := fun W => Has W A (actL z N a len cap ka kl kc torn cut) 34) (by kernel_rfl) X0.out.drew (fun hHeld => ?_)
  refine wpAnyH_take (i := 0) (oi := { dst := some 34, op := Op.move (Operand.tmp 0), type := 24, pos := "law.go:45", after := #[], guard := none }) (v := .pointer (some ⟨pb, 0, none⟩)) rfl (by kernel_rfl) (by kernel_rfl) (by kernel_rfl) (fun _ _ _ h => h)
    (Or.inl ⟨by rfl, by intro w hSw;  clear hSw; go_simp⟩) hHeld ?_
  try simp only [Act.put, List.setIfInBounds_toArray, List.set_cons_zero, List.set_cons_succ]
  refine wpAnyH_take (i := 1) (oi := { dst := some 35, op := Op.fieldAddr 34 (Operand.tmp 5) 1, type := 0, pos := "law.go:45", after := #[], guard := none }) (v := .pointer (some ⟨A, 1, none⟩)) rfl (by kernel_rfl) (by kernel_rfl) (by kernel_rfl) (fun _ _ _ h => h)
    (Or.inl ⟨by rfl, by intro w hSw;  clear hSw; go_simp⟩) hHeld ?_
  try simp only [Act.put, List.setIfInBounds_toArray, List.set_cons_zero, List.set_cons_succ]
  refine wpAnyH_take (i := 2) (oi := { dst := some 36, op := Op.load 3 (Operand.tmp 35), type := 3, pos := "law.go:45", after := #[{ on := 1, ground := Ground.data }], guard := none }) (v := .int .i64 N) rfl (by kernel_rfl) (by kernel_rfl) (by kernel_rfl) (fun _ _ _ h => h)
    (Or.inl ⟨by rfl, by intro w hSw; have s1 := hSw.cellAt (i := 1) rfl; clear hSw; go_simp⟩) hHeld ?_
  try simp only [Act.put, List.setIfInBounds_toArray, List.set_cons_zero, List.set_cons_succ]
  refine wpAnyH_take (i := 3) (oi := { dst := some 37, op := Op.fieldAddr 34 (Operand.tmp 5) 2, type := 0, pos := "law.go:45", after := #[], guard := none }) (v := .pointer (some ⟨A, 2, none⟩)) rfl (by kernel_rfl) (by kernel_rfl) (by kernel_rfl) (fun _ _ _ h => h)
    (Or.inl ⟨by rfl, by intro w hSw;  clear hSw; go_simp⟩) hHeld ?_
  try simp only [Act.put, List.setIfInBounds_toArray, List.set_cons_zero, List.set_cons_succ]
  refine wpAnyH_take (i := 4) (oi := { dst := some 38, op := Op.load 31 (Operand.tmp 37), type := 31, pos := "law.go:45", after := #[{ on := 3, ground := Ground.data }], guard := none }) (v := .slice a len cap) rfl (by kernel_rfl) (by kernel_rfl) (by kernel_rfl) (fun _ _ _ h => h)
    (Or.inl ⟨by rfl, by intro w hSw; have s2 := hSw.cellAt (i := 2) rfl; clear hSw; go_simp⟩) hHeld ?_
  try simp only [Act.put, List.setIfInBounds_toArray, List.set_cons_zero, List.set_cons_succ]
  refine wpAnyH_take (i := 6) (oi := { dst := some 40, op := Op.move (Operand.tmp 1), type := 28, pos := "law.go:45", after := #[], guard := none }) (v := .pointer (some ⟨rp, 0, none⟩)) rfl (by kernel_rfl) (by kernel_rfl) (by kernel_rfl) (fun _ _ _ h => h)
    (Or.inl ⟨by rfl, by intro w hSw;  clear hSw; go_simp⟩) hHeld ?_
  try simp only [Act.put, List.setIfInBounds_toArray, List.set_cons_zero, List.set_cons_succ]
  refine wpAnyH_take (i := 7) (oi := { dst := some 41, op := Op.fieldAddr 34 (Operand.tmp 5) 1, type := 0, pos := "law.go:45", after := #[], guard := none }) (v := .pointer (some ⟨A, 1, none⟩)) rfl (by kernel_rfl) (by kernel_rfl) (by kernel_rfl) (fun _ _ _ h => h)
    (Or.inl ⟨by rfl, by intro w hSw;  clear hSw; go_simp⟩) hHeld ?_
  try simp only [Act.put, List.setIfInBounds_toArray, List.set_cons_zero, List.set_cons_succ]
  refine wpAnyH_take (i := 8) (oi := { dst := some 42, op := Op.load 3 (Operand.tmp 41), type := 3, pos := "law.go:45", after := #[{ on := 7, ground := Ground.data }], guard := none }) (v := .int .i64 N) rfl (by kernel_rfl) (by kernel_rfl) (by kernel_rfl) (fun _ _ _ h => h)
    (Or.inl ⟨by rfl, by intro w hSw; have s1 := hSw.cellAt (i := 1) rfl; clear hSw; go_simp⟩) hHeld ?_
  try simp only [Act.put, List.setIfInBounds_toArray, List.set_cons_zero, List.set_cons_succ]
  refine wpAnyH_take (i := 9) (oi := { dst := some 43, op := Op.fieldAddr 34 (Operand.tmp 5) 2, type := 0, pos := "law.go:45", after := #[], guard := none }) (v := .pointer (some ⟨A, 2, none⟩)) rfl (by kernel_rfl) (by kernel_rfl) (by kernel_rfl) (fun _ _ _ h => h)
    (Or.inl ⟨by rfl, by intro w hSw;  clear hSw; go_simp⟩) hHeld ?_
  try simp only [Act.put, List.setIfInBounds_toArray, List.set_cons_zero, List.set_cons_succ]
  refine wpAnyH_take (i := 10) (oi := { dst := some 44, op := Op.load 31 (Operand.tmp 43), type := 31, pos := "law.go:45", after := #[{ on := 9, ground := Ground.data }], guard := none }) (v := .slice a len cap) rfl (by kernel_rfl) (by kernel_rfl) (by kernel_rfl) (fun _ _ _ h => h)
    (Or.inl ⟨by rfl, by intro w hSw; have s2 := hSw.cellAt (i := 2) rfl; clear hSw; go_simp⟩) hHeld ?_
  try simp only [Act.put, List.setIfInBounds_toArray, List.set_cons_zero, List.set_cons_succ]
  refine wpAnyH_ready (rs := [5]) (by kernel_rfl) (by simp) ?_
  refine AllReadyH.cons (o := { dst := some 39, op := Op.call { callee := Callee.value (Operand.func 19), args := #[Operand.tmp 34, Operand.tmp 36, Operand.tmp 38], argTypes := #[24, 3, 31] }, type := 25, pos := "law.go:45", after := #[{ on := 0, ground := Ground.data }, { on := 2, ground := Ground.data }, { on := 4, ground := Ground.data }], guard := none }) rfl (fun K hK => ?_) AllReadyH.nil
  go_simp
  have hdr : Below w0.heap.size w0 w0.drew := (Below.refl _ _).drew
  refine (HWR.out w0.drew _ cap (D0.out.kp (ts := []) (B' := 0) (Kp.of_below hdr) (by simp) (by simp) (by simp)) (P0.out.kp (ts := []) (Kp.of_below hdr)).src B0.out).mono ?_
  rintro e w1 ⟨rfl, ⟨v2, hd⟩, hk2⟩
  have hk : Kp devT B w0 w1 := (Kp.of_below hdr).trans hk2
  have D1 := Lib.hid hd
  have X1 := Lib.hid (X0.out.kp hk (by decide))
  have R1 := Lib.hid (R0.out.kp hk (by decide) (by decide) (by decide))
  have P1 := Lib.hid (P0.out.kp hk)
  have K1 := Lib.hid (K0.out.trans (kp_dev hk))
  have B1 : Hid (B ≤ w1.heap.size) := Lib.hid (Nat.le_trans B0.out hk.size)
  clear hd hk hk2 hdr
  refine hK.out _ _ X1.out (fun hHw1 => ?_)
  clear hK K hHeld
  try simp only [Act.put, List.setIfInBounds_toArray, List.set_cons_zero, List.set_cons_succ]
  refine wpAnyH_ready (rs := [11]) (by kernel_rfl) (by simp) ?_
  refine AllReadyH.cons (o := { dst := some 45, op := Op.call { callee := Callee.value (Operand.func 23), args := #[Operand.tmp 40, Operand.tmp 42, Operand.tmp 44], argTypes := #[28, 3, 31] }, type := 3, pos := "law.go:45", after := #[{ on := 6, ground := Ground.data }, { on := 8, ground := Ground.data }, { on := 10, ground := Ground.data }, { on := 5, ground := Ground.chain }], guard := none }) rfl (fun K hK => ?_) AllReadyH.nil
  go_simp
  refine (HPU.out w1 _ cap R1.out P1.out.src B1.out).mono ?_
  rintro e w9 ⟨rfl, ⟨vw2, hr⟩, hk⟩
  have DW := Lib.hid (D1.out.kp hk (by decide) (by decide) (by decide))
  have RW := Lib.hid hr
  have XW := Lib.hid (X1.out.kp hk (by decide))
  have KW := Lib.hid (K1.out.trans (kp_ref hk))
  clear hr hk
  refine hK.out _ _ XW.out (fun hHw2 => ?_)
  clear hK K hHw1
  try simp only [Act.put, List.setIfInBounds_toArray, List.set_cons_zero, List.set_cons_succ]
  refine wpAnyH_take (i := 12) (oi := { dst := some 46, op := Op.binOp BinOp.eql 3 (Operand.tmp 39) (Operand.tmp 45) 3, type := 4, pos := "law.go:45", after := #[{ on := 5, ground := Ground.data }, { on := 11, ground := Ground.data }], guard := none }) (v := .bool true) rfl (by kernel_rfl) (by kernel_rfl) (by kernel_rfl) (fun _ _ _ h => h)
    (Or.inl ⟨by rfl, by intro w hSw;  clear hSw; go_simp⟩) hHw2 ?_
  try simp only [Act.put, List.setIfInBounds_toArray, List.set_cons_zero, List.set_cons_succ]
  refine wpAnyH_take (i := 13) (oi := { dst := some 6, op := Op.assign (Operand.tmp 46), type := 4, pos := "law.go:45", after := #[{ on := 12, ground := Ground.data }, { on := 11, ground := Ground.chain }, { on := 0, ground := Ground.phase }, { on := 1, ground := Ground.phase }, { on := 2, ground := Ground.phase }, { on := 3, ground := Ground.phase }, { on := 4, ground := Ground.phase }, { on := 5, ground := Ground.phase }, { on := 6, ground := Ground.phase }, { on := 7, ground := Ground.phase }, { on := 8, ground := Ground.phase }, { on := 9, ground := Ground.phase }, { on := 10, ground := Ground.phase }, { on := 11, ground := Ground.phase }, { on := 12, ground := Ground.phase }], guard := none }) (v := .bool true) rfl (by kernel_rfl) (by kernel_rfl) (by kernel_rfl) (fun _ _ _ h => h)
    (Or.inl ⟨by rfl, by intro w hSw;  clear hSw; go_simp⟩) hHw2 ?_
  try simp only [Act.put, List.setIfInBounds_toArray, List.set_cons_zero, List.set_cons_succ]
  refine wpAnyH_done (by kernel_rfl) ?_ _
  clear hHw2
  go_wp2_with fail
  go_ret
  refine ⟨rfl, ⟨bd, bl, _, _, _, _, _, _, _, _, _, _, DW.out, RW.out, HL2.out, HF2.out, hleft2, by omega, by omega⟩, KW.out⟩

set_option maxHeartbeats 8000000 in
theorem do_3 {w : World} {B pb rp n m : Nat} (hrel : Rel w B pb rp n m) (hm : m ≤ 900) (hn : 0 < n) (hB : B ≤ w.heap.size) (z N : Int) (a : Option Addr) (len cap : Nat) (l : List UInt8) (ka : Option Addr) (kl kc : Nat) (ks : List Bool) (torn cut : Int) (hP : OldB w B a len cap l) (hK : IsO w B ka kl kc ks) (hz0 : 0 ≤ z) (hz1 : z ≤ 255) (hm1 : z.tmod 7 = 3) (hm2 : z % 7 = 3) :
    Calls Try.prog 10 #[.pointer (some ⟨pb, 0, none⟩), .pointer (some ⟨rp, 0, none⟩), .agg (actL z N a len cap ka kl kc torn cut).toArray] w (DoP B pb rp n m w) := by
  obtain ⟨bd, bl, v, vl, vw, D, L, way, ops, fall, left, off, hd, hr, hlat, hf, hleft, hops, hway⟩ := hrel
  obtain ⟨A, hA⟩ : ∃ A, A = w.heap.size := ⟨_, rfl⟩
  obtain ⟨w0, hw0⟩ : ∃ w0, w0 = w.alloc (.cells (actL z N a len cap ka kl kc torn cut).toArray 34) := ⟨_, rfl⟩
  have hb0 : Below w.heap.size w w0 := by rw [hw0]; exact (Below.refl _ _).alloc (Nat.le_refl _) _
  have X0 : Hid (Has w0 A (actL z N a len cap ka kl kc torn cut) 34) := Lib.hid (by rw [hw0, hA]; exact Has.new w _ _)
  have D0 := Lib.hid (hd.kp (ts := []) (B' := 0) (Kp.of_below hb0) (by simp) (by simp) (by simp))
  have R0 := Lib.hid (hr.kp (ts := []) (B' := 0) (Kp.of_below hb0) (by simp) (by simp) (by simp))
  have P0 : Hid (OldB w0 B a len cap l) := Lib.hid (hP.kp (ts := []) (Kp.of_below hb0))
  have O0 : Hid (IsO w0 B ka kl kc ks) := Lib.hid (hK.kp (ts := []) (Kp.of_below hb0) (by simp))
  have K0 : Hid (Kp allT B w w0) := Lib.hid (Kp.of_below hb0)
  have B0 : Hid (B ≤ w0.heap.size) := Lib.hid (Nat.le_trans hB hb0.size)
  have HLAT := Lib.hid hlat
  have HF := Lib.hid hf
  have HA := Lib.hid hA
  have HW0 := Lib.hid hw0
  clear hd hr hlat hf hb0 hP hK hA hw0 hB
  obtain ⟨C, G, hrd, hgt⟩ := read_pair D0.out R0.out HLAT.out (by omega) N
  have HRD := Lib.hid hrd
  have HGT := Lib.hid hgt
  have hcc : (C == C) = true := by simp
  clear hrd hgt
  go_enter Try.func10, Try.ntmps10
  go_upto_region 1 with fail
  rw [show w.alloc (.cells (actL z N a len cap ka kl kc torn cut).toArray 34) = w0 from HW0.out.symm, ← HA.out]
  clear HW0
  have x0 := X0.out.cellAt (i := 0) rfl
  have x1 := X0.out.cellAt (i := 1) rfl
  have x2 := X0.out.cellAt (i := 2) rfl
  have x3 := X0.out.cellAt (i := 3) rfl
  have x4 := X0.out.cellAt (i := 4) rfl
  have x5 := X0.out.cellAt (i := 5) rfl
  go_wp2_with fail
  refine HRD.out.mono ?_
  rintro e w1 ⟨ra, rl, rc, rfl, hcv, hb⟩
  have X1 := X0.out.below hb X0.out.lt
  have y1 := X1.cellAt (i := 1) rfl
  have DW := Lib.hid (D0.out.kp (ts := []) (B' := 0) (Kp.of_below hb) (by simp) (by simp) (by simp))
  have RW := Lib.hid (R0.out.kp (ts := []) (B' := 0) (Kp.of_below hb) (by simp) (by simp) (by simp))
  have KW : Hid (Kp allT B w w1) := Lib.hid (K0.out.trans (Kp.of_below hb))
  have HGT1 := Lib.hid (HGT.out w1 RW.out)
  have HCV := Lib.hid hcv
  clear hcv hb X1 x0 x1 x2 x3 x4 x5 HRD HGT
  go_wp2_with fail
  refine HGT1.out.mono ?_
  rintro e w2 ⟨rfl, rfl⟩
  have hcv := HCV.out
  clear y1
  go_wp2_with fail
  go_ret
  exact ⟨rfl, ⟨bd, bl, _, _, _, _, _, _, _, _, _, _, DW.out, RW.out, HLAT.out, HF.out, hleft, by omega, by omega⟩, KW.out⟩

set_option maxHeartbeats 8000000 in
theorem do_4 {w : World} {B pb rp n m : Nat} (hrel : Rel w B pb rp n m) (hm : m ≤ 900) (hn : 0 < n) (hB : B ≤ w.heap.size) (z N : Int) (a : Option Addr) (len cap : Nat) (l : List UInt8) (ka : Option Addr) (kl kc : Nat) (ks : List Bool) (torn cut : Int) (hP : OldB w B a len cap l) (hK : IsO w B ka kl kc ks) (hz0 : 0 ≤ z) (hz1 : z ≤ 255) (hm1 : z.tmod 7 = 4) (hm2 : z % 7 = 4) :
    Calls Try.prog 10 #[.pointer (some ⟨pb, 0, none⟩), .pointer (some ⟨rp, 0, none⟩), .agg (actL z N a len cap ka kl kc torn cut).toArray] w (DoP B pb rp n m w) := by
  obtain ⟨bd, bl, v, vl, vw, D, L, way, ops, fall, left, off, hd, hr, hlat, hf, hleft, hops, hway⟩ := hrel
  obtain ⟨A, hA⟩ : ∃ A, A = w.heap.size := ⟨_, rfl⟩
  obtain ⟨w0, hw0⟩ : ∃ w0, w0 = w.alloc (.cells (actL z N a len cap ka kl kc torn cut).toArray 34) := ⟨_, rfl⟩
  have hb0 : Below w.heap.size w w0 := by rw [hw0]; exact (Below.refl _ _).alloc (Nat.le_refl _) _
  have X0 : Hid (Has w0 A (actL z N a len cap ka kl kc torn cut) 34) := Lib.hid (by rw [hw0, hA]; exact Has.new w _ _)
  have D0 := Lib.hid (hd.kp (ts := []) (B' := 0) (Kp.of_below hb0) (by simp) (by simp) (by simp))
  have R0 := Lib.hid (hr.kp (ts := []) (B' := 0) (Kp.of_below hb0) (by simp) (by simp) (by simp))
  have P0 : Hid (OldB w0 B a len cap l) := Lib.hid (hP.kp (ts := []) (Kp.of_below hb0))
  have O0 : Hid (IsO w0 B ka kl kc ks) := Lib.hid (hK.kp (ts := []) (Kp.of_below hb0) (by simp))
  have K0 : Hid (Kp allT B w w0) := Lib.hid (Kp.of_below hb0)
  have B0 : Hid (B ≤ w0.heap.size) := Lib.hid (Nat.le_trans hB hb0.size)
  have HLAT := Lib.hid hlat
  have HF := Lib.hid hf
  have HA := Lib.hid hA
  have HW0 := Lib.hid hw0
  clear hd hr hlat hf hb0 hP hK hA hw0 hB
  obtain ⟨C, D', way', ops', off', left', hf2, hl2, hleft2, ho2, hw2, hwr, hpu⟩ := sync_pair (rp := rp) (vl := vl) (vw := vw) D0.out HF.out HLAT.out hleft (by omega) (by omega) hn
  have HWR := Lib.hid hwr
  have HPU := Lib.hid hpu
  have HF2 := Lib.hid hf2
  have HL2 := Lib.hid hl2
  have hcc : (C == C) = true := by simp
  clear hwr hpu hf2 hl2
  go_enter Try.func10, Try.ntmps10
  go_upto_region 1 with fail
  rw [show w.alloc (.cells (actL z N a len cap ka kl kc torn cut).toArray 34) = w0 from HW0.out.symm, ← HA.out]
  clear HW0
  have x0 := X0.out.cellAt (i := 0) rfl
  have x1 := X0.out.cellAt (i := 1) rfl
  have x2 := X0.out.cellAt (i := 2) rfl
  have x3 := X0.out.cellAt (i := 3) rfl
  have x4 := X0.out.cellAt (i := 4) rfl
  have x5 := X0.out.cellAt (i := 5) rfl
  go_wp2_with fail
  refine (HWR.out w0 D0.out).mono ?_
  rintro e w1 ⟨rfl, ⟨v2, hd⟩, hk⟩
  have D1 := Lib.hid hd
  have R1 := Lib.hid (R0.out.kp hk (by decide) (by decide) (by decide))
  have K1 := Lib.hid (K0.out.trans (kp_dev hk))
  clear hd hk x0 x1 x2 x3 x4 x5
  go_wp2_with fail
  refine (HPU.out w1 R1.out).mono ?_
  rintro e w2 ⟨rfl, ⟨vw2, hr⟩, hk⟩
  have DW := Lib.hid (D1.out.kp hk (by decide) (by decide) (by decide))
  have RW := Lib.hid hr
  have KW := Lib.hid (K1.out.trans (kp_ref hk))
  clear hr hk
  go_wp2_with fail
  go_ret
  exact ⟨rfl, ⟨bd, bl, _, _, _, _, _, _, _, _, _, _, DW.out, RW.out, HL2.out, HF2.out, hleft2, by omega, by omega⟩, KW.out⟩

set_option maxHeartbeats 8000000 in
theorem do_5 {w : World} {B pb rp n m : Nat} (hrel : Rel w B pb rp n m) (hm : m ≤ 900) (hn : 0 < n) (hB : B ≤ w.heap.size) (z N : Int) (a : Option Addr) (len cap : Nat) (l : List UInt8) (ka : Option Addr) (kl kc : Nat) (ks : List Bool) (torn cut : Int) (hP : OldB w B a len cap l) (hK : IsO w B ka kl kc ks) (hz0 : 0 ≤ z) (hz1 : z ≤ 255) (hN1 : -9223372036854775808 ≤ N) (hN2 : N ≤ 9223372036854775807) (hm1 : z.tmod 7 = 5) (hm2 : z % 7 = 5) :
    Calls Try.prog 10 #[.pointer (some ⟨pb, 0, none⟩), .pointer (some ⟨rp, 0, none⟩), .agg (actL z N a len cap ka kl kc torn cut).toArray] w (DoP B pb rp n m w) := by
  obtain ⟨bd, bl, v, vl, vw, D, L, way, ops, fall, left, off, hd, hr, hlat, hf, hleft, hops, hway⟩ := hrel
  obtain ⟨A, hA⟩ : ∃ A, A = w.heap.size := ⟨_, rfl⟩
  obtain ⟨w0, hw0⟩ : ∃ w0, w0 = w.alloc (.cells (actL z N a len cap ka kl kc torn cut).toArray 34) := ⟨_, rfl⟩
  have hb0 : Below w.heap.size w w0 := by rw [hw0]; exact (Below.refl _ _).alloc (Nat.le_refl _) _
  have X0 : Hid (Has w0 A (actL z N a len cap ka kl kc torn cut) 34) := Lib.hid (by rw [hw0, hA]; exact Has.new w _ _)
  have D0 := Lib.hid (hd.kp (ts := []) (B' := 0) (Kp.of_below hb0) (by simp) (by simp) (by simp))
  have R0 := Lib.hid (hr.kp (ts := []) (B' := 0) (Kp.of_below hb0) (by simp) (by simp) (by simp))
  have P0 : Hid (OldB w0 B a len cap l) := Lib.hid (hP.kp (ts := []) (Kp.of_below hb0))
  have O0 : Hid (IsO w0 B ka kl kc ks) := Lib.hid (hK.kp (ts := []) (Kp.of_below hb0) (by simp))
  have K0 : Hid (Kp allT B w w0) := Lib.hid (Kp.of_below hb0)
  have B0 : Hid (B ≤ w0.heap.size) := Lib.hid (Nat.le_trans hB hb0.size)
  have HLAT := Lib.hid hlat
  have HF := Lib.hid hf
  have HA := Lib.hid hA
  have HW0 := Lib.hid hw0
  clear hd hr hlat hf hb0 hP hK hA hw0 hB
  by_cases h0 : N < 0
  · have HAR := Lib.hid (arm_neg (w := w0) pb N h0)
    go_enter Try.func10, Try.ntmps10
    go_upto_region 1 with fail
    rw [show w.alloc (.cells (actL z N a len cap ka kl kc torn cut).toArray 34) = w0 from HW0.out.symm, ← HA.out]
    clear HW0
    have x0 := X0.out.cellAt (i := 0) rfl
    have x1 := X0.out.cellAt (i := 1) rfl
    have x2 := X0.out.cellAt (i := 2) rfl
    have x3 := X0.out.cellAt (i := 3) rfl
    have x4 := X0.out.cellAt (i := 4) rfl
    have x5 := X0.out.cellAt (i := 5) rfl
    go_wp2_with fail
    refine HAR.out.mono ?_
    rintro e w1 ⟨rfl, rfl⟩
    clear x0 x1 x2 x3 x4 x5
    go_wp2_with fail
    go_ret
    exact ⟨rfl, ⟨bd, bl, _, _, _, _, _, _, _, _, _, _, D0.out, R0.out, HLAT.out, HF.out, hleft, by omega, by omega⟩, K0.out⟩
  · obtain ⟨q, rfl⟩ : ∃ q : Nat, N = (q : Int) := ⟨N.toNat, by omega⟩
    obtain ⟨w1, hw1⟩ : ∃ w1, w1 = w0.setCell ⟨rp, 2, none⟩ (.int .i64 (q : Int)) := ⟨_, rfl⟩
    have hb1 : But w0.heap.size rp w0 w1 := by rw [hw1]; exact (But.refl _ _ _).setB 2 _
    have R1 : Hid (RDev w1 B rp vl vw n D way q off ops) := Lib.hid (R0.out.boxed (by rw [hw1]; exact R0.out.box.set 2 _) hb1)
    have hk1 : Kp refT B w0 w1 := Kp.of_but hb1 R0.out.rpB R0.out.box (by decide)
    have D1 := Lib.hid (D0.out.kp hk1 (by decide) (by decide) (by decide))
    have X1 := Lib.hid (X0.out.kp hk1 (by decide))
    have K1 := Lib.hid (K0.out.trans (kp_ref hk1))
    have HAR := Lib.hid (arm_ok D1.out q (by omega) (by omega))
    have HW1 := Lib.hid hw1
    have r2 := R0.out.box.cellAt (i := 2) rfl
    have g2 := R0.out.box.frozen 2
    clear hw1 hb1 hk1
    go_enter Try.func10, Try.ntmps10
    go_upto_region 1 with fail
    rw [show w.alloc (.cells (actL z (q : Int) a len cap ka kl kc torn cut).toArray 34) = w0 from HW0.out.symm, ← HA.out]
    clear HW0
    have x0 := X0.out.cellAt (i := 0) rfl
    have x1 := X0.out.cellAt (i := 1) rfl
    have x2 := X0.out.cellAt (i := 2) rfl
    have x3 := X0.out.cellAt (i := 3) rfl
    have x4 := X0.out.cellAt (i := 4) rfl
    have x5 := X0.out.cellAt (i := 5) rfl
    go_upto_region 17 with fail
    rw [show w0.setCell ⟨rp, 2, none⟩ (.int .i64 (q : Int)) = w1 from HW1.out.symm]
    have y1 := X1.out.cellAt (i := 1) rfl
    clear x0 x1 x2 x3 x4 x5 r2 g2
    go_wp2_with fail
    refine HAR.out.mono ?_
    rintro e w2 ⟨rfl, hd, hk⟩
    have DW := Lib.hid hd
    have RW := Lib.hid (R1.out.kp hk (by decide) (by decide) (by decide))
    have KW := Lib.hid (K1.out.trans (kp_dev hk))
    have HF2 : Hid (Falls q ops (if q = 0 then 0 else ops + q)) := Lib.hid (by unfold Falls; split <;> omega)
    clear hd hk y1
    go_wp2_with fail
    go_ret
    exact ⟨rfl, ⟨bd, bl, _, _, _, _, _, _, _, _, _, _, DW.out, RW.out, HLAT.out, HF2.out, by omega, by omega, by omega⟩, KW.out⟩

set_option maxHeartbeats 8000000 in
theorem do_6 {w : World} {B pb rp n m : Nat} (hrel : Rel w B pb rp n m) (hm : m ≤ 900) (hn : 0 < n) (hB : B ≤ w.heap.size) (z N : Int) (a : Option Addr) (len cap : Nat) (l : List UInt8) (ka : Option Addr) (kl kc : Nat) (ks : List Bool) (torn cut : Int) (hP : OldB w B a len cap l) (hK : IsO w B ka kl kc ks) (hz0 : 0 ≤ z) (hz1 : z ≤ 255) (hm1 : z.tmod 7 = 6) (hm2 : z % 7 = 6) :
    Calls Try.prog 10 #[.pointer (some ⟨pb, 0, none⟩), .pointer (some ⟨rp, 0, none⟩), .agg (actL z N a len cap ka kl kc torn cut).toArray] w (DoP B pb rp n m w) := by
  obtain ⟨bd, bl, v, vl, vw, D, L, way, ops, fall, left, off, hd, hr, hlat, hf, hleft, hops, hway⟩ := hrel
  obtain ⟨A, hA⟩ : ∃ A, A = w.heap.size := ⟨_, rfl⟩
  obtain ⟨w0, hw0⟩ : ∃ w0, w0 = w.alloc (.cells (actL z N a len cap ka kl kc torn cut).toArray 34) := ⟨_, rfl⟩
  have hb0 : Below w.heap.size w w0 := by rw [hw0]; exact (Below.refl _ _).alloc (Nat.le_refl _) _
  have X0 : Hid (Has w0 A (actL z N a len cap ka kl kc torn cut) 34) := Lib.hid (by rw [hw0, hA]; exact Has.new w _ _)
  have D0 := Lib.hid (hd.kp (ts := []) (B' := 0) (Kp.of_below hb0) (by simp) (by simp) (by simp))
  have R0 := Lib.hid (hr.kp (ts := []) (B' := 0) (Kp.of_below hb0) (by simp) (by simp) (by simp))
  have P0 : Hid (OldB w0 B a len cap l) := Lib.hid (hP.kp (ts := []) (Kp.of_below hb0))
  have O0 : Hid (IsO w0 B ka kl kc ks) := Lib.hid (hK.kp (ts := []) (Kp.of_below hb0) (by simp))
  have K0 : Hid (Kp allT B w w0) := Lib.hid (Kp.of_below hb0)
  have B0 : Hid (B ≤ w0.heap.size) := Lib.hid (Nat.le_trans hB hb0.size)
  have HLAT := Lib.hid hlat
  have HF := Lib.hid hf
  have HA := Lib.hid hA
  have HW0 := Lib.hid hw0
  clear hd hr hlat hf hb0 hP hK hA hw0 hB
  obtain ⟨D', L', hl2, hwr, hpu⟩ := restart_pair (rp := rp) (vl := vl) (vw := vw) (left := left) D0.out HLAT.out (by omega) (by omega) hn ka kl kc ks torn cut
  have HWR := Lib.hid hwr
  have HPU := Lib.hid hpu
  have HL2 := Lib.hid hl2
  clear hwr hpu hl2
  go_enter Try.func10, Try.ntmps10
  go_upto_region 1 with fail
  rw [show w.alloc (.cells (actL z N a len cap ka kl kc torn cut).toArray 34) = w0 from HW0.out.symm, ← HA.out]
  clear HW0
  have x0 := X0.out.cellAt (i := 0) rfl
  have x1 := X0.out.cellAt (i := 1) rfl
  have x2 := X0.out.cellAt (i := 2) rfl
  have x3 := X0.out.cellAt (i := 3) rfl
  have x4 := X0.out.cellAt (i := 4) rfl
  have x5 := X0.out.cellAt (i := 5) rfl
  go_wp2_with fail
  refine (HPU.out w0 R0.out O0.out B0.out).mono ?_
  rintro e w1 ⟨rfl, ⟨vw2, hr⟩, hk⟩
  have D1 := Lib.hid (D0.out.kp hk (by decide) (by decide) (by decide))
  have R1 := Lib.hid hr
  have O1 := Lib.hid (O0.out.kp hk (by decide))
  have X1 := X0.out.kp hk (by decide)
  have y3 := X1.cellAt (i := 3) rfl
  have y4 := X1.cellAt (i := 4) rfl
  have y5 := X1.cellAt (i := 5) rfl
  have K1 := Lib.hid (K0.out.trans (kp_ref hk))
  clear hr hk x0 x1 x2 x3 x4 x5 X1
  go_wp2_with fail
  refine (HWR.out w1 D1.out O1.out).mono ?_
  rintro e w2 ⟨rfl, ⟨v2, hd⟩, hk⟩
  have DW := Lib.hid hd
  have RW := Lib.hid (R1.out.kp hk (by decide) (by decide) (by decide))
  have KW := Lib.hid (K1.out.trans (kp_dev hk))
  have HF2 : Hid (Falls 0 ops 0) := Lib.hid (by unfold Falls; omega)
  clear hd hk y3 y4 y5
  go_wp2_with fail
  go_ret
  exact ⟨rfl, ⟨bd, bl, _, _, _, _, _, _, _, _, _, _, DW.out, RW.out, HL2.out, HF2.out, by omega, by omega, by simp⟩, KW.out⟩

theorem do_any {w : World} {B pb rp n m : Nat} (hrel : Rel w B pb rp n m) (hm : m ≤ 900) (hn : 0 < n) (hB : B ≤ w.heap.size) (z N : Int) (a : Option Addr) (len cap : Nat) (l : List UInt8) (ka : Option Addr) (kl kc : Nat) (ks : List Bool) (torn cut : Int) (hP : OldB w B a len cap l) (hK : IsO w B ka kl kc ks) (hz0 : 0 ≤ z) (hz1 : z ≤ 255) (hN1 : -9223372036854775808 ≤ N) (hN2 : N ≤ 9223372036854775807) :
    Calls Try.prog 10 #[.pointer (some ⟨pb, 0, none⟩), .pointer (some ⟨rp, 0, none⟩), .agg (actL z N a len cap ka kl kc torn cut).toArray] w (DoP B pb rp n m w) := by
  have he : z.tmod 7 = z % 7 := Int.tmod_eq_emod_of_nonneg hz0
  have h7 : z % 7 = 0 ∨ z % 7 = 1 ∨ z % 7 = 2 ∨ z % 7 = 3 ∨ z % 7 = 4 ∨ z % 7 = 5 ∨ z % 7 = 6 := by omega
  rcases h7 with h | h | h | h | h | h | h
  · exact do_0 hrel hm hn hB z N a len cap l ka kl kc ks torn cut hP hK hz0 hz1 (he.trans h) h
  · exact do_1 hrel hm hn hB z N a len cap l ka kl kc ks torn cut hP hK hz0 hz1 (he.trans h) h
  · exact do_2 hrel hm hn hB z N a len cap l ka kl kc ks torn cut hP hK hz0 hz1 (he.trans h) h
  · exact do_3 hrel hm hn hB z N a len cap l ka kl kc ks torn cut hP hK hz0 hz1 (he.trans h) h
  · exact do_4 hrel hm hn hB z N a len cap l ka kl kc ks torn cut hP hK hz0 hz1 (he.trans h) h
  · exact do_5 hrel hm hn hB z N a len cap l ka kl kc ks torn cut hP hK hz0 hz1 hN1 hN2 (he.trans h) h
  · exact do_6 hrel hm hn hB z N a len cap l ka kl kc ks torn cut hP hK hz0 hz1 (he.trans h) h

end Go.Proofs.Ytjidiholhhdanaa

/-
  The contracts of write and Append, where there is room and where there is none. Conditions: the journal's block, the device as Dv says, the digest's laid variables; nothing is left of a record that was cut.
-/
import Derived.Test.YtgjckddcnmbceaaGreatDoorJAdd
import Derived.BigQuiet
namespace Go.Proofs.YtgjckddcnmbceaaGreatDoor
open Go.RowKit
set_option linter.unusedVariables false

/-- Memory that a device's writes leave alone: old, or a row of bytes, marked or not. -/
def Soft (w : World) (B b : Nat) : Prop := b < w.heap.size ∧ (b < B ∨ ∃ X fr, w.heap[b]? = some (.cells X 5 fr))
theorem Safe.soft {w : World} {B b : Nat} (h : Safe w B b) : Soft w B b := ⟨h.1, h.2.imp id fun ⟨X, hX⟩ => ⟨_, _, hX⟩⟩
theorem Soft.later2 {w x : World} {B b : Nat} (h : Soft w B b) (hb : Below w.heap.size w x) : Soft x B b := ⟨Nat.lt_of_lt_of_le h.1 hb.size, h.2.imp id fun ⟨X, fr, hX⟩ => ⟨X, fr, (hb.block b h.1).trans hX⟩⟩
theorem Soft.kp {w w' : World} {B b : Nat} (h : Soft w B b) (hk : Kp devT B w w') : w'.heap[b]? = w.heap[b]? :=
  hk.block b h.1 (h.2.imp id fun ⟨X, fr, hX⟩ cs t fr hc => by
    have e := hc.symm.trans hX
    simp only [Option.some.injEq, Obj.cells.injEq] at e
    rw [e.2.1]; decide)
theorem isB_kp {x y : World} {B len cap : Nat} {a : Option Addr} {p : List UInt8} (h : IsB x a len cap p) (hs : ∀ b off, a = some ⟨b, off, none⟩ → 0 < len → Soft x B b) (hk : Kp devT B x y) : IsB y a len cap p := by
  rcases h.at_ with h0 | ⟨b, off, rfl, hlt, hc⟩
  · exact ⟨h.length, .inl h0, h.nil, h.room, h.most⟩
  · by_cases h0 : len = 0
    · exact ⟨h.length, .inl h0, h.nil, h.room, h.most⟩
    · exact ⟨h.length, .inr ⟨b, off, rfl, Nat.lt_of_lt_of_le hlt hk.size, fun i hi => (World.cell?_of_block (w := x) ((hs b off rfl (by omega)).kp hk)).trans (hc i hi)⟩, h.nil, h.room, h.most⟩
theorem safe_owned {w : World} {B B' n b off : Nat} {a : Option Addr} {m c : Nat} {xs : List Value} (h : w.ownsRow B' 5 1 (.slice a m c) n xs) (h0 : 0 < n) (e : a = some ⟨b, off, none⟩) : Safe w B b := by
  rcases h.2 with ⟨e2, h1⟩ | ⟨g, cap, cur, e2, _, hg, _⟩
  · omega
  · subst e
    cases e2
    obtain ⟨CL⟩ := cur
    exact ⟨(Array.getElem?_eq_some_iff.1 hg).1, .inr ⟨CL, hg⟩⟩
set_option maxRecDepth 100000 in
set_option maxHeartbeats 4000000 in
theorem write_rec {w : World} {B pd pj n m k h N used : Nat} {L : List UInt8} {bV rV : Value} {lost : Bool} (hj : Has w pj (jC pd h N bV rV used false lost) tJ)
    (a : Option Addr) (len cap : Nat) (p : List UInt8) (hp : IsB w a len cap p) (hd : Dv w B pd n L m k) (hl : LaidW w) (hh : h ≤ 1) (hn : 2 ≤ n) (hfit : used + 32 + len ≤ 256 * half n) (hN : N < 1000000000000) (hk : k ≤ 1000000000000) (hm : m + 256 * half n ≤ 90000) (hB : B ≤ w.heap.size) (hgB : 3 < B) :
    Calls Tryz.prog 29 #[.pointer (some ⟨pj, 0, none⟩), .slice a len cap] w fun e w' => e = .returned (.int .i64 0) ∧ Dv w' B pd n (splice L (256 * fst n h + used) (packL (N + 1) p)) 0 (k + (32 + len) + 1) ∧ Kp devT B w w' := by
  have hlen := hp.length
  have JJ : Hid (∀ x, Below w.heap.size w x → Has x pj (jC pd h N bV rV used false lost) tJ) := Lib.hid (fun x hx => (hx.block pj hj.lt).trans hj)
  obtain ⟨N1, hN1⟩ : ∃ N1, N1 = N + 1 := ⟨_, rfl⟩
  have k1 : N1 < 18446744073709551616 := by omega
  have k2 : len ≤ 1000000 := by omega
  have k3 : (packL N1 p).length = 32 + len := by rw [packL_length, hlen]
  obtain ⟨PL, hPL⟩ : ∃ PL, PL = 32 + len := ⟨_, rfl⟩
  have k4 : used + PL ≤ 256 * half n := by omega
  have k5 : k + PL < 4611686018427387904 := by omega
  have k6 : m + PL ≤ 100000 := by omega
  have k7 : k + PL < 4611686018427387904 := by omega
  have k8 : PL ≤ 140737488355328 := by omega
  have HPK : Hid (Calls Tryz.prog 42 #[.int .u64 (N1 : Int), .slice a len cap] w.drew (RowP w.heap.size (packL N1 p) w.drew)) := Lib.hid (pack_any N1 a len cap p w.drew (hp.later (Below.refl _ _).drew) (hl.below (Below.refl _ _).drew hl.two) k1 k2)
  obtain ⟨Q, hQ⟩ : ∃ Q, Q = packL N1 p := ⟨_, rfl⟩
  have HQL : Hid (Q.length = PL) := Lib.hid (by rw [hQ, k3, hPL])
  rw [← hQ] at HPK
  have x1 := u64_one N hN
  rw [← hN1] at x1
  have HX1 := Lib.hid x1
  rw [← hN1, ← hQ, ← hPL]
  have HD := Lib.hid hd
  have HL := Lib.hid hl
  have HH := Lib.hid hh
  have HN := Lib.hid hn
  have HK4 := Lib.hid k4
  have HK5 := Lib.hid k5
  have HK6 := Lib.hid k6
  have HK8 := Lib.hid k8
  have HB := Lib.hid hB
  have q6 := hj.cellAt (i := 6) rfl
  clear x1 hN1 hQ hPL hd hl hh hn hfit hN hk hm hB k1 k2 k3 k4 k5 k6 k7 k8 hlen hp hj
  go_enter Tryz.func29, Tryz.ntmps29
  go_upto_region 9 with fail
  clear q6
  refine wp_region_held_drew (S := fun W => Has W pj (jC pd h N bV rV used false lost) tJ) (by kernel_rfl) (JJ.out _ (Below.refl _ _).drew) (fun hHeld => ?_)
  refine wpAnyH_take (i := 0) (oi := { dst := some 47, op := Op.move (Operand.tmp 0), type := 25, pos := "journal.go:196", after := #[], guard := none }) (v := .pointer (some ⟨pj, 0, none⟩)) rfl (by kernel_rfl) (by kernel_rfl) (by kernel_rfl) (fun _ _ _ h => h)
    (Or.inl ⟨by rfl, by intro w hSw;  clear hSw; go_simp⟩) hHeld ?_
  try simp only [Act.put, List.setIfInBounds_toArray, List.set_cons_zero, List.set_cons_succ]
  refine wpAnyH_take (i := 1) (oi := { dst := some 48, op := Op.nilCheck (Operand.tmp 47), type := 0, pos := "journal.go:196", after := #[{ on := 0, ground := Ground.data }], guard := none }) (v := .pointer (some ⟨pj, 0, none⟩)) rfl (by kernel_rfl) (by kernel_rfl) (by kernel_rfl) (fun _ _ _ h => h)
    (Or.inl ⟨by rfl, by intro w hSw;  clear hSw; go_simp⟩) hHeld ?_
  try simp only [Act.put, List.setIfInBounds_toArray, List.set_cons_zero, List.set_cons_succ]
  refine wpAnyH_take (i := 2) (oi := { dst := some 49, op := Op.fieldAddr 62 (Operand.tmp 48) 0, type := 0, pos := "journal.go:196", after := #[{ on := 1, ground := Ground.data }], guard := none }) (v := .pointer (some ⟨pj, 0, none⟩)) rfl (by kernel_rfl) (by kernel_rfl) (by kernel_rfl) (fun _ _ _ h => h)
    (Or.inl ⟨by rfl, by intro w hSw;  clear hSw; go_simp⟩) hHeld ?_
  try simp only [Act.put, List.setIfInBounds_toArray, List.set_cons_zero, List.set_cons_succ]
  refine wpAnyH_take (i := 3) (oi := { dst := some 50, op := Op.load 24 (Operand.tmp 49), type := 24, pos := "journal.go:196", after := #[{ on := 2, ground := Ground.data }], guard := none }) (v := .pointer (some ⟨pd, 0, none⟩)) rfl (by kernel_rfl) (by kernel_rfl) (by kernel_rfl) (fun _ _ _ h => h)
    (Or.inl ⟨by rfl, by intro w hSw; have hq := hSw.cellAt (i := 0) rfl; clear hSw; go_simp⟩) hHeld ?_
  try simp only [Act.put, List.setIfInBounds_toArray, List.set_cons_zero, List.set_cons_succ]
  refine wpAnyH_take (i := 4) (oi := { dst := some 51, op := Op.move (Operand.tmp 0), type := 25, pos := "journal.go:196", after := #[], guard := none }) (v := .pointer (some ⟨pj, 0, none⟩)) rfl (by kernel_rfl) (by kernel_rfl) (by kernel_rfl) (fun _ _ _ h => h)
    (Or.inl ⟨by rfl, by intro w hSw;  clear hSw; go_simp⟩) hHeld ?_
  try simp only [Act.put, List.setIfInBounds_toArray, List.set_cons_zero, List.set_cons_succ]
  refine wpAnyH_take (i := 5) (oi := { dst := some 52, op := Op.nilCheck (Operand.tmp 51), type := 0, pos := "journal.go:196", after := #[{ on := 4, ground := Ground.data }], guard := none }) (v := .pointer (some ⟨pj, 0, none⟩)) rfl (by kernel_rfl) (by kernel_rfl) (by kernel_rfl) (fun _ _ _ h => h)
    (Or.inl ⟨by rfl, by intro w hSw;  clear hSw; go_simp⟩) hHeld ?_
  try simp only [Act.put, List.setIfInBounds_toArray, List.set_cons_zero, List.set_cons_succ]
  refine wpAnyH_take (i := 6) (oi := { dst := some 53, op := Op.fieldAddr 62 (Operand.tmp 52) 1, type := 0, pos := "journal.go:196", after := #[{ on := 5, ground := Ground.data }], guard := none }) (v := .pointer (some ⟨pj, 1, none⟩)) rfl (by kernel_rfl) (by kernel_rfl) (by kernel_rfl) (fun _ _ _ h => h)
    (Or.inl ⟨by rfl, by intro w hSw;  clear hSw; go_simp⟩) hHeld ?_
  try simp only [Act.put, List.setIfInBounds_toArray, List.set_cons_zero, List.set_cons_succ]
  refine wpAnyH_take (i := 7) (oi := { dst := some 54, op := Op.load 3 (Operand.tmp 53), type := 3, pos := "journal.go:196", after := #[{ on := 6, ground := Ground.data }], guard := none }) (v := .int .i64 (h : Int)) rfl (by kernel_rfl) (by kernel_rfl) (by kernel_rfl) (fun _ _ _ h => h)
    (Or.inl ⟨by rfl, by intro w hSw; have hq := hSw.cellAt (i := 1) rfl; clear hSw; go_simp⟩) hHeld ?_
  try simp only [Act.put, List.setIfInBounds_toArray, List.set_cons_zero, List.set_cons_succ]
  refine wpAnyH_take (i := 8) (oi := { dst := some 55, op := Op.move (Operand.tmp 0), type := 25, pos := "journal.go:196", after := #[], guard := none }) (v := .pointer (some ⟨pj, 0, none⟩)) rfl (by kernel_rfl) (by kernel_rfl) (by kernel_rfl) (fun _ _ _ h => h)
    (Or.inl ⟨by rfl, by intro w hSw;  clear hSw; go_simp⟩) hHeld ?_
  try simp only [Act.put, List.setIfInBounds_toArray, List.set_cons_zero, List.set_cons_succ]
  refine wpAnyH_take (i := 9) (oi := { dst := some 56, op := Op.nilCheck (Operand.tmp 55), type := 0, pos := "journal.go:196", after := #[{ on := 8, ground := Ground.data }], guard := none }) (v := .pointer (some ⟨pj, 0, none⟩)) rfl (by kernel_rfl) (by kernel_rfl) (by kernel_rfl) (fun _ _ _ h => h)
    (Or.inl ⟨by rfl, by intro w hSw;  clear hSw; go_simp⟩) hHeld ?_
  try simp only [Act.put, List.setIfInBounds_toArray, List.set_cons_zero, List.set_cons_succ]
  refine wpAnyH_take (i := 10) (oi := { dst := some 57, op := Op.fieldAddr 62 (Operand.tmp 56) 5, type := 0, pos := "journal.go:196", after := #[{ on := 9, ground := Ground.data }], guard := none }) (v := .pointer (some ⟨pj, 5, none⟩)) rfl (by kernel_rfl) (by kernel_rfl) (by kernel_rfl) (fun _ _ _ h => h)
    (Or.inl ⟨by rfl, by intro w hSw;  clear hSw; go_simp⟩) hHeld ?_
  try simp only [Act.put, List.setIfInBounds_toArray, List.set_cons_zero, List.set_cons_succ]
  refine wpAnyH_take (i := 11) (oi := { dst := some 58, op := Op.load 3 (Operand.tmp 57), type := 3, pos := "journal.go:196", after := #[{ on := 10, ground := Ground.data }], guard := none }) (v := .int .i64 (used : Int)) rfl (by kernel_rfl) (by kernel_rfl) (by kernel_rfl) (fun _ _ _ h => h)
    (Or.inl ⟨by rfl, by intro w hSw; have hq := hSw.cellAt (i := 5) rfl; clear hSw; go_simp⟩) hHeld ?_
  try simp only [Act.put, List.setIfInBounds_toArray, List.set_cons_zero, List.set_cons_succ]
  refine wpAnyH_take (i := 12) (oi := { dst := some 59, op := Op.move (Operand.tmp 0), type := 25, pos := "journal.go:196", after := #[], guard := none }) (v := .pointer (some ⟨pj, 0, none⟩)) rfl (by kernel_rfl) (by kernel_rfl) (by kernel_rfl) (fun _ _ _ h => h)
    (Or.inl ⟨by rfl, by intro w hSw;  clear hSw; go_simp⟩) hHeld ?_
  try simp only [Act.put, List.setIfInBounds_toArray, List.set_cons_zero, List.set_cons_succ]
  refine wpAnyH_take (i := 13) (oi := { dst := some 60, op := Op.nilCheck (Operand.tmp 59), type := 0, pos := "journal.go:196", after := #[{ on := 12, ground := Ground.data }], guard := none }) (v := .pointer (some ⟨pj, 0, none⟩)) rfl (by kernel_rfl) (by kernel_rfl) (by kernel_rfl) (fun _ _ _ h => h)
    (Or.inl ⟨by rfl, by intro w hSw;  clear hSw; go_simp⟩) hHeld ?_
  try simp only [Act.put, List.setIfInBounds_toArray, List.set_cons_zero, List.set_cons_succ]
  refine wpAnyH_take (i := 14) (oi := { dst := some 61, op := Op.fieldAddr 62 (Operand.tmp 60) 2, type := 0, pos := "journal.go:196", after := #[{ on := 13, ground := Ground.data }], guard := none }) (v := .pointer (some ⟨pj, 2, none⟩)) rfl (by kernel_rfl) (by kernel_rfl) (by kernel_rfl) (fun _ _ _ h => h)
    (Or.inl ⟨by rfl, by intro w hSw;  clear hSw; go_simp⟩) hHeld ?_
  try simp only [Act.put, List.setIfInBounds_toArray, List.set_cons_zero, List.set_cons_succ]
  refine wpAnyH_take (i := 15) (oi := { dst := some 62, op := Op.load 60 (Operand.tmp 61), type := 60, pos := "journal.go:196", after := #[{ on := 14, ground := Ground.data }], guard := none }) (v := .int .u64 (N : Int)) rfl (by kernel_rfl) (by kernel_rfl) (by kernel_rfl) (fun _ _ _ h => h)
    (Or.inl ⟨by rfl, by intro w hSw; have hq := hSw.cellAt (i := 2) rfl; clear hSw; go_simp⟩) hHeld ?_
  try simp only [Act.put, List.setIfInBounds_toArray, List.set_cons_zero, List.set_cons_succ]
  refine wpAnyH_take (i := 16) (oi := { dst := some 63, op := Op.binOp BinOp.add 60 (Operand.tmp 62) (Operand.const (Value.int IntKind.u64 1)) 60, type := 60, pos := "journal.go:196", after := #[{ on := 15, ground := Ground.data }], guard := none }) (v := .int .u64 (N1 : Int)) rfl (by kernel_rfl) (by kernel_rfl) (by kernel_rfl) (fun _ _ _ h => h)
    (Or.inl ⟨by rfl, by intro w hSw;  clear hSw; go_simp; first | exact HX1.out | rw [HX1.out] | skip⟩) hHeld ?_
  try simp only [Act.put, List.setIfInBounds_toArray, List.set_cons_zero, List.set_cons_succ]
  refine wpAnyH_take (i := 17) (oi := { dst := some 64, op := Op.move (Operand.tmp 1), type := 33, pos := "journal.go:196", after := #[], guard := none }) (v := .slice a len cap) rfl (by kernel_rfl) (by kernel_rfl) (by kernel_rfl) (fun _ _ _ h => h)
    (Or.inl ⟨by rfl, by intro w hSw;  clear hSw; go_simp⟩) hHeld ?_
  try simp only [Act.put, List.setIfInBounds_toArray, List.set_cons_zero, List.set_cons_succ]
  refine wpAnyH_ready (rs := [18]) (by kernel_rfl) (by simp) ?_
  refine AllReadyH.cons (o := { dst := some 65, op := Op.call { callee := Callee.value (Operand.func 42), args := #[Operand.tmp 63, Operand.tmp 64], argTypes := #[60, 33] }, type := 33, pos := "journal.go:196", after := #[{ on := 16, ground := Ground.data }, { on := 17, ground := Ground.data }], guard := none }) rfl (fun K hK => ?_) AllReadyH.nil
  go_simp
  refine HPK.out.mono ?_
  rintro e w2 ⟨v2, rfl, ho2, hb2⟩
  obtain ⟨a2, c2, rfl, hi2⟩ := isB_owned ho2 (by rw [HQL.out]; exact HK8.out)
  have B2 : Hid (Below w.heap.size w w2) := Lib.hid ((Below.refl w.heap.size w).drew.trans hb2)
  have F2 : Hid (∀ b off, a2 = some ⟨b, off, none⟩ → 0 < PL → Safe w2 B b) := Lib.hid (fun b off e _ => by
    have h0 : 0 < Q.length := by rw [HQL.out]; omega
    exact safe_owned ho2 h0 e)
  rw [HQL.out] at hi2 ⊢
  have HLY : Hid (Calls Tryz.prog 41 #[.pointer (some ⟨pd, 0, none⟩), .int .i64 (h : Int), .int .i64 (used : Int), .slice a2 PL c2] w2
      fun e w' => e = .returned (.int .i64 0) ∧ Dv w' B pd n (splice L (256 * fst n h + used) Q) (m + PL) (k + PL) ∧ Kp devT B w2 w') :=
    Lib.hid (lay_any (HD.out.later B2.out) h used HH.out a2 PL c2 Q hi2 F2.out HN.out HK4.out HK5.out HK6.out (Nat.le_trans HB.out B2.out.size))
  clear ho2 hb2 hi2 HPK F2
  go_wp2_with fail
  refine hK.out _ _ (JJ.out w2 B2.out) (fun hHw1 => ?_)
  clear hK K hHeld
  try simp only [Act.put, List.setIfInBounds_toArray, List.set_cons_zero, List.set_cons_succ]
  refine wpAnyH_ready (rs := [19]) (by kernel_rfl) (by simp) ?_
  refine AllReadyH.cons (o := { dst := some 66, op := Op.call { callee := Callee.value (Operand.func 41), args := #[Operand.tmp 50, Operand.tmp 54, Operand.tmp 58, Operand.tmp 65], argTypes := #[24, 3, 3, 33] }, type := 37, pos := "journal.go:196", after := #[{ on := 3, ground := Ground.data }, { on := 7, ground := Ground.data }, { on := 11, ground := Ground.data }, { on := 18, ground := Ground.data }, { on := 18, ground := Ground.chain }], guard := none }) rfl (fun K hK => ?_) AllReadyH.nil
  go_simp
  refine HLY.out.mono ?_
  rintro e w4 ⟨rfl, hd4, hk4⟩
  have D4 := Lib.hid hd4
  have K4 : Hid (Kp devT B w w4) := Lib.hid ((Kp.of_below B2.out).trans hk4)
  have J4 := Lib.hid ((JJ.out w2 B2.out).kp hk4 (by decide))
  clear hd4 hk4 HLY
  go_wp2_with fail
  refine hK.out _ _ (J4.out) (fun hHw2 => ?_)
  clear hK K hHw1
  try simp only [Act.put, List.setIfInBounds_toArray, List.set_cons_zero, List.set_cons_succ]
  refine wpAnyH_take (i := 20) (oi := { dst := some 7, op := Op.assign (Operand.tmp 66), type := 37, pos := "journal.go:196", after := #[{ on := 19, ground := Ground.data }, { on := 19, ground := Ground.chain }, { on := 0, ground := Ground.phase }, { on := 1, ground := Ground.phase }, { on := 2, ground := Ground.phase }, { on := 3, ground := Ground.phase }, { on := 4, ground := Ground.phase }, { on := 5, ground := Ground.phase }, { on := 6, ground := Ground.phase }, { on := 7, ground := Ground.phase }, { on := 8, ground := Ground.phase }, { on := 9, ground := Ground.phase }, { on := 10, ground := Ground.phase }, { on := 11, ground := Ground.phase }, { on := 12, ground := Ground.phase }, { on := 13, ground := Ground.phase }, { on := 14, ground := Ground.phase }, { on := 15, ground := Ground.phase }, { on := 16, ground := Ground.phase }, { on := 17, ground := Ground.phase }, { on := 18, ground := Ground.phase }, { on := 19, ground := Ground.phase }], guard := none }) (v := .int .i64 0) rfl (by kernel_rfl) (by kernel_rfl) (by kernel_rfl) (fun _ _ _ h => h)
    (Or.inl ⟨by rfl, by intro w hSw;  clear hSw; go_simp⟩) hHw2 ?_
  try simp only [Act.put, List.setIfInBounds_toArray, List.set_cons_zero, List.set_cons_succ]
  refine wpAnyH_done (by kernel_rfl) ?_ _
  clear hHw2
  have HSY := Lib.hid (dsync D4.out HK5.out HK6.out)
  have q0 := J4.out.cellAt (i := 0) rfl
  go_wp2_with (go_at_call 37; refine HSY.out.mono ?_; rintro e w7 ⟨rfl, hd7, hk7⟩)
  go_ret
  exact ⟨rfl, hd7, K4.out.trans hk7⟩

set_option maxRecDepth 100000 in
set_option maxHeartbeats 2000000 in
theorem append_full {w : World} {B pd pj n m k h N used : Nat} {L : List UInt8} {bV rV : Value} {st : Bool} (hj : Has w pj (jC pd h N bV rV used st false) tJ) (a : Option Addr) (len cap : Nat) (p : List UInt8) (hp : IsB w a len cap p)
    (hd : Dv w B pd n L m k) (hu : used ≤ 256 * half n) (hr : 256 * half n ≤ 1000000000) (hfull : 256 * half n < used + 32 + len) :
    Calls Tryz.prog 11 #[.pointer (some ⟨pj, 0, none⟩), .slice a len cap] w fun e w' => e = .returned (.int .i64 15) ∧ Below w.heap.size w w' := by
  have HRN := Lib.hid (renew_any hj)
  have HR := Lib.hid (fun q => room_q hj hd q)
  have c5 := hj.cellAt (i := 5) rfl
  obtain ⟨RM, hRM⟩ : ∃ RM, RM = 256 * half n := ⟨_, rfl⟩
  rw [← hRM] at HR hu hr hfull
  have hi1 : (RM : Int) - (used : Int) - 32 < (len : Int) := by omega
  have e1 : wrap64 ((RM : Int) - (used : Int)) = (RM : Int) - (used : Int) := by unfold wrap64; omega
  have e2 : wrap64 ((RM : Int) - (used : Int) - 32) = (RM : Int) - (used : Int) - 32 := by unfold wrap64; omega
  clear hj hd hp hRM hu hr hfull
  go_enter Tryz.func11, Tryz.ntmps11
  go_upto_region 6 with (go_at_call 28; refine HRN.out.mono ?_; rintro e w0 ⟨rfl, rfl⟩)
  go_quiet ((go_at_call 19; exact Calls.quiet_of_same (HR.out _)))
  go_wp2_with fail
  go_ret
  exact ⟨rfl, ⟨rfl, rfl, rfl, Nat.le_refl _, fun _ _ => rfl⟩⟩

set_option maxRecDepth 100000 in
set_option maxHeartbeats 4000000 in
theorem append_ok {w : World} {B Bo pd pj n m k h N used : Nat} {L base : List UInt8} {recs : List (List UInt8)} {bV rV : Value} (hj : Has w pj (jC pd h N bV rV used false false) tJ) (hb : w.ownsRow Bo 5 1 bV base.length (base.map bv)) (hr : Recs w Bo rV recs)
    (a : Option Addr) (len cap : Nat) (p : List UInt8) (hp : IsB w a len cap p) (hsafe : ∀ b off, a = some ⟨b, off, none⟩ → 0 < len → Soft w B b) (hd : Dv w B pd n L m k) (hl : LaidW w) (hh : h ≤ 1) (hn : 2 ≤ n) (hfit : used + 32 + len ≤ 256 * half n) (hN : N < 1000000000000) (hk : k ≤ 1000000000000) (hm : m + 256 * half n ≤ 90000)
    (hrl : recs.length ≤ 100000000) (hB : B ≤ Bo) (hBo : Bo ≤ w.heap.size) (hgB : 3 < B) (hpj : B ≤ pj) :
    Calls Tryz.prog 11 #[.pointer (some ⟨pj, 0, none⟩), .slice a len cap] w fun e w' => e = .returned (.int .i64 0) ∧ Dv w' B pd n (splice L (256 * fst n h + used) (packL (N + 1) p)) 0 (k + (32 + len) + 1) ∧ Kp jT B w w' ∧
      ∃ rV', Has w' pj (jC pd h (N + 1) bV rV' (used + (32 + p.length)) false false) tJ ∧ Recs w' Bo rV' (recs ++ [p]) ∧ w'.ownsRow Bo 5 1 bV base.length (base.map bv) := by
  have HRN := Lib.hid (renew_any hj)
  have HR := Lib.hid (fun q => room_q hj hd q)
  have c5 := hj.cellAt (i := 5) rfl
  have hu : used + len ≤ 100000000 := by omega
  obtain ⟨RM, hRM⟩ : ∃ RM, RM = 256 * half n := ⟨_, rfl⟩
  rw [← hRM] at HR
  have hrs : RM ≤ 1000000 := by omega
  have hi1 : ¬ (RM : Int) - (used : Int) - 32 < (len : Int) := by omega
  have HU := Lib.hid hu
  have BQ : Hid (∀ q, Below w.heap.size w (w.drewN q)) := Lib.hid (fun q => ⟨rfl, rfl, rfl, Nat.le_refl _, fun _ _ => rfl⟩)
  have HWR : Hid (∀ x, Below w.heap.size w x → Calls Tryz.prog 29 #[.pointer (some ⟨pj, 0, none⟩), .slice a len cap] x fun e w' => e = .returned (.int .i64 0) ∧ Dv w' B pd n (splice L (256 * fst n h + used) (packL (N + 1) p)) 0 (k + (32 + len) + 1) ∧ Kp devT B x w') :=
    Lib.hid (fun x hx => write_rec ((hx.block pj hj.lt).trans hj) a len cap p (hp.later hx) (hd.later hx) (hl.below hx hl.two) hh hn hfit hN hk hm (Nat.le_trans (Nat.le_trans hB hBo) hx.size) hgB)
  have HAD : Hid (∀ x y, Below w.heap.size w x → Kp devT B x y → Calls Tryz.prog 30 #[.pointer (some ⟨pj, 0, none⟩), .slice a len cap] y (AddP pj pd h N bV B Bo base recs p used false false y)) :=
    Lib.hid (fun x y hx hy => add_ok (Has.kp (show Has x pj _ tJ from (hx.block pj hj.lt).trans hj) hy (by decide)) (ownsRow_kp (own_later hb hx) hy (by decide)) ((hr.later hx).kp hy (by decide) (by decide)) a len cap p (isB_kp (hp.later hx) (fun b off e h0 => (hsafe b off e h0).later2 hx) hy) hN HU.out hrl (Nat.le_trans hBo (Nat.le_trans hx.size hy.size)) hB hpj)
  have e1 : wrap64 ((RM : Int) - (used : Int)) = (RM : Int) - (used : Int) := by unfold wrap64; omega
  have e2 : wrap64 ((RM : Int) - (used : Int) - 32) = (RM : Int) - (used : Int) - 32 := by unfold wrap64; omega
  obtain ⟨DL, hDL⟩ : ∃ DL, DL = splice L (256 * fst n h + used) (packL (N + 1) p) := ⟨_, rfl⟩
  obtain ⟨KK, hKK⟩ : ∃ KK, KK = k + (32 + len) + 1 := ⟨_, rfl⟩
  rw [← hDL, ← hKK] at HWR ⊢
  clear hj hd hp hRM hu hrs hfit hl hh hn hN hk hm hB hBo hb hr hrl hsafe hDL hKK
  go_enter Tryz.func11, Tryz.ntmps11
  go_upto_region 6 with (go_at_call 28; refine HRN.out.mono ?_; rintro e w0 ⟨rfl, rfl⟩)
  go_quiet ((go_at_call 19; exact Calls.quiet_of_same (HR.out _)))
  obtain ⟨wq, hwq⟩ : ∃ wq, wq = w.drewN nq := ⟨_, rfl⟩
  have Bq : Hid (Below w.heap.size w wq) := Lib.hid (by rw [hwq]; exact BQ.out _)
  rw [← hwq]
  clear hwq
  have HW1 := Lib.hid (HWR.out wq Bq.out)
  go_wp2_with (first | (go_at_call 29; refine HW1.out.mono ?_; rintro e w2 ⟨rfl, hd2, hk2⟩; have D2 := Lib.hid hd2; have K2 := Lib.hid hk2; have HA1 := Lib.hid (HAD.out wq w2 Bq.out hk2); clear hd2 hk2) | (go_at_call 30; refine HA1.out.mono ?_; rintro e w3 ⟨rfl, hk3, hx3⟩))
  go_ret
  exact ⟨rfl, D2.out.kp hk3 (by decide) (by decide) (by decide), (kp_jT ((Kp.of_below Bq.out).trans K2.out)).trans (kp_aT hk3), hx3⟩

end Go.Proofs.YtgjckddcnmbceaaGreatDoor

/-
  The contract of the reference's Put. Conditions: the reference's device; bytes in old memory or in a row of bytes.
-/
import Derived.Test.YtjidiholhhdanaaRSNew
namespace Go.Proofs.Ytjidiholhhdanaa
open Go.RowKit
set_option linter.unusedVariables false
set_option maxRecDepth 100000

theorem conv_src {w : World} {b off cap : Nat} {p : List UInt8} (hp : p.length = 256) (h : ∀ j, j < 256 → w.cell? ⟨b, off + j, none⟩ = some (bv (p.getD j 0))) : (convert 31 9 (.slice (some ⟨b, off, none⟩) 256 cap)).run Try.prog w = .ok (.string (bs p)) w := by
  have hc := run_convert_bytes_back (P := Try.prog) w 31 9 5 ⟨b, off, none⟩ cap p Try.underlying31 Try.underlying5 Try.underlying9 (fun j hj => by
    rw [Addr.add_mid, h j (by omega), List.getD_eq_getElem?_getD, List.getElem?_eq_getElem hj]; rfl)
  rw [hp] at hc
  exact hc

theorem rput_arg {w : World} {B rp : Nat} {vl vw : Value} {n : Nat} {D : List UInt8} {way : List Wr} {left : Nat} {off : Bool} {ops : Nat} (h : RDev w B rp vl vw n D way left off ops) (i : Int) (hi : i < 0 ∨ (n : Int) ≤ i) (a : Option Addr) (len cap : Nat) :
    Calls Try.prog 23 #[.pointer (some ⟨rp, 0, none⟩), .int .i64 i, .slice a len cap] w fun e w' => e = .returned (.int .i64 1) ∧ w = w' := by
  obtain ⟨la, lc, rfl⟩ := h.lform
  have c0 := h.box.cellAt (i := 0) rfl
  clear h
  rcases hi with h1 | h1
  · go_enter Try.func23, Try.ntmps23
    go_wp2_with fail
    go_ret
    exact ⟨rfl, rfl⟩
  · have h2 : ¬ i < 0 := by omega
    go_enter Try.func23, Try.ntmps23
    go_wp2_with fail
    go_ret
    exact ⟨rfl, rfl⟩
theorem rput_form {w : World} {B rp : Nat} {vl vw : Value} {n : Nat} {D : List UInt8} {way : List Wr} {left : Nat} {off : Bool} {ops : Nat} (h : RDev w B rp vl vw n D way left off ops) (i : Nat) (hi : i < n) (a : Option Addr) (len cap : Nat) (hl : len ≠ 256) :
    Calls Try.prog 23 #[.pointer (some ⟨rp, 0, none⟩), .int .i64 (i : Int), .slice a len cap] w fun e w' => e = .returned (.int .i64 3) ∧ w = w' := by
  obtain ⟨la, lc, rfl⟩ := h.lform
  have c0 := h.box.cellAt (i := 0) rfl
  have h1 : ¬ (i : Int) < 0 := by omega
  have h2 : ¬ (n : Int) ≤ (i : Int) := by omega
  have h3 : ((len : Int) != 256) = true := by simp; omega
  clear h hi hl
  go_enter Try.func23, Try.ntmps23
  go_wp2_with fail
  go_ret
  exact ⟨rfl, rfl⟩
theorem rput_off {w : World} {B rp : Nat} {vl vw : Value} {n : Nat} {D : List UInt8} {way : List Wr} {left : Nat} {ops : Nat} (h : RDev w B rp vl vw n D way left true ops) (i : Nat) (hi : i < n) (a : Option Addr) (cap : Nat) :
    Calls Try.prog 23 #[.pointer (some ⟨rp, 0, none⟩), .int .i64 (i : Int), .slice a 256 cap] w fun e w' => e = .returned (.int .i64 14) ∧ w = w' := by
  obtain ⟨la, lc, rfl⟩ := h.lform
  have c0 := h.box.cellAt (i := 0) rfl
  have c3 := h.box.cellAt (i := 3) rfl
  have h1 : ¬ (i : Int) < 0 := by omega
  have h2 : ¬ (n : Int) ≤ (i : Int) := by omega
  clear h hi
  go_enter Try.func23, Try.ntmps23
  go_wp2_with fail
  go_ret
  exact ⟨rfl, rfl⟩

/-- Behind a Put that isn't refused. -/
def RPutP (B rp : Nat) (vl : Value) (n : Nat) (D : List UInt8) (way : List Wr) (left ops : Nat) (i : Nat) (p : List UInt8) (w : World) (e : Ending) (w' : World) : Prop :=
  ∃ vw', e = .returned (.int .i64 (if left = 1 then 14 else 0)) ∧ RDev w' B rp vl vw' n D (way ++ [(i, p)]) (left - 1) (decide (left = 1)) (ops + 1) ∧ Kp refT B w w'

set_option maxHeartbeats 8000000 in
theorem rput_ok {w : World} {B rp : Nat} {vl vw : Value} {n : Nat} {D : List UInt8} {way : List Wr} {left : Nat} {ops : Nat} (h : RDev w B rp vl vw n D way left false ops) (i : Nat) (hi : i < n) (b off0 cap : Nat) (p : List UInt8) (hp : p.length = 256)
    (hsrc : ∀ j, j < 256 → w.cell? ⟨b, off0 + j, none⟩ = some (bv (p.getD j 0))) (hs : Safe w B b) (hl : left ≤ 9223372036854775807) (ho : ops < 4611686018427387904) (hw : way.length ≤ 100000) (hBw : B ≤ w.heap.size) :
    Calls Try.prog 23 #[.pointer (some ⟨rp, 0, none⟩), .int .i64 (i : Int), .slice (some ⟨b, off0, none⟩) 256 cap] w (RPutP B rp vl n D way left ops i p w) := by
  obtain ⟨i0, z0, hi0, hz0, hz1, hz2, hz3⟩ := infoR_parts
  have HI := Lib.hid hi0
  have HZ0 := Lib.hid hz0
  have HZ1 := Lib.hid hz1
  have HZ2 := Lib.hid hz2
  have HZ3 := Lib.hid hz3
  obtain ⟨Of, hO⟩ : ∃ Of : Bool, Of = decide (left = 1) := ⟨_, rfl⟩
  have HBEG := Lib.hid (rbegin_any h.box hl ho Of hO)
  have HO := Lib.hid hO
  have HH := Lib.hid h
  have HP := Lib.hid hp
  have HSRC := Lib.hid hsrc
  have HS := Lib.hid hs
  have HBW := Lib.hid hBw
  obtain ⟨la, lc, rfl⟩ := h.lform
  have c0 := h.box.cellAt (i := 0) rfl
  have c3 := h.box.cellAt (i := 3) rfl
  have h1 : ¬ (i : Int) < 0 := by omega
  have h2 : ¬ (n : Int) ≤ (i : Int) := by omega
  have hbr : b ≠ rp := by
    rcases hs.2 with h0 | ⟨Y, hY⟩
    · have := h.rpB; omega
    · exact has_type hY h.box (by decide)
  have hbo : some b ≠ vw.ownBlock := by
    rcases hs.2 with h0 | ⟨Y, hY⟩
    · intro e; have := (h.wrs.lt b e.symm).1; omega
    · exact Ne.symm (own_type h.wrs hY (by decide))
  have HBR := Lib.hid hbr
  have HBO := Lib.hid hbo
  obtain ⟨s, hss⟩ : ∃ s, s = bs p := ⟨_, rfl⟩
  have HSS := Lib.hid hss
  clear h hi0 hz0 hz1 hz2 hz3 hp hsrc hs hBw hO hbr hbo hss
  go_enter Try.func23, Try.ntmps23
  go_wp2_with fail
  refine HBEG.out.mono ?_
  rintro e w1 ⟨rfl, hx1, hb1⟩
  have X1 := Lib.hid hx1
  have B1 := Lib.hid hb1
  have O1 : Hid (w1.ownsRow B 72 2 vw way.length (rwayV way)) := Lib.hid (ownsRow_but HH.out.wrs hb1 (Nat.le_refl _) (own_type HH.out.wrs HH.out.box (by decide)))
  have L1 : Hid (w1.ownsRow B 9 1 (.slice la n lc) n (strV D n)) := Lib.hid (ownsRow_but HH.out.strs hb1 (Nat.le_refl _) (own_type HH.out.strs HH.out.box (by decide)))
  have K1 : Hid (w1.heap[b]? = w.heap[b]?) := Lib.hid (hb1.block b HS.out.1 HBR.out)
  have HSR : Hid (∀ w' : World, w'.heap[b]? = w.heap[b]? → ∀ j, j < 256 → w'.cell? ⟨b, off0 + j, none⟩ = some (bv (p.getD j 0))) := Lib.hid (fun w' e j hj => (World.cell?_of_block (w := w) e).trans (HSRC.out j hj))
  have HB1 : Hid (b < w1.heap.size) := Lib.hid (Nat.lt_of_lt_of_le HS.out.1 hb1.size)
  have HNV : Hid (some rp ≠ vw.ownBlock) := Lib.hid (Ne.symm (own_type HH.out.wrs HH.out.box (by decide)))
  clear hx1 hb1 c0 c3 HBEG
  go_upto_region 8 with fail
  refine wp_region_held_drew (S := fun W => ∀ j, j < 256 → W.cell? ⟨b, off0 + j, none⟩ = some (bv (p.getD j 0))) (by kernel_rfl) (HSR.out w1.drew K1.out) (fun hHeld => ?_)
  refine wpAnyH_take (i := 0) (oi := { dst := some 28, op := Op.move (Operand.tmp 0), type := 28, pos := "ref.go:52", after := #[], guard := none }) (v := .pointer (some ⟨rp, 0, none⟩)) rfl (by kernel_rfl) (by kernel_rfl) (by kernel_rfl) (fun _ _ _ h => h)
    (Or.inl ⟨by rfl, by intro w hSw;  clear hSw; go_simp⟩) hHeld ?_
  try simp only [Act.put, List.setIfInBounds_toArray, List.set_cons_zero, List.set_cons_succ]
  refine wpAnyH_take (i := 1) (oi := { dst := some 29, op := Op.move (Operand.tmp 0), type := 28, pos := "ref.go:52", after := #[], guard := none }) (v := .pointer (some ⟨rp, 0, none⟩)) rfl (by kernel_rfl) (by kernel_rfl) (by kernel_rfl) (fun _ _ _ h => h)
    (Or.inl ⟨by rfl, by intro w hSw;  clear hSw; go_simp⟩) hHeld ?_
  try simp only [Act.put, List.setIfInBounds_toArray, List.set_cons_zero, List.set_cons_succ]
  refine wpAnyH_take (i := 2) (oi := { dst := some 30, op := Op.nilCheck (Operand.tmp 29), type := 0, pos := "ref.go:52", after := #[{ on := 1, ground := Ground.data }], guard := none }) (v := .pointer (some ⟨rp, 0, none⟩)) rfl (by kernel_rfl) (by kernel_rfl) (by kernel_rfl) (fun _ _ _ h => h)
    (Or.inl ⟨by rfl, by intro w hSw;  clear hSw; go_simp⟩) hHeld ?_
  try simp only [Act.put, List.setIfInBounds_toArray, List.set_cons_zero, List.set_cons_succ]
  refine wpAnyH_take (i := 3) (oi := { dst := some 31, op := Op.fieldAddr 38 (Operand.tmp 30) 1, type := 0, pos := "ref.go:52", after := #[{ on := 2, ground := Ground.data }], guard := none }) (v := .pointer (some ⟨rp, 1, none⟩)) rfl (by kernel_rfl) (by kernel_rfl) (by kernel_rfl) (fun _ _ _ h => h)
    (Or.inl ⟨by rfl, by intro w hSw;  clear hSw; go_simp⟩) hHeld ?_
  try simp only [Act.put, List.setIfInBounds_toArray, List.set_cons_zero, List.set_cons_succ]
  refine wpAnyH_take (i := 5) (oi := { dst := some 33, op := Op.move (Operand.tmp 1), type := 3, pos := "ref.go:52", after := #[], guard := none }) (v := .int .i64 (i : Int)) rfl (by kernel_rfl) (by kernel_rfl) (by kernel_rfl) (fun _ _ _ h => h)
    (Or.inl ⟨by rfl, by intro w hSw;  clear hSw; go_simp⟩) hHeld ?_
  try simp only [Act.put, List.setIfInBounds_toArray, List.set_cons_zero, List.set_cons_succ]
  refine wpAnyH_take (i := 6) (oi := { dst := some 34, op := Op.move (Operand.tmp 2), type := 31, pos := "ref.go:52", after := #[], guard := none }) (v := .slice (some ⟨b, off0, none⟩) 256 cap) rfl (by kernel_rfl) (by kernel_rfl) (by kernel_rfl) (fun _ _ _ h => h)
    (Or.inl ⟨by rfl, by intro w hSw;  clear hSw; go_simp⟩) hHeld ?_
  try simp only [Act.put, List.setIfInBounds_toArray, List.set_cons_zero, List.set_cons_succ]
  refine wpAnyH_take (i := 7) (oi := { dst := some 35, op := Op.convert 31 9 (Operand.tmp 34), type := 9, pos := "ref.go:52", after := #[{ on := 6, ground := Ground.data }], guard := none }) (v := .string s) rfl (by kernel_rfl) (by kernel_rfl) (by kernel_rfl) (fun _ _ _ h => h)
    (Or.inl ⟨by rfl, by intro w hSw; have hcv := conv_src (cap := cap) HP.out hSw; rw [← HSS.out] at hcv; clear hSw; go_simp⟩) hHeld ?_
  try simp only [Act.put, List.setIfInBounds_toArray, List.set_cons_zero, List.set_cons_succ]
  refine wpAnyH_take (i := 8) (oi := { dst := some 36, op := Op.build 72 #[(0, Operand.tmp 33), (1, Operand.tmp 35)], type := 72, pos := "ref.go:52", after := #[{ on := 5, ground := Ground.data }, { on := 7, ground := Ground.data }], guard := none }) (v := .agg #[.int .i64 (i : Int), .string s]) rfl (by kernel_rfl) (by kernel_rfl) (by kernel_rfl) (fun _ _ _ h => h)
    (Or.inl ⟨by rfl, by intro w hSw;  clear hSw; go_simp⟩) hHeld ?_
  try simp only [Act.put, List.setIfInBounds_toArray, List.set_cons_zero, List.set_cons_succ]
  refine wpAnyH_ready (rs := [4, 9]) (by kernel_rfl) (by simp) ?_
  refine AllReadyH.cons (o := { dst := some 32, op := Op.load 36 (Operand.tmp 31), type := 36, pos := "ref.go:52", after := #[{ on := 3, ground := Ground.data }], guard := none }) rfl (fun K hK => ?_) (AllReadyH.cons (o := { dst := some 37, op := Op.buildSlice 36 1 #[(0, Operand.tmp 36)], type := 36, pos := "ref.go:52", after := #[{ on := 8, ground := Ground.data }], guard := none }) rfl (fun K hK => ?_) AllReadyH.nil)
  · have hcl := (X1.out.drew).cellAt (i := 1) rfl
    go_simp
    clear hcl
    refine hK.out _ _ (HSR.out w1.drew K1.out) (fun hHw1 => ?_)
    clear hK K hHeld
    try simp only [Act.put, List.setIfInBounds_toArray, List.set_cons_zero, List.set_cons_succ]
    refine wpAnyH_ready (rs := [9]) (by kernel_rfl) (by simp) ?_
    refine AllReadyH.cons (o := { dst := some 37, op := Op.buildSlice 36 1 #[(0, Operand.tmp 36)], type := 36, pos := "ref.go:52", after := #[{ on := 8, ground := Ground.data }], guard := none }) rfl (fun K hK => ?_) AllReadyH.nil
    go_simp
    obtain ⟨wb, hwb⟩ : ∃ wb, wb = (w1.alloc (.cells #[.int .i64 (i : Int), .string s] 72)).drew := ⟨_, rfl⟩
    rw [← hwb]
    have NB : Hid (Has wb w1.heap.size [.int .i64 (i : Int), .string s] 72) := Lib.hid (by rw [hwb]; exact (Has.new w1 _ _).drew)
    have BB : Hid (Below w1.heap.size w1 wb) := Lib.hid (by rw [hwb]; exact ((Below.refl _ _).alloc (Nat.le_refl _) _).drew)
    have KB : Hid (wb.heap[b]? = w.heap[b]?) := Lib.hid ((BB.out.block b HB1.out).trans K1.out)
    clear hwb
    refine hK.out _ _ (HSR.out _ KB.out) (fun hHw2 => ?_)
    clear hK K hHw1
    try simp only [Act.put, List.setIfInBounds_toArray, List.set_cons_zero, List.set_cons_succ]
    refine wpAnyH_ready (rs := [10]) (by kernel_rfl) (by simp) ?_
    refine AllReadyH.cons (o := { dst := some 38, op := Op.call { callee := Callee.builtin Builtin.append, args := #[Operand.tmp 32, Operand.tmp 37], argTypes := #[36, 36] }, type := 36, pos := "ref.go:52", after := #[{ on := 4, ground := Ground.data }, { on := 9, ground := Ground.data }], guard := none }) rfl (fun K hK => ?_) AllReadyH.nil
    rw [if_pos (by rfl)]
    have ow := ownsRow_below O1.out BB.out
    refine wp_append_lies _ (.tmp 32) (.tmp 37) 36 rfl B 72 i0 z0 2 24 Try.underlying36 HI.out HZ0.out HZ1.out HZ2.out HZ3.out (by omega) vw way.length (rwayV way) rfl ow ⟨w1.heap.size, 0, none⟩ 1 1 [.int .i64 (i : Int), .string s] rfl rfl (fun j u hj => ?_) (fun u hu => ?_) (by omega) (by unfold maxLen; omega) (by omega) (Nat.le_trans HBW.out (Nat.le_trans B1.out.size BB.out.size)) _ rfl (fun ga capa w5 h5o h5g h5b h5s => ?_)
    · rw [Addr.add_lit, Nat.zero_add]; exact NB.out.cellAt hj
    · rcases List.mem_cons.1 hu with rfl | hu
      · rfl
      · simp at hu; subst hu; rfl
    have hx3 := X1.out.below BB.out X1.out.lt
    have P5 := Lib.hid (has_grown hx3 h5g HNV.out)
    have O5 := Lib.hid h5o
    have L5 : Hid (w5.ownsRow B 9 1 (.slice la n lc) n (strV D n)) := Lib.hid ((ownsRow_below L1.out BB.out).kept h5g ((own_apart (ownsRow_below L1.out BB.out) ow (by decide)).symm))
    have K5 : Hid (w5.heap[b]? = w.heap[b]?) := Lib.hid ((h5g.block b (Nat.lt_of_lt_of_le HB1.out BB.out.size) HBO.out).trans KB.out)
    have Q5 : Hid (Kp refT B w w5) := Lib.hid ((Kp.of_but B1.out HH.out.rpB HH.out.box (by decide)).trans ((Kp.of_below BB.out).trans (Kp.grown h5g ow (Nat.le_refl _) (by decide))))
    have Z5 : Hid (b < w5.heap.size) := Lib.hid (Nat.lt_of_lt_of_le HB1.out (Nat.le_trans BB.out.size h5g.size))
    clear h5o h5g h5b h5s ow hx3
    refine hK.out _ _ (HSR.out _ K5.out) (fun hHw3 => ?_)
    clear hK K hHw2
    try simp only [Act.put, List.setIfInBounds_toArray, List.set_cons_zero, List.set_cons_succ]
    refine wpAnyH_take (i := 11) (oi := { dst := some 39, op := Op.nilCheck (Operand.tmp 28), type := 0, pos := "ref.go:52", after := #[{ on := 0, ground := Ground.data }, { on := 0, ground := Ground.phase }, { on := 1, ground := Ground.phase }, { on := 2, ground := Ground.phase }, { on := 3, ground := Ground.phase }, { on := 4, ground := Ground.phase }, { on := 5, ground := Ground.phase }, { on := 6, ground := Ground.phase }, { on := 7, ground := Ground.phase }, { on := 8, ground := Ground.phase }, { on := 9, ground := Ground.phase }, { on := 10, ground := Ground.phase }], guard := none }) (v := .pointer (some ⟨rp, 0, none⟩)) rfl (by kernel_rfl) (by kernel_rfl) (by kernel_rfl) (fun _ _ _ h => h)
      (Or.inl ⟨by rfl, by intro w hSw;  clear hSw; go_simp⟩) hHw3 ?_
    try simp only [Act.put, List.setIfInBounds_toArray, List.set_cons_zero, List.set_cons_succ]
    refine wpAnyH_take (i := 12) (oi := { dst := some 40, op := Op.fieldAddr 38 (Operand.tmp 39) 1, type := 0, pos := "ref.go:52", after := #[{ on := 11, ground := Ground.data }, { on := 0, ground := Ground.phase }, { on := 1, ground := Ground.phase }, { on := 2, ground := Ground.phase }, { on := 3, ground := Ground.phase }, { on := 4, ground := Ground.phase }, { on := 5, ground := Ground.phase }, { on := 6, ground := Ground.phase }, { on := 7, ground := Ground.phase }, { on := 8, ground := Ground.phase }, { on := 9, ground := Ground.phase }, { on := 10, ground := Ground.phase }], guard := none }) (v := .pointer (some ⟨rp, 1, none⟩)) rfl (by kernel_rfl) (by kernel_rfl) (by kernel_rfl) (fun _ _ _ h => h)
      (Or.inl ⟨by rfl, by intro w hSw;  clear hSw; go_simp⟩) hHw3 ?_
    try simp only [Act.put, List.setIfInBounds_toArray, List.set_cons_zero, List.set_cons_succ]
    refine wpAnyH_ready (rs := [13]) (by kernel_rfl) (by simp) ?_
    refine AllReadyH.cons (o := { dst := none, op := Op.store 36 (Operand.tmp 40) (Operand.tmp 38), type := 0, pos := "ref.go:52", after := #[{ on := 12, ground := Ground.data }, { on := 10, ground := Ground.data }, { on := 10, ground := Ground.chain }, { on := 0, ground := Ground.phase }, { on := 1, ground := Ground.phase }, { on := 2, ground := Ground.phase }, { on := 3, ground := Ground.phase }, { on := 4, ground := Ground.phase }, { on := 5, ground := Ground.phase }, { on := 6, ground := Ground.phase }, { on := 7, ground := Ground.phase }, { on := 8, ground := Ground.phase }, { on := 9, ground := Ground.phase }, { on := 10, ground := Ground.phase }], guard := none }) rfl (fun K hK => ?_) AllReadyH.nil
    have hc5 := P5.out.cellAt (i := 1) rfl
    have hf5 := P5.out.frozen 1
    go_simp
    clear hc5 hf5
    have hb6 : But w5.heap.size rp w5 (w5.setCell ⟨rp, 1, none⟩ (.slice (some ⟨ga, 0, none⟩) (way.length + 1) capa)) := (But.refl _ _ _).setB 1 _
    have K6 := Lib.hid ((hb6.block b Z5.out HBR.out).trans K5.out)
    have B6 := Lib.hid hb6
    clear hb6
    refine hK.out _ _ (HSR.out _ K6.out) (fun hHw4 => ?_)
    clear hK K hHw3
    try simp only [Act.put]
    refine wpAnyH_done (by kernel_rfl) ?_ _
    clear hHw4
    have FIN : Hid (RDev (w5.setCell ⟨rp, 1, none⟩ (.slice (some ⟨ga, 0, none⟩) (way.length + 1) capa)) B rp (.slice la n lc) (.slice (some ⟨ga, 0, none⟩) (way.length + 1) capa) n D (way ++ [(i, p)]) (left - 1) Of (ops + 1)) := Lib.hid (by
      refine ⟨P5.out.set 1 _, ownsRow_but L5.out B6.out (Nat.le_refl _) (own_type L5.out P5.out (by decide)), ?_, HH.out.dl, HH.out.good.snoc hi HP.out, HH.out.rpB, HH.out.room⟩
      have h := ownsRow_but O5.out B6.out (Nat.le_refl _) (own_type O5.out P5.out (by decide))
      rw [List.length_append, rwayV_snoc, ← HSS.out]; exact h)
    have KFIN := Lib.hid (Q5.out.trans (Kp.of_but (ts := refT) B6.out HH.out.rpB P5.out (by decide)))
    by_cases hl1 : left = 1
    · obtain rfl : Of = true := by rw [HO.out]; simpa using hl1
      have HL1 := Lib.hid hl1
      clear hl1
      go_wp2_with fail
      go_ret
      exact ⟨_, by rw [if_pos HL1.out]; rfl, by rw [← HO.out]; exact FIN.out, KFIN.out⟩
    · obtain rfl : Of = false := by rw [HO.out]; simpa using hl1
      have HL1 := Lib.hid hl1
      clear hl1
      go_wp2_with fail
      go_ret
      exact ⟨_, by rw [if_neg HL1.out]; rfl, by rw [← HO.out]; exact FIN.out, KFIN.out⟩
  · go_simp
    obtain ⟨wb, hwb⟩ : ∃ wb, wb = (w1.alloc (.cells #[.int .i64 (i : Int), .string s] 72)).drew := ⟨_, rfl⟩
    rw [← hwb]
    have NB : Hid (Has wb w1.heap.size [.int .i64 (i : Int), .string s] 72) := Lib.hid (by rw [hwb]; exact (Has.new w1 _ _).drew)
    have BB : Hid (Below w1.heap.size w1 wb) := Lib.hid (by rw [hwb]; exact ((Below.refl _ _).alloc (Nat.le_refl _) _).drew)
    have KB : Hid (wb.heap[b]? = w.heap[b]?) := Lib.hid ((BB.out.block b HB1.out).trans K1.out)
    clear hwb
    refine hK.out _ _ (HSR.out _ KB.out) (fun hHw1 => ?_)
    clear hK K hHeld
    try simp only [Act.put, List.setIfInBounds_toArray, List.set_cons_zero, List.set_cons_succ]
    refine wpAnyH_ready (rs := [4]) (by kernel_rfl) (by simp) ?_
    refine AllReadyH.cons (o := { dst := some 32, op := Op.load 36 (Operand.tmp 31), type := 36, pos := "ref.go:52", after := #[{ on := 3, ground := Ground.data }], guard := none }) rfl (fun K hK => ?_) AllReadyH.nil
    have hcl := ((X1.out.below BB.out X1.out.lt)).cellAt (i := 1) rfl
    go_simp
    clear hcl
    refine hK.out _ _ (HSR.out _ KB.out) (fun hHw2 => ?_)
    clear hK K hHw1
    try simp only [Act.put, List.setIfInBounds_toArray, List.set_cons_zero, List.set_cons_succ]
    refine wpAnyH_ready (rs := [10]) (by kernel_rfl) (by simp) ?_
    refine AllReadyH.cons (o := { dst := some 38, op := Op.call { callee := Callee.builtin Builtin.append, args := #[Operand.tmp 32, Operand.tmp 37], argTypes := #[36, 36] }, type := 36, pos := "ref.go:52", after := #[{ on := 4, ground := Ground.data }, { on := 9, ground := Ground.data }], guard := none }) rfl (fun K hK => ?_) AllReadyH.nil
    rw [if_pos (by rfl)]
    have ow := ownsRow_below O1.out BB.out
    refine wp_append_lies _ (.tmp 32) (.tmp 37) 36 rfl B 72 i0 z0 2 24 Try.underlying36 HI.out HZ0.out HZ1.out HZ2.out HZ3.out (by omega) vw way.length (rwayV way) rfl ow ⟨w1.heap.size, 0, none⟩ 1 1 [.int .i64 (i : Int), .string s] rfl rfl (fun j u hj => ?_) (fun u hu => ?_) (by omega) (by unfold maxLen; omega) (by omega) (Nat.le_trans HBW.out (Nat.le_trans B1.out.size BB.out.size)) _ rfl (fun ga capa w5 h5o h5g h5b h5s => ?_)
    · rw [Addr.add_lit, Nat.zero_add]; exact NB.out.cellAt hj
    · rcases List.mem_cons.1 hu with rfl | hu
      · rfl
      · simp at hu; subst hu; rfl
    have hx3 := X1.out.below BB.out X1.out.lt
    have P5 := Lib.hid (has_grown hx3 h5g HNV.out)
    have O5 := Lib.hid h5o
    have L5 : Hid (w5.ownsRow B 9 1 (.slice la n lc) n (strV D n)) := Lib.hid ((ownsRow_below L1.out BB.out).kept h5g ((own_apart (ownsRow_below L1.out BB.out) ow (by decide)).symm))
    have K5 : Hid (w5.heap[b]? = w.heap[b]?) := Lib.hid ((h5g.block b (Nat.lt_of_lt_of_le HB1.out BB.out.size) HBO.out).trans KB.out)
    have Q5 : Hid (Kp refT B w w5) := Lib.hid ((Kp.of_but B1.out HH.out.rpB HH.out.box (by decide)).trans ((Kp.of_below BB.out).trans (Kp.grown h5g ow (Nat.le_refl _) (by decide))))
    have Z5 : Hid (b < w5.heap.size) := Lib.hid (Nat.lt_of_lt_of_le HB1.out (Nat.le_trans BB.out.size h5g.size))
    clear h5o h5g h5b h5s ow hx3
    refine hK.out _ _ (HSR.out _ K5.out) (fun hHw3 => ?_)
    clear hK K hHw2
    try simp only [Act.put, List.setIfInBounds_toArray, List.set_cons_zero, List.set_cons_succ]
    refine wpAnyH_take (i := 11) (oi := { dst := some 39, op := Op.nilCheck (Operand.tmp 28), type := 0, pos := "ref.go:52", after := #[{ on := 0, ground := Ground.data }, { on := 0, ground := Ground.phase }, { on := 1, ground := Ground.phase }, { on := 2, ground := Ground.phase }, { on := 3, ground := Ground.phase }, { on := 4, ground := Ground.phase }, { on := 5, ground := Ground.phase }, { on := 6, ground := Ground.phase }, { on := 7, ground := Ground.phase }, { on := 8, ground := Ground.phase }, { on := 9, ground := Ground.phase }, { on := 10, ground := Ground.phase }], guard := none }) (v := .pointer (some ⟨rp, 0, none⟩)) rfl (by kernel_rfl) (by kernel_rfl) (by kernel_rfl) (fun _ _ _ h => h)
      (Or.inl ⟨by rfl, by intro w hSw;  clear hSw; go_simp⟩) hHw3 ?_
    try simp only [Act.put, List.setIfInBounds_toArray, List.set_cons_zero, List.set_cons_succ]
    refine wpAnyH_take (i := 12) (oi := { dst := some 40, op := Op.fieldAddr 38 (Operand.tmp 39) 1, type := 0, pos := "ref.go:52", after := #[{ on := 11, ground := Ground.data }, { on := 0, ground := Ground.phase }, { on := 1, ground := Ground.phase }, { on := 2, ground := Ground.phase }, { on := 3, ground := Ground.phase }, { on := 4, ground := Ground.phase }, { on := 5, ground := Ground.phase }, { on := 6, ground := Ground.phase }, { on := 7, ground := Ground.phase }, { on := 8, ground := Ground.phase }, { on := 9, ground := Ground.phase }, { on := 10, ground := Ground.phase }], guard := none }) (v := .pointer (some ⟨rp, 1, none⟩)) rfl (by kernel_rfl) (by kernel_rfl) (by kernel_rfl) (fun _ _ _ h => h)
      (Or.inl ⟨by rfl, by intro w hSw;  clear hSw; go_simp⟩) hHw3 ?_
    try simp only [Act.put, List.setIfInBounds_toArray, List.set_cons_zero, List.set_cons_succ]
    refine wpAnyH_ready (rs := [13]) (by kernel_rfl) (by simp) ?_
    refine AllReadyH.cons (o := { dst := none, op := Op.store 36 (Operand.tmp 40) (Operand.tmp 38), type := 0, pos := "ref.go:52", after := #[{ on := 12, ground := Ground.data }, { on := 10, ground := Ground.data }, { on := 10, ground := Ground.chain }, { on := 0, ground := Ground.phase }, { on := 1, ground := Ground.phase }, { on := 2, ground := Ground.phase }, { on := 3, ground := Ground.phase }, { on := 4, ground := Ground.phase }, { on := 5, ground := Ground.phase }, { on := 6, ground := Ground.phase }, { on := 7, ground := Ground.phase }, { on := 8, ground := Ground.phase }, { on := 9, ground := Ground.phase }, { on := 10, ground := Ground.phase }], guard := none }) rfl (fun K hK => ?_) AllReadyH.nil
    have hc5 := P5.out.cellAt (i := 1) rfl
    have hf5 := P5.out.frozen 1
    go_simp
    clear hc5 hf5
    have hb6 : But w5.heap.size rp w5 (w5.setCell ⟨rp, 1, none⟩ (.slice (some ⟨ga, 0, none⟩) (way.length + 1) capa)) := (But.refl _ _ _).setB 1 _
    have K6 := Lib.hid ((hb6.block b Z5.out HBR.out).trans K5.out)
    have B6 := Lib.hid hb6
    clear hb6
    refine hK.out _ _ (HSR.out _ K6.out) (fun hHw4 => ?_)
    clear hK K hHw3
    try simp only [Act.put]
    refine wpAnyH_done (by kernel_rfl) ?_ _
    clear hHw4
    have FIN : Hid (RDev (w5.setCell ⟨rp, 1, none⟩ (.slice (some ⟨ga, 0, none⟩) (way.length + 1) capa)) B rp (.slice la n lc) (.slice (some ⟨ga, 0, none⟩) (way.length + 1) capa) n D (way ++ [(i, p)]) (left - 1) Of (ops + 1)) := Lib.hid (by
      refine ⟨P5.out.set 1 _, ownsRow_but L5.out B6.out (Nat.le_refl _) (own_type L5.out P5.out (by decide)), ?_, HH.out.dl, HH.out.good.snoc hi HP.out, HH.out.rpB, HH.out.room⟩
      have h := ownsRow_but O5.out B6.out (Nat.le_refl _) (own_type O5.out P5.out (by decide))
      rw [List.length_append, rwayV_snoc, ← HSS.out]; exact h)
    have KFIN := Lib.hid (Q5.out.trans (Kp.of_but (ts := refT) B6.out HH.out.rpB P5.out (by decide)))
    by_cases hl1 : left = 1
    · obtain rfl : Of = true := by rw [HO.out]; simpa using hl1
      have HL1 := Lib.hid hl1
      clear hl1
      go_wp2_with fail
      go_ret
      exact ⟨_, by rw [if_pos HL1.out]; rfl, by rw [← HO.out]; exact FIN.out, KFIN.out⟩
    · obtain rfl : Of = false := by rw [HO.out]; simpa using hl1
      have HL1 := Lib.hid hl1
      clear hl1
      go_wp2_with fail
      go_ret
      exact ⟨_, by rw [if_neg HL1.out]; rfl, by rw [← HO.out]; exact FIN.out, KFIN.out⟩

end Go.Proofs.Ytjidiholhhdanaa

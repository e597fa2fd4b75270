/-
  The contract of begin: the base is laid in its half, and that half counts. Conditions: the journal's block, the device as Dv says, the digest's laid variables.
-/
import Derived.Test.YtgjckddcnmbceaaGreatDoorJObj
import Derived.Deep.RegionHeld
import Derived.BigFrame
namespace Go.Proofs.YtgjckddcnmbceaaGreatDoor
open Go.RowKit
set_option linter.unusedVariables false

/-- What is read behind a Reset. -/
def layL (n : Nat) (N : Nat) (base : List UInt8) : List UInt8 := packL N base ++ zer (256 * half n - (32 + base.length))
def resetL (n : Nat) (L : List UInt8) (h N : Nat) (base : List UInt8) : List UInt8 := splice (splice L (256 * fst n h) (layL n N base)) (256 * h) (headS (N - 1))
theorem layL_length {n N : Nat} {base : List UInt8} (hf : 32 + base.length ≤ 256 * half n) : (layL n N base).length = 256 * half n := by
  rw [layL, List.length_append, packL_length, zer_length]; omega

theorem LaidW.kp {w w' : World} {B : Nat} {ts : List TypeId} (h : LaidW w) (hk : Kp ts B w w') (hB : B ≤ w.heap.size) (hg : 3 < B) : LaidW w' := h.below (hk.below hB) hg
theorem copy_src {w : World} {a : Option Addr} {c : Nat} {Q : List UInt8} (h : IsB w a Q.length c Q) : 0 < (Q.map bv).length → ∃ ad, a = some ad ∧ ∀ j v, (Q.map bv)[j]? = some v → w.cell? (ad.add j) = some v := by
  intro h0
  rw [List.length_map] at h0
  rcases h.at_ with h1 | ⟨b, off, e, hlt, hc⟩
  · omega
  · refine ⟨_, e, fun j v hj => ?_⟩
    have hjl : j < Q.length := by have := (List.getElem?_eq_some_iff.1 hj).1; simpa using this
    rw [map_bv_get Q j hjl] at hj
    rw [Addr.add_mid, hc j hjl]; exact hj

set_option maxRecDepth 100000 in
set_option maxHeartbeats 4000000 in
theorem begin_ok {w : World} {B pd pj n m k h N used : Nat} {L base : List UInt8} {bV rV : Value} {st lost : Bool} (hj : Has w pj (jC pd h N bV rV used st lost) tJ) (hb : w.ownsRow B 5 1 bV base.length (base.map bv))
    (hd : Dv w B pd n L m k) (hl : LaidW w) (hh : h ≤ 1) (hn : 2 ≤ n) (hfit : 32 + base.length ≤ 256 * half n) (hN1 : 1 ≤ N) (hN : N < 18446744073709551616) (hk : k ≤ 1000000000000) (hm : m + 256 * half n ≤ 90000) (hB : B ≤ w.heap.size) (hgB : 3 < B) :
    Calls Tryz.prog 32 #[.pointer (some ⟨pj, 0, none⟩)] w fun e w' => e = .returned (.int .i64 0) ∧ Dv w' B pd n (resetL n L h N base) 0 (k + 256 * half n + 4) ∧ Kp devT B w w' := by
  have hroom := hd.room
  have hfe := fst_end (n := n) hh
  have HR := Lib.hid (room_any hj hd)
  obtain ⟨a3, c3, rfl, _⟩ := isB_owned hb (by omega)
  obtain ⟨RM, hRM⟩ : ∃ RM, RM = 256 * half n := ⟨_, rfl⟩
  have hRMs : RM ≤ 90000 := by omega
  have hmk := mk_full RM (by omega) w
  obtain ⟨A, hA⟩ : ∃ A, A = w.heap.size := ⟨_, rfl⟩
  obtain ⟨w1, hw1⟩ : ∃ w1, w1 = w.alloc (.cells ((zer RM).map bv).toArray 5) := ⟨_, rfl⟩
  rw [← hA, ← hw1] at hmk
  have h1 : Hid (Has w1.drew A ((zer RM).map bv) 5) := Lib.hid (by rw [hw1, hA]; exact (Has.new w _ _).drew)
  have b1 : Hid (Below A w w1.drew) := Lib.hid (by rw [hw1, hA]; exact ((Below.refl _ _).alloc (Nat.le_refl _) _).drew)
  have HA := Lib.hid hA
  rw [← hRM] at HR hm hfit ⊢
  have J1 : Hid (Has w1.drew pj (jC pd h N (.slice a3 base.length c3) rV used st lost) tJ) := Lib.hid (hj.below b1.out (by rw [hA]; exact hj.lt))
  have L1 : Hid (LaidW w1.drew) := Lib.hid (hl.below b1.out (by rw [hA]; exact hl.two))
  have D1 : Hid (Dv w1.drew B pd n L m k) := Lib.hid (hd.later (by rw [← hA]; exact b1.out))
  have O1 : Hid (w1.drew.ownsRow B 5 1 (.slice a3 base.length c3) base.length (base.map bv)) := Lib.hid (own_later hb (by rw [← hA]; exact b1.out))
  obtain ⟨a3', c3', e3, hi3⟩ := isB_owned O1.out (by omega)
  cases e3
  obtain ⟨len, hlen⟩ : ∃ len, len = base.length := ⟨_, rfl⟩
  have HP : Hid (Calls Tryz.prog 42 #[.int .u64 (N : Int), .slice a3 len c3] w1.drew (RowP w1.drew.heap.size (packL N base) w1.drew)) := Lib.hid (by rw [hlen]; exact pack_any N a3 base.length c3 base w1.drew hi3 L1.out hN (by omega))
  have HPL : Hid ((packL N base).length = 32 + len) := Lib.hid (by rw [hlen]; exact packL_length _ _)
  have hsz : (Tryz.prog.info? 5).map (·.size) = some 1 := by kernel_rfl
  have HSZ := Lib.hid hsz
  have HLAY : Hid (splice ((zer RM).map bv) 0 ((packL N base).map bv) = (layL n N base).map bv) := Lib.hid (by
    rw [splice_map, splice_zer (by rw [packL_length]; omega), packL_length, layL, ← hRM])
  have HLL : Hid ((layL n N base).length = RM) := Lib.hid (by rw [hRM]; exact layL_length (by rw [← hRM]; exact hfit))
  have HRES : Hid (resetL n L h N base = splice (splice L (256 * fst n h + 0) (layL n N base)) (256 * h) (headS (N - 1))) := Lib.hid rfl
  obtain ⟨LY, hLY⟩ : ∃ LY, LY = layL n N base := ⟨_, rfl⟩
  have HSL : Hid ((splice L (256 * fst n h + 0) LY).length = 256 * n) := Lib.hid (by
    rw [hLY, length_splice _ _ _ (by rw [HLL.out, hRM, hd.ll]; omega), hd.ll])
  obtain ⟨Q, hQ⟩ : ∃ Q, Q = packL N base := ⟨_, rfl⟩
  rw [← hQ] at HP HPL HLAY
  rw [← hLY] at HLAY HLL HRES
  rw [← hlen] at J1 hfit
  have hfit2 : Hid (32 + len ≤ RM) := Lib.hid hfit
  have HRM := Lib.hid hRM
  obtain ⟨RES, hRES⟩ : ∃ RES, RES = resetL n L h N base := ⟨_, rfl⟩
  rw [← hRES] at HRES ⊢
  have hNm : IntKind.u64.wrap ((N : Int) - 1) = ((N - 1 : Nat) : Int) := by simp [IntKind.wrap, IntKind.bits, IntKind.signed]; omega
  have HNM := Lib.hid hNm
  have HN := Lib.hid hN
  have HN1 := Lib.hid hN1
  have HH := Lib.hid hh
  have HN2 := Lib.hid hn
  have HK := Lib.hid hk
  have HM := Lib.hid hm
  have HB := Lib.hid hB
  have HFE := Lib.hid hfe
  have hJ0 : Hid (Has w pj (jC pd h N (.slice a3 len c3) rV used st lost) tJ) := Lib.hid (by rw [hlen]; exact hj)
  have hD0 := Lib.hid hd
  have hL0 := Lib.hid hl
  clear hw1 hA hd hl hQ hsz hj hb hi3 O1 hLY hlen hfit hRM hRES hNm hN hN1 hh hn hk hm hB hfe hroom
  go_enter Tryz.func32, Tryz.ntmps32
  go_upto_region 2 with (go_at_call 19; refine HR.out.mono ?_; rintro e w0 ⟨rfl, rfl⟩)
  clear hmk
  have JJ : Hid (∀ x, Below A w x → Has x pj (jC pd h N (.slice a3 len c3) rV used st lost) tJ) := Lib.hid (fun x hx => (hx.block pj (by rw [HA.out]; exact hJ0.out.lt)).trans hJ0.out)
  refine wp_region_held_drew (S := fun W => Has W pj (jC pd h N (.slice a3 len c3) rV used st lost) tJ) (by kernel_rfl) J1.out (fun hHeld => ?_)
  refine wpAnyH_take (i := 0) (oi := { dst := some 11, op := Op.move (Operand.tmp 3), type := 33, pos := "journal.go:225", after := #[], guard := none }) (v := .slice (some ⟨A, 0, none⟩) RM RM) rfl (by kernel_rfl) (by kernel_rfl) (by kernel_rfl) (fun _ _ _ h => h)
    (Or.inl ⟨by rfl, by intro w hSw;  clear hSw; go_simp⟩) hHeld ?_
  try simp only [Act.put, List.setIfInBounds_toArray, List.set_cons_zero, List.set_cons_succ]
  refine wpAnyH_take (i := 1) (oi := { dst := some 12, op := Op.move (Operand.tmp 0), type := 25, pos := "journal.go:225", after := #[], guard := none }) (v := .pointer (some ⟨pj, 0, none⟩)) rfl (by kernel_rfl) (by kernel_rfl) (by kernel_rfl) (fun _ _ _ h => h)
    (Or.inl ⟨by rfl, by intro w hSw;  clear hSw; go_simp⟩) hHeld ?_
  try simp only [Act.put, List.setIfInBounds_toArray, List.set_cons_zero, List.set_cons_succ]
  refine wpAnyH_take (i := 2) (oi := { dst := some 13, op := Op.nilCheck (Operand.tmp 12), type := 0, pos := "journal.go:225", after := #[{ on := 1, ground := Ground.data }], guard := none }) (v := .pointer (some ⟨pj, 0, none⟩)) rfl (by kernel_rfl) (by kernel_rfl) (by kernel_rfl) (fun _ _ _ h => h)
    (Or.inl ⟨by rfl, by intro w hSw;  clear hSw; go_simp⟩) hHeld ?_
  try simp only [Act.put, List.setIfInBounds_toArray, List.set_cons_zero, List.set_cons_succ]
  refine wpAnyH_take (i := 3) (oi := { dst := some 14, op := Op.fieldAddr 62 (Operand.tmp 13) 2, type := 0, pos := "journal.go:225", after := #[{ on := 2, ground := Ground.data }], guard := none }) (v := .pointer (some ⟨pj, 2, none⟩)) rfl (by kernel_rfl) (by kernel_rfl) (by kernel_rfl) (fun _ _ _ h => h)
    (Or.inl ⟨by rfl, by intro w hSw;  clear hSw; go_simp⟩) hHeld ?_
  try simp only [Act.put, List.setIfInBounds_toArray, List.set_cons_zero, List.set_cons_succ]
  refine wpAnyH_take (i := 4) (oi := { dst := some 15, op := Op.load 60 (Operand.tmp 14), type := 60, pos := "journal.go:225", after := #[{ on := 3, ground := Ground.data }], guard := none }) (v := .int .u64 (N : Int)) rfl (by kernel_rfl) (by kernel_rfl) (by kernel_rfl) (fun _ _ _ h => h)
    (Or.inl ⟨by rfl, by intro w hSw; have hq := hSw.cellAt (i := 2) rfl; clear hSw; go_simp⟩) hHeld ?_
  try simp only [Act.put, List.setIfInBounds_toArray, List.set_cons_zero, List.set_cons_succ]
  refine wpAnyH_take (i := 5) (oi := { dst := some 16, op := Op.move (Operand.tmp 0), type := 25, pos := "journal.go:225", after := #[], guard := none }) (v := .pointer (some ⟨pj, 0, none⟩)) rfl (by kernel_rfl) (by kernel_rfl) (by kernel_rfl) (fun _ _ _ h => h)
    (Or.inl ⟨by rfl, by intro w hSw;  clear hSw; go_simp⟩) hHeld ?_
  try simp only [Act.put, List.setIfInBounds_toArray, List.set_cons_zero, List.set_cons_succ]
  refine wpAnyH_take (i := 6) (oi := { dst := some 17, op := Op.nilCheck (Operand.tmp 16), type := 0, pos := "journal.go:225", after := #[{ on := 5, ground := Ground.data }], guard := none }) (v := .pointer (some ⟨pj, 0, none⟩)) rfl (by kernel_rfl) (by kernel_rfl) (by kernel_rfl) (fun _ _ _ h => h)
    (Or.inl ⟨by rfl, by intro w hSw;  clear hSw; go_simp⟩) hHeld ?_
  try simp only [Act.put, List.setIfInBounds_toArray, List.set_cons_zero, List.set_cons_succ]
  refine wpAnyH_take (i := 7) (oi := { dst := some 18, op := Op.fieldAddr 62 (Operand.tmp 17) 3, type := 0, pos := "journal.go:225", after := #[{ on := 6, ground := Ground.data }], guard := none }) (v := .pointer (some ⟨pj, 3, none⟩)) rfl (by kernel_rfl) (by kernel_rfl) (by kernel_rfl) (fun _ _ _ h => h)
    (Or.inl ⟨by rfl, by intro w hSw;  clear hSw; go_simp⟩) hHeld ?_
  try simp only [Act.put, List.setIfInBounds_toArray, List.set_cons_zero, List.set_cons_succ]
  refine wpAnyH_take (i := 8) (oi := { dst := some 19, op := Op.load 33 (Operand.tmp 18), type := 33, pos := "journal.go:225", after := #[{ on := 7, ground := Ground.data }], guard := none }) (v := .slice a3 len c3) rfl (by kernel_rfl) (by kernel_rfl) (by kernel_rfl) (fun _ _ _ h => h)
    (Or.inl ⟨by rfl, by intro w hSw; have hq := hSw.cellAt (i := 3) rfl; clear hSw; go_simp⟩) hHeld ?_
  try simp only [Act.put, List.setIfInBounds_toArray, List.set_cons_zero, List.set_cons_succ]
  refine wpAnyH_ready (rs := [9]) (by kernel_rfl) (by simp) ?_
  refine AllReadyH.cons (o := { dst := some 20, op := Op.call { callee := Callee.value (Operand.func 42), args := #[Operand.tmp 15, Operand.tmp 19], argTypes := #[60, 33] }, type := 33, pos := "journal.go:225", after := #[{ on := 4, ground := Ground.data }, { on := 8, ground := Ground.data }], guard := none }) rfl (fun K hK => ?_) AllReadyH.nil
  go_simp
  refine HP.out.mono ?_
  rintro e w2 ⟨v2, rfl, ho2, hb2⟩
  obtain ⟨a2, c2, rfl, hi2⟩ := isB_owned ho2 (by rw [HPL.out]; have := hfit2.out; omega)
  have I2 := Lib.hid hi2
  have B2 : Hid (Below A w w2) := Lib.hid (b1.out.trans (hb2.mono (by rw [HA.out]; exact b1.out.size)))
  have HG2 : Hid (w2.heap[A]? = some (.cells ((zer RM).map bv).toArray 5 (0, 0))) := Lib.hid (h1.out.below hb2 h1.out.lt)
  have hlenQ : Hid ((Q.map bv).length = Nat.min Q.length RM) := Lib.hid (by rw [List.length_map]; exact (Nat.min_eq_left (by rw [HPL.out]; exact hfit2.out)).symm)
  have hposQ : Hid (0 < (Q.map bv).length → ∃ ad, a2 = some ad ∧ ∀ j v, (Q.map bv)[j]? = some v → w2.cell? (ad.add j) = some v) := Lib.hid (copy_src I2.out)
  have hfitQ : Hid (0 + (Q.map bv).length ≤ ((zer RM).map bv).length) := Lib.hid (by rw [List.length_map, List.length_map, HPL.out, zer_length]; have := hfit2.out; omega)
  have honeQ := Lib.hid (bv_one Q)
  have L2 := Lib.hid (L1.out.below hb2 L1.out.two)
  clear ho2 hi2 hb2 HP h1
  go_wp2_with fail
  refine hK.out _ _ (JJ.out w2 B2.out) (fun hHw1 => ?_)
  clear hK K hHeld
  try simp only [Act.put, List.setIfInBounds_toArray, List.set_cons_zero, List.set_cons_succ]
  refine wpAnyH_ready (rs := [10]) (by kernel_rfl) (by simp) ?_
  refine AllReadyH.cons (o := { dst := some 21, op := Op.call { callee := Callee.builtin Builtin.copy, args := #[Operand.tmp 11, Operand.tmp 20], argTypes := #[33, 33] }, type := 3, pos := "journal.go:225", after := #[{ on := 0, ground := Ground.data }, { on := 9, ground := Ground.data }, { on := 9, ground := Ground.chain }], guard := none }) rfl (fun K hK => ?_) AllReadyH.nil
  refine step_copy_splice rfl (.tmp 11) (.tmp 20) 33 33 rfl 5 Tryz.underlying33 HSZ.out (some ⟨A, 0, none⟩) a2 RM RM Q.length c2 rfl rfl A 0 ((zer RM).map bv) 5 HG2.out (Q.map bv) hlenQ.out (fun h => ⟨rfl, hposQ.out h⟩) hfitQ.out honeQ.out A w B2.out (Nat.le_refl _) (fun w3 hg3 hb3 => ?_)
  have B3 := Lib.hid hb3
  rw [HLAY.out] at hg3
  have G3 : Hid (Has w3 A (LY.map bv) 5) := Lib.hid hg3.out
  clear hb3 hg3
  refine hK.out _ _ (JJ.out w3 B3.out) (fun hHw2 => ?_)
  clear hK K hHw1
  try simp only [Act.put, List.setIfInBounds_toArray, List.set_cons_zero, List.set_cons_succ]
  refine wpAnyH_done (by kernel_rfl) ?_ _
  clear hHw2
  clear HG2 hlenQ hposQ hfitQ honeQ HLAY I2 B2 L2 HSZ J1 L1 D1 b1
  have B3w : Hid (Below w.heap.size w w3) := Lib.hid (by rw [← HA.out]; exact B3.out)
  have J3 : Hid (Has w3.drew pj (jC pd h N (.slice a3 len c3) rV used st lost) tJ) := Lib.hid (JJ.out w3 B3.out).drew
  have D3 : Hid (Dv w3.drew B pd n L m k) := Lib.hid (hD0.out.later B3w.out.drew)
  have I3 : Hid (IsB w3.drew (some ⟨A, 0, none⟩) RM RM LY) := Lib.hid (by
    have h := isB_has G3.out.drew (by rw [HLL.out]; omega)
    rw [HLL.out] at h; exact h)
  have HLY : Hid (Calls Tryz.prog 41 #[.pointer (some ⟨pd, 0, none⟩), .int .i64 (h : Int), .int .i64 0, .slice (some ⟨A, 0, none⟩) RM RM] w3.drew
      fun e w' => e = .returned (.int .i64 0) ∧ Dv w' B pd n (splice L (256 * fst n h + 0) LY) (m + RM) (k + RM) ∧ Kp devT B w3.drew w') :=
    Lib.hid (lay_any D3.out h 0 HH.out (some ⟨A, 0, none⟩) RM RM LY I3.out (fun b off e _ => by cases e; exact ⟨G3.out.drew.lt, .inr ⟨_, G3.out.drew⟩⟩) HN2.out (by rw [HRM.out]; omega) (by have := HK.out; omega) (by have := HM.out; omega) (Nat.le_trans HB.out B3w.out.drew.size))
  go_upto_region 3 with fail
  refine wp_region_held_drew (S := fun W => Has W pj (jC pd h N (.slice a3 len c3) rV used st lost) tJ) (by kernel_rfl) J3.out (fun hHeld => ?_)
  refine wpAnyH_take (i := 0) (oi := { dst := some 22, op := Op.move (Operand.tmp 0), type := 25, pos := "journal.go:226", after := #[], guard := none }) (v := .pointer (some ⟨pj, 0, none⟩)) rfl (by kernel_rfl) (by kernel_rfl) (by kernel_rfl) (fun _ _ _ h => h)
    (Or.inl ⟨by rfl, by intro w hSw;  clear hSw; go_simp⟩) hHeld ?_
  try simp only [Act.put, List.setIfInBounds_toArray, List.set_cons_zero, List.set_cons_succ]
  refine wpAnyH_take (i := 1) (oi := { dst := some 23, op := Op.nilCheck (Operand.tmp 22), type := 0, pos := "journal.go:226", after := #[{ on := 0, ground := Ground.data }], guard := none }) (v := .pointer (some ⟨pj, 0, none⟩)) rfl (by kernel_rfl) (by kernel_rfl) (by kernel_rfl) (fun _ _ _ h => h)
    (Or.inl ⟨by rfl, by intro w hSw;  clear hSw; go_simp⟩) hHeld ?_
  try simp only [Act.put, List.setIfInBounds_toArray, List.set_cons_zero, List.set_cons_succ]
  refine wpAnyH_take (i := 2) (oi := { dst := some 24, op := Op.fieldAddr 62 (Operand.tmp 23) 0, type := 0, pos := "journal.go:226", after := #[{ on := 1, ground := Ground.data }], guard := none }) (v := .pointer (some ⟨pj, 0, none⟩)) rfl (by kernel_rfl) (by kernel_rfl) (by kernel_rfl) (fun _ _ _ h => h)
    (Or.inl ⟨by rfl, by intro w hSw;  clear hSw; go_simp⟩) hHeld ?_
  try simp only [Act.put, List.setIfInBounds_toArray, List.set_cons_zero, List.set_cons_succ]
  refine wpAnyH_take (i := 3) (oi := { dst := some 25, op := Op.load 24 (Operand.tmp 24), type := 24, pos := "journal.go:226", after := #[{ on := 2, ground := Ground.data }], guard := none }) (v := .pointer (some ⟨pd, 0, none⟩)) rfl (by kernel_rfl) (by kernel_rfl) (by kernel_rfl) (fun _ _ _ h => h)
    (Or.inl ⟨by rfl, by intro w hSw; have hq := hSw.cellAt (i := 0) rfl; clear hSw; go_simp⟩) hHeld ?_
  try simp only [Act.put, List.setIfInBounds_toArray, List.set_cons_zero, List.set_cons_succ]
  refine wpAnyH_take (i := 4) (oi := { dst := some 26, op := Op.move (Operand.tmp 0), type := 25, pos := "journal.go:226", after := #[], guard := none }) (v := .pointer (some ⟨pj, 0, none⟩)) rfl (by kernel_rfl) (by kernel_rfl) (by kernel_rfl) (fun _ _ _ h => h)
    (Or.inl ⟨by rfl, by intro w hSw;  clear hSw; go_simp⟩) hHeld ?_
  try simp only [Act.put, List.setIfInBounds_toArray, List.set_cons_zero, List.set_cons_succ]
  refine wpAnyH_take (i := 5) (oi := { dst := some 27, op := Op.nilCheck (Operand.tmp 26), type := 0, pos := "journal.go:226", after := #[{ on := 4, ground := Ground.data }], guard := none }) (v := .pointer (some ⟨pj, 0, none⟩)) rfl (by kernel_rfl) (by kernel_rfl) (by kernel_rfl) (fun _ _ _ h => h)
    (Or.inl ⟨by rfl, by intro w hSw;  clear hSw; go_simp⟩) hHeld ?_
  try simp only [Act.put, List.setIfInBounds_toArray, List.set_cons_zero, List.set_cons_succ]
  refine wpAnyH_take (i := 6) (oi := { dst := some 28, op := Op.fieldAddr 62 (Operand.tmp 27) 1, type := 0, pos := "journal.go:226", after := #[{ on := 5, ground := Ground.data }], guard := none }) (v := .pointer (some ⟨pj, 1, none⟩)) rfl (by kernel_rfl) (by kernel_rfl) (by kernel_rfl) (fun _ _ _ h => h)
    (Or.inl ⟨by rfl, by intro w hSw;  clear hSw; go_simp⟩) hHeld ?_
  try simp only [Act.put, List.setIfInBounds_toArray, List.set_cons_zero, List.set_cons_succ]
  refine wpAnyH_take (i := 7) (oi := { dst := some 29, op := Op.load 3 (Operand.tmp 28), type := 3, pos := "journal.go:226", after := #[{ on := 6, ground := Ground.data }], guard := none }) (v := .int .i64 (h : Int)) rfl (by kernel_rfl) (by kernel_rfl) (by kernel_rfl) (fun _ _ _ h => h)
    (Or.inl ⟨by rfl, by intro w hSw; have hq := hSw.cellAt (i := 1) rfl; clear hSw; go_simp⟩) hHeld ?_
  try simp only [Act.put, List.setIfInBounds_toArray, List.set_cons_zero, List.set_cons_succ]
  refine wpAnyH_take (i := 8) (oi := { dst := some 30, op := Op.move (Operand.tmp 3), type := 33, pos := "journal.go:226", after := #[], guard := none }) (v := .slice (some ⟨A, 0, none⟩) RM RM) rfl (by kernel_rfl) (by kernel_rfl) (by kernel_rfl) (fun _ _ _ h => h)
    (Or.inl ⟨by rfl, by intro w hSw;  clear hSw; go_simp⟩) hHeld ?_
  try simp only [Act.put, List.setIfInBounds_toArray, List.set_cons_zero, List.set_cons_succ]
  refine wpAnyH_ready (rs := [9]) (by kernel_rfl) (by simp) ?_
  refine AllReadyH.cons (o := { dst := some 31, op := Op.call { callee := Callee.value (Operand.func 41), args := #[Operand.tmp 25, Operand.tmp 29, Operand.const (Value.int IntKind.i64 0), Operand.tmp 30], argTypes := #[24, 3, 3, 33] }, type := 37, pos := "journal.go:226", after := #[{ on := 3, ground := Ground.data }, { on := 7, ground := Ground.data }, { on := 8, ground := Ground.data }], guard := none }) rfl (fun K hK => ?_) AllReadyH.nil
  go_simp
  refine HLY.out.mono ?_
  rintro e w4 ⟨rfl, hd4, hk4⟩
  have D4 := Lib.hid hd4
  have K4 := Lib.hid hk4
  have J4 := Lib.hid (J3.out.kp hk4 (by decide))
  clear hd4 hk4 HLY
  go_wp2_with fail
  refine hK.out _ _ (J4.out) (fun hHw1 => ?_)
  clear hK K hHeld
  try simp only [Act.put, List.setIfInBounds_toArray, List.set_cons_zero, List.set_cons_succ]
  refine wpAnyH_take (i := 10) (oi := { dst := some 4, op := Op.assign (Operand.tmp 31), type := 37, pos := "journal.go:226", after := #[{ on := 9, ground := Ground.data }, { on := 9, ground := Ground.chain }, { on := 0, ground := Ground.phase }, { on := 1, ground := Ground.phase }, { on := 2, ground := Ground.phase }, { on := 3, ground := Ground.phase }, { on := 4, ground := Ground.phase }, { on := 5, ground := Ground.phase }, { on := 6, ground := Ground.phase }, { on := 7, ground := Ground.phase }, { on := 8, ground := Ground.phase }, { on := 9, ground := Ground.phase }], guard := none }) (v := .int .i64 0) rfl (by kernel_rfl) (by kernel_rfl) (by kernel_rfl) (fun _ _ _ h => h)
    (Or.inl ⟨by rfl, by intro w hSw;  clear hSw; go_simp⟩) hHw1 ?_
  try simp only [Act.put, List.setIfInBounds_toArray, List.set_cons_zero, List.set_cons_succ]
  refine wpAnyH_done (by kernel_rfl) ?_ _
  clear hHw1
  have HCL : Hid (Calls Tryz.prog 43 #[.pointer (some ⟨pd, 0, none⟩), .int .i64 (h : Int)] w4.drew
      fun e w' => e = .returned (.int .i64 0) ∧ Dv w' B pd n (splice (splice L (256 * fst n h + 0) LY) (256 * h) (zer 256)) (m + RM + 1) (k + RM + 1) ∧ Kp devT B w4.drew w') :=
    Lib.hid (clean_any (D4.out.later (Below.refl _ _).drew) h (by have := HH.out; have := HN2.out; omega) (by have := HK.out; omega) (by have := HM.out; omega) (Nat.le_trans HB.out (Nat.le_trans B3w.out.drew.size K4.out.size)))
  have J4d : Hid (Has w4.drew pj (jC pd h N (.slice a3 len c3) rV used st lost) tJ) := Lib.hid J4.out.drew
  go_upto_region 6 with fail
  refine wp_region_held_drew (S := fun W => Has W pj (jC pd h N (.slice a3 len c3) rV used st lost) tJ) (by kernel_rfl) J4d.out (fun hHeld => ?_)
  refine wpAnyH_take (i := 0) (oi := { dst := some 35, op := Op.move (Operand.tmp 0), type := 25, pos := "journal.go:230", after := #[], guard := none }) (v := .pointer (some ⟨pj, 0, none⟩)) rfl (by kernel_rfl) (by kernel_rfl) (by kernel_rfl) (fun _ _ _ h => h)
    (Or.inl ⟨by rfl, by intro w hSw;  clear hSw; go_simp⟩) hHeld ?_
  try simp only [Act.put, List.setIfInBounds_toArray, List.set_cons_zero, List.set_cons_succ]
  refine wpAnyH_take (i := 1) (oi := { dst := some 36, op := Op.nilCheck (Operand.tmp 35), type := 0, pos := "journal.go:230", after := #[{ on := 0, ground := Ground.data }], guard := none }) (v := .pointer (some ⟨pj, 0, none⟩)) rfl (by kernel_rfl) (by kernel_rfl) (by kernel_rfl) (fun _ _ _ h => h)
    (Or.inl ⟨by rfl, by intro w hSw;  clear hSw; go_simp⟩) hHeld ?_
  try simp only [Act.put, List.setIfInBounds_toArray, List.set_cons_zero, List.set_cons_succ]
  refine wpAnyH_take (i := 2) (oi := { dst := some 37, op := Op.fieldAddr 62 (Operand.tmp 36) 0, type := 0, pos := "journal.go:230", after := #[{ on := 1, ground := Ground.data }], guard := none }) (v := .pointer (some ⟨pj, 0, none⟩)) rfl (by kernel_rfl) (by kernel_rfl) (by kernel_rfl) (fun _ _ _ h => h)
    (Or.inl ⟨by rfl, by intro w hSw;  clear hSw; go_simp⟩) hHeld ?_
  try simp only [Act.put, List.setIfInBounds_toArray, List.set_cons_zero, List.set_cons_succ]
  refine wpAnyH_take (i := 3) (oi := { dst := some 38, op := Op.load 24 (Operand.tmp 37), type := 24, pos := "journal.go:230", after := #[{ on := 2, ground := Ground.data }], guard := none }) (v := .pointer (some ⟨pd, 0, none⟩)) rfl (by kernel_rfl) (by kernel_rfl) (by kernel_rfl) (fun _ _ _ h => h)
    (Or.inl ⟨by rfl, by intro w hSw; have hq := hSw.cellAt (i := 0) rfl; clear hSw; go_simp⟩) hHeld ?_
  try simp only [Act.put, List.setIfInBounds_toArray, List.set_cons_zero, List.set_cons_succ]
  refine wpAnyH_take (i := 4) (oi := { dst := some 39, op := Op.move (Operand.tmp 0), type := 25, pos := "journal.go:230", after := #[], guard := none }) (v := .pointer (some ⟨pj, 0, none⟩)) rfl (by kernel_rfl) (by kernel_rfl) (by kernel_rfl) (fun _ _ _ h => h)
    (Or.inl ⟨by rfl, by intro w hSw;  clear hSw; go_simp⟩) hHeld ?_
  try simp only [Act.put, List.setIfInBounds_toArray, List.set_cons_zero, List.set_cons_succ]
  refine wpAnyH_take (i := 5) (oi := { dst := some 40, op := Op.nilCheck (Operand.tmp 39), type := 0, pos := "journal.go:230", after := #[{ on := 4, ground := Ground.data }], guard := none }) (v := .pointer (some ⟨pj, 0, none⟩)) rfl (by kernel_rfl) (by kernel_rfl) (by kernel_rfl) (fun _ _ _ h => h)
    (Or.inl ⟨by rfl, by intro w hSw;  clear hSw; go_simp⟩) hHeld ?_
  try simp only [Act.put, List.setIfInBounds_toArray, List.set_cons_zero, List.set_cons_succ]
  refine wpAnyH_take (i := 6) (oi := { dst := some 41, op := Op.fieldAddr 62 (Operand.tmp 40) 1, type := 0, pos := "journal.go:230", after := #[{ on := 5, ground := Ground.data }], guard := none }) (v := .pointer (some ⟨pj, 1, none⟩)) rfl (by kernel_rfl) (by kernel_rfl) (by kernel_rfl) (fun _ _ _ h => h)
    (Or.inl ⟨by rfl, by intro w hSw;  clear hSw; go_simp⟩) hHeld ?_
  try simp only [Act.put, List.setIfInBounds_toArray, List.set_cons_zero, List.set_cons_succ]
  refine wpAnyH_take (i := 7) (oi := { dst := some 42, op := Op.load 3 (Operand.tmp 41), type := 3, pos := "journal.go:230", after := #[{ on := 6, ground := Ground.data }], guard := none }) (v := .int .i64 (h : Int)) rfl (by kernel_rfl) (by kernel_rfl) (by kernel_rfl) (fun _ _ _ h => h)
    (Or.inl ⟨by rfl, by intro w hSw; have hq := hSw.cellAt (i := 1) rfl; clear hSw; go_simp⟩) hHeld ?_
  try simp only [Act.put, List.setIfInBounds_toArray, List.set_cons_zero, List.set_cons_succ]
  refine wpAnyH_ready (rs := [8]) (by kernel_rfl) (by simp) ?_
  refine AllReadyH.cons (o := { dst := some 43, op := Op.call { callee := Callee.value (Operand.func 43), args := #[Operand.tmp 38, Operand.tmp 42], argTypes := #[24, 3] }, type := 37, pos := "journal.go:230", after := #[{ on := 3, ground := Ground.data }, { on := 7, ground := Ground.data }], guard := none }) rfl (fun K hK => ?_) AllReadyH.nil
  go_simp
  refine HCL.out.mono ?_
  rintro e w4b ⟨rfl, hd4b, hk4b⟩
  have D4b := Lib.hid hd4b
  have K4b : Hid (Kp devT B w4 w4b) := Lib.hid ((Kp.of_below (ts := devT) (B := B) (Below.refl w4.heap.size w4).drew).trans hk4b)
  have J4b := Lib.hid (J4d.out.kp hk4b (by decide))
  clear hd4b hk4b HCL
  go_wp2_with fail
  refine hK.out _ _ (J4b.out) (fun hHw1 => ?_)
  clear hK K hHeld
  try simp only [Act.put, List.setIfInBounds_toArray, List.set_cons_zero, List.set_cons_succ]
  refine wpAnyH_take (i := 9) (oi := { dst := some 5, op := Op.assign (Operand.tmp 43), type := 37, pos := "journal.go:230", after := #[{ on := 8, ground := Ground.data }, { on := 8, ground := Ground.chain }, { on := 0, ground := Ground.phase }, { on := 1, ground := Ground.phase }, { on := 2, ground := Ground.phase }, { on := 3, ground := Ground.phase }, { on := 4, ground := Ground.phase }, { on := 5, ground := Ground.phase }, { on := 6, ground := Ground.phase }, { on := 7, ground := Ground.phase }, { on := 8, ground := Ground.phase }], guard := none }) (v := .int .i64 0) rfl (by kernel_rfl) (by kernel_rfl) (by kernel_rfl) (fun _ _ _ h => h)
    (Or.inl ⟨by rfl, by intro w hSw;  clear hSw; go_simp⟩) hHw1 ?_
  try simp only [Act.put, List.setIfInBounds_toArray, List.set_cons_zero, List.set_cons_succ]
  refine wpAnyH_done (by kernel_rfl) ?_ _
  clear hHw1
  have HSY := Lib.hid (dsync D4b.out (by have := HK.out; omega) (by have := HM.out; omega))
  have q0 := J4b.out.cellAt (i := 0) rfl
  go_upto_region 12 with (go_at_call 37; refine HSY.out.mono ?_; rintro e w5 ⟨rfl, hd5, hk5⟩)
  have J5 : Hid (Has w5.drew pj (jC pd h N (.slice a3 len c3) rV used st lost) tJ) := Lib.hid (J4b.out.kp hk5 (by decide)).drew
  have K5 : Hid (Kp devT B w w5) := Lib.hid (((Kp.of_below B3w.out.drew).trans K4.out).trans (K4b.out.trans hk5))
  have D5 : Hid (Dv w5.drew B pd n (splice (splice L (256 * fst n h + 0) LY) (256 * h) (zer 256)) 0 (k + RM + 1 + 1)) := Lib.hid (hd5.later (Below.refl _ _).drew)
  have L5 : Hid (LaidW w5.drew) := Lib.hid (hL0.out.kp (K5.out.trans (Kp.of_below (ts := devT) (B := B) (Below.refl w5.heap.size w5).drew)) HB.out hgB)
  have HPT : Hid (Calls Tryz.prog 44 #[.pointer (some ⟨pd, 0, none⟩), .int .i64 (h : Int), .int .u64 ((N - 1 : Nat) : Int)] w5.drew
      fun e w' => e = .returned (.int .i64 0) ∧ Dv w' B pd n (splice (splice L (256 * fst n h + 0) LY) (256 * h) (headS (N - 1))) (0 + 1) (k + RM + 1 + 1 + 1) ∧ Kp devT B w5.drew w') :=
    Lib.hid (by
      have hp := point_any D5.out L5.out h (N - 1) (by have := HH.out; have := HN2.out; omega) (by have := HN.out; omega) (by have := HK.out; omega) (by omega) (Nat.le_trans HB.out K5.out.size)
      rw [splice_over (by rw [HSL.out, zer_length]; have := HH.out; have := HN2.out; omega) (by rw [headS_length, zer_length])] at hp
      exact hp)
  clear q0 hd5 hk5 HSY D4 K4 J4 D3 J3 I3 G3 D4b K4b J4b J4d
  refine wp_region_held_drew (S := fun W => Has W pj (jC pd h N (.slice a3 len c3) rV used st lost) tJ) (by kernel_rfl) J5.out (fun hHeld => ?_)
  refine wpAnyH_take (i := 0) (oi := { dst := some 55, op := Op.move (Operand.tmp 0), type := 25, pos := "journal.go:237", after := #[], guard := none }) (v := .pointer (some ⟨pj, 0, none⟩)) rfl (by kernel_rfl) (by kernel_rfl) (by kernel_rfl) (fun _ _ _ h => h)
    (Or.inl ⟨by rfl, by intro w hSw;  clear hSw; go_simp⟩) hHeld ?_
  try simp only [Act.put, List.setIfInBounds_toArray, List.set_cons_zero, List.set_cons_succ]
  refine wpAnyH_take (i := 1) (oi := { dst := some 56, op := Op.nilCheck (Operand.tmp 55), type := 0, pos := "journal.go:237", after := #[{ on := 0, ground := Ground.data }], guard := none }) (v := .pointer (some ⟨pj, 0, none⟩)) rfl (by kernel_rfl) (by kernel_rfl) (by kernel_rfl) (fun _ _ _ h => h)
    (Or.inl ⟨by rfl, by intro w hSw;  clear hSw; go_simp⟩) hHeld ?_
  try simp only [Act.put, List.setIfInBounds_toArray, List.set_cons_zero, List.set_cons_succ]
  refine wpAnyH_take (i := 2) (oi := { dst := some 57, op := Op.fieldAddr 62 (Operand.tmp 56) 0, type := 0, pos := "journal.go:237", after := #[{ on := 1, ground := Ground.data }], guard := none }) (v := .pointer (some ⟨pj, 0, none⟩)) rfl (by kernel_rfl) (by kernel_rfl) (by kernel_rfl) (fun _ _ _ h => h)
    (Or.inl ⟨by rfl, by intro w hSw;  clear hSw; go_simp⟩) hHeld ?_
  try simp only [Act.put, List.setIfInBounds_toArray, List.set_cons_zero, List.set_cons_succ]
  refine wpAnyH_take (i := 3) (oi := { dst := some 58, op := Op.load 24 (Operand.tmp 57), type := 24, pos := "journal.go:237", after := #[{ on := 2, ground := Ground.data }], guard := none }) (v := .pointer (some ⟨pd, 0, none⟩)) rfl (by kernel_rfl) (by kernel_rfl) (by kernel_rfl) (fun _ _ _ h => h)
    (Or.inl ⟨by rfl, by intro w hSw; have hq := hSw.cellAt (i := 0) rfl; clear hSw; go_simp⟩) hHeld ?_
  try simp only [Act.put, List.setIfInBounds_toArray, List.set_cons_zero, List.set_cons_succ]
  refine wpAnyH_take (i := 4) (oi := { dst := some 59, op := Op.move (Operand.tmp 0), type := 25, pos := "journal.go:237", after := #[], guard := none }) (v := .pointer (some ⟨pj, 0, none⟩)) rfl (by kernel_rfl) (by kernel_rfl) (by kernel_rfl) (fun _ _ _ h => h)
    (Or.inl ⟨by rfl, by intro w hSw;  clear hSw; go_simp⟩) hHeld ?_
  try simp only [Act.put, List.setIfInBounds_toArray, List.set_cons_zero, List.set_cons_succ]
  refine wpAnyH_take (i := 5) (oi := { dst := some 60, op := Op.nilCheck (Operand.tmp 59), type := 0, pos := "journal.go:237", after := #[{ on := 4, ground := Ground.data }], guard := none }) (v := .pointer (some ⟨pj, 0, none⟩)) rfl (by kernel_rfl) (by kernel_rfl) (by kernel_rfl) (fun _ _ _ h => h)
    (Or.inl ⟨by rfl, by intro w hSw;  clear hSw; go_simp⟩) hHeld ?_
  try simp only [Act.put, List.setIfInBounds_toArray, List.set_cons_zero, List.set_cons_succ]
  refine wpAnyH_take (i := 6) (oi := { dst := some 61, op := Op.fieldAddr 62 (Operand.tmp 60) 1, type := 0, pos := "journal.go:237", after := #[{ on := 5, ground := Ground.data }], guard := none }) (v := .pointer (some ⟨pj, 1, none⟩)) rfl (by kernel_rfl) (by kernel_rfl) (by kernel_rfl) (fun _ _ _ h => h)
    (Or.inl ⟨by rfl, by intro w hSw;  clear hSw; go_simp⟩) hHeld ?_
  try simp only [Act.put, List.setIfInBounds_toArray, List.set_cons_zero, List.set_cons_succ]
  refine wpAnyH_take (i := 7) (oi := { dst := some 62, op := Op.load 3 (Operand.tmp 61), type := 3, pos := "journal.go:237", after := #[{ on := 6, ground := Ground.data }], guard := none }) (v := .int .i64 (h : Int)) rfl (by kernel_rfl) (by kernel_rfl) (by kernel_rfl) (fun _ _ _ h => h)
    (Or.inl ⟨by rfl, by intro w hSw; have hq := hSw.cellAt (i := 1) rfl; clear hSw; go_simp⟩) hHeld ?_
  try simp only [Act.put, List.setIfInBounds_toArray, List.set_cons_zero, List.set_cons_succ]
  refine wpAnyH_take (i := 8) (oi := { dst := some 63, op := Op.move (Operand.tmp 0), type := 25, pos := "journal.go:237", after := #[], guard := none }) (v := .pointer (some ⟨pj, 0, none⟩)) rfl (by kernel_rfl) (by kernel_rfl) (by kernel_rfl) (fun _ _ _ h => h)
    (Or.inl ⟨by rfl, by intro w hSw;  clear hSw; go_simp⟩) hHeld ?_
  try simp only [Act.put, List.setIfInBounds_toArray, List.set_cons_zero, List.set_cons_succ]
  refine wpAnyH_take (i := 9) (oi := { dst := some 64, op := Op.nilCheck (Operand.tmp 63), type := 0, pos := "journal.go:237", after := #[{ on := 8, ground := Ground.data }], guard := none }) (v := .pointer (some ⟨pj, 0, none⟩)) rfl (by kernel_rfl) (by kernel_rfl) (by kernel_rfl) (fun _ _ _ h => h)
    (Or.inl ⟨by rfl, by intro w hSw;  clear hSw; go_simp⟩) hHeld ?_
  try simp only [Act.put, List.setIfInBounds_toArray, List.set_cons_zero, List.set_cons_succ]
  refine wpAnyH_take (i := 10) (oi := { dst := some 65, op := Op.fieldAddr 62 (Operand.tmp 64) 2, type := 0, pos := "journal.go:237", after := #[{ on := 9, ground := Ground.data }], guard := none }) (v := .pointer (some ⟨pj, 2, none⟩)) rfl (by kernel_rfl) (by kernel_rfl) (by kernel_rfl) (fun _ _ _ h => h)
    (Or.inl ⟨by rfl, by intro w hSw;  clear hSw; go_simp⟩) hHeld ?_
  try simp only [Act.put, List.setIfInBounds_toArray, List.set_cons_zero, List.set_cons_succ]
  refine wpAnyH_take (i := 11) (oi := { dst := some 66, op := Op.load 60 (Operand.tmp 65), type := 60, pos := "journal.go:237", after := #[{ on := 10, ground := Ground.data }], guard := none }) (v := .int .u64 (N : Int)) rfl (by kernel_rfl) (by kernel_rfl) (by kernel_rfl) (fun _ _ _ h => h)
    (Or.inl ⟨by rfl, by intro w hSw; have hq := hSw.cellAt (i := 2) rfl; clear hSw; go_simp⟩) hHeld ?_
  try simp only [Act.put, List.setIfInBounds_toArray, List.set_cons_zero, List.set_cons_succ]
  refine wpAnyH_take (i := 12) (oi := { dst := some 67, op := Op.binOp BinOp.sub 60 (Operand.tmp 66) (Operand.const (Value.int IntKind.u64 1)) 60, type := 60, pos := "journal.go:237", after := #[{ on := 11, ground := Ground.data }], guard := none }) (v := .int .u64 ((N - 1 : Nat) : Int)) rfl (by kernel_rfl) (by kernel_rfl) (by kernel_rfl) (fun _ _ _ h => h)
    (Or.inl ⟨by rfl, by intro w hSw;  clear hSw; go_simp; first | exact HNM.out | rw [HNM.out] | skip⟩) hHeld ?_
  try simp only [Act.put, List.setIfInBounds_toArray, List.set_cons_zero, List.set_cons_succ]
  refine wpAnyH_ready (rs := [13]) (by kernel_rfl) (by simp) ?_
  refine AllReadyH.cons (o := { dst := some 68, op := Op.call { callee := Callee.value (Operand.func 44), args := #[Operand.tmp 58, Operand.tmp 62, Operand.tmp 67], argTypes := #[24, 3, 60] }, type := 37, pos := "journal.go:237", after := #[{ on := 3, ground := Ground.data }, { on := 7, ground := Ground.data }, { on := 12, ground := Ground.data }], guard := none }) rfl (fun K hK => ?_) AllReadyH.nil
  go_simp
  refine HPT.out.mono ?_
  rintro e w6 ⟨rfl, hd6, hk6⟩
  have D6 := Lib.hid hd6
  have K6 := Lib.hid (K5.out.trans ((Kp.of_below (ts := devT) (B := B) (Below.refl w5.heap.size w5).drew).trans hk6))
  have J6 := Lib.hid (J5.out.kp hk6 (by decide))
  clear hd6 hk6 HPT
  go_wp2_with fail
  refine hK.out _ _ (J6.out) (fun hHw1 => ?_)
  clear hK K hHeld
  try simp only [Act.put, List.setIfInBounds_toArray, List.set_cons_zero, List.set_cons_succ]
  refine wpAnyH_take (i := 14) (oi := { dst := some 7, op := Op.assign (Operand.tmp 68), type := 37, pos := "journal.go:237", after := #[{ on := 13, ground := Ground.data }, { on := 13, ground := Ground.chain }, { on := 0, ground := Ground.phase }, { on := 1, ground := Ground.phase }, { on := 2, ground := Ground.phase }, { on := 3, ground := Ground.phase }, { on := 4, ground := Ground.phase }, { on := 5, ground := Ground.phase }, { on := 6, ground := Ground.phase }, { on := 7, ground := Ground.phase }, { on := 8, ground := Ground.phase }, { on := 9, ground := Ground.phase }, { on := 10, ground := Ground.phase }, { on := 11, ground := Ground.phase }, { on := 12, ground := Ground.phase }, { on := 13, ground := Ground.phase }], guard := none }) (v := .int .i64 0) rfl (by kernel_rfl) (by kernel_rfl) (by kernel_rfl) (fun _ _ _ h => h)
    (Or.inl ⟨by rfl, by intro w hSw;  clear hSw; go_simp⟩) hHw1 ?_
  try simp only [Act.put, List.setIfInBounds_toArray, List.set_cons_zero, List.set_cons_succ]
  refine wpAnyH_done (by kernel_rfl) ?_ _
  clear hHw1
  have HSY := Lib.hid (dsync D6.out (by have := HK.out; omega) (by omega))
  have q0 := J6.out.cellAt (i := 0) rfl
  go_wp2_with (go_at_call 37; refine HSY.out.mono ?_; rintro e w7 ⟨rfl, hd7, hk7⟩)
  go_ret
  refine ⟨rfl, ?_, K6.out.trans hk7⟩
  rw [HRES.out]
  exact hd7.more (Nat.le_refl _) (by omega)

end Go.Proofs.YtgjckddcnmbceaaGreatDoor

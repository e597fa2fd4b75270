/-
  The contract of point. Conditions: the device is as Dv says; the digest's laid variables are those of the text.
-/
import Derived.Test.YtgjckddcnmbceaaGreatDoorJWhole
namespace Go.Proofs.YtgjckddcnmbceaaGreatDoor
open Go.RowKit
set_option linter.unusedVariables false

/-- A sector with a number. -/
def headS (N : Nat) : List UInt8 := packL N [] ++ zer 224
theorem headS_length (N : Nat) : (headS N).length = 256 := by rw [headS, List.length_append, packL_length, zer_length]; rfl
theorem isB_nil (w : World) : IsB w none 0 0 [] := ⟨rfl, .inl rfl, fun _ => ⟨rfl, rfl⟩, ⟨Nat.le_refl _, Nat.zero_le _⟩, Nat.zero_le _⟩
theorem splice_zer {l : List UInt8} {k : Nat} (h : l.length ≤ k) : splice (zer k) 0 l = l ++ zer (k - l.length) := by
  unfold splice
  rw [List.take_zero, List.nil_append, Nat.zero_add, zer_drop]

set_option maxRecDepth 100000 in
set_option maxHeartbeats 2000000 in
theorem point_any {w : World} {B pd n m k : Nat} {L : List UInt8} (hd : Dv w B pd n L m k) (hl : LaidW w) (h N : Nat) (hh : h < n) (hN : N < 18446744073709551616) (ho : k < 4611686018427387904) (hm : m ≤ 100000) (hB : B ≤ w.heap.size) :
    Calls Tryz.prog 44 #[.pointer (some ⟨pd, 0, none⟩), .int .i64 (h : Int), .int .u64 (N : Int)] w
      fun e w' => e = .returned (.int .i64 0) ∧ Dv w' B pd n (splice L (256 * h) (headS N)) (m + 1) (k + 1) ∧ Kp devT B w w' := by
  have hmk := mk256 w
  obtain ⟨A, hA⟩ : ∃ A, A = w.heap.size := ⟨_, rfl⟩
  obtain ⟨w1, hw1⟩ : ∃ w1, w1 = w.alloc (.cells ((zer 256).map bv).toArray 5) := ⟨_, rfl⟩
  rw [← hA, ← hw1] at hmk
  have h1 : Hid (Has w1 A ((zer 256).map bv) 5) := Lib.hid (by rw [hw1, hA]; exact Has.new w _ _)
  have b1 : Hid (Below A w w1) := Lib.hid (by rw [hw1, hA]; exact (Below.refl _ _).alloc (Nat.le_refl _) _)
  have HA := Lib.hid hA
  have L1 : Hid (LaidW w1) := Lib.hid (hl.below b1.out (by rw [hA]; exact hl.two))
  have D1 : Hid (Dv w1 B pd n L m k) := Lib.hid (hd.later (by rw [← hA]; exact b1.out))
  have HP := Lib.hid (pack_any N none 0 0 [] w1 (isB_nil _) L1.out hN (by omega))
  have HPL : Hid ((packL N []).length = 32) := Lib.hid (packL_length _ _)
  have hsz : (Tryz.prog.info? 5).map (·.size) = some 1 := by kernel_rfl
  have HSZ := Lib.hid hsz
  have HHS : Hid (splice ((zer 256).map bv) 0 ((packL N []).map bv) = (headS N).map bv) := Lib.hid (by
    rw [splice_map, splice_zer (by rw [packL_length]; simp), packL_length]; rfl)
  obtain ⟨Q, hQ⟩ : ∃ Q, Q = packL N [] := ⟨_, rfl⟩
  rw [← hQ] at HP HPL HHS
  obtain ⟨Hd, hHd⟩ : ∃ Hd, Hd = headS N := ⟨_, rfl⟩
  have HHL : Hid (Hd.length = 256) := Lib.hid (by rw [hHd]; exact headS_length N)
  rw [← hHd] at HHS ⊢
  clear hw1 hA hd hl hQ hHd hsz
  go_enter Tryz.func44, Tryz.ntmps44
  go_upto_region 2 with fail
  clear hmk
  go_wp2_with fail
  refine HP.out.mono ?_
  rintro e w2 ⟨v2, rfl, ho2, hb2⟩
  obtain ⟨a2, c2, rfl, hi2⟩ := isB_owned ho2 (by rw [HPL.out]; omega)
  have lt1 := h1.out.lt
  have h2 := h1.out.below hb2 lt1
  have hg2 : w2.heap[A]? = some (.cells ((zer 256).map bv).toArray 5 (0, 0)) := h2
  have HG2 := Lib.hid hg2
  have I2 := Lib.hid hi2
  have D2 : Hid (Dv w2 B pd n L m k) := Lib.hid (D1.out.later hb2)
  have B2 : Hid (Below A w w2) := Lib.hid (b1.out.trans (hb2.mono (by rw [HA.out]; exact b1.out.size)))
  have hlen : Hid ((Q.map bv).length = Nat.min Q.length 256) := Lib.hid (by rw [List.length_map, HPL.out]; rfl)
  have hpos : Hid (0 < (Q.map bv).length → ∃ ad, a2 = some ad ∧ ∀ j v, (Q.map bv)[j]? = some v → w2.cell? (ad.add j) = some v) := Lib.hid (by
    intro _
    rcases I2.out.at_ with h0 | ⟨b, off, e, hlt, hc⟩
    · rw [HPL.out] at h0; omega
    · refine ⟨_, e, fun j v hj => ?_⟩
      have hjl : j < Q.length := by have := (List.getElem?_eq_some_iff.1 hj).1; simpa using this
      rw [map_bv_get Q j hjl] at hj
      rw [Addr.add_mid, hc j hjl]; exact hj)
  have hfit : Hid (0 + (Q.map bv).length ≤ ((zer 256).map bv).length) := Lib.hid (by rw [List.length_map, HPL.out]; simp [zer])
  have hone := Lib.hid (bv_one Q)
  clear ho2 hi2 hb2 h2 hg2 lt1 HP L1 D1 b1 h1
  go_wp2_with (refine hcopy_but rfl (.tmp 9) (.tmp 11) 33 33 rfl 5 Tryz.underlying33 HSZ.out (some ⟨A, 0, none⟩) a2 256 256 Q.length c2 rfl rfl A 0 ((zer 256).map bv) 5 HG2.out (Q.map bv) hlen.out (fun h => ⟨rfl, hpos.out h⟩) hfit.out hone.out ?_; intro w3 hg3 hb3)
  rw [HHS.out] at hg3
  have h3 : Has w3 A (Hd.map bv) 5 := hg3.out
  have D3 : Dv w3 B pd n L m k := D2.out.kp (ts := [5]) (B' := 0) (Kp.of_but (hb3.out.mono (Nat.le_refl _)) (Nat.zero_le _) (show w2.heap[A]? = _ from HG2.out) (by simp)) (by decide) (by decide) (by decide)
  have hAw : A ≤ w2.heap.size := by have := B2.out.size; rw [HA.out]; exact this
  have B3 : Hid (Below A w w3) := Lib.hid (B2.out.trans ((hb3.out.mono hAw).below (Nat.le_refl A)))
  have HW := Lib.hid (dwrite D3 h hh A 0 256 Hd HHL.out (fun j hj => by rw [Nat.zero_add]; exact h3.cellAt (map_bv_get Hd j (by rw [HHL.out]; exact hj))) ⟨h3.lt, .inr ⟨_, h3⟩⟩ ho hm (by have := B3.out.size; omega))
  clear hg3 hb3 h3 D3 D2 I2 HG2
  go_wp2_with fail
  refine HW.out.mono ?_
  rintro e w4 ⟨rfl, hd4, hk4⟩
  have D4 := Lib.hid hd4
  have K4 : Hid (Kp devT B w w4) := Lib.hid ((Kp.of_below (by rw [← HA.out]; exact B3.out)).trans hk4)
  clear hd4 hk4 HW
  go_wp2_with fail
  go_ret
  exact ⟨rfl, D4.out, K4.out⟩

theorem splice_over {L p q : List UInt8} {o : Nat} (h : o + p.length ≤ L.length) (hq : q.length = p.length) : splice (splice L o p) o q = splice L o q := by
  have h1 : (L.take o).length = o := by rw [List.length_take]; omega
  have e1 : (splice L o p).take o = L.take o := by
    unfold splice
    exact List.take_left' h1
  have e2 : (splice L o p).drop (o + q.length) = L.drop (o + p.length) := by
    unfold splice
    rw [← List.append_assoc]
    exact List.drop_left' (by rw [List.length_append, h1, hq])
  show (splice L o p).take o ++ (q ++ (splice L o p).drop (o + q.length)) = L.take o ++ (q ++ L.drop (o + q.length))
  rw [e1, e2, hq]

set_option maxRecDepth 100000 in
set_option maxHeartbeats 2000000 in
theorem clean_any {w : World} {B pd n m k : Nat} {L : List UInt8} (hd : Dv w B pd n L m k) (h : Nat) (hh : h < n) (ho : k < 4611686018427387904) (hm : m ≤ 100000) (hB : B ≤ w.heap.size) :
    Calls Tryz.prog 43 #[.pointer (some ⟨pd, 0, none⟩), .int .i64 (h : Int)] w
      fun e w' => e = .returned (.int .i64 0) ∧ Dv w' B pd n (splice L (256 * h) (zer 256)) (m + 1) (k + 1) ∧ Kp devT B w w' := by
  have hmk := mk256 w
  obtain ⟨A, hA⟩ : ∃ A, A = w.heap.size := ⟨_, rfl⟩
  obtain ⟨w1, hw1⟩ : ∃ w1, w1 = w.alloc (.cells ((zer 256).map bv).toArray 5) := ⟨_, rfl⟩
  rw [← hA, ← hw1] at hmk
  have h1 : Hid (Has w1 A ((zer 256).map bv) 5) := Lib.hid (by rw [hw1, hA]; exact Has.new w _ _)
  have b1 : Hid (Below A w w1) := Lib.hid (by rw [hw1, hA]; exact (Below.refl _ _).alloc (Nat.le_refl _) _)
  have HA := Lib.hid hA
  have D1 : Hid (Dv w1 B pd n L m k) := Lib.hid (hd.later (by rw [← hA]; exact b1.out))
  obtain ⟨Z, hZ⟩ : ∃ Z, Z = zer 256 := ⟨_, rfl⟩
  have HZL : Hid (Z.length = 256) := Lib.hid (by rw [hZ]; exact zer_length 256)
  rw [← hZ] at h1 ⊢
  have HW := Lib.hid (dwrite D1.out h hh A 0 256 Z HZL.out (fun j hj => by rw [Nat.zero_add]; exact h1.out.cellAt (map_bv_get Z j (by rw [HZL.out]; exact hj))) ⟨h1.out.lt, .inr ⟨_, h1.out⟩⟩ ho hm (by have := b1.out.size; omega))
  clear hw1 hA hd hZ h1 D1
  go_enter Tryz.func43, Tryz.ntmps43
  go_wp2_with (go_at_call 55; refine HW.out.mono ?_; rintro e w4 ⟨rfl, hd4, hk4⟩; have D4 := Lib.hid hd4; have K4 : Hid (Kp devT B w w4) := Lib.hid ((Kp.of_below (by rw [← HA.out]; exact b1.out)).trans hk4); clear hd4 hk4)
  go_ret
  exact ⟨rfl, D4.out, K4.out⟩

end Go.Proofs.YtgjckddcnmbceaaGreatDoor

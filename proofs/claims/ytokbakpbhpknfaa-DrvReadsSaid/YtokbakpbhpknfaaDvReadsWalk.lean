/-
  The walk of the law DrvReads. Condition: the text is no longer than memory.
-/
import Derived.Test.YtokbakpbhpknfaaDvAwake
namespace Go.Proofs.Ytokbakpbhpknfaa
open Go.RowKit
set_option linter.unusedVariables false

set_option maxRecDepth 100000 in
set_option maxHeartbeats 8000000 in
theorem walk_DrvReads (w : World) (s : ByteArray) (hm : s.size ≤ 140737488355328) :
    Calls Try.prog 4 #[.string s] w fun e w' => e = .returned (.bool true) ∧ Below w.heap.size w w' := by
  by_cases h2 : s.size ≤ 20000
  · have h2' : ¬ (s.size : Int) > 20000 := by omega
    have k1 := fun w => readd_any s w (by omega)
    have k2 := fun w => rreadd_any s w (by omega)
    have hsm := readD_small s.data.toList
    have hsl : s.data.toList.length = s.size := by simp
    unfold ReadP at k1 k2
    obtain ⟨D, hD⟩ : ∃ D, D = (readD s.data.toList).1 := ⟨_, rfl⟩
    obtain ⟨k, hk⟩ : ∃ k, k = (readD s.data.toList).2 := ⟨_, rfl⟩
    rw [← hD, ← hk] at k1 k2
    rw [← hD] at hsm
    have hs1 : D.drvs.length ≤ 20000 := by omega
    have hs2 : D.srcs.length ≤ 20000 := by omega
    have K1 := Lib.hid k1
    have K2 := Lib.hid k2
    clear k1 k2 hsm hsl hD hk
    go_enter Try.func4, Try.ntmps4
    go_wp2_with fail
    refine (awake_any _).mono ?_
    rintro e w1 ⟨rfl, b1⟩
    have B1 := Lib.hid b1
    clear b1
    go_wp2_with fail
    refine (K1.out _).mono ?_
    rintro e w2 ⟨v, rfl, ⟨a1, n1, c1, a2, n2, c2, rfl, i1, i2⟩, b2⟩
    have B2 : Hid (Below w.heap.size w w2) := Lib.hid (B1.out.trans (b2.mono B1.out.size))
    clear b2 K1 B1
    obtain ⟨S0, hS0⟩ : ∃ s, s = bs D.name := ⟨_, rfl⟩
    obtain ⟨S3, hS3⟩ : ∃ s, s = bs D.recipe := ⟨_, rfl⟩
    obtain ⟨S4, hS4⟩ : ∃ s, s = bs D.fixed := ⟨_, rfl⟩
    rw [← hS0, ← hS3, ← hS4]
    obtain ⟨L5, hL5⟩ : ∃ L : List Value, L = [.string S0, .slice a1 n1 c1, .slice a2 n2 c2, .string S3, .string S4] := ⟨_, rfl⟩
    have hag : (#[.string S0, .slice a1 n1 c1, .slice a2 n2 c2, .string S3, .string S4] : Array Value) = L5.toArray := by rw [hL5]
    have HLI : Hid ((Try.prog.info? 24).map (·.size) = some L5.toArray.size) := Lib.hid (by rw [hL5]; exact info_dL _ _ _ _ _ _ _ _ _)
    have HLO : Hid (L5.toArray.all (·.oneCell') = true) := Lib.hid (by rw [hL5]; exact drv5 _ _ _ _ _ _ _ _ _)
    have HLS : Hid (dzL.toArray.size = L5.toArray.size) := Lib.hid (by rw [hL5]; rfl)
    rw [hag]
    obtain ⟨v1, v2⟩ := var_drv (w := w2) L5
    have NW := Lib.hid (show Has (w2.alloc (.cells dzL.toArray 24)) w2.heap.size dzL 24 from Has.new w2 dzL _)
    obtain ⟨g, hg⟩ : ∃ g, g = w2.heap.size := ⟨_, rfl⟩
    have HGG := Lib.hid hg
    have HL5 := Lib.hid hL5
    have HS0 := Lib.hid hS0
    have HS3 := Lib.hid hS3
    have HS4 := Lib.hid hS4
    have V1 := Lib.hid v1
    have V2 := Lib.hid v2
    have I1 := Lib.hid i1
    have I2 := Lib.hid i2
    clear v1 v2 i1 i2 hag hL5 hg hS0 hS3 hS4
    go_upto_region 4 with (refine wpList_store_row rfl 24 _ _ rfl w2.heap.size L5.toArray rfl rfl 24 _ NW.out HLI.out HLS.out HLO.out ?_)
    obtain ⟨w3, hw3⟩ : ∃ x, x = (w2.alloc (.cells #[.string ⟨#[]⟩, .slice none 0 0, .slice none 0 0, .string ⟨#[]⟩, .string ⟨#[]⟩] 24)).setRow w2.heap.size L5.toArray := ⟨_, rfl⟩
    rw [← hw3] at V1 V2 ⊢
    rw [← HGG.out] at V1 ⊢
    have B3 : Hid (Below w.heap.size w w3) := Lib.hid (B2.out.trans (V2.out.mono B2.out.size))
    have J1 := Lib.hid (I1.out.later V2.out)
    have J2 := Lib.hid (I2.out.later V2.out)
    clear hw3 NW V2 B2 I1 I2
    go_wp2_with fail
    refine (K2.out _).mono ?_
    rintro e w4 ⟨v, rfl, ⟨b1, m1, d1, b2, m2, d2, rfl, i1, i2⟩, b4⟩
    have B4 : Hid (Below w.heap.size w w4) := Lib.hid (B3.out.trans (b4.mono B3.out.size))
    have V4 := Lib.hid (V1.out.below b4 V1.out.lt)
    have J14 := Lib.hid (J1.out.later b4)
    have J24 := Lib.hid (J2.out.later b4)
    clear b4 K2 B3 V1 J1 J2
    rw [← HS0.out, ← HS3.out, ← HS4.out]
    obtain ⟨M5, hM5⟩ : ∃ L : List Value, L = [.string S0, .slice b1 m1 d1, .slice b2 m2 d2, .string S3, .string S4] := ⟨_, rfl⟩
    have hag : (#[.string S0, .slice b1 m1 d1, .slice b2 m2 d2, .string S3, .string S4] : Array Value) = M5.toArray := by rw [hM5]
    have HMI : Hid ((Try.prog.info? 24).map (·.size) = some M5.toArray.size) := Lib.hid (by rw [hM5]; exact info_dL _ _ _ _ _ _ _ _ _)
    have HMO : Hid (M5.toArray.all (·.oneCell') = true) := Lib.hid (by rw [hM5]; exact drv5 _ _ _ _ _ _ _ _ _)
    have HMS : Hid (dzL.toArray.size = M5.toArray.size) := Lib.hid (by rw [hM5]; rfl)
    rw [hag]
    obtain ⟨v1, v2⟩ := var_drv (w := w4) M5
    have NW := Lib.hid (show Has (w4.alloc (.cells dzL.toArray 24)) w4.heap.size dzL 24 from Has.new w4 dzL _)
    obtain ⟨g2, hg2⟩ : ∃ g, g = w4.heap.size := ⟨_, rfl⟩
    have HG2 := Lib.hid hg2
    have HM5 := Lib.hid hM5
    have U1 := Lib.hid v1
    have U2 := Lib.hid v2
    have I1 := Lib.hid i1
    have I2 := Lib.hid i2
    clear v1 v2 i1 i2 hag hM5 hg2
    go_upto_region 5 with (refine wpList_store_row rfl 24 _ _ rfl w4.heap.size M5.toArray rfl rfl 24 _ NW.out HMI.out HMS.out HMO.out ?_)
    obtain ⟨w5, hw5⟩ : ∃ x, x = (w4.alloc (.cells #[.string ⟨#[]⟩, .slice none 0 0, .slice none 0 0, .string ⟨#[]⟩, .string ⟨#[]⟩] 24)).setRow w4.heap.size M5.toArray := ⟨_, rfl⟩
    rw [← hw5] at U1 U2 ⊢
    rw [← HG2.out] at U1 ⊢
    have B5 : Hid (Below w.heap.size w w5) := Lib.hid (B4.out.trans (U2.out.mono B4.out.size))
    have V5 := Lib.hid (V4.out.below U2.out V4.out.lt)
    have hk := dsame_any S0 S3 S4 S0 S3 S4 a1 a2 b1 b2 n1 c1 n2 c2 m1 d1 m2 d2 _ _ _ _ w5 (J14.out.later U2.out) (J24.out.later U2.out) (I1.out.later U2.out) (I2.out.later U2.out)
      (by have := J14.out.length; rw [List.length_map] at this; omega) (by have := J24.out.length; rw [List.length_map] at this; omega) (by have := I1.out.length; rw [List.length_map] at this; omega) (by have := I2.out.length; rw [List.length_map] at this; omega)
    rw [show (#[.string S0, .slice b1 m1 d1, .slice b2 m2 d2, .string S3, .string S4] : Array Value) = M5.toArray by rw [HM5.out], show (#[.string S0, .slice a1 n1 c1, .slice a2 n2 c2, .string S3, .string S4] : Array Value) = L5.toArray by rw [HL5.out]] at hk
    have HK := Lib.hid hk
    clear hk hw5 NW U2 B4 I1 I2 J14 J24 V4
    go_wp2_with (first | (refine wpList_load_rowG (by rfl) 24 _ rfl g rfl 24 L5.toArray (0, 0) _ V5.out Try.underlying24 rfl HLI.out ?_) | (refine wpList_load_rowG (by rfl) 24 _ rfl g2 rfl 24 M5.toArray (0, 0) _ U1.out Try.underlying24 rfl HMI.out ?_))
    refine HK.out.mono ?_
    rintro e w6 ⟨b, rfl, hb, b6⟩
    obtain rfl : b = true := hb.2 ⟨rfl, rfl, rfl, rfl, rfl⟩
    have B6 : Hid (Below w.heap.size w w6) := Lib.hid (B5.out.trans (b6.mono B5.out.size))
    clear hb b6 HK
    go_wp2_with fail
    go_ret
    exact ⟨rfl, B6.out⟩
  · have h2' : (s.size : Int) > 20000 := by omega
    go_enter Try.func4, Try.ntmps4
    go_wp2_with fail
    refine (awake_any _).mono ?_
    rintro e w1 ⟨rfl, b1⟩
    have B1 := Lib.hid b1
    clear b1
    go_wp2_with fail
    refine (awake_any _).mono ?_
    rintro e w2 ⟨rfl, b2⟩
    have B2 : Hid (Below w.heap.size w w2) := Lib.hid (B1.out.trans (b2.mono B1.out.size))
    clear b2
    go_wp2_with fail
    go_ret
    exact ⟨rfl, B2.out⟩
end Go.Proofs.Ytokbakpbhpknfaa

/-
  The statement Rows.RecipeReadsCardSaid: for every input the law RecipeReads returns true, and each argument reads as it read; the first state and the primes are those of the program's text. Conditions: none of its own.
-/
import Derived.Deep.QuietTactic
import Derived.BigQuiet
import Derived.Test.YtlccdenafnekjaaGreatDoorCards
import Derived.Test.YtlccdenafnekjaaGreatDoorTie
import Derived.Test.YtlccdenafnekjaaGreatDoorMf
namespace Go.Proofs.YtlccdenafnekjaaGreatDoor
open Go.RowKit
set_option linter.unusedVariables false
set_option maxRecDepth 100000

theorem spl_fuel1 (n : Nat) (t : List UInt8) (acc : List (List UInt8)) : splN (n + 1) (32 :: t) acc = splN (n + 1) t acc := rfl
theorem spl_blank (t : List UInt8) (acc : List (List UInt8)) : splN ((32 :: t).length + 1) (32 :: t) acc = splN (t.length + 1) t acc := by
  rw [spl_fuel1]
  exact splN_fuel _ _ t acc (by rw [List.length_cons]; omega) (by omega)
theorem dropBl_not {c : UInt8} (t : List UInt8) (h : c ≠ 32) : dropBl (c :: t) = c :: t := by
  unfold dropBl
  rw [List.dropWhile_cons, if_neg (by simpa using h)]
theorem take_word (w r : List UInt8) (hw : ∀ x ∈ w, x ≠ 32) (hr : r = [] ∨ r.head? = some 32) : (w ++ r).takeWhile notBl = w ∧ (w ++ r).dropWhile notBl = r := by
  induction w with
  | nil =>
    rcases hr with rfl | hr
    · exact ⟨rfl, rfl⟩
    · cases r with
      | nil => cases hr
      | cons d t =>
        obtain rfl : d = 32 := by simpa using hr
        exact ⟨rfl, rfl⟩
  | cons x w ih =>
    have hx : notBl x = true := by unfold notBl; rw [bne_iff_ne]; exact hw x (by simp)
    have ih2 := ih (fun y hy => hw y (by simp [hy]))
    rw [List.cons_append, List.takeWhile_cons, List.dropWhile_cons, if_pos hx, if_pos hx, ih2.1, ih2.2]
    exact ⟨rfl, rfl⟩
theorem read_plain {c : UInt8} {t w r : List UInt8} (he : c :: t = w ++ r) (hc : c ≠ 34) (hw : ∀ x ∈ w, x ≠ 32 ∧ x ≠ 34 ∧ x ≠ 92) (hr : r = [] ∨ r.head? = some 32) : readW (c :: t) = some (w, r) := by
  have h := take_word w r (fun x hx => (hw x hx).1) hr
  rw [readW_cons, if_neg hc, he, h.1, h.2, if_pos]
  exact (okW_iff w).2 ⟨fun hh => (hw 34 hh).2.1 rfl, fun hh => (hw 92 hh).2.2 rfl⟩
theorem read_bad {c x : UInt8} {t w r : List UInt8} (he : c :: t = w ++ x :: r) (hc : c ≠ 34) (hw : ∀ y ∈ w, y ≠ 32) (hx : x = 34 ∨ x = 92) : readW (c :: t) = none := by
  have hm : ∀ (w : List UInt8), (∀ y ∈ w, y ≠ 32) → x ∈ (w ++ x :: r).takeWhile notBl := fun w => by
    have hx2 : notBl x = true := by rcases hx with rfl | rfl <;> rfl
    induction w with
    | nil => intro _; rw [List.nil_append, List.takeWhile_cons, if_pos hx2]; simp
    | cons y w ih =>
      intro h
      have hy : notBl y = true := by unfold notBl; rw [bne_iff_ne]; exact h y (by simp)
      rw [List.cons_append, List.takeWhile_cons, if_pos hy]
      exact List.mem_cons_of_mem _ (ih (fun z hz => h z (by simp [hz])))
  rw [readW_cons, if_neg hc, he, if_neg]
  rw [okW_iff]
  rintro ⟨h1, h2⟩
  have := hm w hw
  rcases hx with rfl | rfl
  · exact h1 this
  · exact h2 this
/-- What the reference's words tell. -/
def RWP (w : World) (r : Option (List (List UInt8))) (e : Ending) (w' : World) : Prop := ∃ u v, e = .returned (.tuple #[u, v]) ∧ SP w w' r u v ∧ Below w.heap.size w w'
theorem rwp_no {w w' : World} {r : Option (List (List UInt8))} {e : Ending} (h : r = none) (he : e = .returned (.tuple #[.slice none 0 0, .bool false])) (hb : Below w.heap.size w w') : RWP w r e w' :=
  ⟨_, _, he, by rw [h]; exact ⟨rfl, rfl⟩, hb⟩
theorem u8_ne {c d : UInt8} (h : c ≠ d) : ¬ (c.toNat : Int) = (d.toNat : Int) := fun e => h (UInt8.toNat_inj.1 (by omega))
set_option maxHeartbeats 40000000 in
theorem rwords_any (s : ByteArray) (w : World) (hs : s.size ≤ 100000) : Calls Tryz.prog 28 #[.string s] w (RWP w (wordsF s.data.toList)) := by
  obtain ⟨is, hi0, hz0, hz1, hz2⟩ := info_p (P := Tryz.prog) (t := 9) (z := .string ByteArray.empty) (s := 1) (b := 16) (by kernel_rfl)
  obtain ⟨ib, hj0, hy0, hy1, hy2⟩ := info_p info_b8
  have HIS := Lib.hid hi0
  have HS0 := Lib.hid hz0
  have HS1 := Lib.hid hz1
  have HS2 := Lib.hid hz2
  have HIB := Lib.hid hj0
  have HB0 := Lib.hid hy0
  have HB1 := Lib.hid hy1
  have HB2 := Lib.hid hy2
  have HSS := Lib.hid hs
  have HSL : Hid (s.data.toList.length = s.size) := Lib.hid (by simp)
  obtain ⟨W, hW⟩ : ∃ W, W = wordsF s.data.toList := ⟨_, rfl⟩
  have HW0 : Hid (splN ((s.data.toList.drop 0).length + 1) (s.data.toList.drop 0) [] = W) := Lib.hid (by rw [hW, List.drop_zero]; rfl)
  rw [← hW]
  clear hi0 hz0 hz1 hz2 hj0 hy0 hy1 hy2 hs hW
  go_enter Tryz.func28, Tryz.ntmps28
  go_wp2_with fail
  go_loopw [4, 5] (fun v4 v5 wr => ∃ (i : Nat) (acc : List (List UInt8)), i ≤ s.size ∧ v5 = .int .i64 (i : Int) ∧ Hid (splN ((s.data.toList.drop i).length + 1) (s.data.toList.drop i) acc = W) ∧ Hid (acc.length ≤ i) ∧ Hid (wr.ownsRow w.heap.size 9 1 v4 acc.length (acc.map strV)) ∧ Hid (Below w.heap.size w wr)) (fun _ v5 _ => s.size - (intOf v5).toNat)
  case atStart => exact ⟨0, [], Nat.zero_le _, rfl, HW0, Lib.hid (Nat.le_refl _), Lib.hid (World.ownsRow_nil _ _ _ _), Lib.hid (Below.refl _ _)⟩
  case round =>
    obtain ⟨i, acc, hi, rfl, HQ, HA, HO, HB⟩ := hrel
    have hib : (i : Int) ≤ 100000 := by have := HSS.out; omega
    by_cases hlt : i < s.size
    · have hki : (i : Int) < (s.size : Int) := by omega
      have hget := str_get s i hlt
      have HDR := Lib.hid (drop_cons hlt)
      obtain ⟨c, hc⟩ : ∃ c, c = s.data.toList.getD i 0 := ⟨_, rfl⟩
      rw [← hc] at hget HDR
      have HLT := Lib.hid hlt
      clear hc
      by_cases h32 : c = 32
      · have hc32 : (c.toNat : Int) = 32 := by rw [h32]; rfl
        have HQ2 : Hid (splN ((s.data.toList.drop (i + 1)).length + 1) (s.data.toList.drop (i + 1)) acc = W) := Lib.hid (by
          have := HQ.out
          rwa [HDR.out, h32, spl_blank] at this)
        clear HQ h32 HDR
        go_wp2_with fail
        go_roundw
        case rel => exact ⟨i + 1, acc, HLT.out, by first | go_num | rfl, HQ2, Lib.hid (by have := HA.out; omega), HO, HB⟩
        case measure => have := HLT.out; simp [intOf]; omega
      · have hc32 : ¬ (c.toNat : Int) = 32 := u8_ne h32
        have hc32e : ((c.toNat : Int) == 32) = false := beq_eq_false_iff_ne.2 hc32
        have hc32n : ((c.toNat : Int) != 32) = true := bne_iff_ne.2 hc32
        have HBL : Hid (dropBl (s.data.toList.drop i) = c :: s.data.toList.drop (i + 1)) := Lib.hid (by rw [HDR.out]; exact dropBl_not _ h32)
        by_cases h34 : c = 34
        · have hc34 : (c.toNat : Int) = 34 := by rw [h34]; rfl
          have HRD : Hid (readW (c :: s.data.toList.drop (i + 1)) = qd (s.data.toList.drop (i + 1)) []) := Lib.hid (by rw [readW_cons, if_pos h34])
          clear h32 h34 HDR
          go_wp2_with fail
          obtain ⟨W0, rfl⟩ : ∃ W0, W0 = wr := ⟨_, rfl⟩
          go_loopw [5, 6] (fun v5 v6 wr => ∃ (j : Nat) (a : List UInt8), i < j ∧ j ≤ s.size ∧ v5 = .int .i64 (j : Int) ∧ Hid (qd (s.data.toList.drop j) a = qd (s.data.toList.drop (i + 1)) []) ∧ Hid (a.length ≤ j) ∧ Hid (wr.ownsRow W0.heap.size 5 1 v6 a.length (a.map bv)) ∧ Hid (Below W0.heap.size W0 wr)) (fun v5 _ _ => s.size - (intOf v5).toNat)
          case atStart => exact ⟨i + 1, [], Nat.lt_succ_self _, HLT.out, by first | go_num | rfl, Lib.hid rfl, Lib.hid (Nat.zero_le _), Lib.hid (World.ownsRow_nil _ _ _ _), Lib.hid (Below.refl _ _)⟩
          case round =>
            obtain ⟨j, a, hij, hj, rfl, HK, HAL, HOW, HBW⟩ := hrel
            have HIJ := Lib.hid hij
            have hjb : (j : Int) ≤ 100000 := by have := HSS.out; omega
            have HBX : Hid (Below w.heap.size w wr) := Lib.hid (HB.out.trans (HBW.out.mono HB.out.size))
            by_cases hjt : j < s.size
            · have hji : (j : Int) < (s.size : Int) := by omega
              have hgj := str_get s j hjt
              have HDJ := Lib.hid (drop_cons hjt)
              obtain ⟨x, hx⟩ : ∃ x, x = s.data.toList.getD j 0 := ⟨_, rfl⟩
              rw [← hx] at hgj HDJ
              have HJT := Lib.hid hjt
              clear hx
              by_cases x34 : x = 34
              · -- the end of the word
                have hx34 : (x.toNat : Int) = 34 := by rw [x34]; rfl
                have HK2 : Hid (qd (s.data.toList.drop (i + 1)) [] = if s.data.toList.drop (j + 1) = [] then some (a, []) else if (s.data.toList.drop (j + 1)).head? = some 32 then some (a, s.data.toList.drop (j + 1)) else none) := Lib.hid (by rw [← HK.out, HDJ.out, x34, qd_close])
                have HOUT := Lib.hid (own_below HO.out HBW.out)
                obtain ⟨va, vc, hva, hvb⟩ := isB_owned HOW.out (by have := HAL.out; have := HSS.out; omega)
                subst hva
                have HVB := Lib.hid hvb
                clear HK x34 hvb
                by_cases hend : j + 1 < s.size
                · have hei : (j : Int) + 1 < (s.size : Int) := by omega
                  have hge := str_get s (j + 1) hend
                  have HDE := Lib.hid (drop_cons hend)
                  obtain ⟨y, hy⟩ : ∃ y, y = s.data.toList.getD (j + 1) 0 := ⟨_, rfl⟩
                  rw [← hy] at hge HDE
                  clear hy
                  by_cases y32 : y = 32
                  · have hy32 : (y.toNat : Int) = 32 := by rw [y32]; rfl
                    have HRW : Hid (readW (c :: s.data.toList.drop (i + 1)) = some (a, s.data.toList.drop (j + 1))) := Lib.hid (by rw [HRD.out, HK2.out, HDE.out, if_neg (by simp), if_pos (by rw [y32]; rfl)])
                    have HQ2 : Hid (splN ((s.data.toList.drop (j + 1)).length + 1) (s.data.toList.drop (j + 1)) (acc ++ [a]) = W) := Lib.hid (by rw [← HQ.out]; exact ((splN_word acc HBL.out HRW.out).1).symm)
                    clear HK2 HQ HRD HDE y32
                    have hcv := conv_isB HVB.out
                    obtain ⟨wb, hwb⟩ : ∃ wb : ByteArray, (⟨a.toArray⟩ : ByteArray) = wb := ⟨_, rfl⟩
                    have HWB : Hid (strV a = .string wb) := Lib.hid (by rw [← hwb]; rfl)
                    rw [hwb] at hcv
                    clear hwb
                    go_wp2_with (at_builtin; go_must (refine wpList_append_lies _ rfl (.tmp 117) (.tmp 120) 34 rfl w.heap.size 9 is (.string ByteArray.empty) 1 16 Tryz.underlying34 HIS.out HS0.out HS1.out HS2.out rfl (by omega) _ acc.length (acc.map strV) rfl (HOUT.out.alloc _) ⟨wr.heap.size, 0, none⟩ 1 1 [.string wb] rfl rfl ?b1a ?b1b ?b1c ?b1d ?b1e ?b1f _ rfl ?b1g))
                    try (case b1a => (intro j0 u hj0; rw [Addr.add_lit]; exact (Has.new wr [.string wb] _).cellAt (by rw [Nat.zero_add]; exact hj0)))
                    try (case b1b => first | rfl | (intro u hu; simp only [List.mem_cons, List.not_mem_nil, or_false] at hu; rcases hu with rfl; rfl))
                    try (case b1c => omega)
                    try (case b1d => (have := HA.out; have := HSS.out; unfold maxLen; omega))
                    try (case b1e => (have := HA.out; have := HSS.out; omega))
                    try (case b1f => (have := HBX.out.size; simp; omega))
                    intro g1 cap1 w3 hown hgrow hat hlt2
                    have HB3 : Hid (Below w.heap.size w w3) := Lib.hid ((HBX.out.alloc HBX.out.size _).grown hgrow (by have := HBX.out.size; simp; omega) (fun k hk => (HOUT.out.lt k hk).1))
                    have HO3 : Hid (w3.ownsRow w.heap.size 9 1 (.slice (some ⟨g1, 0, none⟩) (acc.length + 1) cap1) (acc ++ [a]).length ((acc ++ [a]).map strV)) := Lib.hid (by rw [List.length_append, List.map_append, List.map_singleton, HWB.out]; exact hown)
                    clear hown hgrow hat hlt2
                    go_wp2_with fail
                    go_roundw
                    case rel => exact ⟨j + 1, acc ++ [a], by first | exact HJT.out | exact Nat.le_refl _ | omega, by first | go_num | rfl, HQ2, Lib.hid (by rw [List.length_append, List.length_singleton]; have := HA.out; have := HIJ.out; omega), HO3, HB3⟩
                    case measure => have := HLT.out; have := HIJ.out; have := HSS.out; simp [intOf]; omega
                  · have hy32 : ¬ (y.toNat : Int) = 32 := u8_ne y32
                    have hy32e : ((y.toNat : Int) == 32) = false := beq_eq_false_iff_ne.2 hy32
                    have hy32n : ((y.toNat : Int) != 32) = true := bne_iff_ne.2 hy32
                    have HEND : Hid (W = none) := Lib.hid (by rw [← HQ.out]; exact splN_bad acc HBL.out (by rw [HRD.out, HK2.out, HDE.out, if_neg (by simp), if_neg (by simpa using y32)]))
                    clear y32
                    go_wp2_with fail
                    go_ret2
                    exact rwp_no HEND.out rfl HBX.out
                · have hei : ¬ (j : Int) + 1 < (s.size : Int) := by omega
                  have hdn : s.data.toList.drop (j + 1) = [] := List.drop_of_length_le (by rw [HSL.out]; omega)
                  have HRW : Hid (readW (c :: s.data.toList.drop (i + 1)) = some (a, s.data.toList.drop (j + 1))) := Lib.hid (by rw [HRD.out, HK2.out, if_pos hdn, hdn])
                  have HQ2 : Hid (splN ((s.data.toList.drop (j + 1)).length + 1) (s.data.toList.drop (j + 1)) (acc ++ [a]) = W) := Lib.hid (by rw [← HQ.out]; exact ((splN_word acc HBL.out HRW.out).1).symm)
                  clear HK2 HQ HRD hdn
                  have hcv := conv_isB HVB.out
                  obtain ⟨wb, hwb⟩ : ∃ wb : ByteArray, (⟨a.toArray⟩ : ByteArray) = wb := ⟨_, rfl⟩
                  have HWB : Hid (strV a = .string wb) := Lib.hid (by rw [← hwb]; rfl)
                  rw [hwb] at hcv
                  clear hwb
                  go_wp2_with (at_builtin; go_must (refine wpList_append_lies _ rfl (.tmp 117) (.tmp 120) 34 rfl w.heap.size 9 is (.string ByteArray.empty) 1 16 Tryz.underlying34 HIS.out HS0.out HS1.out HS2.out rfl (by omega) _ acc.length (acc.map strV) rfl (HOUT.out.alloc _) ⟨wr.heap.size, 0, none⟩ 1 1 [.string wb] rfl rfl ?c2a ?c2b ?c2c ?c2d ?c2e ?c2f _ rfl ?c2g))
                  try (case c2a => (intro j0 u hj0; rw [Addr.add_lit]; exact (Has.new wr [.string wb] _).cellAt (by rw [Nat.zero_add]; exact hj0)))
                  try (case c2b => first | rfl | (intro u hu; simp only [List.mem_cons, List.not_mem_nil, or_false] at hu; rcases hu with rfl; rfl))
                  try (case c2c => omega)
                  try (case c2d => (have := HA.out; have := HSS.out; unfold maxLen; omega))
                  try (case c2e => (have := HA.out; have := HSS.out; omega))
                  try (case c2f => (have := HBX.out.size; simp; omega))
                  intro g1 cap1 w3 hown hgrow hat hlt2
                  have HB3 : Hid (Below w.heap.size w w3) := Lib.hid ((HBX.out.alloc HBX.out.size _).grown hgrow (by have := HBX.out.size; simp; omega) (fun k hk => (HOUT.out.lt k hk).1))
                  have HO3 : Hid (w3.ownsRow w.heap.size 9 1 (.slice (some ⟨g1, 0, none⟩) (acc.length + 1) cap1) (acc ++ [a]).length ((acc ++ [a]).map strV)) := Lib.hid (by rw [List.length_append, List.map_append, List.map_singleton, HWB.out]; exact hown)
                  clear hown hgrow hat hlt2
                  go_wp2_with fail
                  go_roundw
                  case rel => exact ⟨j + 1, acc ++ [a], by first | exact HJT.out | exact Nat.le_refl _ | omega, by first | go_num | rfl, HQ2, Lib.hid (by rw [List.length_append, List.length_singleton]; have := HA.out; have := HIJ.out; omega), HO3, HB3⟩
                  case measure => have := HLT.out; have := HIJ.out; have := HSS.out; simp [intOf]; omega
              · have hx34 : ¬ (x.toNat : Int) = 34 := u8_ne x34
                have hx34e : ((x.toNat : Int) == 34) = false := beq_eq_false_iff_ne.2 hx34
                have hx34n : ((x.toNat : Int) != 34) = true := bne_iff_ne.2 hx34
                by_cases x92 : x = 92
                · have hx92 : (x.toNat : Int) = 92 := by rw [x92]; rfl
                  by_cases hend : j + 1 < s.size
                  · have hei : ¬ (s.size : Int) ≤ (j : Int) + 1 := by omega
                    have hei2 : (j : Int) + 1 < (s.size : Int) := by omega
                    have hge := str_get s (j + 1) hend
                    have HDE := Lib.hid (drop_cons hend)
                    obtain ⟨y, hy⟩ : ∃ y, y = s.data.toList.getD (j + 1) 0 := ⟨_, rfl⟩
                    rw [← hy] at hge HDE
                    have HEN := Lib.hid hend
                    have HK2 : Hid (qd (92 :: y :: s.data.toList.drop (j + 1 + 1)) a = qd (s.data.toList.drop (i + 1)) []) := Lib.hid (by rw [← HK.out, HDJ.out, x92, HDE.out])
                    clear hy HK HDJ x92 x34
                    by_cases y110 : y = 110
                    · have hyd : (y.toNat : Int) = 110 := by rw [y110]; rfl
                      have HK3 : Hid (qd (s.data.toList.drop (j + 1 + 1)) (a ++ [10]) = qd (s.data.toList.drop (i + 1)) []) := Lib.hid (by rw [← HK2.out, y110]; exact (qd_esc 110 _ a rfl).symm)
                      clear HK2 y110
                      go_wp2_with (at_builtin; go_must (refine wpList_append_lies _ rfl (.tmp 91) (.tmp 93) 33 rfl W0.heap.size 5 ib (.int .u8 0) 1 1 Tryz.underlying33 HIB.out HB0.out HB1.out HB2.out rfl (by omega) _ a.length (a.map bv) rfl (HOW.out.alloc _) ⟨wr.heap.size, 0, none⟩ 1 1 [.int .u8 ((10 : UInt8).toNat : Int)] rfl rfl ?h7a ?h7b ?h7c ?h7d ?h7e ?h7f _ rfl ?h7g))
                      try (case h7a => (intro j0 u hj0; rw [Addr.add_lit]; exact (Has.new wr [.int .u8 ((10 : UInt8).toNat : Int)] _).cellAt (by rw [Nat.zero_add]; exact hj0)))
                      try (case h7b => first | rfl | (intro u hu; simp only [List.mem_cons, List.not_mem_nil, or_false] at hu; rcases hu with rfl; rfl))
                      try (case h7c => omega)
                      try (case h7d => (have := HAL.out; have := HSS.out; unfold maxLen; omega))
                      try (case h7e => (have := HAL.out; have := HSS.out; omega))
                      try (case h7f => (have := HBW.out.size; simp; omega))
                      intro g1 cap1 w3 hown hgrow hat hlt2
                      have HBW3 : Hid (Below W0.heap.size W0 w3) := Lib.hid ((HBW.out.alloc HBW.out.size _).grown hgrow (by have := HBW.out.size; simp; omega) (fun k hk => (HOW.out.lt k hk).1))
                      have HOW3 : Hid (w3.ownsRow W0.heap.size 5 1 (.slice (some ⟨g1, 0, none⟩) (a.length + 1) cap1) (a ++ [(10 : UInt8)]).length ((a ++ [(10 : UInt8)]).map bv)) := Lib.hid (by rw [List.length_append, List.map_append]; exact hown)
                      clear hown hgrow hat hlt2
                      go_wp2_with fail
                      go_roundw
                      case rel => exact ⟨j + 1 + 1, a ++ [10], by have := HIJ.out; omega, HEN.out, by first | go_num | rfl, HK3, Lib.hid (by rw [List.length_append, List.length_singleton]; have := HAL.out; omega), HOW3, HBW3⟩
                      case measure => have := HEN.out; have := HSS.out; simp [intOf]; omega
                    · have hy110 : ¬ (y.toNat : Int) = 110 := u8_ne y110
                      by_cases y116 : y = 116
                      · have hyd : (y.toNat : Int) = 116 := by rw [y116]; rfl
                        have HK3 : Hid (qd (s.data.toList.drop (j + 1 + 1)) (a ++ [9]) = qd (s.data.toList.drop (i + 1)) []) := Lib.hid (by rw [← HK2.out, y116]; exact (qd_esc 116 _ a rfl).symm)
                        clear HK2 y116
                        go_wp2_with (at_builtin; go_must (refine wpList_append_lies _ rfl (.tmp 91) (.tmp 93) 33 rfl W0.heap.size 5 ib (.int .u8 0) 1 1 Tryz.underlying33 HIB.out HB0.out HB1.out HB2.out rfl (by omega) _ a.length (a.map bv) rfl (HOW.out.alloc _) ⟨wr.heap.size, 0, none⟩ 1 1 [.int .u8 ((9 : UInt8).toNat : Int)] rfl rfl ?i8a ?i8b ?i8c ?i8d ?i8e ?i8f _ rfl ?i8g))
                        try (case i8a => (intro j0 u hj0; rw [Addr.add_lit]; exact (Has.new wr [.int .u8 ((9 : UInt8).toNat : Int)] _).cellAt (by rw [Nat.zero_add]; exact hj0)))
                        try (case i8b => first | rfl | (intro u hu; simp only [List.mem_cons, List.not_mem_nil, or_false] at hu; rcases hu with rfl; rfl))
                        try (case i8c => omega)
                        try (case i8d => (have := HAL.out; have := HSS.out; unfold maxLen; omega))
                        try (case i8e => (have := HAL.out; have := HSS.out; omega))
                        try (case i8f => (have := HBW.out.size; simp; omega))
                        intro g1 cap1 w3 hown hgrow hat hlt2
                        have HBW3 : Hid (Below W0.heap.size W0 w3) := Lib.hid ((HBW.out.alloc HBW.out.size _).grown hgrow (by have := HBW.out.size; simp; omega) (fun k hk => (HOW.out.lt k hk).1))
                        have HOW3 : Hid (w3.ownsRow W0.heap.size 5 1 (.slice (some ⟨g1, 0, none⟩) (a.length + 1) cap1) (a ++ [(9 : UInt8)]).length ((a ++ [(9 : UInt8)]).map bv)) := Lib.hid (by rw [List.length_append, List.map_append]; exact hown)
                        clear hown hgrow hat hlt2
                        go_wp2_with fail
                        go_roundw
                        case rel => exact ⟨j + 1 + 1, a ++ [9], by have := HIJ.out; omega, HEN.out, by first | go_num | rfl, HK3, Lib.hid (by rw [List.length_append, List.length_singleton]; have := HAL.out; omega), HOW3, HBW3⟩
                        case measure => have := HEN.out; have := HSS.out; simp [intOf]; omega
                      · have hy116 : ¬ (y.toNat : Int) = 116 := u8_ne y116
                        by_cases y92 : y = 92
                        · have hyd : (y.toNat : Int) = 92 := by rw [y92]; rfl
                          have HK3 : Hid (qd (s.data.toList.drop (j + 1 + 1)) (a ++ [92]) = qd (s.data.toList.drop (i + 1)) []) := Lib.hid (by rw [← HK2.out, y92]; exact (qd_esc 92 _ a rfl).symm)
                          clear HK2 y92
                          go_wp2_with (at_builtin; go_must (refine wpList_append_lies _ rfl (.tmp 91) (.tmp 93) 33 rfl W0.heap.size 5 ib (.int .u8 0) 1 1 Tryz.underlying33 HIB.out HB0.out HB1.out HB2.out rfl (by omega) _ a.length (a.map bv) rfl (HOW.out.alloc _) ⟨wr.heap.size, 0, none⟩ 1 1 [.int .u8 ((92 : UInt8).toNat : Int)] rfl rfl ?j9a ?j9b ?j9c ?j9d ?j9e ?j9f _ rfl ?j9g))
                          try (case j9a => (intro j0 u hj0; rw [Addr.add_lit]; exact (Has.new wr [.int .u8 ((92 : UInt8).toNat : Int)] _).cellAt (by rw [Nat.zero_add]; exact hj0)))
                          try (case j9b => first | rfl | (intro u hu; simp only [List.mem_cons, List.not_mem_nil, or_false] at hu; rcases hu with rfl; rfl))
                          try (case j9c => omega)
                          try (case j9d => (have := HAL.out; have := HSS.out; unfold maxLen; omega))
                          try (case j9e => (have := HAL.out; have := HSS.out; omega))
                          try (case j9f => (have := HBW.out.size; simp; omega))
                          intro g1 cap1 w3 hown hgrow hat hlt2
                          have HBW3 : Hid (Below W0.heap.size W0 w3) := Lib.hid ((HBW.out.alloc HBW.out.size _).grown hgrow (by have := HBW.out.size; simp; omega) (fun k hk => (HOW.out.lt k hk).1))
                          have HOW3 : Hid (w3.ownsRow W0.heap.size 5 1 (.slice (some ⟨g1, 0, none⟩) (a.length + 1) cap1) (a ++ [(92 : UInt8)]).length ((a ++ [(92 : UInt8)]).map bv)) := Lib.hid (by rw [List.length_append, List.map_append]; exact hown)
                          clear hown hgrow hat hlt2
                          go_wp2_with fail
                          go_roundw
                          case rel => exact ⟨j + 1 + 1, a ++ [92], by have := HIJ.out; omega, HEN.out, by first | go_num | rfl, HK3, Lib.hid (by rw [List.length_append, List.length_singleton]; have := HAL.out; omega), HOW3, HBW3⟩
                          case measure => have := HEN.out; have := HSS.out; simp [intOf]; omega
                        · have hy92 : ¬ (y.toNat : Int) = 92 := u8_ne y92
                          by_cases y34 : y = 34
                          · have hyd : (y.toNat : Int) = 34 := by rw [y34]; rfl
                            have HK3 : Hid (qd (s.data.toList.drop (j + 1 + 1)) (a ++ [34]) = qd (s.data.toList.drop (i + 1)) []) := Lib.hid (by rw [← HK2.out, y34]; exact (qd_esc 34 _ a rfl).symm)
                            clear HK2 y34
                            go_wp2_with (at_builtin; go_must (refine wpList_append_lies _ rfl (.tmp 91) (.tmp 93) 33 rfl W0.heap.size 5 ib (.int .u8 0) 1 1 Tryz.underlying33 HIB.out HB0.out HB1.out HB2.out rfl (by omega) _ a.length (a.map bv) rfl (HOW.out.alloc _) ⟨wr.heap.size, 0, none⟩ 1 1 [.int .u8 ((34 : UInt8).toNat : Int)] rfl rfl ?a10a ?a10b ?a10c ?a10d ?a10e ?a10f _ rfl ?a10g))
                            try (case a10a => (intro j0 u hj0; rw [Addr.add_lit]; exact (Has.new wr [.int .u8 ((34 : UInt8).toNat : Int)] _).cellAt (by rw [Nat.zero_add]; exact hj0)))
                            try (case a10b => first | rfl | (intro u hu; simp only [List.mem_cons, List.not_mem_nil, or_false] at hu; rcases hu with rfl; rfl))
                            try (case a10c => omega)
                            try (case a10d => (have := HAL.out; have := HSS.out; unfold maxLen; omega))
                            try (case a10e => (have := HAL.out; have := HSS.out; omega))
                            try (case a10f => (have := HBW.out.size; simp; omega))
                            intro g1 cap1 w3 hown hgrow hat hlt2
                            have HBW3 : Hid (Below W0.heap.size W0 w3) := Lib.hid ((HBW.out.alloc HBW.out.size _).grown hgrow (by have := HBW.out.size; simp; omega) (fun k hk => (HOW.out.lt k hk).1))
                            have HOW3 : Hid (w3.ownsRow W0.heap.size 5 1 (.slice (some ⟨g1, 0, none⟩) (a.length + 1) cap1) (a ++ [(34 : UInt8)]).length ((a ++ [(34 : UInt8)]).map bv)) := Lib.hid (by rw [List.length_append, List.map_append]; exact hown)
                            clear hown hgrow hat hlt2
                            go_wp2_with fail
                            go_roundw
                            case rel => exact ⟨j + 1 + 1, a ++ [34], by have := HIJ.out; omega, HEN.out, by first | go_num | rfl, HK3, Lib.hid (by rw [List.length_append, List.length_singleton]; have := HAL.out; omega), HOW3, HBW3⟩
                            case measure => have := HEN.out; have := HSS.out; simp [intOf]; omega
                          · have hy34 : ¬ (y.toNat : Int) = 34 := u8_ne y34
                            have HEND : Hid (W = none) := Lib.hid (by
                              rw [← HQ.out]
                              refine splN_bad acc HBL.out ?_
                              rw [HRD.out, ← HK2.out]
                              exact qd_escN y _ a (by unfold wval; rw [if_neg y92, if_neg y34, if_neg y110, if_neg y116]))
                            clear y110 y116 y92 y34
                            go_wp2_with fail
                            go_ret2
                            exact rwp_no HEND.out rfl HBX.out
                  · have hei : (s.size : Int) ≤ (j : Int) + 1 := by omega
                    have HEND : Hid (W = none) := Lib.hid (by
                      rw [← HQ.out]
                      refine splN_bad acc HBL.out ?_
                      have hdn : s.data.toList.drop (j + 1) = [] := List.drop_of_length_le (by rw [HSL.out]; omega)
                      rw [HRD.out, ← HK.out, HDJ.out, x92, hdn]
                      exact qd_esc0 a)
                    clear x92 x34
                    go_wp2_with fail
                    go_ret2
                    exact rwp_no HEND.out rfl HBX.out
                · have hx92 : ¬ (x.toNat : Int) = 92 := u8_ne x92
                  have hx92e : ((x.toNat : Int) == 92) = false := beq_eq_false_iff_ne.2 hx92
                  have hx92n : ((x.toNat : Int) != 92) = true := bne_iff_ne.2 hx92
                  have HK2 : Hid (qd (s.data.toList.drop (j + 1)) (a ++ [x]) = qd (s.data.toList.drop (i + 1)) []) := Lib.hid (by rw [← HK.out, HDJ.out]; exact (qd_step x _ a x34 x92).symm)
                  clear HK HDJ x92 x34
                  go_wp2_with (at_builtin; go_must (refine wpList_append_lies _ rfl (.tmp 91) (.tmp 93) 33 rfl W0.heap.size 5 ib (.int .u8 0) 1 1 Tryz.underlying33 HIB.out HB0.out HB1.out HB2.out rfl (by omega) _ a.length (a.map bv) rfl (HOW.out.alloc _) ⟨wr.heap.size, 0, none⟩ 1 1 [.int .u8 (x.toNat : Int)] rfl rfl ?f5a ?f5b ?f5c ?f5d ?f5e ?f5f _ rfl ?f5g))
                  try (case f5a => (intro j0 u hj0; rw [Addr.add_lit]; exact (Has.new wr [.int .u8 (x.toNat : Int)] _).cellAt (by rw [Nat.zero_add]; exact hj0)))
                  try (case f5b => first | rfl | (intro u hu; simp only [List.mem_cons, List.not_mem_nil, or_false] at hu; rcases hu with rfl; rfl))
                  try (case f5c => omega)
                  try (case f5d => (have := HAL.out; have := HSS.out; unfold maxLen; omega))
                  try (case f5e => (have := HAL.out; have := HSS.out; omega))
                  try (case f5f => (have := HBW.out.size; simp; omega))
                  intro g1 cap1 w3 hown hgrow hat hlt2
                  have HBW3 : Hid (Below W0.heap.size W0 w3) := Lib.hid ((HBW.out.alloc HBW.out.size _).grown hgrow (by have := HBW.out.size; simp; omega) (fun k hk => (HOW.out.lt k hk).1))
                  have HOW3 : Hid (w3.ownsRow W0.heap.size 5 1 (.slice (some ⟨g1, 0, none⟩) (a.length + 1) cap1) (a ++ [x]).length ((a ++ [x]).map bv)) := Lib.hid (by rw [List.length_append, List.map_append]; exact hown)
                  clear hown hgrow hat hlt2
                  go_wp2_with fail
                  go_roundw
                  case rel => exact ⟨j + 1, a ++ [x], by have := HIJ.out; omega, HJT.out, by first | go_num | rfl, HK2, Lib.hid (by rw [List.length_append, List.length_singleton]; have := HAL.out; omega), HOW3, HBW3⟩
                  case measure => have := HJT.out; have := HSS.out; simp [intOf]; omega
            · obtain rfl : j = s.size := by omega
              have hji : ¬ (s.size : Int) < (s.size : Int) := by omega
              have hjg : (s.size : Int) ≤ (s.size : Int) := Int.le_refl _
              have HEND : Hid (W = none) := Lib.hid (by
                rw [← HQ.out]
                refine splN_bad acc HBL.out ?_
                have hdn : s.data.toList.drop s.size = [] := List.drop_of_length_le (by rw [HSL.out]; exact Nat.le_refl _)
                rw [HRD.out, ← HK.out, hdn]
                rfl)
              go_wp2_with fail
              go_ret2
              exact rwp_no HEND.out rfl HBX.out
        · have hc34 : ¬ (c.toNat : Int) = 34 := u8_ne h34
          have hc34e : ((c.toNat : Int) == 34) = false := beq_eq_false_iff_ne.2 hc34
          have hc34n : ((c.toNat : Int) != 34) = true := bne_iff_ne.2 hc34
          have HC34 := Lib.hid h34
          have HC32 := Lib.hid h32
          clear h32 h34
          go_wp2_with fail
          obtain ⟨W0, rfl⟩ : ∃ W0, W0 = wr := ⟨_, rfl⟩
          go_loopw [5, 6] (fun v5 v6 wr => ∃ (j : Nat) (a : List UInt8), i ≤ j ∧ j ≤ s.size ∧ v5 = .int .i64 (j : Int) ∧ Hid (c :: s.data.toList.drop (i + 1) = a ++ s.data.toList.drop j) ∧ Hid (∀ x ∈ a, x ≠ 32 ∧ x ≠ 34 ∧ x ≠ 92) ∧ Hid (a.length ≤ j) ∧ Hid (wr.ownsRow W0.heap.size 5 1 v6 a.length (a.map bv)) ∧ Hid (Below W0.heap.size W0 wr)) (fun v5 _ _ => s.size - (intOf v5).toNat)
          case atStart => exact ⟨i, [], Nat.le_refl _, hi, rfl, Lib.hid (by rw [← HDR.out]; rfl), Lib.hid (fun x hx => by cases hx), Lib.hid (Nat.zero_le _), Lib.hid (World.ownsRow_nil _ _ _ _), Lib.hid (Below.refl _ _)⟩
          case round =>
            obtain ⟨j, a, hij, hj, rfl, HE, HN, HAL, HOW, HBW⟩ := hrel
            have HIJ := Lib.hid hij
            have hjb : (j : Int) ≤ 100000 := by have := HSS.out; omega
            have HBX : Hid (Below w.heap.size w wr) := Lib.hid (HB.out.trans (HBW.out.mono HB.out.size))
            have HOUT := Lib.hid (own_below HO.out HBW.out)
            by_cases hjt : j < s.size
            · have hji : (j : Int) < (s.size : Int) := by omega
              have hgj := str_get s j hjt
              have HDJ := Lib.hid (drop_cons hjt)
              obtain ⟨x, hx⟩ : ∃ x, x = s.data.toList.getD j 0 := ⟨_, rfl⟩
              rw [← hx] at hgj HDJ
              have HJT := Lib.hid hjt
              clear hx
              by_cases x32 : x = 32
              · have hx32 : (x.toNat : Int) = 32 := by rw [x32]; rfl
                have HLJ : Hid (i < j) := Lib.hid (by
                  by_cases e : j = i
                  · subst e
                    have h1 := HDJ.out
                    rw [HDR.out] at h1
                    injection h1 with h2 _
                    exact absurd (h2.trans x32) HC32.out
                  · have := HIJ.out; omega)
                have HRW : Hid (readW (c :: s.data.toList.drop (i + 1)) = some (a, s.data.toList.drop j)) := Lib.hid (read_plain HE.out HC34.out HN.out (.inr (by rw [HDJ.out, x32]; rfl)))
                have HQ2 : Hid (splN ((s.data.toList.drop j).length + 1) (s.data.toList.drop j) (acc ++ [a]) = W) := Lib.hid (by rw [← HQ.out]; exact ((splN_word acc HBL.out HRW.out).1).symm)
                obtain ⟨va, vc, hva, hvb⟩ := isB_owned HOW.out (by have := HAL.out; have := HSS.out; omega)
                subst hva
                have HVB := Lib.hid hvb
                clear HQ x32 hvb HDJ
                have hcv := conv_isB HVB.out
                obtain ⟨wb, hwb⟩ : ∃ wb : ByteArray, (⟨a.toArray⟩ : ByteArray) = wb := ⟨_, rfl⟩
                have HWB : Hid (strV a = .string wb) := Lib.hid (by rw [← hwb]; rfl)
                rw [hwb] at hcv
                clear hwb
                go_wp2_with (at_builtin; go_must (refine wpList_append_lies _ rfl (.tmp 50) (.tmp 53) 34 rfl w.heap.size 9 is (.string ByteArray.empty) 1 16 Tryz.underlying34 HIS.out HS0.out HS1.out HS2.out rfl (by omega) _ acc.length (acc.map strV) rfl (HOUT.out.alloc _) ⟨wr.heap.size, 0, none⟩ 1 1 [.string wb] rfl rfl ?d3a ?d3b ?d3c ?d3d ?d3e ?d3f _ rfl ?d3g))
                try (case d3a => (intro j0 u hj0; rw [Addr.add_lit]; exact (Has.new wr [.string wb] _).cellAt (by rw [Nat.zero_add]; exact hj0)))
                try (case d3b => first | rfl | (intro u hu; simp only [List.mem_cons, List.not_mem_nil, or_false] at hu; rcases hu with rfl; rfl))
                try (case d3c => omega)
                try (case d3d => (have := HA.out; have := HSS.out; unfold maxLen; omega))
                try (case d3e => (have := HA.out; have := HSS.out; omega))
                try (case d3f => (have := HBX.out.size; simp; omega))
                intro g1 cap1 w3 hown hgrow hat hlt2
                have HB3 : Hid (Below w.heap.size w w3) := Lib.hid ((HBX.out.alloc HBX.out.size _).grown hgrow (by have := HBX.out.size; simp; omega) (fun k hk => (HOUT.out.lt k hk).1))
                have HO3 : Hid (w3.ownsRow w.heap.size 9 1 (.slice (some ⟨g1, 0, none⟩) (acc.length + 1) cap1) (acc ++ [a]).length ((acc ++ [a]).map strV)) := Lib.hid (by rw [List.length_append, List.map_append, List.map_singleton, HWB.out]; exact hown)
                clear hown hgrow hat hlt2
                go_wp2_with fail
                go_roundw
                case rel => exact ⟨j, acc ++ [a], by first | exact HJT.out | exact Nat.le_refl _ | omega, by first | go_num | rfl, HQ2, Lib.hid (by rw [List.length_append, List.length_singleton]; have := HA.out; have := HLJ.out; omega), HO3, HB3⟩
                case measure => have := HLT.out; have := HLJ.out; have := HSS.out; simp [intOf]; omega
              · have hx32 : ¬ (x.toNat : Int) = 32 := u8_ne x32
                have hx32e : ((x.toNat : Int) == 32) = false := beq_eq_false_iff_ne.2 hx32
                have hx32n : ((x.toNat : Int) != 32) = true := bne_iff_ne.2 hx32
                by_cases x34 : x = 34
                · have hx34 : (x.toNat : Int) = 34 := by rw [x34]; rfl
                  have HEND : Hid (W = none) := Lib.hid (by
                    rw [← HQ.out]
                    exact splN_bad acc HBL.out (read_bad (by rw [HE.out, HDJ.out]) HC34.out (fun y hy => (HN.out y hy).1) (.inl x34)))
                  clear x34 x32
                  go_wp2_with fail
                  go_ret2
                  exact rwp_no HEND.out rfl HBX.out
                · have hx34 : ¬ (x.toNat : Int) = 34 := u8_ne x34
                  have hx34e : ((x.toNat : Int) == 34) = false := beq_eq_false_iff_ne.2 hx34
                  have hx34n : ((x.toNat : Int) != 34) = true := bne_iff_ne.2 hx34
                  by_cases x92 : x = 92
                  · have hx92 : (x.toNat : Int) = 92 := by rw [x92]; rfl
                    have HEND : Hid (W = none) := Lib.hid (by
                      rw [← HQ.out]
                      exact splN_bad acc HBL.out (read_bad (by rw [HE.out, HDJ.out]) HC34.out (fun y hy => (HN.out y hy).1) (.inr x92)))
                    clear x34 x32 x92
                    go_wp2_with fail
                    go_ret2
                    exact rwp_no HEND.out rfl HBX.out
                  · have hx92 : ¬ (x.toNat : Int) = 92 := u8_ne x92
                    have hx92e : ((x.toNat : Int) == 92) = false := beq_eq_false_iff_ne.2 hx92
                    have hx92n : ((x.toNat : Int) != 92) = true := bne_iff_ne.2 hx92
                    have HE2 : Hid (c :: s.data.toList.drop (i + 1) = (a ++ [x]) ++ s.data.toList.drop (j + 1)) := Lib.hid (by rw [HE.out, HDJ.out, List.append_assoc]; rfl)
                    have HN2 : Hid (∀ y ∈ a ++ [x], y ≠ 32 ∧ y ≠ 34 ∧ y ≠ 92) := Lib.hid (fun y hy => by
                      rcases List.mem_append.1 hy with h | h
                      · exact HN.out y h
                      · rw [List.mem_singleton.1 h]; exact ⟨x32, x34, x92⟩)
                    clear x34 x32 x92 HE HDJ
                    go_wp2_with (at_builtin; go_must (refine wpList_append_lies _ rfl (.tmp 42) (.tmp 46) 33 rfl W0.heap.size 5 ib (.int .u8 0) 1 1 Tryz.underlying33 HIB.out HB0.out HB1.out HB2.out rfl (by omega) _ a.length (a.map bv) rfl (HOW.out.alloc _) ⟨wr.heap.size, 0, none⟩ 1 1 [.int .u8 (x.toNat : Int)] rfl rfl ?g6a ?g6b ?g6c ?g6d ?g6e ?g6f _ rfl ?g6g))
                    try (case g6a => (intro j0 u hj0; rw [Addr.add_lit]; exact (Has.new wr [.int .u8 (x.toNat : Int)] _).cellAt (by rw [Nat.zero_add]; exact hj0)))
                    try (case g6b => first | rfl | (intro u hu; simp only [List.mem_cons, List.not_mem_nil, or_false] at hu; rcases hu with rfl; rfl))
                    try (case g6c => omega)
                    try (case g6d => (have := HAL.out; have := HSS.out; unfold maxLen; omega))
                    try (case g6e => (have := HAL.out; have := HSS.out; omega))
                    try (case g6f => (have := HBW.out.size; simp; omega))
                    intro g1 cap1 w3 hown hgrow hat hlt2
                    have HBW3 : Hid (Below W0.heap.size W0 w3) := Lib.hid ((HBW.out.alloc HBW.out.size _).grown hgrow (by have := HBW.out.size; simp; omega) (fun k hk => (HOW.out.lt k hk).1))
                    have HOW3 : Hid (w3.ownsRow W0.heap.size 5 1 (.slice (some ⟨g1, 0, none⟩) (a.length + 1) cap1) (a ++ [x]).length ((a ++ [x]).map bv)) := Lib.hid (by rw [List.length_append, List.map_append]; exact hown)
                    clear hown hgrow hat hlt2
                    go_wp2_with fail
                    go_roundw
                    case rel => exact ⟨j + 1, a ++ [x], by have := HIJ.out; omega, HJT.out, by first | go_num | rfl, HE2, HN2, Lib.hid (by rw [List.length_append, List.length_singleton]; have := HAL.out; omega), HOW3, HBW3⟩
                    case measure => have := HJT.out; have := HSS.out; simp [intOf]; omega
            · obtain rfl : j = s.size := by omega
              have hji : ¬ (s.size : Int) < (s.size : Int) := by omega
              have hdn : s.data.toList.drop s.size = [] := List.drop_of_length_le (by rw [HSL.out]; exact Nat.le_refl _)
              have HRW : Hid (readW (c :: s.data.toList.drop (i + 1)) = some (a, s.data.toList.drop s.size)) := Lib.hid (read_plain HE.out HC34.out HN.out (.inl hdn))
              have HQ2 : Hid (splN ((s.data.toList.drop s.size).length + 1) (s.data.toList.drop s.size) (acc ++ [a]) = W) := Lib.hid (by rw [← HQ.out]; exact ((splN_word acc HBL.out HRW.out).1).symm)
              have HLJ : Hid (i < s.size) := HLT
              obtain ⟨va, vc, hva, hvb⟩ := isB_owned HOW.out (by have := HAL.out; have := HSS.out; omega)
              subst hva
              have HVB := Lib.hid hvb
              clear HQ hvb hdn
              have hcv := conv_isB HVB.out
              obtain ⟨wb, hwb⟩ : ∃ wb : ByteArray, (⟨a.toArray⟩ : ByteArray) = wb := ⟨_, rfl⟩
              have HWB : Hid (strV a = .string wb) := Lib.hid (by rw [← hwb]; rfl)
              rw [hwb] at hcv
              clear hwb
              go_wp2_with (at_builtin; go_must (refine wpList_append_lies _ rfl (.tmp 50) (.tmp 53) 34 rfl w.heap.size 9 is (.string ByteArray.empty) 1 16 Tryz.underlying34 HIS.out HS0.out HS1.out HS2.out rfl (by omega) _ acc.length (acc.map strV) rfl (HOUT.out.alloc _) ⟨wr.heap.size, 0, none⟩ 1 1 [.string wb] rfl rfl ?e4a ?e4b ?e4c ?e4d ?e4e ?e4f _ rfl ?e4g))
              try (case e4a => (intro j0 u hj0; rw [Addr.add_lit]; exact (Has.new wr [.string wb] _).cellAt (by rw [Nat.zero_add]; exact hj0)))
              try (case e4b => first | rfl | (intro u hu; simp only [List.mem_cons, List.not_mem_nil, or_false] at hu; rcases hu with rfl; rfl))
              try (case e4c => omega)
              try (case e4d => (have := HA.out; have := HSS.out; unfold maxLen; omega))
              try (case e4e => (have := HA.out; have := HSS.out; omega))
              try (case e4f => (have := HBX.out.size; simp; omega))
              intro g1 cap1 w3 hown hgrow hat hlt2
              have HB3 : Hid (Below w.heap.size w w3) := Lib.hid ((HBX.out.alloc HBX.out.size _).grown hgrow (by have := HBX.out.size; simp; omega) (fun k hk => (HOUT.out.lt k hk).1))
              have HO3 : Hid (w3.ownsRow w.heap.size 9 1 (.slice (some ⟨g1, 0, none⟩) (acc.length + 1) cap1) (acc ++ [a]).length ((acc ++ [a]).map strV)) := Lib.hid (by rw [List.length_append, List.map_append, List.map_singleton, HWB.out]; exact hown)
              clear hown hgrow hat hlt2
              go_wp2_with fail
              go_roundw
              case rel => exact ⟨s.size, acc ++ [a], by first | exact HJT.out | exact Nat.le_refl _ | omega, by first | go_num | rfl, HQ2, Lib.hid (by rw [List.length_append, List.length_singleton]; have := HA.out; have := HLJ.out; omega), HO3, HB3⟩
              case measure => have := HLT.out; have := HLJ.out; have := HSS.out; simp [intOf]; omega
    · obtain rfl : i = s.size := by omega
      have hki : ¬ (s.size : Int) < (s.size : Int) := by omega
      have hdn : s.data.toList.drop s.size = [] := List.drop_of_length_le (by rw [HSL.out]; exact Nat.le_refl _)
      have HEND : Hid (W = some acc) := Lib.hid (by rw [← HQ.out, hdn]; exact splN_end acc rfl)
      clear HQ hdn
      go_wp2_with fail
      go_ret2
      exact ⟨_, _, rfl, by rw [HEND.out]; exact ⟨rfl, HO.out⟩, HB.out⟩
end Go.Proofs.YtlccdenafnekjaaGreatDoor
namespace Go.Proofs.YtlccdenafnekjaaGreatDoor
open Go.RowKit
set_option linter.unusedVariables false
set_option maxRecDepth 100000

def namesV : List Value := [.string ⟨#[109, 107, 100, 105, 114]⟩, .string ⟨#[119, 114, 105, 116, 101]⟩, .string ⟨#[97, 112, 112, 101, 110, 100]⟩, .string ⟨#[99, 111, 112, 121]⟩, .string ⟨#[108, 105, 110, 107]⟩, .string ⟨#[101, 120, 101, 99]⟩, .string ⟨#[115, 119, 97, 112]⟩, .string ⟨#[102, 97, 105, 108]⟩]
def countsV : List Value := [.int .i64 1, .int .i64 2, .int .i64 2, .int .i64 3, .int .i64 2, .int .i64 1, .int .i64 3, .int .i64 1]
theorem names_at : ∀ i, i < 8 → namesV[i]? = some (strV (formsF.getD i fmD).2.1)
  | 0, _ => rfl | 1, _ => rfl | 2, _ => rfl | 3, _ => rfl | 4, _ => rfl | 5, _ => rfl | 6, _ => rfl | 7, _ => rfl
  | k + 8, h => absurd h (by omega)
theorem counts_at : ∀ i, i < 8 → countsV[i]? = some (.int .i64 ((formsF.getD i fmD).2.2 : Int))
  | 0, _ => rfl | 1, _ => rfl | 2, _ => rfl | 3, _ => rfl | 4, _ => rfl | 5, _ => rfl | 6, _ => rfl | 7, _ => rfl
  | k + 8, h => absurd h (by omega)
theorem kind_at : ∀ i, i < 8 → (formsF.getD i fmD).1 = i + 1
  | 0, _ => rfl | 1, _ => rfl | 2, _ => rfl | 3, _ => rfl | 4, _ => rfl | 5, _ => rfl | 6, _ => rfl | 7, _ => rfl
  | k + 8, h => absurd h (by omega)
/-- What kind tells. -/
def KdP (l : List UInt8) (k n : Nat) : Prop := (∃ i, i < 8 ∧ (∀ j, j < i → (formsF.getD j fmD).2.1 ≠ l) ∧ (formsF.getD i fmD).2.1 = l ∧ k = (formsF.getD i fmD).1 ∧ n = (formsF.getD i fmD).2.2) ∨ ((∀ j, j < 8 → (formsF.getD j fmD).2.1 ≠ l) ∧ k = 0 ∧ n = 0)
def KdE (l : List UInt8) (w : World) (e : Ending) (w' : World) : Prop := ∃ k n, e = .returned (.tuple #[.int .u8 (k : Nat), .int .i64 (n : Nat)]) ∧ KdP l k n ∧ Below w.heap.size w w'
theorem str_ne {s : ByteArray} {l : List UInt8} (h : l ≠ s.data.toList) : ((⟨l.toArray⟩ : ByteArray).toList == s.toList) = false := by
  rw [Lib.bytes_beq_false_iff]
  intro e
  exact h (by rw [← e])
set_option maxHeartbeats 20000000 in
theorem kind_any (s : ByteArray) (w : World) : Calls Tryz.prog 29 #[.string s] w (KdE s.data.toList w) := by
  obtain ⟨G, hG⟩ : ∃ G, G = w.heap.size := ⟨_, rfl⟩
  obtain ⟨w1, hw1⟩ : ∃ w1, w1 = w.alloc (.cells namesV.toArray 9) := ⟨_, rfl⟩
  have b1 : Below w.heap.size w w1 := by rw [hw1]; exact (Below.refl _ _).alloc (Nat.le_refl _) _
  have g1 : Has w1 G namesV 9 := by rw [hw1, hG]; exact Has.new w namesV _
  have s1 : w1.heap.size = G + 1 := by rw [hw1, hG]; simp
  obtain ⟨w2, hw2⟩ : ∃ w2, w2 = w1.alloc (.cells countsV.toArray 3) := ⟨_, rfl⟩
  have b2 : Below w1.heap.size w1 w2 := by rw [hw2]; exact (Below.refl _ _).alloc (Nat.le_refl _) _
  have g2 : Has w2 (G + 1) countsV 3 := by rw [hw2, ← s1]; exact Has.new w1 countsV _
  have G1 : Hid (Has w2 G namesV 9) := Lib.hid (g1.below b2 g1.lt)
  have G2 := Lib.hid g2
  have HB : Hid (Below w.heap.size w w2) := Lib.hid (b1.trans (b2.mono b1.size))
  have HW1 : Hid (w1 = w.alloc (.cells #[.string ⟨#[109, 107, 100, 105, 114]⟩, .string ⟨#[119, 114, 105, 116, 101]⟩, .string ⟨#[97, 112, 112, 101, 110, 100]⟩, .string ⟨#[99, 111, 112, 121]⟩, .string ⟨#[108, 105, 110, 107]⟩, .string ⟨#[101, 120, 101, 99]⟩, .string ⟨#[115, 119, 97, 112]⟩, .string ⟨#[102, 97, 105, 108]⟩] 9)) := Lib.hid hw1
  have HW2 : Hid (w2 = w1.alloc (.cells #[.int .i64 1, .int .i64 2, .int .i64 2, .int .i64 3, .int .i64 2, .int .i64 1, .int .i64 3, .int .i64 1] 3)) := Lib.hid hw2
  have HG := Lib.hid hG
  have HS1 := Lib.hid s1
  clear hw1 hw2 b1 b2 g1 g2 hG s1
  go_enter Tryz.func29, Tryz.ntmps29
  go_upto_region 2 with fail
  rw [← HW1.out, ← HG.out]
  go_upto_region 3 with fail
  rw [← HW2.out, HS1.out]
  clear HW1 HW2
  go_wp2_with fail
  go_loopw [6] (fun v6 wr => ∃ i : Nat, i ≤ 8 ∧ v6 = .int .i64 i ∧ wr = w2 ∧ Hid (∀ j, j < i → (formsF.getD j fmD).2.1 ≠ s.data.toList)) (fun v6 _ => 8 - (intOf v6).toNat)
  case atStart => exact ⟨0, Nat.zero_le _, rfl, rfl, Lib.hid (fun j hj => absurd hj (Nat.not_lt_zero _))⟩
  case round =>
    obtain ⟨i, hi, rfl, rfl, HN⟩ := hrel
    by_cases hlt : i < 8
    · have hii : (i : Int) < 8 := by omega
      have hc : wr.cell? ⟨G, i, none⟩ = some (strV (formsF.getD i fmD).2.1) := G1.out.cellAt (names_at i hlt)
      have hd : wr.cell? ⟨G + 1, i, none⟩ = some (.int .i64 ((formsF.getD i fmD).2.2 : Int)) := G2.out.cellAt (counts_at i hlt)
      obtain ⟨l, hl⟩ : ∃ l, l = (formsF.getD i fmD).2.1 := ⟨_, rfl⟩
      obtain ⟨n, hn⟩ : ∃ n, n = (formsF.getD i fmD).2.2 := ⟨_, rfl⟩
      rw [← hl] at hc
      rw [← hn] at hd
      unfold strV at hc
      have HL := Lib.hid hl
      have HNN := Lib.hid hn
      have HLT := Lib.hid hlt
      have hwr : IntKind.u8.wrap ((i : Int) + 1) = ((i + 1 : Nat) : Int) := by
        match i, hlt with
        | 0, _ => decide | 1, _ => decide | 2, _ => decide | 3, _ => decide | 4, _ => decide | 5, _ => decide | 6, _ => decide | 7, _ => decide
      clear hl hn
      by_cases he : l = s.data.toList
      · have hs : (⟨l.toArray⟩ : ByteArray) = s := bytes_ext (by rw [he])
        have HE := Lib.hid he
        rw [hs] at hc
        clear hs he
        go_wp2_with fail
        go_quiet (fail)
        go_wp2_with fail
        go_ret2
        exact ⟨i + 1, n, rfl, .inl ⟨i, HLT.out, HN.out, by rw [← HL.out]; exact HE.out, (kind_at i HLT.out).symm, HNN.out⟩, below_rf HB.out _⟩
      · have hne := str_ne he
        obtain ⟨U, hU⟩ : ∃ U : ByteArray, U = ⟨l.toArray⟩ := ⟨_, rfl⟩
        rw [← hU] at hne hc
        have HN2 : Hid (∀ j, j < i + 1 → (formsF.getD j fmD).2.1 ≠ s.data.toList) := Lib.hid (fun j hj => by
          by_cases e : j = i
          · rw [e, ← HL.out]; exact he
          · exact HN.out j (by omega))
        clear hU he
        go_wp2_with fail
        go_roundw
        case rel => exact ⟨i + 1, HLT.out, by first | go_num | rfl, by first | rfl | trivial, HN2⟩
        case measure => have := HLT.out; simp [intOf]; omega
    · obtain rfl : i = 8 := by omega
      go_wp2_with fail
      go_ret2
      exact ⟨0, 0, rfl, .inr ⟨HN.out, rfl, rfl⟩, HB.out⟩
end Go.Proofs.YtlccdenafnekjaaGreatDoor
namespace Go.Proofs.YtlccdenafnekjaaGreatDoor
open Go.RowKit
set_option linter.unusedVariables false

/-- A byte of a word in quotes. -/
def qsign (c : UInt8) : List UInt8 := if c = 34 ∨ c = 92 then [92, c] else if c = 10 then [92, 110] else if c = 9 then [92, 116] else [c]
/-- A word in quotes. -/
def quoteF (l : List UInt8) : List UInt8 := 34 :: (l.flatMap qsign ++ [34])
theorem qd_sign (c : UInt8) (r acc : List UInt8) : qd (qsign c ++ r) acc = qd r (acc ++ [c]) := by
  unfold qsign
  by_cases h1 : c = 34 ∨ c = 92
  · rw [if_pos h1]
    exact qd_esc c r acc (by rcases h1 with rfl | rfl <;> rfl)
  · rw [if_neg h1]
    by_cases h2 : c = 10
    · subst h2; exact qd_esc 110 r acc rfl
    · rw [if_neg h2]
      by_cases h3 : c = 9
      · subst h3; exact qd_esc 116 r acc rfl
      · rw [if_neg h3]
        exact qd_step c r acc (fun e => h1 (.inl e)) (fun e => h1 (.inr e))
theorem qd_signs : ∀ (l r acc : List UInt8), (r = [] ∨ r.head? = some 32) → qd (l.flatMap qsign ++ 34 :: r) acc = some (acc ++ l, r)
  | [], r, acc, h => by
    rw [List.flatMap_nil, List.nil_append, qd_close, List.append_nil]
    rcases h with rfl | h
    · rw [if_pos rfl]
    · rw [if_neg (fun e => by rw [e] at h; cases h), if_pos h]
  | c :: l, r, acc, h => by
    rw [List.flatMap_cons, List.append_assoc, qd_sign, qd_signs l r _ h, List.append_assoc]; rfl
theorem read_quote (l r : List UInt8) (h : r = [] ∨ r.head? = some 32) : readW (quoteF l ++ r) = some (l, r) := by
  unfold quoteF
  rw [List.cons_append, readW_cons, if_pos rfl, List.append_assoc]
  exact qd_signs l r [] h
theorem sign_len (c : UInt8) : (qsign c).length ≤ 2 := by
  unfold qsign
  split
  · simp
  · split
    · simp
    · split <;> simp
theorem sign_line (c : UInt8) : 10 ∉ qsign c := by
  unfold qsign
  split
  · rename_i h
    rcases h with rfl | rfl <;> decide
  · split
    · decide
    · split
      · decide
      · rename_i h1 h2 h3
        simp only [List.mem_singleton]
        exact fun e => h2 e.symm
theorem quote_len : ∀ l : List UInt8, (quoteF l).length ≤ 2 * l.length + 2 := fun l => by
  have h : ∀ l : List UInt8, (l.flatMap qsign).length ≤ 2 * l.length := fun l => by
    induction l with
    | nil => simp
    | cons c l ih => rw [List.flatMap_cons, List.length_append, List.length_cons]; have := sign_len c; omega
  have := h l
  unfold quoteF
  rw [List.length_cons, List.length_append, List.length_singleton]
  omega
theorem quote_line (l : List UInt8) : 10 ∉ quoteF l := by
  unfold quoteF
  simp only [List.mem_cons, List.mem_append, List.mem_flatMap, List.not_mem_nil, or_false, not_or]
  refine ⟨by decide, fun ⟨c, _, h⟩ => sign_line c h, by decide⟩
/-- A line of write with two words in quotes. -/
def lineW (p w : List UInt8) : List UInt8 := [119, 114, 105, 116, 101, 32] ++ (quoteF p ++ ([32, 32, 32] ++ (quoteF w ++ [32])))
theorem drop_quote (l r : List UInt8) : dropBl (quoteF l ++ r) = quoteF l ++ r := rfl
theorem words_line (p w : List UInt8) : wordsF (lineW p w) = some [[119, 114, 105, 116, 101], p, w] := by
  unfold wordsF
  have h1 : readW (119 :: ([114, 105, 116, 101, 32] ++ (quoteF p ++ ([32, 32, 32] ++ (quoteF w ++ [32]))))) = some ([119, 114, 105, 116, 101], 32 :: (quoteF p ++ ([32, 32, 32] ++ (quoteF w ++ [32])))) := by
    rw [readW_cons, if_neg (by decide)]
    rfl
  rw [(splN_word [] (s := lineW p w) (c := 119) (t := [114, 105, 116, 101, 32] ++ (quoteF p ++ ([32, 32, 32] ++ (quoteF w ++ [32])))) rfl h1).1]
  have h2 : readW (34 :: (p.flatMap qsign ++ [34] ++ ([32, 32, 32] ++ (quoteF w ++ [32])))) = some (p, [32, 32, 32] ++ (quoteF w ++ [32])) := read_quote p _ (.inr rfl)
  rw [(splN_word _ (s := 32 :: (quoteF p ++ ([32, 32, 32] ++ (quoteF w ++ [32])))) (c := 34) (t := p.flatMap qsign ++ [34] ++ ([32, 32, 32] ++ (quoteF w ++ [32]))) rfl h2).1]
  have h3 : readW (34 :: (w.flatMap qsign ++ [34] ++ [32])) = some (w, [32]) := read_quote w _ (.inr rfl)
  rw [(splN_word _ (s := [32, 32, 32] ++ (quoteF w ++ [32])) (c := 34) (t := w.flatMap qsign ++ [34] ++ [32]) rfl h3).1]
  rw [splN_end _ rfl]
  rfl
theorem lines_one (l : List UInt8) (h : 10 ∉ l) : linesF l = [l] := by
  have h1 : Lib.index l [10] = -1 := by
    rw [Lib.index_one]
    rcases indexByte_lt 10 l with h1 | h1
    · exact h1.1
    · exact absurd h1.2 h
  unfold linesF
  rw [Lib.count_miss h1]
  rfl
theorem par_line (p w : List UInt8) (h : p.length + w.length ≤ 1000) : parF (lineW p w) = ([(2, [p, w])], 0, 0) := by
  have hl : (lineW p w).length ≤ 6000 := by
    unfold lineW
    have h1 := quote_len p
    have h2 := quote_len w
    simp only [List.length_append, List.length_cons, List.length_nil]
    omega
  have hn : 10 ∉ lineW p w := by
    unfold lineW
    have h1 := quote_line p
    have h2 := quote_line w
    simp only [List.mem_append, not_or]
    exact ⟨by decide, h1, by decide, h2, by decide⟩
  unfold parF
  rw [if_neg (by omega), lines_one _ hn, parN_step (words_line p w), show meanF [[119, 114, 105, 116, 101], p, w] = (2, 0) from rfl]
  rfl
end Go.Proofs.YtlccdenafnekjaaGreatDoor
namespace Go.Proofs.YtlccdenafnekjaaGreatDoor
open Go.RowKit
set_option linter.unusedVariables false
set_option maxRecDepth 100000

theorem qu_step (l : List UInt8) (k : Nat) (h : k < l.length) : (l.take (k + 1)).flatMap qsign = (l.take k).flatMap qsign ++ qsign (l.getD k 0) := by
  rw [List.take_succ_eq_append_getElem h, List.flatMap_append, List.getD_eq_getElem?_getD, List.getElem?_eq_getElem h]
  simp
theorem ext_one (s : ByteArray) (k : Nat) (h : k < s.data.toList.length) : (s.extract k (k + 1)).data.toList = [s.data.toList.getD k 0] := by
  rw [ByteArray.data_extract, Array.toList_extract, List.extract_eq_take_drop]
  rw [List.getD_eq_getElem?_getD, List.getElem?_eq_getElem h]
  simp [List.take_one, List.head?_drop, List.getElem?_eq_getElem h]
theorem app_list (a b : ByteArray) : (a ++ b).data.toList = a.data.toList ++ b.data.toList := by rw [ByteArray.data_append, Array.toList_append]
set_option maxHeartbeats 8000000 in
theorem quote_any (s : ByteArray) (w : World) (hs : s.size ≤ 100000) : Calls Tryz.prog 24 #[.string s] w fun e w' => e = .returned (.string ⟨(quoteF s.data.toList).toArray⟩) ∧ w' = w := by
  have HS := Lib.hid hs
  have HLEN : Hid (s.data.toList.length = s.size) := Lib.hid (by simp)
  clear hs
  go_enter Tryz.func24, Tryz.ntmps24
  go_wp2_with fail
  go_loopw [3, 4] (fun v3 v4 wr => ∃ (k : Nat) (o : ByteArray), k ≤ s.size ∧ v4 = .int .i64 k ∧ v3 = .string o ∧ wr = w ∧ o.size ≤ 2 * k + 1 ∧ Hid (o.data.toList = 34 :: (s.data.toList.take k).flatMap qsign)) (fun _ v4 _ => s.size - (intOf v4).toNat)
  case atStart => exact ⟨0, ⟨#[34]⟩, Nat.zero_le _, rfl, rfl, rfl, Nat.le_refl _, Lib.hid rfl⟩
  case round =>
    obtain ⟨k, o, hk, rfl, rfl, rfl, ho, HO⟩ := hrel
    have hkb : (k : Int) ≤ 1000000 := by have := HS.out; omega
    have hob : o.size ≤ 1000000 := by have := HS.out; omega
    by_cases hlt : k < s.size
    · have hki : (k : Int) < (s.size : Int) := by omega
      have hki2 : (k : Int) + 1 ≤ (s.size : Int) := by omega
      have hkl : k < s.data.toList.length := by rw [HLEN.out]; exact hlt
      have hget := str_get s k hlt
      have hstep := qu_step s.data.toList k hkl
      have hx1 := ext_one s k hkl
      obtain ⟨c, hc⟩ : ∃ c, c = s.data.toList.getD k 0 := ⟨_, rfl⟩
      rw [← hc] at hget hstep hx1
      have HX := Lib.hid hx1
      have HSTEP := Lib.hid hstep
      have hsz : (s.extract k (k + 1)).size = 1 := by rw [ByteArray.size_extract]; omega
      have HSZ := Lib.hid hsz
      have hs2 : ((⟨#[92]⟩ : ByteArray) ++ s.extract k (k + 1)).size = 2 := by rw [ByteArray.size_append, hsz]; rfl
      have hcat1 : ¬ 9223372036854775807 < o.size + 1 := by omega
      have hcat2 : ¬ 9223372036854775807 < o.size + 2 := by omega
      have HLT := Lib.hid hlt
      clear hc hstep hx1 hkl
      by_cases h1 : c = 34 ∨ c = 92
      · have HQ : Hid (qsign c = [92, c]) := Lib.hid (by unfold qsign; rw [if_pos h1])
        have HN : Hid ((o ++ ((⟨#[92]⟩ : ByteArray) ++ s.extract k (k + 1))).data.toList = 34 :: (s.data.toList.take (k + 1)).flatMap qsign) := Lib.hid (by rw [app_list, app_list, HX.out, HO.out, HSTEP.out, HQ.out]; rfl)
        have HNS : Hid ((o ++ ((⟨#[92]⟩ : ByteArray) ++ s.extract k (k + 1))).size ≤ 2 * (k + 1) + 1) := Lib.hid (by rw [ByteArray.size_append, hs2]; omega)
        rcases h1 with rfl | rfl
        · go_wp2_with fail
          go_roundw
          case rel => exact ⟨k + 1, _, HLT.out, by go_num, rfl, trivial, HNS.out, HN⟩
          case measure => have := HLT.out; simp [intOf]; omega
        · go_wp2_with fail
          go_roundw
          case rel => exact ⟨k + 1, _, HLT.out, by go_num, rfl, trivial, HNS.out, HN⟩
          case measure => have := HLT.out; simp [intOf]; omega
      · by_cases h2 : c = 10
        · subst h2
          have HN : Hid ((o ++ (⟨#[92, 110]⟩ : ByteArray)).data.toList = 34 :: (s.data.toList.take (k + 1)).flatMap qsign) := Lib.hid (by rw [app_list, HO.out, HSTEP.out]; rfl)
          have HNS : Hid ((o ++ (⟨#[92, 110]⟩ : ByteArray)).size ≤ 2 * (k + 1) + 1) := Lib.hid (by rw [ByteArray.size_append]; show o.size + 2 ≤ _; omega)
          clear h1
          go_wp2_with fail
          go_roundw
          case rel => exact ⟨k + 1, _, HLT.out, by go_num, rfl, trivial, HNS.out, HN⟩
          case measure => have := HLT.out; simp [intOf]; omega
        · by_cases h3 : c = 9
          · subst h3
            have HN : Hid ((o ++ (⟨#[92, 116]⟩ : ByteArray)).data.toList = 34 :: (s.data.toList.take (k + 1)).flatMap qsign) := Lib.hid (by rw [app_list, HO.out, HSTEP.out]; rfl)
            have HNS : Hid ((o ++ (⟨#[92, 116]⟩ : ByteArray)).size ≤ 2 * (k + 1) + 1) := Lib.hid (by rw [ByteArray.size_append]; show o.size + 2 ≤ _; omega)
            clear h1 h2
            go_wp2_with fail
            go_roundw
            case rel => exact ⟨k + 1, _, HLT.out, by go_num, rfl, trivial, HNS.out, HN⟩
            case measure => have := HLT.out; simp [intOf]; omega
          · have HQ : Hid (qsign c = [c]) := Lib.hid (by unfold qsign; rw [if_neg h1, if_neg h2, if_neg h3])
            have HN : Hid ((o ++ s.extract k (k + 1)).data.toList = 34 :: (s.data.toList.take (k + 1)).flatMap qsign) := Lib.hid (by rw [app_list, HX.out, HO.out, HSTEP.out, HQ.out]; rfl)
            have HNS : Hid ((o ++ s.extract k (k + 1)).size ≤ 2 * (k + 1) + 1) := Lib.hid (by rw [ByteArray.size_append, hsz]; omega)
            have n1 : ¬ (c.toNat : Int) = 34 := fun e => h1 (.inl (UInt8.toNat_inj.1 (by show c.toNat = _; rw [show c.toNat = c.toNat from rfl]; simp; omega)))
            have n2 : ¬ (c.toNat : Int) = 92 := fun e => h1 (.inr (UInt8.toNat_inj.1 (by show c.toNat = _; rw [show c.toNat = c.toNat from rfl]; simp; omega)))
            have n3 : ¬ (c.toNat : Int) = 10 := fun e => h2 (UInt8.toNat_inj.1 (by show c.toNat = _; rw [show c.toNat = c.toNat from rfl]; simp; omega))
            have n4 : ¬ (c.toNat : Int) = 9 := fun e => h3 (UInt8.toNat_inj.1 (by show c.toNat = _; rw [show c.toNat = c.toNat from rfl]; simp; omega))
            have m1 : ((c.toNat : Int) == 34) = false := beq_eq_false_iff_ne.2 n1
            have m2 : ((c.toNat : Int) == 92) = false := beq_eq_false_iff_ne.2 n2
            have m3 : ((c.toNat : Int) == 10) = false := beq_eq_false_iff_ne.2 n3
            have m4 : ((c.toNat : Int) == 9) = false := beq_eq_false_iff_ne.2 n4
            clear h1 h2 h3
            go_wp2_with fail
            go_roundw
            case rel => exact ⟨k + 1, _, HLT.out, by go_num, rfl, trivial, HNS.out, HN⟩
            case measure => have := HLT.out; simp [intOf]; omega
    · obtain rfl : k = s.size := by omega
      have hki : ¬ (s.size : Int) < (s.size : Int) := by omega
      have hcat1 : ¬ 9223372036854775807 < o.size + 1 := by omega
      have HE : Hid ((o ++ (⟨#[34]⟩ : ByteArray)) = ⟨(quoteF s.data.toList).toArray⟩) := Lib.hid (by
        refine bytes_ext ?_
        rw [app_list, HO.out, List.take_of_length_le (by rw [HLEN.out]; exact Nat.le_refl _)]
        unfold quoteF
        simp)
      go_wp2_with fail
      refine bodyPost_ret (results_tmp rfl _ _ _) rfl ?_
      exact ⟨by rw [← HE.out]; rfl, rfl⟩
end Go.Proofs.YtlccdenafnekjaaGreatDoor
namespace Go.Proofs.YtlccdenafnekjaaGreatDoor
open Go.RowKit
set_option linter.unusedVariables false
set_option maxRecDepth 100000

/-- The lines of a text, as they come byte by byte: what stands ahead of the first end, and the text. -/
def linR : List UInt8 → List UInt8 → List (List UInt8)
  | cur, [] => [cur]
  | cur, c :: t => if c = 10 then cur :: linR [] t else linR (cur ++ [c]) t
def lin10 : List UInt8 → List (List UInt8)
  | [] => [[]]
  | c :: t => if c = 10 then [] :: lin10 t else match lin10 t with
    | [] => [[c]]
    | p :: r => (c :: p) :: r
theorem lin10_ne : ∀ s : List UInt8, lin10 s ≠ []
  | [] => by simp [lin10]
  | c :: t => by
    unfold lin10
    split
    · simp
    · cases h : lin10 t <;> simp
theorem linR_eq : ∀ (s cur : List UInt8), linR cur s = match lin10 s with
    | [] => [cur]
    | p :: r => (cur ++ p) :: r
  | [], cur => by simp [linR, lin10]
  | c :: t, cur => by
    by_cases h : c = 10
    · rw [linR, if_pos h, lin10, if_pos h, linR_eq t []]
      cases hl : lin10 t with
      | nil => exact absurd hl (lin10_ne t)
      | cons p r => simp
    · rw [linR, if_neg h, lin10, if_neg h, linR_eq t (cur ++ [c])]
      cases hl : lin10 t with
      | nil => exact absurd hl (lin10_ne t)
      | cons p r => simp
theorem index_miss10 (b : UInt8) (l : List UInt8) (h : b ≠ 10) : Lib.index (b :: l) [10] = if Lib.index l [10] == -1 then -1 else Lib.index l [10] + 1 := by
  have hp : ([10] : List UInt8).isPrefixOf (b :: l) = false := by simp [List.isPrefixOf, Ne.symm h]
  rw [Lib.index, hp]; simp

theorem splitK_lin10 : ∀ s : List UInt8, Lib.splitK [10] 0 (Lib.count s [10]) s = lin10 s
  | [] => by rw [Lib.count_miss (by simp [Lib.index])]; rfl
  | b :: t => by
    have ih := splitK_lin10 t
    by_cases h : b = 10
    · subst h
      have hix : Lib.index (10 :: t) [10] = ((0 : Nat) : Int) := by rw [Lib.index]; simp [List.isPrefixOf]
      rw [Lib.count_cons_eq, Nat.add_comm, Lib.splitK, hix]
      simp [lin10, ih]
    · rw [Lib.count_cons_ne b 10 t h]
      have hpc : lin10 (b :: t) = match lin10 t with
        | [] => [[b]]
        | p :: r => (b :: p) :: r := by rw [lin10, if_neg h]
      rw [hpc, ← ih]
      cases hc : Lib.count t [10] with
      | zero => rfl
      | succ k =>
        have hne : Lib.index t [10] ≠ -1 := fun e => by rw [Lib.count_miss e] at hc; cases hc
        have hge := Lib.index_ge t [10]
        obtain ⟨j, hj⟩ : ∃ j : Nat, Lib.index t [10] = j := ⟨(Lib.index t [10]).toNat, by omega⟩
        have hix := index_miss10 b t h
        rw [if_neg (by rw [beq_iff_eq]; exact hne), hj] at hix
        have e1 : Lib.splitK [10] 0 (k + 1) t = t.take j :: Lib.splitK [10] 0 k (t.drop (j + 1)) := by
          rw [Lib.splitK, hj, if_neg (by rw [beq_iff_eq]; omega)]
          simp
        have e2 : Lib.splitK [10] 0 (k + 1) (b :: t) = (b :: t.take j) :: Lib.splitK [10] 0 k (t.drop (j + 1)) := by
          rw [Lib.splitK, hix, if_neg (by rw [beq_iff_eq]; omega)]
          have : ((j : Int) + 1).toNat = j + 1 := by omega
          rw [this]
          simp
        rw [e1, e2]
theorem lines_linR (s : List UInt8) : linesF s = linR [] s := by
  unfold linesF
  rw [splitK_lin10, linR_eq]
  cases hl : lin10 s with
  | nil => exact absurd hl (lin10_ne s)
  | cons p r => simp
theorem kd_mean {x : List UInt8} {k n : Nat} (h : KdP x k n) (xs : List (List UInt8)) : meanF (x :: xs) = if k = 0 then (0, 9) else if n = xs.length then (k, 0) else (0, 1) := by
  rcases h with ⟨i, hi, h1, h2, rfl, rfl⟩ | ⟨h1, rfl, rfl⟩
  · rw [mean_hit (x :: xs) i hi h1 h2]
    have h3 : ¬ (formsF.getD i fmD).1 = 0 := by rw [kind_at i hi]; omega
    rw [if_neg h3]
    rfl
  · rw [mean_no (x :: xs) h1, if_pos rfl]
theorem kd_small {x : List UInt8} {k n : Nat} (h : KdP x k n) : k ≤ 8 ∧ n ≤ 3 := by
  rcases h with ⟨i, hi, h1, h2, rfl, rfl⟩ | ⟨h1, rfl, rfl⟩
  · exact ⟨(fm_small i).2, (fm_small i).1⟩
  · exact ⟨by decide, by decide⟩
theorem kd_pos {x : List UInt8} {k n : Nat} (h : KdP x k n) (hk : ¬ k = 0) : 1 ≤ n := by
  rcases h with ⟨i, hi, h1, h2, rfl, rfl⟩ | ⟨h1, rfl, rfl⟩
  · exact fm_pos i hi
  · exact absurd rfl hk
/-- What is left to do: the lines from here on, or none. -/
def RmP (s : ByteArray) (R : List StD × Nat × Nat) (i no : Nat) (line : ByteArray) (acc : List StD) : Prop := (i ≤ s.size ∧ parN (linR line.data.toList (s.data.toList.drop i)) no acc = R) ∨ (i = s.size + 1 ∧ (acc, 0, 0) = R)
set_option maxHeartbeats 40000000 in
theorem rparse_any (s : ByteArray) (w : World) (hsz : s.size ≤ 140737488355328) : Calls Tryz.prog 13 #[.string s] w fun e w' => ∃ (u : Value) (at_ er : Int), e = .returned (.tuple #[u, .int .i64 at_, .int .i64 er]) ∧ PP w w' (parF s.data.toList) u at_ er ∧ Below w.heap.size w w' := by
  obtain ⟨i0, hi0, hz0, hz1, hz2⟩ := info_p info_step2
  have HI := Lib.hid hi0
  have HZ0 := Lib.hid hz0
  have HZ1 := Lib.hid hz1
  have HZ2 := Lib.hid hz2
  have HSL : Hid (s.data.toList.length = s.size) := Lib.hid (by simp)
  clear hi0 hz0 hz1 hz2
  by_cases hbig : 6000 < s.size
  · have hgt : (6000 : Int) < (s.size : Int) := by omega
    have HP : Hid (parF s.data.toList = ([], 0, 2)) := Lib.hid (by unfold parF; rw [if_pos (by rw [HSL.out]; exact hbig)])
    clear hbig
    go_enter Tryz.func13, Tryz.ntmps13
    go_wp2_with fail
    refine bodyPost_ret (results_tmp3 rfl _ _ _) rfl ?_
    exact ⟨_, _, _, rfl, by rw [HP.out]; exact ⟨rfl, rfl, rfl⟩, Below.refl _ _⟩
  have hgt : ¬ (6000 : Int) < (s.size : Int) := by omega
  have HSS : Hid (s.size ≤ 6000) := Lib.hid (by omega)
  obtain ⟨R, hR⟩ : ∃ R, R = parF s.data.toList := ⟨_, rfl⟩
  have HR0 : Hid (RmP s R 0 0 ⟨#[]⟩ []) := Lib.hid (.inl ⟨Nat.zero_le _, by rw [hR]; unfold parF; rw [if_neg (by rw [HSL.out]; omega), lines_linR, List.drop_zero]⟩)
  rw [← hR]
  clear hR hbig
  go_enter Tryz.func13, Tryz.ntmps13
  go_wp2_with fail
  go_loopw [5, 6, 7, 8] (fun v5 v6 v7 v8 wr => ∃ (i no : Nat) (line : ByteArray) (acc : List StD), i ≤ s.size + 1 ∧ v8 = .int .i64 (i : Int) ∧ v7 = .int .i64 (no : Int) ∧ v6 = .string line ∧ Hid (RmP s R i no line acc) ∧ Hid (acc.length ≤ 200) ∧ Hid (no ≤ i) ∧ Hid (line.size ≤ i) ∧ Hid (StP wr w.heap.size v5 acc) ∧ Hid (Below w.heap.size w wr)) (fun _ _ _ v8 _ => s.size + 1 - (intOf v8).toNat)
  case atStart => exact ⟨0, 0, ⟨#[]⟩, [], Nat.zero_le _, rfl, rfl, rfl, HR0, Lib.hid (Nat.zero_le _), Lib.hid (Nat.zero_le _), Lib.hid (Nat.zero_le _), Lib.hid (StP.nil _ _), Lib.hid (Below.refl _ _)⟩
  case round =>
    obtain ⟨i, no, line, acc, hi, rfl, rfl, rfl, HRM, HA, HNO, HLS, HST, HB⟩ := hrel
    have hib : (i : Int) ≤ 6001 := by have := HSS.out; omega
    have hnb0 : (no : Int) ≤ 6001 := by have := HNO.out; omega
    by_cases hie : i = s.size + 1
    · have hic : ¬ (i : Int) ≤ (s.size : Int) := by omega
      have HEND : Hid (R = (acc, 0, 0)) := Lib.hid (by
        rcases HRM.out with ⟨h, _⟩ | ⟨_, h⟩
        · omega
        · exact h.symm)
      clear HRM
      go_wp2_with fail
      refine bodyPost_ret (results_tmp3 rfl _ _ _) rfl ?_
      exact ⟨_, _, _, rfl, by rw [HEND.out]; exact ⟨rfl, rfl, HST.out⟩, HB.out⟩
    have hic : (i : Int) ≤ (s.size : Int) := by omega
    have HIS : Hid (i ≤ s.size) := Lib.hid (by omega)
    have HQ0 : Hid (parN (linR line.data.toList (s.data.toList.drop i)) no acc = R) := Lib.hid (by
      rcases HRM.out with ⟨_, h⟩ | ⟨h, _⟩
      · exact h
      · omega)
    clear HRM hie
    by_cases hlt : i < s.size
    · have hii : (i : Int) < (s.size : Int) := by omega
      have hii2 : (i : Int) + 1 ≤ (s.size : Int) := by omega
      have hget := str_get s i hlt
      have HDR := Lib.hid (drop_cons hlt)
      have hx1 := ext_one s i (by rw [HSL.out]; exact hlt)
      obtain ⟨c0, hc⟩ : ∃ c0, c0 = s.data.toList.getD i 0 := ⟨_, rfl⟩
      rw [← hc] at hget HDR hx1
      have HX1 := Lib.hid hx1
      clear hc hx1
      by_cases h10 : c0 = 10
      · have hcn : (c0.toNat : Int) = 10 := by rw [h10]; rfl
        obtain ⟨ls, hls⟩ : ∃ ls, ls = linR [] (s.data.toList.drop (i + 1)) := ⟨_, rfl⟩
        have HQ : Hid (parN (line.data.toList :: ls) no acc = R) := Lib.hid (by rw [← HQ0.out, HDR.out, linR, if_pos h10, hls])
        have HNX : Hid (∀ acc2 no2, parN ls no2 acc2 = R → RmP s R (i + 1) no2 ⟨#[]⟩ acc2) := Lib.hid (fun acc2 no2 h => .inl ⟨hlt, by rw [← h, hls]⟩)
        clear HQ0 HDR h10 hls HX1
        go_wp2_with fail
        refine (rwords_any line wr (by have := HLS.out; have := HSS.out; omega)).mono ?_
        rintro e w2 ⟨u, v, rfl, hsp, hb⟩
        have HST2 := Lib.hid (HST.out.later hb)
        have HB2 : Hid (Below w.heap.size w w2) := Lib.hid (HB.out.trans (hb.mono HB.out.size))
        cases hws : wordsF line.data.toList with
        | none =>
          rw [hws] at hsp
          obtain ⟨rfl, rfl⟩ := hsp
          have HEND : Hid (R = ([], no, 4)) := Lib.hid (by rw [← HQ.out]; exact parN_words hws)
          clear hws hb HQ
          go_wp2_with fail
          refine bodyPost_ret (results_tmp3 rfl _ _ _) rfl ?_
          exact ⟨_, _, _, rfl, by rw [HEND.out]; exact ⟨rfl, rfl, rfl⟩, HB2.out⟩
        | some ws =>
          rw [hws] at hsp
          obtain ⟨rfl, how⟩ := hsp
          cases ws with
          | nil =>
            have HQ2 : Hid (RmP s R (i + 1) (no + 1) ⟨#[]⟩ acc) := Lib.hid (HNX.out acc (no + 1) (by rw [← HQ.out]; exact (parN_empty hws).symm))
            obtain ⟨ua, uc, rfl⟩ : ∃ ua uc, u = .slice ua 0 uc := by
              rcases how.2 with ⟨h1, _⟩ | ⟨g, cap, cur, h1, _⟩
              · exact ⟨_, _, h1⟩
              · exact ⟨_, _, h1⟩
            clear hws hb HQ how
            go_wp2_with fail
            go_roundw
            case rel => exact ⟨i + 1, no + 1, ⟨#[]⟩, acc, by have := HIS.out; omega, by first | go_num | rfl, by first | go_num | rfl, rfl, HQ2, HA, Lib.hid (by have := HNO.out; omega), Lib.hid (Nat.zero_le _), HST2, HB2⟩
            case measure => have := HIS.out; simp [intOf]; omega
          | cons x xs =>
            obtain ⟨n, hn⟩ : ∃ n, n = (x :: xs).length := ⟨_, rfl⟩
            rw [← hn] at how
            have hn1 : 1 ≤ n := by rw [hn]; simp
            obtain ⟨g, c, rfl, HWT⟩ : ∃ g c, u = .slice (some ⟨g, 0, none⟩) n c ∧ Hid (WT w2 g 0 n c (x :: xs)) := by
              rcases how.2 with ⟨_, h1⟩ | ⟨g, cap, cur, h1, hgb, hgg, hnc, hcm, _⟩
              · omega
              · subst h1
                refine ⟨g, cap, rfl, Lib.hid ⟨⟨(Array.getElem?_eq_some_iff.1 hgg).1, hn.symm, hnc, hcm, fun j hj => ?_⟩, cur, _, hgg⟩⟩
                have h2 := how.cells (g := g) rfl j (strV ((x :: xs).getD j [])) (by rw [List.getElem?_map, List.getElem?_eq_getElem (by omega), List.getD_eq_getElem?_getD, List.getElem?_eq_getElem (by omega)]; rfl)
                rw [Addr.add_lit] at h2
                exact h2
            have hstp := parN_step (ls := ls) (i := no) (acc := acc) hws
            rw [HQ.out] at hstp
            have HSTP := Lib.hid hstp
            have HNL : Hid (xs.length + 1 = n) := Lib.hid (by rw [hn]; rfl)
            have hwl := words_len hws
            have hll : line.data.toList.length = line.size := by simp
            have HNB : Hid (n ≤ 100000) := Lib.hid (by have := HLS.out; have := HSS.out; omega)
            have hnb : (n : Int) ≤ 100000 := by have := HNB.out; omega
            have hni : (1 : Int) ≤ (n : Int) := by omega
            have hn0 : (0 : Int) < (n : Int) := by omega
            obtain ⟨xb, hxb⟩ : ∃ xb : ByteArray, (⟨x.toArray⟩ : ByteArray) = xb := ⟨_, rfl⟩
            have hc0 : w2.cell? ⟨g, 0, none⟩ = some (.string xb) := by
              have h := HWT.out.1.2.2.2.2 0 (by omega)
              rw [Nat.zero_add] at h
              rw [h, ← hxb]; rfl
            have HXB : Hid (xb.data.toList = x) := Lib.hid (by rw [← hxb])
            clear hws hb HQ how hstp hn hwl hll hxb
            go_wp2_with fail
            refine (kind_any xb w2).mono ?_
            rintro e w3 ⟨k, nn, rfl, hkd, hb3⟩
            rw [HXB.out] at hkd
            have hmean := kd_mean hkd xs
            rw [hmean] at HSTP
            have HB3 : Hid (Below w.heap.size w w3) := Lib.hid (HB2.out.trans (hb3.mono HB2.out.size))
            have HST4 := Lib.hid (HST2.out.later hb3)
            have HWT3 := Lib.hid (HWT.out.later hb3)
            have HKD := Lib.hid (kd_pos hkd)
            have hk8 := kd_small hkd
            obtain ⟨cs, ho, hcl, hcs⟩ := HST4.out
            obtain ⟨oa, oc, rfl⟩ : ∃ oa oc, u5 = .slice oa acc.length oc := by
              rcases ho.2 with ⟨h1, h2⟩ | ⟨g, cap, cur, h1, _⟩
              · exact ⟨none, 0, by rw [h2]; exact h1⟩
              · exact ⟨_, _, h1⟩
            have HO := Lib.hid ho
            have HCL := Lib.hid hcl
            have HCS := Lib.hid hcs
            clear hkd hmean hb3 ho hcl hcs HST HST2 HST4 HWT HB HB2 hc0
            by_cases hk0 : k = 0
            · rw [if_pos hk0] at HSTP
              have HEND : Hid (R = ([], no, 9)) := Lib.hid HSTP.out
              subst hk0
              clear HSTP
              go_wp2_with fail
              refine bodyPost_ret (results_tmp3 rfl _ _ _) rfl ?_
              exact ⟨_, _, _, rfl, by rw [HEND.out]; exact ⟨rfl, rfl, rfl⟩, HB3.out⟩
            · have HKP : Hid (1 ≤ nn) := Lib.hid (HKD.out hk0)
              have hk1 : ((k : Int) == 0) = false := by rw [beq_eq_false_iff_ne]; omega
              have hk2 : ¬ (k : Int) = 0 := by omega
              rw [if_neg hk0] at HSTP
              clear hk0
              by_cases hnn : nn = xs.length
              · rw [if_pos hnn] at HSTP
                have hc1 : ((n : Int) - 1 != (nn : Int)) = false := by have := HNL.out; rw [bne_eq_false_iff_eq]; omega
                have hc2 : ((n : Int) - 1 = (nn : Int)) := by have := HNL.out; omega
                have hnp := HKP.out
                have hcn2 : 2 ≤ c := by have := HWT3.out.1.2.2.1; have := HNL.out; omega
                have hcz : ¬ c - 1 = 0 := by omega
                have hcz2 : ¬ (c : Int) - 1 = 0 := by omega
                have hcz3 : ¬ c ≤ 1 := by omega
                have hcz4 : ¬ c = 1 := by omega
                have hcz5 : ¬ (c : Int) = 1 := by omega
                clear hnn hnp
                go_wp2_with (at_builtin; go_must (refine wpList_append_lies _ rfl (.tmp 66) (.tmp 71) 23 rfl w.heap.size 49 i0 (.agg #[.int .u8 0, .slice none 0 0]) 2 32 Tryz.underlying23 HI.out HZ0.out HZ1.out HZ2.out rfl (by omega) _ acc.length cs.flatten rfl (HO.out.alloc _) ⟨w3.heap.size, 0, none⟩ 1 1 [.int .u8 (k : Int), .slice (some ⟨g, 1, none⟩) (n - 1) (c - 1)] rfl rfl ?aa ?ab ?ac ?ad ?ae ?af _ rfl ?ag))
                try (case aa => (intro j u hj; rw [Addr.add_lit]; exact (Has.new w3 [.int .u8 (k : Int), .slice (some ⟨g, 1, none⟩) (n - 1) (c - 1)] _).cellAt (by rw [Nat.zero_add]; exact hj)))
                try (case ab => first | rfl | (intro u hu; simp only [List.mem_cons, List.not_mem_nil, or_false] at hu; rcases hu with rfl | rfl <;> rfl))
                try (case ac => omega)
                try (case ad => (have := HA.out; unfold maxLen; omega))
                try (case ae => (have := HA.out; omega))
                try (case af => (have := HB3.out.size; simp; omega))
                intro g5 cap5 w5 how hgr hat hlt5
                have A5 : Hid (Below w3.heap.size w3 (w3.alloc (.cells #[.int .u8 (k : Int), .slice (some ⟨g, 1, none⟩) (n - 1) (c - 1)] 49))) := Lib.hid ((Below.refl _ _).alloc (Nat.le_refl _) _)
                have HST5 : Hid (StP w5 w.heap.size (.slice (some ⟨g5, 0, none⟩) (acc.length + 1) cap5) (acc ++ [(k, xs)])) := Lib.hid (StP.grow (HO.out.alloc _) HCL.out (fun j hj => (HCS.out j hj).later A5.out) ⟨g, 1, n - 1, c - 1, rfl, (HWT3.out.tail).later A5.out⟩ hgr how)
                have HB5 : Hid (Below w.heap.size w w5) := Lib.hid ((HB3.out.trans (A5.out.mono HB3.out.size)).grown hgr (by have := HB3.out.size; have := A5.out.size; omega) (fun k hk => (HO.out.lt k hk).1))
                clear how hgr hat hlt5
                by_cases h200 : acc.length = 200
                · have h200' : (200 : Int) < (acc.length : Int) + 1 := by omega
                  have HEND : Hid (R = ([], no, 2)) := Lib.hid (by have := HSTP.out; rw [if_pos trivial, if_pos h200] at this; exact this)
                  clear h200 HSTP
                  go_wp2_with fail
                  refine bodyPost_ret (results_tmp3 rfl _ _ _) rfl ?_
                  exact ⟨_, _, _, rfl, by rw [HEND.out]; exact ⟨rfl, rfl, rfl⟩, HB5.out⟩
                · have h200' : ¬ (200 : Int) < (acc.length : Int) + 1 := by have := HA.out; omega
                  have HQ2 : Hid (RmP s R (i + 1) (no + 1) ⟨#[]⟩ (acc ++ [(k, xs)])) := Lib.hid (HNX.out _ (no + 1) (by have := HSTP.out; rw [if_pos trivial, if_neg h200] at this; exact this.symm))
                  have HA2 : Hid ((acc ++ [(k, xs)]).length ≤ 200) := Lib.hid (by rw [List.length_append, List.length_singleton]; have := HA.out; omega)
                  clear h200 HSTP
                  go_wp2_with fail
                  go_roundw
                  case rel => exact ⟨i + 1, no + 1, ⟨#[]⟩, acc ++ [(k, xs)], by have := HIS.out; omega, by first | go_num | rfl, by first | go_num | rfl, rfl, HQ2, HA2, Lib.hid (by have := HNO.out; omega), Lib.hid (Nat.zero_le _), HST5, HB5⟩
                  case measure => have := HIS.out; simp [intOf]; omega
              · rw [if_neg hnn] at HSTP
                have hc1 : ((n : Int) - 1 != (nn : Int)) = true := by have := HNL.out; rw [bne_iff_ne]; omega
                have hc2 : ¬ ((n : Int) - 1 = (nn : Int)) := by have := HNL.out; omega
                have HEND : Hid (R = ([], no, 1)) := Lib.hid HSTP.out
                clear hnn HSTP
                go_wp2_with fail
                refine bodyPost_ret (results_tmp3 rfl _ _ _) rfl ?_
                exact ⟨_, _, _, rfl, by rw [HEND.out]; exact ⟨rfl, rfl, rfl⟩, HB3.out⟩
      · have hcn : ¬ (c0.toNat : Int) = 10 := u8_ne h10
        have hcne : ((c0.toNat : Int) == 10) = false := beq_eq_false_iff_ne.2 hcn
        have hcnn : ((c0.toNat : Int) != 10) = true := bne_iff_ne.2 hcn
        have hsz1 : (s.extract i (i + 1)).size = 1 := by rw [ByteArray.size_extract]; omega
        have HSZ1 := Lib.hid hsz1
        have hcat : ¬ 9223372036854775807 < line.size + 1 := by have := HLS.out; have := HSS.out; omega
        have HQ2 : Hid (RmP s R (i + 1) no (line ++ s.extract i (i + 1)) acc) := Lib.hid (.inl ⟨hlt, by rw [← HQ0.out, HDR.out, linR, if_neg h10, app_list, HX1.out]⟩)
        clear HQ0 HDR h10
        go_wp2_with fail
        go_roundw
        case rel => exact ⟨i + 1, no, line ++ s.extract i (i + 1), acc, by have := HIS.out; omega, by first | go_num | rfl, rfl, rfl, HQ2, HA, Lib.hid (by have := HNO.out; omega), Lib.hid (by rw [ByteArray.size_append, HSZ1.out]; have := HLS.out; omega), HST, HB⟩
        case measure => have := HIS.out; simp [intOf]; omega
    · have hii : ¬ (i : Int) < (s.size : Int) := by omega
      have hie2 : i = s.size := by omega
      obtain ⟨ls, hls⟩ : ∃ ls : List (List UInt8), ls = [] := ⟨_, rfl⟩
      have HQ : Hid (parN (line.data.toList :: ls) no acc = R) := Lib.hid (by rw [← HQ0.out, List.drop_of_length_le (by rw [HSL.out]; omega), linR, hls])
      have HNX : Hid (∀ acc2 no2, parN ls no2 acc2 = R → RmP s R (i + 1) no2 ⟨#[]⟩ acc2) := Lib.hid (fun acc2 no2 h => .inr ⟨by omega, by rw [← h, hls, parN]⟩)
      clear HQ0 hls hie2
      go_wp2_with fail
      refine (rwords_any line wr (by have := HLS.out; have := HSS.out; omega)).mono ?_
      rintro e w2 ⟨u, v, rfl, hsp, hb⟩
      have HST2 := Lib.hid (HST.out.later hb)
      have HB2 : Hid (Below w.heap.size w w2) := Lib.hid (HB.out.trans (hb.mono HB.out.size))
      cases hws : wordsF line.data.toList with
      | none =>
        rw [hws] at hsp
        obtain ⟨rfl, rfl⟩ := hsp
        have HEND : Hid (R = ([], no, 4)) := Lib.hid (by rw [← HQ.out]; exact parN_words hws)
        clear hws hb HQ
        go_wp2_with fail
        refine bodyPost_ret (results_tmp3 rfl _ _ _) rfl ?_
        exact ⟨_, _, _, rfl, by rw [HEND.out]; exact ⟨rfl, rfl, rfl⟩, HB2.out⟩
      | some ws =>
        rw [hws] at hsp
        obtain ⟨rfl, how⟩ := hsp
        cases ws with
        | nil =>
          have HQ2 : Hid (RmP s R (i + 1) (no + 1) ⟨#[]⟩ acc) := Lib.hid (HNX.out acc (no + 1) (by rw [← HQ.out]; exact (parN_empty hws).symm))
          obtain ⟨ua, uc, rfl⟩ : ∃ ua uc, u = .slice ua 0 uc := by
            rcases how.2 with ⟨h1, _⟩ | ⟨g, cap, cur, h1, _⟩
            · exact ⟨_, _, h1⟩
            · exact ⟨_, _, h1⟩
          clear hws hb HQ how
          go_wp2_with fail
          go_roundw
          case rel => exact ⟨i + 1, no + 1, ⟨#[]⟩, acc, by have := HIS.out; omega, by first | go_num | rfl, by first | go_num | rfl, rfl, HQ2, HA, Lib.hid (by have := HNO.out; omega), Lib.hid (Nat.zero_le _), HST2, HB2⟩
          case measure => have := HIS.out; simp [intOf]; omega
        | cons x xs =>
          obtain ⟨n, hn⟩ : ∃ n, n = (x :: xs).length := ⟨_, rfl⟩
          rw [← hn] at how
          have hn1 : 1 ≤ n := by rw [hn]; simp
          obtain ⟨g, c, rfl, HWT⟩ : ∃ g c, u = .slice (some ⟨g, 0, none⟩) n c ∧ Hid (WT w2 g 0 n c (x :: xs)) := by
            rcases how.2 with ⟨_, h1⟩ | ⟨g, cap, cur, h1, hgb, hgg, hnc, hcm, _⟩
            · omega
            · subst h1
              refine ⟨g, cap, rfl, Lib.hid ⟨⟨(Array.getElem?_eq_some_iff.1 hgg).1, hn.symm, hnc, hcm, fun j hj => ?_⟩, cur, _, hgg⟩⟩
              have h2 := how.cells (g := g) rfl j (strV ((x :: xs).getD j [])) (by rw [List.getElem?_map, List.getElem?_eq_getElem (by omega), List.getD_eq_getElem?_getD, List.getElem?_eq_getElem (by omega)]; rfl)
              rw [Addr.add_lit] at h2
              exact h2
          have hstp := parN_step (ls := ls) (i := no) (acc := acc) hws
          rw [HQ.out] at hstp
          have HSTP := Lib.hid hstp
          have HNL : Hid (xs.length + 1 = n) := Lib.hid (by rw [hn]; rfl)
          have hwl := words_len hws
          have hll : line.data.toList.length = line.size := by simp
          have HNB : Hid (n ≤ 100000) := Lib.hid (by have := HLS.out; have := HSS.out; omega)
          have hnb : (n : Int) ≤ 100000 := by have := HNB.out; omega
          have hni : (1 : Int) ≤ (n : Int) := by omega
          have hn0 : (0 : Int) < (n : Int) := by omega
          obtain ⟨xb, hxb⟩ : ∃ xb : ByteArray, (⟨x.toArray⟩ : ByteArray) = xb := ⟨_, rfl⟩
          have hc0 : w2.cell? ⟨g, 0, none⟩ = some (.string xb) := by
            have h := HWT.out.1.2.2.2.2 0 (by omega)
            rw [Nat.zero_add] at h
            rw [h, ← hxb]; rfl
          have HXB : Hid (xb.data.toList = x) := Lib.hid (by rw [← hxb])
          clear hws hb HQ how hstp hn hwl hll hxb
          go_wp2_with fail
          refine (kind_any xb w2).mono ?_
          rintro e w3 ⟨k, nn, rfl, hkd, hb3⟩
          rw [HXB.out] at hkd
          have hmean := kd_mean hkd xs
          rw [hmean] at HSTP
          have HB3 : Hid (Below w.heap.size w w3) := Lib.hid (HB2.out.trans (hb3.mono HB2.out.size))
          have HST4 := Lib.hid (HST2.out.later hb3)
          have HWT3 := Lib.hid (HWT.out.later hb3)
          have HKD := Lib.hid (kd_pos hkd)
          have hk8 := kd_small hkd
          obtain ⟨cs, ho, hcl, hcs⟩ := HST4.out
          obtain ⟨oa, oc, rfl⟩ : ∃ oa oc, u5 = .slice oa acc.length oc := by
            rcases ho.2 with ⟨h1, h2⟩ | ⟨g, cap, cur, h1, _⟩
            · exact ⟨none, 0, by rw [h2]; exact h1⟩
            · exact ⟨_, _, h1⟩
          have HO := Lib.hid ho
          have HCL := Lib.hid hcl
          have HCS := Lib.hid hcs
          clear hkd hmean hb3 ho hcl hcs HST HST2 HST4 HWT HB HB2 hc0
          by_cases hk0 : k = 0
          · rw [if_pos hk0] at HSTP
            have HEND : Hid (R = ([], no, 9)) := Lib.hid HSTP.out
            subst hk0
            clear HSTP
            go_wp2_with fail
            refine bodyPost_ret (results_tmp3 rfl _ _ _) rfl ?_
            exact ⟨_, _, _, rfl, by rw [HEND.out]; exact ⟨rfl, rfl, rfl⟩, HB3.out⟩
          · have HKP : Hid (1 ≤ nn) := Lib.hid (HKD.out hk0)
            have hk1 : ((k : Int) == 0) = false := by rw [beq_eq_false_iff_ne]; omega
            have hk2 : ¬ (k : Int) = 0 := by omega
            rw [if_neg hk0] at HSTP
            clear hk0
            by_cases hnn : nn = xs.length
            · rw [if_pos hnn] at HSTP
              have hc1 : ((n : Int) - 1 != (nn : Int)) = false := by have := HNL.out; rw [bne_eq_false_iff_eq]; omega
              have hc2 : ((n : Int) - 1 = (nn : Int)) := by have := HNL.out; omega
              have hnp := HKP.out
              have hcn2 : 2 ≤ c := by have := HWT3.out.1.2.2.1; have := HNL.out; omega
              have hcz : ¬ c - 1 = 0 := by omega
              have hcz2 : ¬ (c : Int) - 1 = 0 := by omega
              have hcz3 : ¬ c ≤ 1 := by omega
              have hcz4 : ¬ c = 1 := by omega
              have hcz5 : ¬ (c : Int) = 1 := by omega
              clear hnn hnp
              go_wp2_with (at_builtin; go_must (refine wpList_append_lies _ rfl (.tmp 66) (.tmp 71) 23 rfl w.heap.size 49 i0 (.agg #[.int .u8 0, .slice none 0 0]) 2 32 Tryz.underlying23 HI.out HZ0.out HZ1.out HZ2.out rfl (by omega) _ acc.length cs.flatten rfl (HO.out.alloc _) ⟨w3.heap.size, 0, none⟩ 1 1 [.int .u8 (k : Int), .slice (some ⟨g, 1, none⟩) (n - 1) (c - 1)] rfl rfl ?ba ?bb ?bc ?bd ?be ?bf _ rfl ?bg))
              try (case ba => (intro j u hj; rw [Addr.add_lit]; exact (Has.new w3 [.int .u8 (k : Int), .slice (some ⟨g, 1, none⟩) (n - 1) (c - 1)] _).cellAt (by rw [Nat.zero_add]; exact hj)))
              try (case bb => first | rfl | (intro u hu; simp only [List.mem_cons, List.not_mem_nil, or_false] at hu; rcases hu with rfl | rfl <;> rfl))
              try (case bc => omega)
              try (case bd => (have := HA.out; unfold maxLen; omega))
              try (case be => (have := HA.out; omega))
              try (case bf => (have := HB3.out.size; simp; omega))
              intro g5 cap5 w5 how hgr hat hlt5
              have A5 : Hid (Below w3.heap.size w3 (w3.alloc (.cells #[.int .u8 (k : Int), .slice (some ⟨g, 1, none⟩) (n - 1) (c - 1)] 49))) := Lib.hid ((Below.refl _ _).alloc (Nat.le_refl _) _)
              have HST5 : Hid (StP w5 w.heap.size (.slice (some ⟨g5, 0, none⟩) (acc.length + 1) cap5) (acc ++ [(k, xs)])) := Lib.hid (StP.grow (HO.out.alloc _) HCL.out (fun j hj => (HCS.out j hj).later A5.out) ⟨g, 1, n - 1, c - 1, rfl, (HWT3.out.tail).later A5.out⟩ hgr how)
              have HB5 : Hid (Below w.heap.size w w5) := Lib.hid ((HB3.out.trans (A5.out.mono HB3.out.size)).grown hgr (by have := HB3.out.size; have := A5.out.size; omega) (fun k hk => (HO.out.lt k hk).1))
              clear how hgr hat hlt5
              by_cases h200 : acc.length = 200
              · have h200' : (200 : Int) < (acc.length : Int) + 1 := by omega
                have HEND : Hid (R = ([], no, 2)) := Lib.hid (by have := HSTP.out; rw [if_pos trivial, if_pos h200] at this; exact this)
                clear h200 HSTP
                go_wp2_with fail
                refine bodyPost_ret (results_tmp3 rfl _ _ _) rfl ?_
                exact ⟨_, _, _, rfl, by rw [HEND.out]; exact ⟨rfl, rfl, rfl⟩, HB5.out⟩
              · have h200' : ¬ (200 : Int) < (acc.length : Int) + 1 := by have := HA.out; omega
                have HQ2 : Hid (RmP s R (i + 1) (no + 1) ⟨#[]⟩ (acc ++ [(k, xs)])) := Lib.hid (HNX.out _ (no + 1) (by have := HSTP.out; rw [if_pos trivial, if_neg h200] at this; exact this.symm))
                have HA2 : Hid ((acc ++ [(k, xs)]).length ≤ 200) := Lib.hid (by rw [List.length_append, List.length_singleton]; have := HA.out; omega)
                clear h200 HSTP
                go_wp2_with fail
                go_roundw
                case rel => exact ⟨i + 1, no + 1, ⟨#[]⟩, acc ++ [(k, xs)], by have := HIS.out; omega, by first | go_num | rfl, by first | go_num | rfl, rfl, HQ2, HA2, Lib.hid (by have := HNO.out; omega), Lib.hid (Nat.zero_le _), HST5, HB5⟩
                case measure => have := HIS.out; simp [intOf]; omega
            · rw [if_neg hnn] at HSTP
              have hc1 : ((n : Int) - 1 != (nn : Int)) = true := by have := HNL.out; rw [bne_iff_ne]; omega
              have hc2 : ¬ ((n : Int) - 1 = (nn : Int)) := by have := HNL.out; omega
              have HEND : Hid (R = ([], no, 1)) := Lib.hid HSTP.out
              clear hnn HSTP
              go_wp2_with fail
              refine bodyPost_ret (results_tmp3 rfl _ _ _) rfl ?_
              exact ⟨_, _, _, rfl, by rw [HEND.out]; exact ⟨rfl, rfl, rfl⟩, HB3.out⟩
end Go.Proofs.YtlccdenafnekjaaGreatDoor
namespace Go.Proofs.YtlccdenafnekjaaGreatDoor
open Go.RowKit
set_option linter.unusedVariables false
set_option maxRecDepth 100000

theorem st_ext {l k : List StD} {n : Nat} (h1 : l.length = n) (h2 : k.length = n) (h : ∀ j, j < n → l.getD j (0, []) = k.getD j (0, [])) : l = k := by
  apply List.ext_getElem (by rw [h1, h2])
  intro j g1 g2
  have := h j (by omega)
  rwa [List.getD_eq_getElem?_getD, List.getElem?_eq_getElem g1, List.getD_eq_getElem?_getD, List.getElem?_eq_getElem g2] at this
theorem wd_ext {l k : List (List UInt8)} {n : Nat} (h1 : l.length = n) (h2 : k.length = n) (h : ∀ j, j < n → l.getD j [] = k.getD j []) : l = k := by
  apply List.ext_getElem (by rw [h1, h2])
  intro j g1 g2
  have := h j (by omega)
  rwa [List.getD_eq_getElem?_getD, List.getElem?_eq_getElem g1, List.getD_eq_getElem?_getD, List.getElem?_eq_getElem g2] at this
/-- One of the steps, in its cells. -/
theorem SpS.get {w : World} {a : Option Addr} {n c : Nat} {l : List StD} (h : SpS w a n c l) {i : Nat} (hi : i < n) : ∃ b off ka kn kc, a = some ⟨b, off, none⟩ ∧ w.cell? ⟨b, off + i * 2, none⟩ = some (.int .u8 ((l.getD i (0, [])).1 : Int)) ∧ w.cell? ⟨b, off + i * 2 + 1, none⟩ = some (.slice ka kn kc) ∧ (l.getD i (0, [])).2.length = kn ∧
    (kn = 0 ∨ ∃ b' off', ka = some ⟨b', off', none⟩ ∧ kn ≤ kc ∧ kc ≤ maxLen ∧ b' < w.heap.size ∧ ∀ j, j < kn → w.cell? ⟨b', off' + j, none⟩ = some (strV ((l.getD i (0, [])).2.getD j []))) := by
  rcases h.at_ with h0 | ⟨b, off, rfl, hlt, hh⟩
  · omega
  · obtain ⟨cs, ⟨ka, kn, kc, rfl, _, hl, hw⟩, hr⟩ := hh i hi
    refine ⟨b, off, ka, kn, kc, rfl, hr 0 _ rfl, hr 1 _ rfl, hl, hw.imp id (fun ⟨b', off', h1, h2⟩ => ⟨b', off', h1, h2.2.2.1, h2.2.2.2.1, h2.1, h2.2.2.2.2⟩)⟩
theorem SpS.lt {w : World} {a : Option Addr} {n c : Nat} {l : List StD} (h : SpS w a n c l) {b off : Nat} (ha : a = some ⟨b, off, none⟩) (hn : 0 < n) : b < w.heap.size := by
  rcases h.at_ with h0 | ⟨b', off', h1, hlt, hh⟩
  · omega
  · rw [ha] at h1; cases h1; exact hlt
set_option maxHeartbeats 20000000 in
theorem same_steps (w : World) (a b : Option Addr) (n m c d : Nat) (l k : List StD) (h1 : SpS w a n c l) (h2 : SpS w b m d k) (hn : n ≤ 1000000) (hm : m ≤ 1000000) :
    Calls Tryz.prog 14 #[.slice a n c, .slice b m d] w fun e w' => ∃ r, e = .returned (.bool r) ∧ (r = true ↔ l = k) ∧ Below w.heap.size w w' := by
  by_cases hne : n = m
  · subst hne
    have H1 := Lib.hid h1
    have H2 := Lib.hid h2
    have HN := Lib.hid hn
    clear h1 h2 hn hm
    go_enter Tryz.func14, Tryz.ntmps14
    go_wp2_with fail
    go_loopw [5] (fun v5 wr => ∃ i : Nat, i ≤ n ∧ v5 = .int .i64 i ∧ Hid (∀ j, j < i → l.getD j (0, []) = k.getD j (0, [])) ∧ Hid (Below w.heap.size w wr)) (fun v5 _ => n - (intOf v5).toNat)
    case atStart => exact ⟨0, Nat.zero_le _, rfl, Lib.hid (fun j hj => by omega), Lib.hid (Below.refl _ _)⟩
    case round =>
      obtain ⟨i, hin, rfl, HEQ, HB⟩ := hrel
      have hib : (i : Int) ≤ 1000000 := by have := HN.out; omega
      by_cases hlt : i < n
      · have hii : (i : Int) < (n : Int) := by omega
        obtain ⟨b1, o1, ka1, kn, kc1, rfl, p0, p1, pl, pw⟩ := (H1.out.later HB.out).get hlt
        obtain ⟨b2, o2, ka2, kn2, kc2, rfl, q0, q1, ql, qw⟩ := (H2.out.later HB.out).get hlt
        have hR1 : i < c := by have := H1.out.room; omega
        have hR2 : i < d := by have := H2.out.room; omega
        obtain ⟨x, hx⟩ : ∃ x, x = l.getD i (0, []) := ⟨_, rfl⟩
        obtain ⟨y, hy⟩ : ∃ y, y = k.getD i (0, []) := ⟨_, rfl⟩
        rw [← hx] at p0 pl pw
        rw [← hy] at q0 ql qw
        have HX := Lib.hid hx
        have HY := Lib.hid hy
        have HLT := Lib.hid hlt
        have PL := Lib.hid pl
        have QL := Lib.hid ql
        have PW := Lib.hid pw
        have QW := Lib.hid qw
        clear hx hy pl ql pw qw
        by_cases hk : x.1 = y.1
        · have hk1 : ((x.1 : Int) != (y.1 : Int)) = false := by rw [hk]; simp
          have hk2 : ((x.1 : Int) = (y.1 : Int)) := by rw [hk]
          have HK := Lib.hid hk
          clear hk
          by_cases hl : kn = kn2
          · subst hl
            have P0 := Lib.hid p0
            have P1 := Lib.hid p1
            have Q0 := Lib.hid q0
            have Q1 := Lib.hid q1
            obtain ⟨W0, rfl⟩ : ∃ W0, W0 = wr := ⟨_, rfl⟩
            go_wp2_with fail
            go_quiet (fail)
            obtain ⟨w2, hw2⟩ : ∃ w2, w2 = W0.drewN nq := ⟨_, rfl⟩
            have hb2 : Below W0.heap.size W0 w2 := by rw [hw2]; exact drewN_below W0 nq
            have HB2 : Hid (Below w.heap.size w w2) := Lib.hid (HB.out.trans (hb2.mono HB.out.size))
            have HBW := Lib.hid hb2
            rw [← hw2]
            clear hb2 hw2 p0 p1 q0 q1 hk1 hk2
            go_wp2_with fail
            have LB1 : Hid (b1 < W0.heap.size) := Lib.hid (World.block_lt_of_cell? W0 _ P1.out)
            have LB2 : Hid (b2 < W0.heap.size) := Lib.hid (World.block_lt_of_cell? W0 _ Q1.out)
            go_loopw [6] (fun v6 wr => ∃ j : Nat, j ≤ kn ∧ v6 = .int .i64 j ∧ Hid (∀ q, q < j → x.2.getD q [] = y.2.getD q []) ∧ Hid (Below W0.heap.size W0 wr)) (fun v6 _ => kn - (intOf v6).toNat)
            case atStart => exact ⟨0, Nat.zero_le _, rfl, Lib.hid (fun q hq => by omega), HBW⟩
            case round =>
              obtain ⟨j, hjn, rfl, HJ, HS⟩ := hrel
              have p1 : wr.cell? ⟨b1, o1 + i * 2 + 1, none⟩ = some (.slice ka1 kn kc1) := (HS.out.cell (p := ⟨b1, o1 + i * 2 + 1, none⟩) LB1.out).trans P1.out
              have q1 : wr.cell? ⟨b2, o2 + i * 2 + 1, none⟩ = some (.slice ka2 kn kc2) := (HS.out.cell (p := ⟨b2, o2 + i * 2 + 1, none⟩) LB2.out).trans Q1.out
              have HBS : Hid (Below w.heap.size w wr) := Lib.hid (HB.out.trans (HS.out.mono HB.out.size))
              by_cases hlj : j < kn
              · have hji : (j : Int) < (kn : Int) := by omega
                rcases PW.out with h0 | ⟨b3, o3, rfl, k3, z3, l3, c3⟩
                · omega
                rcases QW.out with h0 | ⟨b4, o4, rfl, k4, z4, l4, c4⟩
                · omega
                have hkb : (j : Int) ≤ 9223372036854775806 := by unfold maxLen at z3; omega
                have hj1 : j < kc1 := by omega
                have hj2 : j < kc2 := by omega
                have r1 := (HS.out.cell (p := ⟨b3, o3 + j, none⟩) l3).trans (c3 j hlj)
                have r2 := (HS.out.cell (p := ⟨b4, o4 + j, none⟩) l4).trans (c4 j hlj)
                obtain ⟨u, hu⟩ : ∃ u, u = x.2.getD j [] := ⟨_, rfl⟩
                obtain ⟨v, hv⟩ : ∃ v, v = y.2.getD j [] := ⟨_, rfl⟩
                rw [← hu] at r1
                rw [← hv] at r2
                unfold strV at r1 r2
                obtain ⟨U, hU⟩ : ∃ U : ByteArray, U = ⟨u.toArray⟩ := ⟨_, rfl⟩
                obtain ⟨V, hV⟩ : ∃ V : ByteArray, V = ⟨v.toArray⟩ := ⟨_, rfl⟩
                rw [← hU] at r1
                rw [← hV] at r2
                have HUU := Lib.hid hU
                have HVV := Lib.hid hV
                clear hU hV
                have HU := Lib.hid hu
                have HV := Lib.hid hv
                have HLJ := Lib.hid hlj
                clear hu hv c3 c4
                by_cases huv : u = v
                · have he : (U.toList == V.toList) = true := by rw [HUU.out, HVV.out, huv]; simp
                  have HJ2 : Hid (∀ q, q < j + 1 → x.2.getD q [] = y.2.getD q []) := Lib.hid (fun q hq => by
                    by_cases e : q = j
                    · rw [e, ← HU.out, ← HV.out, huv]
                    · exact HJ.out q (by omega))
                  clear huv
                  go_wp2_with fail
                  go_quiet (fail)
                  go_wp2_with fail
                  go_roundw
                  case rel => exact ⟨j + 1, HLJ.out, by go_num, HJ2, Lib.hid (below_rf HS.out _)⟩
                  case measure => have := HLJ.out; simp [intOf]; omega
                · have he : (U.toList == V.toList) = false := by
                    have h : U.toList ≠ V.toList := fun h => huv (by rw [ByteArray.toList_eq, ByteArray.toList_eq, HUU.out, HVV.out] at h; simpa using h)
                    simpa using h
                  have HNE : Hid (¬ l = k) := Lib.hid (fun h => huv (by rw [HU.out, HV.out, HX.out, HY.out, h]))
                  clear huv
                  go_wp2_with fail
                  go_quiet (fail)
                  go_wp2_with fail
                  refine bodyPost_ret (results_tmp rfl _ _ _) rfl ?_
                  exact ⟨false, rfl, ⟨(fun h => by cases h), (fun h => absurd h HNE.out)⟩, below_rf HBS.out _⟩
              · have hji : ¬ (j : Int) < (kn : Int) := by omega
                obtain rfl : j = kn := by omega
                have HE2 : Hid (∀ q, q < i + 1 → l.getD q (0, []) = k.getD q (0, [])) := Lib.hid (fun q hq => by
                  by_cases e : q = i
                  · rw [e, ← HX.out, ← HY.out]
                    exact Prod.ext HK.out (wd_ext PL.out QL.out HJ.out)
                  · exact HEQ.out q (by omega))
                go_wp2_with fail
                go_roundw
                case rel => exact ⟨i + 1, HLT.out, by go_num, HE2, HBS⟩
                case measure => have := HLT.out; simp [intOf]; omega
          · have hl1 : ¬ (kn : Int) = (kn2 : Int) := by omega
            have hl2 : ((kn : Int) != (kn2 : Int)) = true := by rw [bne_iff_ne]; exact hl1
            have HNE : Hid (¬ l = k) := Lib.hid (fun h => hl (by rw [← PL.out, ← QL.out, HX.out, HY.out, h]))
            clear hl
            go_wp2_with fail
            go_quiet (fail)
            go_wp2_with fail
            refine bodyPost_ret (results_tmp rfl _ _ _) rfl ?_
            exact ⟨false, rfl, ⟨(fun h => by cases h), (fun h => absurd h HNE.out)⟩, below_rf HB.out _⟩
        · have hk0 : ¬ (x.1 : Int) = (y.1 : Int) := by omega
          have hk1 : ((x.1 : Int) != (y.1 : Int)) = true := by rw [bne_iff_ne]; exact hk0
          have HNE : Hid (¬ l = k) := Lib.hid (fun h => hk (by rw [HX.out, HY.out, h]))
          clear hk
          go_wp2_with fail
          go_quiet (fail)
          go_wp2_with fail
          refine bodyPost_ret (results_tmp rfl _ _ _) rfl ?_
          exact ⟨false, rfl, ⟨(fun h => by cases h), (fun h => absurd h HNE.out)⟩, below_rf HB.out _⟩
      · have hii : ¬ (i : Int) < (n : Int) := by omega
        obtain rfl : i = n := by omega
        have HE : Hid (l = k) := Lib.hid (st_ext H1.out.length H2.out.length HEQ.out)
        go_wp2_with fail
        refine bodyPost_ret (results_tmp rfl _ _ _) rfl ?_
        exact .inr ⟨rfl, HE.out, HB.out⟩
  · have hni : ¬ (n : Int) = (m : Int) := by omega
    have HNE : Hid (¬ l = k) := Lib.hid (fun h => hne (by rw [← h1.length, ← h2.length, h]))
    clear h1 h2 hne
    go_enter Tryz.func14, Tryz.ntmps14
    go_wp2_with fail
    refine bodyPost_ret (results_tmp rfl _ _ _) rfl ?_
    exact ⟨false, rfl, ⟨(fun h => by cases h), (fun h => absurd h HNE.out)⟩, Below.refl _ _⟩
end Go.Proofs.YtlccdenafnekjaaGreatDoor
namespace Go.Proofs.YtlccdenafnekjaaGreatDoor
open Go.RowKit
set_option linter.unusedVariables false
set_option maxRecDepth 100000

theorem spS_nil (w : World) : SpS w none 0 0 [] := ⟨rfl, .inl rfl, Nat.le_refl _⟩
theorem mean_kind (ws : List (List UInt8)) : (meanF ws).1 < 256 := by
  unfold meanF
  cases h : formsF.find? (fun f => f.2.1 == ws.headD []) with
  | none => exact Nat.zero_lt_succ _
  | some f =>
    have hm := List.mem_of_find?_eq_some h
    have h8 : ∀ g ∈ formsF, g.1 < 256 := by decide
    dsimp only
    split
    · exact h8 f hm
    · exact Nat.zero_lt_succ _
theorem parN_kinds : ∀ (ls : List (List UInt8)) (i : Nat) (acc : List StD), (∀ s ∈ acc, s.1 < 256) → acc.length ≤ 200 → (∀ s ∈ (parN ls i acc).1, s.1 < 256) ∧ (parN ls i acc).1.length ≤ 200
  | [], i, acc, h, hl => by rw [parN]; exact ⟨h, hl⟩
  | l :: ls, i, acc, h, hl => by
    cases hw : wordsF l with
    | none => rw [parN_words hw]; exact ⟨(fun s hs => by cases hs), Nat.zero_le _⟩
    | some ws =>
      cases ws with
      | nil => rw [parN_empty hw]; exact parN_kinds ls (i + 1) acc h hl
      | cons x xs =>
        rw [parN_step hw]
        by_cases h0 : (meanF (x :: xs)).2 = 0
        · rw [if_pos h0]
          by_cases h2 : acc.length = 200
          · rw [if_pos h2]; exact ⟨(fun s hs => by cases hs), Nat.zero_le _⟩
          · rw [if_neg h2]
            refine parN_kinds ls (i + 1) _ (fun s hs => ?_) (by rw [List.length_append, List.length_singleton]; omega)
            rcases List.mem_append.1 hs with h1 | h1
            · exact h s h1
            · rw [List.mem_singleton.1 h1]; exact mean_kind _
        · rw [if_neg h0]; exact ⟨(fun s hs => by cases hs), Nat.zero_le _⟩
theorem parF_kinds (l : List UInt8) : (∀ s ∈ (parF l).1, s.1 < 256) ∧ (parF l).1.length ≤ 200 := by
  unfold parF
  split
  · exact ⟨(fun s hs => by cases hs), Nat.zero_le _⟩
  · exact parN_kinds _ 0 [] (fun s hs => by cases hs) (Nat.zero_le _)
/-- What a Parse told, as a slice of steps. -/
theorem pp_steps {w w' : World} {r : List StD × Nat × Nat} {u : Value} {a e : Int} (h : PP w w' r u a e) (hk : ∀ s ∈ r.1, s.1 < 256) (hl : r.1.length ≤ 200) : ∃ ua n c l, u = .slice ua n c ∧ SpS w' ua n c l ∧ n ≤ 200 ∧ l = (if r.2.2 = 0 then r.1 else []) := by
  obtain ⟨h1, h2, h3⟩ := h
  by_cases h0 : r.2.2 = 0
  · rw [if_pos h0] at h3
    obtain ⟨ua, c, hu, hS⟩ := sp_of h3 hk
    exact ⟨ua, _, c, _, hu, hS, hl, by rw [if_pos h0]⟩
  · rw [if_neg h0] at h3
    exact ⟨none, 0, 0, [], h3, spS_nil _, Nat.zero_le _, by rw [if_neg h0]⟩
set_option maxHeartbeats 20000000 in
theorem walk_RecipeReads (W : World) (s : ByteArray) (hs : s.size ≤ 140737488355328) (hm : MaxW W) (hL : LaidR W) (hmx : 1 < W.heap.size) :
    Calls Tryz.prog 3 #[.string s] W fun e W' => e = .returned (.bool true) ∧ Below W.heap.size W W' := by
  have HAW := Lib.hid (awake_any W hm hL hmx)
  have HM := Lib.hid hm
  have HL := Lib.hid hL
  have HMX := Lib.hid hmx
  have HS := Lib.hid hs
  have HK := Lib.hid (parF_kinds s.data.toList)
  obtain ⟨R, hR⟩ : ∃ R, R = parF s.data.toList := ⟨_, rfl⟩
  rw [← hR] at HK
  have HR := Lib.hid hR
  clear hm hL hmx hs hR
  go_enter Tryz.func3, Tryz.ntmps3
  go_wp2_with fail
  refine HAW.out.mono ?_
  rintro e w1 ⟨rfl, hb1⟩
  have B1 := Lib.hid hb1
  clear hb1 HAW
  go_wp2_with fail
  refine (parse_any s w1 (HM.out.below B1.out HMX.out) (HL.out.later B1.out)).mono ?_
  rintro e w2 ⟨u, at_, er, rfl, hpp, hb2⟩
  rw [← HR.out] at hpp
  obtain ⟨ua, un, uc, l, rfl, hS, hn, hl⟩ := pp_steps hpp HK.out.1 HK.out.2
  have h1 : at_ = (R.2.1 : Int) := hpp.1
  have h2 : er = (R.2.2 : Int) := hpp.2.1
  subst h1 h2
  have B2 := Lib.hid (B1.out.trans (hb2.mono B1.out.size))
  have HS2 := Lib.hid hS
  have HN2 := Lib.hid hn
  have HL2 := Lib.hid hl
  clear hpp hb2 hS hn hl
  go_wp2_with fail
  refine (rparse_any s w2 HS.out).mono ?_
  rintro e w3 ⟨u, at_, er, rfl, hpp, hb3⟩
  rw [← HR.out] at hpp
  obtain ⟨va, vn, vc, k, rfl, hS, hn, hl⟩ := pp_steps hpp HK.out.1 HK.out.2
  have h1 : at_ = (R.2.1 : Int) := hpp.1
  have h2 : er = (R.2.2 : Int) := hpp.2.1
  subst h1 h2
  have B3 := Lib.hid (B2.out.trans (hb3.mono B2.out.size))
  have HS3 := Lib.hid hS
  have HS4 := Lib.hid (HS2.out.later hb3)
  have HN3 := Lib.hid hn
  have HLK : Hid (l = k) := Lib.hid (by rw [HL2.out, hl])
  clear hpp hb3 hS hn hl
  go_wp2_with fail
  refine (same_steps w3 ua va un vn uc vc l k HS4.out HS3.out (by have := HN2.out; omega) (by have := HN3.out; omega)).mono ?_
  rintro e w4 ⟨r, rfl, hr, hb4⟩
  have hrt : r = true := hr.2 HLK.out
  subst hrt
  have B4 := Lib.hid (B3.out.trans (hb4.mono B3.out.size))
  clear hr hb4
  go_wp2_with fail
  refine bodyPost_ret (results_tmp rfl _ _ _) rfl ?_
  exact ⟨rfl, B4.out⟩
end Go.Proofs.YtlccdenafnekjaaGreatDoor

namespace Go.Proofs.YtlccdenafnekjaaGreatDoor.recipeReads
open Go.ChangeShapes Go.WideShapes Go.ChangeAt Go.RowKit
open Go.ChangeMaps (open_string shut_string)
set_option linter.unusedVariables false

theorem own : ownKnob Tryz.prog.godebug = none := by kernel_rfl
theorem laidOut : laidOutB Tryz.prog = true := by kernel_rfl

set_option maxRecDepth 100000 in
theorem lifted (os : Os) (started : os.Started) (H : Type) (enc : TypeId × Value → H) :
    ReturnsInHanded {} Tryz.checked os 3 .any (fun w args => (Rows.recipeReadsSpec.pre enc Tryz.prog Tryz.f3 Rows.recipeReadsRow.domain false w args ∧ laidMetH Tryz.prog Rows.recipeReadsRow.laid w) ∧ sizedMet enc Tryz.prog Tryz.f3 (OpenSpec.ofChange Rows.recipeReadsSpec) false w args)
      (Rows.recipeReadsSpec.post enc Tryz.prog Tryz.f3 false true false false) := by
  refine handed_shaped_and (C := Tryz.checked) (X := fun w _ => laidMetH Tryz.prog Rows.recipeReadsRow.laid w) (fun _ _ _ hh h => h.of_heap hh) own started (by kernel_rfl) Tryz.func3
    (ChangeSpec.witness_shaped (enc := enc) (C := Tryz.checked) (os := os) (X := fun w _ => laidMetH Tryz.prog Rows.recipeReadsRow.laid w) false (World.laidAll Tryz.prog os Rows.recipeReadsRow.laid) #[.string ByteArray.empty] 8 (World.laidAll_os _ _ _)
      (World.shaped_of_ZipB (by kernel_rfl) (by kernel_rfl)) (by kernel_rfl) (by kernel_rfl) (by kernel_rfl)
      (by rw [MakeChecks.laidMetH_plain _ _ _ (by kernel_rfl)]; exact laidMet_laidAll _ (by kernel_rfl) (by kernel_rfl))) ?_
  intro W base args ds gs before hval0 hW _ hsz0 hL hsh _
  have hLR : LaidR W := laid_metR hL
  have hl : MaxW W := Tryz.laysM146.s1_3 W hsh
  have hmx : 1 < W.heap.size := by
    obtain ⟨m, hm⟩ := hl
    exact World.block_lt_of_cell? W _ hm
  have hsz : (DataW.weightsEach Tryz.prog (Tryz.f3.params.toList ++ Rows.recipeReadsSpec.plain.varTypes Tryz.prog) (ds ++ gs)).all (· ≤ reachBytes) = true := hsz0
  have hval : ∀ (j : Nat) t v, Tryz.f3.params[j]? = some t → args[j]? = some v → Value.okWide Tryz.prog W .any base t v := hval0
  have hW' := hW
  obtain ⟨p, q, hA0, hV, rfl, hfz, hnd⟩ := hW
  have hA : DataW.TrodAll enc Tryz.prog W 0 (fun _ => true) true Tryz.f3.params.toList args.toList ds p := hA0
  rw [Tryz.params3] at hA hval hsz
  obtain ⟨v0, vs0, d0, ds0, p0, q0, hargs, rfl, rfl, h0, r0⟩ := trodAll_cons hA
  obtain ⟨rfl, rfl, rfl⟩ := trodAll_nil r0
  obtain rfl : args = #[v0] := by cases args; simp_all
  obtain ⟨rfl, rfl⟩ := trodVars_none hV
  have str0 : ∀ bytes : List UInt8, d0 = .lit (.string bytes) → bytes.length ≤ 140737488355328 := fun bytes hb => by have hs := sized_string hsz (j := 0) (t := 9) (bytes := bytes) rfl (by rw [hb]; rfl); unfold reachBytes at hs; omega
  obtain ⟨a0, rfl, rfl, rfl, w0⟩ := open_string Tryz.underlying9 (hval 0 9 v0 rfl rfl) h0
  clear hA0 hval0
  refine (walk_RecipeReads W a0 (by have := str0 _ rfl; simpa using this) hl hLR hmx).mono fun e W' ⟨he, bel⟩ => ?_
  subst he
  exact ⟨_, rfl, _, _, _, [], _, [], hW', trodAll_mk1 (shut_bool Tryz.underlying4 _), (trodAll_cons_mk (shut_string Tryz.underlying9 w0) trodAll_mk0), rfl, bel.frame _, fun h => by cases h⟩

theorem over : Rows.recipeReadsRow.holds Tryz.pinned (OpenSpec.ofChange Rows.recipeReadsSpec) :=
  OpenClaim.holds_of_wide 3 Tryz.f3 rfl rfl rfl rfl rfl rfl rfl ⟨rfl, rfl, rfl, rfl, rfl⟩ rfl rfl rfl rfl rfl (by kernel_rfl) Tryz.func3 (by kernel_rfl)
    (of_decide_eq_true (by kernel_rfl)) (by unfold Func.isWrapper; first | (rw [if_pos (by decide +kernel)]; kernel_rfl) | (rw [if_neg (by decide +kernel)]; exact ⟨rfl, rfl⟩))
    (fun os started H enc _ => lifted os started H enc)

/-- The statement. -/
theorem proved : Rows.RecipeReadsCardSaid :=
  Claim7.holds_tied_plain_at .later [] [.data, .data, .pinned] true Rows.recipeReadsCard.stood.harness false
    over (fun _ h => by cases h) (by kernel_rfl) (fun _ h => by cases h) recipeReads_row_tie rfl ⟨rfl, rfl⟩ (by kernel_rfl) rfl
    (fun f fn hf hfn => by
      obtain rfl : f = 3 := Option.some.inj ((show Tryz.prog.funcNamed "staddle/staddlelaw12.RecipeReads" = some 3 by kernel_rfl).symm.trans hf) |>.symm
      obtain rfl : fn = Tryz.f3 := (Option.some.inj (Tryz.func3.symm.trans hfn)).symm
      exact ⟨by kernel_rfl, fun j t ht => by
        rw [Tryz.params3] at ht
        have hm : t ∈ [9] := by simpa using Array.mem_of_getElem? ht
        have hall : ([9].all fun u => !Tryz.prog.wantsStandIn u) = true := by kernel_rfl
        exact (show Tryz.prog.wantsStandIn t = false by simpa using List.all_eq_true.1 hall t hm)⟩)
    (by kernel_rfl)
end Go.Proofs.YtlccdenafnekjaaGreatDoor.recipeReads

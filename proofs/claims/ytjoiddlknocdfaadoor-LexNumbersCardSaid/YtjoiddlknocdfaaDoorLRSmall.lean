/-
  The contracts of the reference's helpers: letter, digit, word (at a), great (at digits), Same (at the same tokens). Conditions: as said.
-/
import Derived.Test.YtjoiddlknocdfaaDoorLJoinWalk
import Derived.Test.YtjoiddlknocdfaaDoorLGreatM
namespace Go.Proofs.YtjoiddlknocdfaaDoor
open Go.RowKit
set_option linter.unusedVariables false

set_option maxRecDepth 100000 in
set_option maxHeartbeats 4000000 in
theorem rlet_any (c : UInt8) (w : World) : Calls Tryd.prog 17 #[.int .u8 (c.toNat : Int)] w fun e w' => e = .returned (.bool (bgnL c)) ∧ w = w' := by
  have hb : bgnL c = (((c.toNat : Int) == 95) || decide ((97 : Int) ≤ (c.toNat : Int)) && decide ((c.toNat : Int) ≤ 122) || decide ((65 : Int) ≤ (c.toNat : Int)) && decide ((c.toNat : Int) ≤ 90)) := by
    unfold bgnL
    rw [Bool.eq_iff_iff]; simp; omega
  rw [hb]
  clear hb
  generalize (c.toNat : Int) = z
  by_cases h5 : z = 95
  · subst h5
    go_enter Tryd.func17, Tryd.ntmps17
    go_wp2
    go_ret
    exact ⟨rfl, rfl⟩
  · by_cases h1 : (97 : Int) ≤ z
    · by_cases h2 : z ≤ 122
      · go_enter Tryd.func17, Tryd.ntmps17
        go_wp2
        go_ret
        refine ⟨?_, rfl⟩; show Ending.returned (.bool _) = Ending.returned (.bool _); first | rfl | (refine congrArg (fun b => Ending.returned (.bool b)) ?_; rw [Bool.eq_iff_iff]; simp <;> omega)
      · have h3 : (65 : Int) ≤ z := by omega
        have h4 : ¬ z ≤ 90 := by omega
        go_enter Tryd.func17, Tryd.ntmps17
        go_wp2
        go_ret
        refine ⟨?_, rfl⟩; show Ending.returned (.bool _) = Ending.returned (.bool _); first | rfl | (refine congrArg (fun b => Ending.returned (.bool b)) ?_; rw [Bool.eq_iff_iff]; simp <;> omega)
    · by_cases h3 : (65 : Int) ≤ z
      · by_cases h4 : z ≤ 90
        · go_enter Tryd.func17, Tryd.ntmps17
          go_wp2
          go_ret
          refine ⟨?_, rfl⟩; show Ending.returned (.bool _) = Ending.returned (.bool _); first | rfl | (refine congrArg (fun b => Ending.returned (.bool b)) ?_; rw [Bool.eq_iff_iff]; simp <;> omega)
        · go_enter Tryd.func17, Tryd.ntmps17
          go_wp2
          go_ret
          refine ⟨?_, rfl⟩; show Ending.returned (.bool _) = Ending.returned (.bool _); first | rfl | (refine congrArg (fun b => Ending.returned (.bool b)) ?_; rw [Bool.eq_iff_iff]; simp <;> omega)
      · go_enter Tryd.func17, Tryd.ntmps17
        go_wp2
        go_ret
        refine ⟨?_, rfl⟩; show Ending.returned (.bool _) = Ending.returned (.bool _); first | rfl | (refine congrArg (fun b => Ending.returned (.bool b)) ?_; rw [Bool.eq_iff_iff]; simp <;> omega)
theorem rlet_z (c : UInt8) (z : Int) (hz : Hid (z = (c.toNat : Int))) (b : Bool) (hb : Hid (bgnL c = b)) (w : World) : Calls Tryd.prog 17 #[.int .u8 z] w fun e w' => e = .returned (.bool b) ∧ w = w' := by
  rw [hz.out, ← hb.out]; exact rlet_any c w

set_option maxRecDepth 100000 in
set_option maxHeartbeats 4000000 in
theorem rdig_any (c : UInt8) (w : World) : Calls Tryd.prog 18 #[.int .u8 (c.toNat : Int)] w fun e w' => e = .returned (.bool (digL c)) ∧ w = w' := by
  have hb : digL c = (decide ((48 : Int) ≤ (c.toNat : Int)) && decide ((c.toNat : Int) ≤ 57)) := by
    unfold digL
    congr 1 <;> (apply decide_eq_decide.2; omega)
  rw [hb]
  clear hb
  generalize (c.toNat : Int) = z
  by_cases h1 : (48 : Int) ≤ z
  · by_cases h2 : z ≤ 57
    · go_enter Tryd.func18, Tryd.ntmps18
      go_wp2
      go_ret
      refine ⟨?_, rfl⟩; show Ending.returned (.bool _) = Ending.returned (.bool _); first | rfl | (refine congrArg (fun b => Ending.returned (.bool b)) ?_; rw [Bool.eq_iff_iff]; simp <;> omega)
    · go_enter Tryd.func18, Tryd.ntmps18
      go_wp2
      go_ret
      refine ⟨?_, rfl⟩; show Ending.returned (.bool _) = Ending.returned (.bool _); first | rfl | (refine congrArg (fun b => Ending.returned (.bool b)) ?_; rw [Bool.eq_iff_iff]; simp <;> omega)
  · go_enter Tryd.func18, Tryd.ntmps18
    go_wp2
    go_ret
    refine ⟨?_, rfl⟩; show Ending.returned (.bool _) = Ending.returned (.bool _); first | rfl | (refine congrArg (fun b => Ending.returned (.bool b)) ?_; rw [Bool.eq_iff_iff]; simp <;> omega)
theorem rdig_z (c : UInt8) (z : Int) (hz : Hid (z = (c.toNat : Int))) (b : Bool) (hb : Hid (digL c = b)) (w : World) : Calls Tryd.prog 18 #[.int .u8 z] w fun e w' => e = .returned (.bool b) ∧ w = w' := by
  rw [hz.out, ← hb.out]; exact rdig_any c w

set_option maxRecDepth 100000 in
set_option maxHeartbeats 4000000 in
theorem rword_a (x : ByteArray) (hx : x.data.toList = [97]) (w : World) : Calls Tryd.prog 19 #[.string x] w fun e w' => e = .returned (.bool false) ∧ Below w.heap.size w w' := by
  have hxt : x.toList = [97] := by rw [ByteArray.toList_eq]; exact hx
  have HXT := Lib.hid hxt
  clear hx hxt
  go_enter Tryd.func19, Tryd.ntmps19
  go_wp2_with fail
  obtain ⟨g, hg⟩ : ∃ g, g = w.heap.size := ⟨_, rfl⟩
  obtain ⟨w1, hw1⟩ : ∃ w1, w1 = w.alloc (.cells (wordB.map Value.string).toArray 9) := ⟨_, rfl⟩
  have H1 : Hid (Has w1 g (wordB.map Value.string) 9) := Lib.hid (by rw [hw1, hg]; exact Has.new w _ _)
  have HB1 : Hid (Below w.heap.size w w1) := Lib.hid (by rw [hw1]; exact (Below.refl _ _).alloc (Nat.le_refl _) _)
  have hw2 : w.alloc (.cells #[.string ⟨#[108, 101, 116]⟩, .string ⟨#[105, 110]⟩, .string ⟨#[114, 101, 99]⟩, .string ⟨#[119, 105, 116, 104]⟩, .string ⟨#[105, 110, 104, 101, 114, 105, 116]⟩, .string ⟨#[105, 102]⟩, .string ⟨#[116, 104, 101, 110]⟩, .string ⟨#[101, 108, 115, 101]⟩, .string ⟨#[97, 115, 115, 101, 114, 116]⟩, .string ⟨#[111, 114]⟩] 9) = w1 := by rw [hw1]; rfl
  rw [hw2, ← hg]
  clear hw1 hw2 hg
  go_loopg [4] 10 (fun gk v4 wr => wr = w1 ∧ ∃ i : Nat, gk = 10 - i ∧ i ≤ 10 ∧ v4 = .int .i64 i)
  case atStart => exact ⟨rfl, 0, rfl, Nat.zero_le _, rfl⟩
  case round =>
    obtain ⟨rfl, i, rfl, hi, rfl⟩ := hrel
    by_cases hlt : i < 10
    · have hii : (i : Int) < 10 := by omega
      have hcell : wr.cell? ⟨g, i, none⟩ = some (.string (wordB.getD i ⟨#[]⟩)) := by
        have : (wordB.map Value.string)[i]? = some (.string (wordB.getD i ⟨#[]⟩)) := by
          rw [List.getElem?_map, List.getD_eq_getElem?_getD, List.getElem?_eq_getElem (show i < wordB.length from hlt)]; rfl
        exact H1.out.cellAt this
      have hne : ((wordB.getD i ⟨#[]⟩).toList == x.toList) = false := by
        rw [HXT.out]
        have h : i = 0 ∨ i = 1 ∨ i = 2 ∨ i = 3 ∨ i = 4 ∨ i = 5 ∨ i = 6 ∨ i = 7 ∨ i = 8 ∨ i = 9 := by omega
        rcases h with rfl | rfl | rfl | rfl | rfl | rfl | rfl | rfl | rfl | rfl <;> (rw [ByteArray.toList_eq]; rfl)
      obtain ⟨wb, hwb⟩ : ∃ wb, wb = wordB.getD i ⟨#[]⟩ := ⟨_, rfl⟩
      rw [← hwb] at hcell hne
      clear hwb
      go_wp2_with fail
      go_roundg (10 - (i + 1))
      case rel => exact ⟨rfl, i + 1, rfl, by omega, by go_num⟩
      case measure => omega
    · obtain rfl : i = 10 := by omega
      go_wp2_with fail
      go_ret
      exact ⟨rfl, HB1.out⟩

set_option maxRecDepth 100000 in
set_option maxHeartbeats 4000000 in
theorem rgreat_any (x : ByteArray) (l : List UInt8) (hx : Hid (x.data.toList = l)) (hd : ∀ c ∈ l, digL c = true) (hl : l.length ≤ 100) (w : World) : Calls Tryd.prog 20 #[.string x] w fun e w' => e = .returned (.bool (decide (9223372036854775807 < decA 0 l))) ∧ w = w' := by
  have HD := Lib.hid hd
  have HL := Lib.hid hl
  clear hd hl
  go_enter Tryd.func20, Tryd.ntmps20
  go_wp2_with fail
  go_loopg [0] l.length (fun gk v0 wr => wr = w ∧ ∃ (y : ByteArray) (m : List UInt8), gk = m.length ∧ v0 = .string y ∧ Hid (y.data.toList = m) ∧ Hid (decA 0 m = decA 0 l) ∧ Hid (∀ c ∈ m, digL c = true) ∧ m.length ≤ 100)
  case atStart => exact ⟨rfl, x, l, rfl, rfl, hx, Lib.hid rfl, HD, HL.out⟩
  case round =>
    obtain ⟨rfl, y, m, rfl, rfl, hy, hdm, hdg, hml⟩ := hrel
    have hys : y.size = m.length := by rw [← hy.out]; simp
    have HYS := Lib.hid hys
    have hyt : y.toList = m := by rw [ByteArray.toList_eq]; exact hy.out
    cases m with
    | nil =>
      have hy0 : y.size = 0 := hys
      have hyi : ¬ (0 : Int) < (y.size : Int) := by omega
      have hR : Hid (decide (9223372036854775807 < decA 0 l) = false) := Lib.hid (by rw [← hdm.out]; rfl)
      have hy19 : ¬ (19 : Int) < (y.size : Int) := by omega
      have hye : ((y.size : Int) == 19) = false := by rw [hy0]; rfl
      clear hys hyt
      go_wp2_with fail
      go_ret
      exact ⟨by rw [hR.out]; rfl, rfl⟩
    | cons c t =>
      have hy1 : y.size = t.length + 1 := hys
      have hyi : (0 : Int) < (y.size : Int) := by omega
      have h0y : 0 < y.size := by omega
      have hget := str_get y 0 h0y
      rw [hy.out] at hget
      simp only [List.getD_eq_getElem?_getD, List.getElem?_cons_zero, Option.getD_some] at hget
      by_cases h48 : c.toNat = 48
      · have h48i : (c.toNat : Int) = 48 := by omega
        have hy1i : (1 : Int) ≤ (y.size : Int) := by omega
        have HY : Hid ((y.extract 1 y.size).data.toList = t) := Lib.hid (by rw [ext_list y 1 (by omega), hy.out]; rfl)
        have hc : c = 48 := UInt8.toNat_inj.1 h48
        have HDM : Hid (decA 0 t = decA 0 l) := Lib.hid (by rw [← hdm.out, hc, decA_zero])
        have HDG : Hid (∀ d ∈ t, digL d = true) := Lib.hid (fun d hd => hdg.out d (by simp [hd]))
        clear hys hyt hy1 hc h48
        go_wp2_with fail
        go_roundg t.length
        case rel => exact ⟨rfl, _, t, rfl, rfl, HY, HDM, HDG, by simp at hml; omega⟩
        case measure => simp
      · have h48i : ¬ (c.toNat : Int) = 48 := by omega
        have HTOP : Hid (decide (9223372036854775807 < decA 0 l) = decide (9223372036854775807 < decA 0 (c :: t))) := Lib.hid (by rw [hdm.out])
        by_cases h19 : 19 ≤ t.length
        · have hy19 : (19 : Int) < (y.size : Int) := by omega
          have HR : Hid (decide (9223372036854775807 < decA 0 l) = true) := Lib.hid (by rw [HTOP.out]; exact decide_eq_true (great_long hdg.out h48 h19))
          clear hys hyt hy1
          go_wp2_with fail
          go_ret
          exact ⟨by rw [HR.out]; rfl, rfl⟩
        · by_cases h18 : t.length = 18
          · have hy19 : ¬ (19 : Int) < (y.size : Int) := by omega
            have hye : ((y.size : Int) == 19) = true := by rw [hy1, h18]; rfl
            have HC : Hid (Op.bytesLess maxD (c :: t) = decide (9223372036854775807 < decA 0 l)) := Lib.hid (by rw [HTOP.out]; exact great_even hdg.out (by simp [h18]))
            have HCM : Hid ((!(Op.bytesLess y.toList maxD || y.toList == maxD)) = decide (9223372036854775807 < decA 0 l)) := Lib.hid (by
              rw [hyt, HTOP.out]; exact great_even' hdg.out (by simp [h18]))
            clear hys hyt hy1 HTOP
            go_wp2_with fail
            go_ret
            refine ⟨?_, rfl⟩
            show Ending.returned (.bool _) = Ending.returned (.bool _)
            refine congrArg (fun b => Ending.returned (.bool b)) ?_
            rw [← HCM.out]
            simp [maxD]
          · have hy19 : ¬ (19 : Int) < (y.size : Int) := by omega
            have hye : ((y.size : Int) == 19) = false := by simp; omega
            have HR : Hid (decide (9223372036854775807 < decA 0 l) = false) := Lib.hid (by rw [HTOP.out]; exact decide_eq_false (great_short hdg.out (by simp; omega)))
            clear hys hyt hy1
            go_wp2_with fail
            go_ret
            exact ⟨by rw [HR.out]; rfl, rfl⟩

end Go.Proofs.YtjoiddlknocdfaaDoor

/-
  The contracts of the lexer's small helpers: sorts of bytes, how many of a sort, the end of the line, what stands behind a backslash. No condition but a text's bound.
-/
import Derived.Test.YtnajafnbickiiaaDoorLWr
import Derived.Test.YtnajafnbickiiaaDoorShelf
import Derived.Lib.Bytealg
namespace Go.Proofs.YtnajafnbickiiaaDoor
open Go.RowKit
set_option linter.unusedVariables false

theorem str_get (s : ByteArray) (i : Nat) (h : i < s.size) : s[i] = s.data.toList.getD i 0 := by
  have hl : i < s.data.toList.length := by simpa using h
  rw [List.getD_eq_getElem?_getD, List.getElem?_eq_getElem hl]
  rfl
theorem bytes_ext {s t : ByteArray} (h : s.data.toList = t.data.toList) : s = t := by
  cases s; cases t
  congr 1
  exact Array.toList_inj.1 h

set_option maxRecDepth 100000 in
set_option maxHeartbeats 4000000 in
theorem bgn_any (c : UInt8) (w : World) : Calls Tryd.prog 18 #[.int .u8 (c.toNat : Int)] w fun e w' => e = .returned (.bool (bgnL c)) ∧ w = w' := by
  have hb : bgnL c = (decide ((97 : Int) ≤ (c.toNat : Int)) && decide ((c.toNat : Int) ≤ 122) || decide ((65 : Int) ≤ (c.toNat : Int)) && decide ((c.toNat : Int) ≤ 90) || ((c.toNat : Int) == 95)) := by
    unfold bgnL
    congr 1
    · congr 1 <;> congr 1 <;> (apply decide_eq_decide.2; omega)
    · rw [Bool.eq_iff_iff]; simp only [beq_iff_eq]; omega
  rw [hb]
  clear hb
  generalize (c.toNat : Int) = z
  by_cases h1 : (97 : Int) ≤ z
  · by_cases h2 : z ≤ 122
    · go_enter Tryd.func18, Tryd.ntmps18
      go_wp2
      go_ret
      exact ⟨by simp <;> omega, rfl⟩
    · have h3 : (65 : Int) ≤ z := by omega
      have h4 : ¬ z ≤ 90 := by omega
      have h5 : ¬ z = 95 := by omega
      go_enter Tryd.func18, Tryd.ntmps18
      go_wp2
      go_ret
      exact ⟨by simp <;> omega, rfl⟩
  · by_cases h3 : (65 : Int) ≤ z
    · by_cases h4 : z ≤ 90
      · go_enter Tryd.func18, Tryd.ntmps18
        go_wp2
        go_ret
        exact ⟨by simp <;> omega, rfl⟩
      · by_cases h5 : z = 95
        · subst h5
          go_enter Tryd.func18, Tryd.ntmps18
          go_wp2
          go_ret
          exact ⟨rfl, rfl⟩
        · go_enter Tryd.func18, Tryd.ntmps18
          go_wp2
          go_ret
          exact ⟨by simp <;> omega, rfl⟩
    · have h5 : ¬ z = 95 := by omega
      go_enter Tryd.func18, Tryd.ntmps18
      go_wp2
      go_ret
      exact ⟨by simp <;> omega, rfl⟩

set_option maxRecDepth 100000 in
set_option maxHeartbeats 4000000 in
theorem dig_any (c : UInt8) (w : World) : Calls Tryd.prog 20 #[.int .u8 (c.toNat : Int)] w fun e w' => e = .returned (.bool (digL c)) ∧ w = w' := by
  have hb : digL c = (decide ((48 : Int) ≤ (c.toNat : Int)) && decide ((c.toNat : Int) ≤ 57)) := by
    unfold digL
    congr 1 <;> (apply decide_eq_decide.2; omega)
  rw [hb]
  clear hb
  generalize (c.toNat : Int) = z
  by_cases h1 : (48 : Int) ≤ z
  · by_cases h2 : z ≤ 57
    · go_enter Tryd.func20, Tryd.ntmps20
      go_wp2
      go_ret
      exact ⟨by simp <;> omega, rfl⟩
    · go_enter Tryd.func20, Tryd.ntmps20
      go_wp2
      go_ret
      exact ⟨by simp <;> omega, rfl⟩
  · go_enter Tryd.func20, Tryd.ntmps20
    go_wp2
    go_ret
    exact ⟨by simp <;> omega, rfl⟩

theorem bgn_z (c : UInt8) (z : Int) (hz : Hid (z = (c.toNat : Int))) (b : Bool) (hb : Hid (bgnL c = b)) (w : World) : Calls Tryd.prog 18 #[.int .u8 z] w fun e w' => e = .returned (.bool b) ∧ w = w' := by
  rw [hz.out, ← hb.out]; exact bgn_any c w
theorem dig_z (c : UInt8) (z : Int) (hz : Hid (z = (c.toNat : Int))) (b : Bool) (hb : Hid (digL c = b)) (w : World) : Calls Tryd.prog 20 #[.int .u8 z] w fun e w' => e = .returned (.bool b) ∧ w = w' := by
  rw [hz.out, ← hb.out]; exact dig_any c w

set_option maxRecDepth 100000 in
set_option maxHeartbeats 1000000 in
theorem in_any (c : UInt8) (w : World) : Calls Tryd.prog 38 #[.int .u8 (c.toNat : Int)] w fun e w' => e = .returned (.bool (inL c)) ∧ w = w' := by
  obtain ⟨b, hb⟩ : ∃ b, bgnL c = b := ⟨_, rfl⟩
  obtain ⟨d, hd⟩ : ∃ d, digL c = d := ⟨_, rfl⟩
  obtain ⟨z, hz⟩ : ∃ z, z = (c.toNat : Int) := ⟨_, rfl⟩
  have hin : inL c = (b || d || (z == 39) || (z == 45)) := by
    unfold inL
    rw [hb, hd, hz]
    congr 1
    · congr 1; rw [Bool.eq_iff_iff]; simp only [beq_iff_eq]; omega
    · rw [Bool.eq_iff_iff]; simp only [beq_iff_eq]; omega
  rw [hin, ← hz]
  have HB := Lib.hid hb
  have HD := Lib.hid hd
  have HZ := Lib.hid hz
  clear hb hd hz hin
  cases b
  · cases d
    · by_cases h39 : z = 39
      · subst h39
        go_enter Tryd.func38, Tryd.ntmps38
        go_wp2_with fail
        refine (bgn_z c _ HZ false HB _).mono ?_
        rintro e w' ⟨rfl, rfl⟩
        go_wp2_with fail
        refine (dig_z c _ HZ false HD _).mono ?_
        rintro e w' ⟨rfl, rfl⟩
        go_wp2_with fail
        go_ret
        exact ⟨rfl, rfl⟩
      · by_cases h45 : z = 45
        · subst h45
          go_enter Tryd.func38, Tryd.ntmps38
          go_wp2_with fail
          refine (bgn_z c _ HZ false HB _).mono ?_
          rintro e w' ⟨rfl, rfl⟩
          go_wp2_with fail
          refine (dig_z c _ HZ false HD _).mono ?_
          rintro e w' ⟨rfl, rfl⟩
          go_wp2_with fail
          go_ret
          exact ⟨rfl, rfl⟩
        · go_enter Tryd.func38, Tryd.ntmps38
          go_wp2_with fail
          refine (bgn_z c _ HZ false HB _).mono ?_
          rintro e w' ⟨rfl, rfl⟩
          go_wp2_with fail
          refine (dig_z c _ HZ false HD _).mono ?_
          rintro e w' ⟨rfl, rfl⟩
          go_wp2_with fail
          go_ret
          refine ⟨?_, rfl⟩
          have e1 : (z == 39) = false := by simpa using h39
          have e2 : (z == 45) = false := by simpa using h45
          rw [e1, e2]; rfl
    · go_enter Tryd.func38, Tryd.ntmps38
      go_wp2_with fail
      refine (bgn_z c _ HZ false HB _).mono ?_
      rintro e w' ⟨rfl, rfl⟩
      go_wp2_with fail
      refine (dig_z c _ HZ true HD _).mono ?_
      rintro e w' ⟨rfl, rfl⟩
      go_wp2_with fail
      go_ret
      exact ⟨rfl, rfl⟩
  · go_enter Tryd.func38, Tryd.ntmps38
    go_wp2_with fail
    refine (bgn_z c _ HZ true HB _).mono ?_
    rintro e w' ⟨rfl, rfl⟩
    go_wp2_with fail
    go_ret
    exact ⟨by cases d <;> rfl, rfl⟩

/-- A function of the program that tells of a byte whether it is of a sort. -/
def SortF (f : Nat) (p : UInt8 → Bool) : Prop := ∀ (c : UInt8) (w : World), Calls Tryd.prog f #[.int .u8 (c.toNat : Int)] w fun e w' => e = .returned (.bool (p c)) ∧ w = w'

theorem lenOf_spec (p : UInt8 → Bool) : ∀ (l : List UInt8) (k : Nat), (∀ j, j < k → p (l.getD j 0) = true) → k ≤ l.length → (k = l.length ∨ p (l.getD k 0) = false) → lenOf p l = k
  | [], k, _, hk, _ => by simp at hk; subst hk; rfl
  | c :: t, 0, _, _, h => by
    rcases h with h | h
    · simp at h
    · simp at h; rw [lenOf, if_neg (by rw [h]; simp)]
  | c :: t, k + 1, h1, hk, h => by
    have h0 := h1 0 (by omega)
    simp at h0
    rw [lenOf, if_pos h0, lenOf_spec p t k (fun j hj => by have := h1 (j + 1) (by omega); simpa using this) (by simpa using hk) (by simpa using h)]

set_option maxRecDepth 100000 in
set_option maxHeartbeats 4000000 in
theorem line_any (s : ByteArray) (w : World) : Calls Tryd.prog 16 #[.string s] w fun e w' => e = .returned (.int .i64 (lineL s.data.toList : Int)) ∧ w = w' := by
  have hi : Lib.indexByte s.data.toList 10 = -1 ∧ lineL s.data.toList = s.size ∨ Lib.indexByte s.data.toList 10 = (lineL s.data.toList : Int) := by
    have hsz : s.size = s.data.toList.length := by simp
    rw [hsz]
    generalize s.data.toList = l
    induction l with
    | nil => left; exact ⟨rfl, rfl⟩
    | cons c t ih =>
      unfold lineL at ih ⊢
      rw [Lib.indexByte, lenOf]
      by_cases h : c = 10
      · subst h; right; rfl
      · have h1 : (c == 10) = false := by simpa using h
        have h2 : (c.toNat != 10) = true := by
          have : c.toNat ≠ 10 := fun e => h (UInt8.toNat_inj.1 e)
          simpa using this
        rw [if_neg (by rw [h1]; simp), if_pos h2]
        rcases ih with ⟨i1, i2⟩ | i1
        · left; rw [i1]; exact ⟨rfl, by rw [i2]; rfl⟩
        · right
          have : ¬ (Lib.indexByte t 10 == -1) = true := by rw [i1]; simp <;> omega
          rw [if_neg this, i1]; rfl
  rcases hi with ⟨h1, h2⟩ | h1
  · have H1 := Lib.hid h1
    have H2 := Lib.hid h2
    clear h1 h2
    go_enter Tryd.func16, Tryd.ntmps16
    go_wp2_with fail
    refine (Tryd.strings_IndexByte _ _ _).mono ?_
    rintro e w' ⟨rfl, rfl⟩
    rw [show Lib.indexByte s.data.toList (10 : Int).toNat.toUInt8 = -1 from H1.out]
    go_wp2_with fail
    go_ret
    exact ⟨by rw [H2.out]; rfl, rfl⟩
  · have H1 := Lib.hid h1
    obtain ⟨n, hn⟩ : ∃ n, n = lineL s.data.toList := ⟨_, rfl⟩
    rw [← hn] at H1 ⊢
    clear h1 hn
    have hge : (0 : Int) ≤ (n : Int) := by omega
    go_enter Tryd.func16, Tryd.ntmps16
    go_wp2_with fail
    refine (Tryd.strings_IndexByte _ _ _).mono ?_
    rintro e w' ⟨rfl, rfl⟩
    rw [show Lib.indexByte s.data.toList (10 : Int).toNat.toUInt8 = (n : Int) from H1.out]
    go_wp2_with fail
    go_ret
    exact ⟨rfl, rfl⟩

set_option maxRecDepth 100000 in
set_option maxHeartbeats 4000000 in
theorem meant_any (s : ByteArray) (w : World) : Calls Tryd.prog 51 #[.string s] w fun e w' => e = .returned (.int .u8 ((meanL s.data.toList).toNat : Int)) ∧ w = w' := by
  cases hl : s.data.toList with
  | nil =>
    have hs : s = ⟨#[]⟩ := bytes_ext (by rw [hl])
    subst hs
    go_enter Tryd.func51, Tryd.ntmps51
    go_wp2
    go_ret
    exact ⟨rfl, rfl⟩
  | cons c t =>
    have hsz : s.size = t.length + 1 := by have := congrArg List.length hl; simpa using this
    have h0 : 0 < s.size := by omega
    have hget := str_get s 0 h0
    rw [hl] at hget
    simp only [List.getD_eq_getElem?_getD, List.getElem?_cons_zero, Option.getD_some] at hget
    have hne : s.toList.isEmpty = false := by
      rw [ByteArray.toList_eq, hl]; rfl
    have hlt : (0 : Int) < (s.size : Int) := by omega
    show Calls _ _ _ _ fun e w' => e = .returned (.int .u8 ((mean1 c).toNat : Int)) ∧ w = w'
    clear hl hsz
    by_cases h1 : (c.toNat : Int) = 110
    · have hm : mean1 c = 10 := by unfold mean1; rw [if_pos (by omega)]
      rw [hm]
      clear hm
      go_enter Tryd.func51, Tryd.ntmps51
      go_wp2_with fail
      go_ret
      exact ⟨rfl, rfl⟩
    by_cases h2 : (c.toNat : Int) = 116
    · have hm : mean1 c = 9 := by unfold mean1; rw [if_neg (by omega), if_pos (by omega)]
      rw [hm]
      clear hm
      go_enter Tryd.func51, Tryd.ntmps51
      go_wp2_with fail
      go_ret
      exact ⟨rfl, rfl⟩
    by_cases h3 : (c.toNat : Int) = 34
    · have hm : mean1 c = c := by unfold mean1; rw [if_neg (by omega), if_neg (by omega), if_pos (by omega)]
      rw [hm]
      clear hm
      go_enter Tryd.func51, Tryd.ntmps51
      go_wp2_with fail
      go_ret
      exact ⟨by rw [h3]; rfl, rfl⟩
    by_cases h4 : (c.toNat : Int) = 92
    · have hm : mean1 c = c := by unfold mean1; rw [if_neg (by omega), if_neg (by omega), if_pos (by omega)]
      rw [hm]
      clear hm
      go_enter Tryd.func51, Tryd.ntmps51
      go_wp2_with fail
      go_ret
      exact ⟨by rw [h4]; rfl, rfl⟩
    by_cases h5 : (c.toNat : Int) = 36
    · have hm : mean1 c = c := by unfold mean1; rw [if_neg (by omega), if_neg (by omega), if_pos (by omega)]
      rw [hm]
      clear hm
      go_enter Tryd.func51, Tryd.ntmps51
      go_wp2_with fail
      go_ret
      exact ⟨by rw [h5]; rfl, rfl⟩
    · have hm : mean1 c = 0 := by unfold mean1; rw [if_neg (by omega), if_neg (by omega), if_neg (by omega)]
      rw [hm]
      clear hm
      go_enter Tryd.func51, Tryd.ntmps51
      go_wp2_with fail
      go_ret
      exact ⟨rfl, rfl⟩

end Go.Proofs.YtnajafnbickiiaaDoor

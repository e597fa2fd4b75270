/-
  Which names an entry may have, as a function of the bytes; the two Names' contracts. No conditions but the text's bound.
-/
import Derived.Test.YtbempgdndmchlaaDoorRows
import Derived.WalkKit
import Derived.WalkSpells
import Derived.WalkLawsBesides
import Derived.Lib.Hide
import Derived.Lib.Bytealg
namespace Go.Proofs.YtbempgdndmchlaaDoor
open Go.RowKit
set_option linter.unusedVariables false

set_option maxRecDepth 100000 in
set_option maxHeartbeats 1000000 in
theorem lite_any (s : ByteArray) (c : Int) (w : World) :
    Calls Tryd.prog 75 #[.string s, .int .u8 c] w fun e w' => e = .returned (.int .i64 (Go.Lib.indexByte s.data.toList c.toNat.toUInt8)) ∧ w = w' := by
  go_enter Tryd.func75, Tryd.ntmps75
  go_wp2
  rw [run_callFunc_extern Tryd.func85 (by kernel_rfl) (by kernel_rfl) (by kernel_rfl) (e := Extern.BytealgIndexByte.indexByte) (by kernel_rfl), Go.Lib.run_indexByteString]
  simp only [Result.andThen]
  rw [Oper.upon_value]
  go_wp2
  go_ret
  exact ⟨rfl, rfl⟩

set_option maxHeartbeats 1000000 in
theorem index_any (s : ByteArray) (c : Int) (w : World) :
    Calls Tryd.prog 65 #[.string s, .int .u8 c] w fun e w' => e = .returned (.int .i64 (Go.Lib.indexByte s.data.toList c.toNat.toUInt8)) ∧ w = w' := by
  go_enter Tryd.func65, Tryd.ntmps65
  go_wp2_with (go_at_call 75; refine (lite_any _ _ _).mono ?_; rintro e w' ⟨rfl, rfl⟩)
  go_ret
  exact ⟨rfl, rfl⟩

/-- May it stand in a directory? -/
def tName (l : List UInt8) : Bool := decide (1 ≤ l.length) && decide (l.length ≤ 80) && (l != [46]) && (l != [46, 46]) && !(l.contains 47) && !(l.contains 0)

theorem index_neg (c : UInt8) : ∀ l : List UInt8, decide (Go.Lib.indexByte l c < 0) = !(l.contains c)
  | [] => rfl
  | b :: t => by
    have ih := index_neg c t
    have hg := Go.Lib.indexByte_ge t c
    unfold Go.Lib.indexByte
    by_cases h : b = c
    · subst h; simp
    · have h1 : (b == c) = false := by simpa using h
      have h2 : (c == b) = false := by simpa using fun e => h e.symm
      simp only [List.contains_cons, h2, Bool.false_or, ← ih]
      by_cases hm : Go.Lib.indexByte t c = -1
      · simp [h1, hm]
      · have : 0 ≤ Go.Lib.indexByte t c := by omega
        simp [h1, hm]
        omega

theorem tName_empty {l : List UInt8} (h : l.length = 0) : tName l = false := by simp [tName, h]
theorem tName_long {l : List UInt8} (h : 80 < l.length) : tName l = false := by
  have : decide (l.length ≤ 80) = false := by simp; omega
  simp only [tName, this, Bool.and_false, Bool.false_and]
theorem tName_slash {l : List UInt8} (h : l.contains 47 = true) : tName l = false := by simp only [tName, h, Bool.not_true, Bool.and_false, Bool.false_and]
theorem tName_nul {l : List UInt8} (h : l.contains 0 = true) : tName l = false := by simp only [tName, h, Bool.not_true, Bool.and_false]
theorem tName_good {l : List UInt8} (h0 : 1 ≤ l.length) (h1 : l.length ≤ 80) (h2 : l ≠ [46]) (h3 : l ≠ [46, 46]) (h4 : l.contains 47 = false) (h5 : l.contains 0 = false) : tName l = true := by
  have e2 : (l != [46]) = true := by simpa using h2
  have e3 : (l != [46, 46]) = true := by simpa using h3
  simp only [tName, decide_eq_true h0, decide_eq_true h1, e2, e3, h4, h5, Bool.not_false, Bool.and_self]

theorem bytes_ext {s t : ByteArray} (h : s.data.toList = t.data.toList) : s = t := by
  cases s; cases t
  congr 1
  exact Array.toList_inj.1 h

set_option maxRecDepth 100000 in
set_option maxHeartbeats 4000000 in
theorem name_any (s : ByteArray) (w : World) :
    Calls Tryd.prog 53 #[.string s] w fun e w' => e = .returned (.bool (tName s.data.toList)) ∧ w = w' := by
  have hlen : s.data.toList.length = s.size := by simp
  by_cases h0 : s.size = 0
  · have hnil : s.data.toList = [] := List.eq_nil_of_length_eq_zero (by rw [hlen]; exact h0)
    have hs : s = ⟨#[]⟩ := bytes_ext (by rw [hnil])
    subst hs
    clear hlen h0 hnil
    go_enter Tryd.func53, Tryd.ntmps53
    go_wp2_with fail
    go_ret
    exact ⟨rfl, rfl⟩
  by_cases h1 : s = ⟨#[46]⟩
  · subst h1
    clear hlen h0
    go_enter Tryd.func53, Tryd.ntmps53
    go_wp2_with fail
    go_ret
    exact ⟨rfl, rfl⟩
  by_cases h2 : s = ⟨#[46, 46]⟩
  · subst h2
    clear hlen h0 h1
    go_enter Tryd.func53, Tryd.ntmps53
    go_wp2_with fail
    go_ret
    exact ⟨rfl, rfl⟩
  have n0 : s.toList.isEmpty = false := by
    rw [ByteArray.toList_eq]
    cases h : s.data.toList with
    | nil => rw [h] at hlen; simp at hlen; omega
    | cons a t => rfl
  have n1 : (s.toList == [46]) = false := by
    rw [beq_eq_false_iff_ne, ByteArray.toList_eq]; exact fun h => h1 (bytes_ext h)
  have n2 : (s.toList == [46, 46]) = false := by
    rw [beq_eq_false_iff_ne, ByteArray.toList_eq]; exact fun h => h2 (bytes_ext h)
  have d1 : s.data.toList ≠ [46] := fun h => h1 (bytes_ext h)
  have d2 : s.data.toList ≠ [46, 46] := fun h => h2 (bytes_ext h)
  by_cases h80 : 80 < s.size
  · have h4 : decide ((80 : Int) < (s.size : Int)) = true := by simp; omega
    rw [tName_long (by rw [hlen]; exact h80)]
    clear hlen h1 h2 d1 d2
    go_enter Tryd.func53, Tryd.ntmps53
    go_wp2_with fail
    go_ret
    exact ⟨rfl, rfl⟩
  · have h4 : decide ((80 : Int) < (s.size : Int)) = false := by simp; omega
    have i47 := index_neg 47 s.data.toList
    have i0 := index_neg 0 s.data.toList
    cases c47 : s.data.toList.contains 47
    · cases c0 : s.data.toList.contains 0
      · rw [tName_good (by rw [hlen]; omega) (by rw [hlen]; omega) d1 d2 c47 c0]
        rw [c47] at i47
        rw [c0] at i0
        clear hlen h1 h2 d1 d2
        go_enter Tryd.func53, Tryd.ntmps53
        go_wp2_with (go_at_call 65; refine (index_any _ _ _).mono ?_; rintro e w' ⟨rfl, rfl⟩)
        go_ret
        exact ⟨rfl, rfl⟩
      · rw [tName_nul c0]
        rw [c47] at i47
        rw [c0] at i0
        clear hlen h1 h2 d1 d2
        go_enter Tryd.func53, Tryd.ntmps53
        go_wp2_with (go_at_call 65; refine (index_any _ _ _).mono ?_; rintro e w' ⟨rfl, rfl⟩)
        go_ret
        exact ⟨rfl, rfl⟩
    · rw [tName_slash c47]
      rw [c47] at i47
      clear hlen h1 h2 d1 d2
      go_enter Tryd.func53, Tryd.ntmps53
      go_wp2_with (go_at_call 65; refine (index_any _ _ _).mono ?_; rintro e w' ⟨rfl, rfl⟩)
      go_ret
      exact ⟨rfl, rfl⟩

theorem str_get (s : ByteArray) (i : Nat) (h : i < s.size) : s[i] = s.data.toList.getD i 0 := by
  have hl : i < s.data.toList.length := by simpa using h
  rw [List.getD_eq_getElem?_getD, List.getElem?_eq_getElem hl]
  rfl

/-- No slash and no nought so far. -/
def clearTo (l : List UInt8) (k : Nat) : Prop := (l.take k).contains 47 = false ∧ (l.take k).contains 0 = false

theorem contains_at {l : List UInt8} {k : Nat} {c : UInt8} (h : k < l.length) (hc : l.getD k 0 = c) : l.contains c = true := by
  rw [List.contains_iff_mem]
  rw [List.getD_eq_getElem?_getD, List.getElem?_eq_getElem h] at hc
  rw [← hc]
  exact List.getElem_mem h

theorem clearTo_step {l : List UInt8} {k : Nat} (h : k < l.length) (hc : clearTo l k) (h1 : l.getD k 0 ≠ 47) (h2 : l.getD k 0 ≠ 0) : clearTo l (k + 1) := by
  have e : l.take (k + 1) = l.take k ++ [l.getD k 0] := by
    rw [List.take_succ_eq_append_getElem h, List.getD_eq_getElem?_getD, List.getElem?_eq_getElem h]; rfl
  unfold clearTo
  rw [e]
  simp only [List.contains_append, hc.1, hc.2, Bool.false_or]
  refine ⟨?_, ?_⟩
  · simpa using fun e => h1 e.symm
  · simpa using fun e => h2 e.symm

set_option maxRecDepth 100000 in
set_option maxHeartbeats 8000000 in
theorem rname_any (s : ByteArray) (w : World) (hm : s.size ≤ 140737488355328) :
    Calls Tryd.prog 35 #[.string s] w fun e w' => e = .returned (.bool (tName s.data.toList)) ∧ w = w' := by
  have hlen : s.data.toList.length = s.size := by simp
  have HL := Lib.hid hlen
  clear hlen
  go_enter Tryd.func35, Tryd.ntmps35
  go_wp2_with fail
  go_loopw [3] (fun ii wr => ∃ k : Nat, k ≤ s.size ∧ ii = .int .i64 k ∧ clearTo s.data.toList k ∧ w = wr) (fun ii _ => s.size - (intOf ii).toNat)
  case atStart => exact ⟨0, Nat.zero_le _, rfl, ⟨by simp, by simp⟩, rfl⟩
  case round =>
    obtain ⟨k, hk, rfl, hok, rfl⟩ := hrel
    by_cases hlt : k < s.size
    · have hget := str_get s k hlt
      have hklt : k < s.data.toList.length := by rw [HL.out]; exact hlt
      have hki : (k : Int) < (s.size : Int) := by omega
      by_cases e47 : s.data.toList.getD k 0 = 47
      · have hres := Lib.hid (tName_slash (contains_at hklt e47))
        rw [e47] at hget
        clear hok e47 hklt
        go_wp2_with fail
        go_ret
        exact ⟨by rw [hres.out]; rfl, rfl⟩
      · by_cases e0 : s.data.toList.getD k 0 = 0
        · have hres := Lib.hid (tName_nul (contains_at hklt e0))
          rw [e0] at hget
          clear hok e0 e47 hklt
          go_wp2_with fail
          go_ret
          exact ⟨by rw [hres.out]; rfl, rfl⟩
        · have hstep := Lib.hid (clearTo_step hklt hok e47 e0)
          obtain ⟨c, hc⟩ : ∃ c, c = s.data.toList.getD k 0 := ⟨_, rfl⟩
          rw [← hc] at hget e47 e0
          have c47 : ((c.toNat : Int) == 47) = false := by
            have : c.toNat ≠ 47 := fun h => e47 (UInt8.toNat_inj.1 h)
            rw [beq_eq_false_iff_ne]; omega
          have c47' : ¬ (c.toNat : Int) = 47 := by simpa using c47
          have c0 : ((c.toNat : Int) == 0) = false := by
            have : c.toNat ≠ 0 := fun h => e0 (UInt8.toNat_inj.1 h)
            rw [beq_eq_false_iff_ne]; omega
          have c0' : ¬ (c.toNat : Int) = 0 := by simpa using c0
          clear hok e47 e0 hc hklt
          go_wp2_with fail
          go_roundw
          case rel => exact ⟨k + 1, by omega, by go_num, hstep.out, by trivial⟩
          case measure => simp [intOf]; omega
    · obtain rfl : k = s.size := by omega
      have h47 : s.data.toList.contains 47 = false := by
        have := hok.1
        rwa [List.take_of_length_le (by rw [HL.out]; exact Nat.le_refl _)] at this
      have h0 : s.data.toList.contains 0 = false := by
        have := hok.2
        rwa [List.take_of_length_le (by rw [HL.out]; exact Nat.le_refl _)] at this
      clear hok
      by_cases l1 : 1 ≤ s.size
      · have i1 : decide ((1 : Int) ≤ (s.size : Int)) = true := by simp; omega
        by_cases l80 : s.size ≤ 80
        · have i80 : decide ((s.size : Int) ≤ 80) = true := by simp; omega
          by_cases d1 : s = ⟨#[46]⟩
          · have hres : Hid (tName s.data.toList = false) := Lib.hid (by rw [d1]; decide)
            have n1 : (s.toList == [46]) = true := by rw [d1, ByteArray.toList_eq]; rfl
            clear h47 h0 d1
            go_wp2_with fail
            go_ret
            exact ⟨by rw [hres.out]; rfl, rfl⟩
          · have n1 : (s.toList == [46]) = false := by
              rw [beq_eq_false_iff_ne, ByteArray.toList_eq]; exact fun h => d1 (bytes_ext h)
            by_cases d2 : s = ⟨#[46, 46]⟩
            · have hres : Hid (tName s.data.toList = false) := Lib.hid (by rw [d2]; decide)
              have n2 : (s.toList == [46, 46]) = true := by rw [d2, ByteArray.toList_eq]; rfl
              clear h47 h0 d1 d2
              go_wp2_with fail
              go_ret
              exact ⟨by rw [hres.out]; rfl, rfl⟩
            · have n2 : (s.toList == [46, 46]) = false := by
                rw [beq_eq_false_iff_ne, ByteArray.toList_eq]; exact fun h => d2 (bytes_ext h)
              have hres := Lib.hid (tName_good (l := s.data.toList) (by rw [HL.out]; exact l1) (by rw [HL.out]; exact l80) (fun h => d1 (bytes_ext h)) (fun h => d2 (bytes_ext h)) h47 h0)
              clear h47 h0 d1 d2
              go_wp2_with fail
              go_ret
              exact ⟨by rw [hres.out]; rfl, rfl⟩
        · have i80 : decide ((s.size : Int) ≤ 80) = false := by simp; omega
          have hres := Lib.hid (tName_long (l := s.data.toList) (by rw [HL.out]; omega))
          clear h47 h0
          go_wp2_with fail
          go_ret
          exact ⟨by rw [hres.out]; rfl, rfl⟩
      · have i1 : decide ((1 : Int) ≤ (s.size : Int)) = false := by simp; omega
        have hres := Lib.hid (tName_empty (l := s.data.toList) (by rw [HL.out]; omega))
        clear h47 h0
        go_wp2_with fail
        go_ret
        exact ⟨by rw [hres.out]; rfl, rfl⟩

end Go.Proofs.YtbempgdndmchlaaDoor

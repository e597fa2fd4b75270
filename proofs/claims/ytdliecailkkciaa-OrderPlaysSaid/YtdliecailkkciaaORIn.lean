/-
  The reference's in and Needs. Conditions: as many needs as names.
-/
import Derived.Test.YtdliecailkkciaaOGreat
import Derived.Deep.QuietTactic
namespace Go.Proofs.Ytdliecailkkciaa
open Go.RowKit
set_option linter.unusedVariables false

noncomputable def inB (l : List ByteArray) (s : ByteArray) : Bool := @decide (s ∈ l) (Classical.propDecidable _)
theorem inB_iff (l : List ByteArray) (s : ByteArray) : inB l s = true ↔ s ∈ l := @decide_eq_true_iff _ (Classical.propDecidable _)
theorem inB_yes {l : List ByteArray} {s : ByteArray} (h : s ∈ l) : inB l s = true := (inB_iff l s).2 h
theorem inB_no {l : List ByteArray} {s : ByteArray} (h : s ∉ l) : inB l s = false := by
  cases hb : inB l s with
  | false => rfl
  | true => exact absurd ((inB_iff l s).1 hb) h
noncomputable def needB (ns : List ByteArray) (ks : List (List ByteArray)) (s t : ByteArray) : Bool := @decide (Need ns ks s t) (Classical.propDecidable _)
theorem needB_iff (ns : List ByteArray) (ks : List (List ByteArray)) (s t : ByteArray) : needB ns ks s t = true ↔ Need ns ks s t := @decide_eq_true_iff _ (Classical.propDecidable _)
theorem needB_yes {ns : List ByteArray} {ks : List (List ByteArray)} {s t : ByteArray} (h : Need ns ks s t) : needB ns ks s t = true := (needB_iff ns ks s t).2 h
theorem needB_no {ns : List ByteArray} {ks : List (List ByteArray)} {s t : ByteArray} (h : ¬ Need ns ks s t) : needB ns ks s t = false := by
  cases hb : needB ns ks s t with
  | false => rfl
  | true => exact absurd ((needB_iff ns ks s t).1 hb) h
set_option maxRecDepth 100000 in
set_option maxHeartbeats 4000000 in
theorem in_any (w : World) (a : Option Addr) (n c : Nat) (l : List ByteArray) (hS : IsS w a n c l) (s : ByteArray) :
    Calls Try.prog 22 #[.slice a n c, .string s] w fun e w' => e = .returned (.bool (inB l s)) ∧ w' = w := by
  have hln := hS.length
  have HS := Lib.hid hS
  have hnx : (n : Int) ≤ 9223372036854775807 := by have := hS.room; unfold maxLen at this; omega
  have HLN := Lib.hid hln
  clear hS hln
  go_enter Try.func22, Try.ntmps22
  go_wp2_with fail
  go_loopg [5] n (fun gk v5 wr => wr = w ∧ ∃ i : Nat, gk = n - i ∧ i ≤ n ∧ v5 = .int .i64 (i : Int) ∧ Hid (∀ j, j < i → l.getD j ⟨#[]⟩ ≠ s))
  case atStart => exact ⟨rfl, 0, rfl, Nat.zero_le _, rfl, Lib.hid (fun j hj => by omega)⟩
  case round =>
    obtain ⟨rfl, i, rfl, hi, rfl, HO⟩ := hrel
    by_cases hlt : i < n
    · obtain ⟨b, off, rfl, hb, hc⟩ := HS.out.cell hlt
      have hki : (i : Int) < (n : Int) := by omega
      have hk0 : (0 : Int) ≤ (i : Int) := by omega
      have hni : (i : Int) + 1 ≤ 9223372036854775807 := by omega
      have HLT := Lib.hid hlt
      obtain ⟨x, hx⟩ : ∃ x, x = l.getD i ⟨#[]⟩ := ⟨_, rfl⟩
      rw [← hx] at hc
      have HX := Lib.hid hx
      clear hb hx hlt
      by_cases hxs : x = s
      · have he : (x.toList == s.toList) = true := by rw [hxs]; simp
        have HB : Hid (inB l s = true) := Lib.hid (inB_yes (by rw [← hxs, HX.out]; exact getD_mem2 (by rw [HLN.out]; exact HLT.out)))
        clear hxs
        go_wp2_with fail
        go_ret
        exact ⟨by rw [HB.out]; rfl, rfl⟩
      · have he : (x.toList == s.toList) = false := by rw [Lib.bytes_beq_false_iff]; exact hxs
        have HXS := Lib.hid hxs
        clear hxs
        go_wp2_with fail
        go_roundg (n - (i + 1))
        case rel => exact ⟨rfl, i + 1, rfl, HLT.out, by go_num, Lib.hid (fun j hj => by
          by_cases e : j = i
          · rw [e, ← HX.out]; exact HXS.out
          · exact HO.out j (by omega))⟩
        case measure => have := HLT.out; omega
    · obtain rfl : i = n := by omega
      have hki : ¬ (i : Int) < (i : Int) := by omega
      have HB : Hid (inB l s = false) := Lib.hid (inB_no (fun h => by
        obtain ⟨j, hj, e⟩ := List.getElem_of_mem h
        exact HO.out j (by rw [← HLN.out]; exact hj) (by rw [getD_get hj]; exact e)))
      go_wp2_with fail
      go_ret
      exact ⟨by rw [HB.out]; rfl, rfl⟩
set_option maxRecDepth 100000 in
set_option maxHeartbeats 4000000 in
theorem needs_any (w : World) (a : Option Addr) (n c : Nat) (ns : List ByteArray) (hS : IsS w a n c ns) (ak : Option Addr) (ck : Nat) (ks : List (List ByteArray)) (hK : IsSS w ak n ck ks) (s t : ByteArray) :
    Calls Try.prog 23 #[.slice a n c, .slice ak n ck, .string s, .string t] w fun e w' => e = .returned (.bool (needB ns ks s t)) ∧ w' = w := by
  have hln := hS.length
  have HS := Lib.hid hS
  have HK := Lib.hid hK
  have hnx : (n : Int) ≤ 9223372036854775807 := by have := hS.room; unfold maxLen at this; omega
  have HLN := Lib.hid hln
  clear hS hln hK
  go_enter Try.func23, Try.ntmps23
  go_wp2_with fail
  go_loopg [9] n (fun gk v9 wr => wr = w ∧ ∃ i : Nat, gk = n - i ∧ i ≤ n ∧ v9 = .int .i64 (i : Int) ∧ Hid (∀ j, j < i → ns.getD j ⟨#[]⟩ = s → t ∉ ks.getD j []))
  case atStart => exact ⟨rfl, 0, rfl, Nat.zero_le _, rfl, Lib.hid (fun j hj => by omega)⟩
  case round =>
    obtain ⟨rfl, i, rfl, hi, rfl, HO⟩ := hrel
    by_cases hlt : i < n
    · obtain ⟨b, off, rfl, hb, hc⟩ := HS.out.cell hlt
      obtain ⟨bk, ok, rfl, hbk, ao, cc, hck, hsk⟩ := isSS_cell HK.out hlt
      have hki : (i : Int) < (n : Int) := by omega
      have hk0 : (0 : Int) ≤ (i : Int) := by omega
      have hni : (i : Int) + 1 ≤ 9223372036854775807 := by omega
      have HLT := Lib.hid hlt
      obtain ⟨x, hx⟩ : ∃ x, x = ns.getD i ⟨#[]⟩ := ⟨_, rfl⟩
      obtain ⟨l, hl⟩ : ∃ l, l = ks.getD i [] := ⟨_, rfl⟩
      rw [← hx] at hc
      rw [← hl] at hck hsk
      have HX := Lib.hid hx
      have HL := Lib.hid hl
      have HSK := Lib.hid hsk
      clear hb hx hlt hl hbk hsk
      by_cases hxs : x = s
      · have he : (x.toList == s.toList) = true := by rw [hxs]; simp
        have HXS := Lib.hid hxs
        clear hxs
        go_wp2_with fail
        refine (in_any wr ao _ cc l HSK.out t).mono ?_
        rintro e w1 ⟨rfl, rfl⟩
        by_cases ht : t ∈ l
        · rw [inB_yes ht]
          have HB : Hid (needB ns ks s t = true) := Lib.hid (needB_yes ⟨i, by rw [HLN.out]; exact HLT.out, by rw [← HX.out]; exact HXS.out, by rw [← HL.out]; exact ht⟩)
          clear ht
          go_wp2_with fail
          go_ret
          exact ⟨by rw [HB.out]; rfl, rfl⟩
        · rw [inB_no ht]
          have HT := Lib.hid ht
          clear ht
          go_wp2_with fail
          go_roundg (n - (i + 1))
          case rel => exact ⟨rfl, i + 1, rfl, HLT.out, by go_num, Lib.hid (fun j hj => by
            by_cases e : j = i
            · rw [e, ← HL.out]; exact fun _ => HT.out
            · exact HO.out j (by omega))⟩
          case measure => have := HLT.out; omega
      · have he : (x.toList == s.toList) = false := by rw [Lib.bytes_beq_false_iff]; exact hxs
        have HXS := Lib.hid hxs
        clear hxs
        go_wp2_with fail
        go_roundg (n - (i + 1))
        case rel => exact ⟨rfl, i + 1, rfl, HLT.out, by go_num, Lib.hid (fun j hj => by
          by_cases e : j = i
          · rw [e, ← HX.out]; exact fun h => absurd h HXS.out
          · exact HO.out j (by omega))⟩
        case measure => have := HLT.out; omega
    · obtain rfl : i = n := by omega
      have hki : ¬ (i : Int) < (i : Int) := by omega
      have HB : Hid (needB ns ks s t = false) := Lib.hid (needB_no (fun ⟨j, hj, e, ht⟩ => HO.out j (by rw [← HLN.out]; exact hj) e ht))
      go_wp2_with fail
      go_ret
      exact ⟨by rw [HB.out]; rfl, rfl⟩
end Go.Proofs.Ytdliecailkkciaa

/-
  The walk of the law LexTexts. Conditions: the listed variables lie as the text lays them.
-/
import Derived.Test.YtjoiddlknocdfaaDoorLJoinWalk
import Derived.Test.YtjoiddlknocdfaaDoorLTextM
namespace Go.Proofs.YtjoiddlknocdfaaDoor
open Go.RowKit
set_option linter.unusedVariables false

theorem esc_snoc_at {s : ByteArray} {k : Nat} (h : k < s.size) : escL (s.data.toList.take (k + 1)) = escL (s.data.toList.take k) ++ esc1 (s.data.toList.getD k 0) := by
  have hl : k < s.data.toList.length := by simpa using h
  rw [List.take_succ_eq_append_getElem hl, escL_snoc, List.getD_eq_getElem?_getD, List.getElem?_eq_getElem hl]; rfl
theorem ext_one {s : ByteArray} {k : Nat} (h : k < s.size) : (s.extract k (k + 1)).data.toList = [s.data.toList.getD k 0] := by
  have hl : k < s.data.toList.length := by simpa using h
  rw [ByteArray.data_extract, Array.toList_extract, List.extract_eq_take_drop, show k + 1 - k = 1 by omega, List.drop_eq_getElem_cons hl, List.getD_eq_getElem?_getD, List.getElem?_eq_getElem hl]; rfl

set_option maxRecDepth 100000 in
set_option maxHeartbeats 8000000 in
theorem quote_any (s : ByteArray) (hs : s.size ≤ 3000) (w : World) : Calls Tryd.prog 10 #[.string s] w fun e w' => (∃ q : ByteArray, e = .returned (.string q) ∧ q.data.toList = quoteL s.data.toList) ∧ w = w' := by
  have hsz : s.data.toList.length = s.size := by simp
  have HSZ := Lib.hid hsz
  clear hsz
  go_enter Tryd.func10, Tryd.ntmps10
  go_wp2_with fail
  go_loop [3, 4] (fun v3 v4 => ∃ (k : Nat) (o : ByteArray), k ≤ s.size ∧ v4 = .int .i64 k ∧ v3 = .string o ∧ o.size ≤ 1 + 2 * k ∧ Hid (o.data.toList = 34 :: escL (s.data.toList.take k))) (fun _ v4 => s.size - (intOf v4).toNat)
  case atStart => exact ⟨0, ⟨#[34]⟩, Nat.zero_le _, rfl, rfl, by decide, Lib.hid (by simp [escL])⟩
  case round =>
    obtain ⟨k, o, hk, rfl, rfl, hos, ho⟩ := hrel
    by_cases hlt : k < s.size
    · have hki : (k : Int) < (s.size : Int) := by omega
      have hki2 : (k : Int) + 1 ≤ (s.size : Int) := by omega
      have hget := str_get s k hlt
      have HSN := Lib.hid (esc_snoc_at hlt)
      have HEX := Lib.hid (ext_one hlt)
      obtain ⟨c, hc⟩ : ∃ c, c = s.data.toList.getD k 0 := ⟨_, rfl⟩
      rw [← hc] at hget HSN HEX
      have hes : (s.extract k (k + 1)).size = 1 := by rw [ByteArray.size_extract]; omega
      have hcat1 : ¬ 9223372036854775807 < o.size + 1 := by omega
      have hcat2 : ¬ 9223372036854775807 < o.size + 2 := by omega
      have HES := Lib.hid hes
      clear hc
      by_cases h10 : (c.toNat : Int) = 10
      · have HN : Hid (esc1 c = [92, 110]) := Lib.hid (by unfold esc1; rw [if_pos (by omega)])
        go_wp2_with fail
        go_round
        case rel => exact ⟨k + 1, _, by omega, by go_num, rfl, by rw [ByteArray.size_append]; show o.size + 2 ≤ _; omega, Lib.hid (by rw [HSN.out, HN.out, ByteArray.data_append, Array.toList_append, ho.out]; rfl)⟩
        case measure => simp [intOf]; omega
      by_cases h9 : (c.toNat : Int) = 9
      · have HN : Hid (esc1 c = [92, 116]) := Lib.hid (by unfold esc1; rw [if_neg (by omega), if_pos (by omega)])
        go_wp2_with fail
        go_round
        case rel => exact ⟨k + 1, _, by omega, by go_num, rfl, by rw [ByteArray.size_append]; show o.size + 2 ≤ _; omega, Lib.hid (by rw [HSN.out, HN.out, ByteArray.data_append, Array.toList_append, ho.out]; rfl)⟩
        case measure => simp [intOf]; omega
      by_cases h3 : (c.toNat : Int) = 34 ∨ (c.toNat : Int) = 92 ∨ (c.toNat : Int) = 36
      · have HN : Hid (esc1 c = [92, c]) := Lib.hid (by unfold esc1; rw [if_neg (by omega), if_neg (by omega), if_pos (by omega)])
        have HEND : Hid ((o ++ (⟨#[92]⟩ ++ s.extract k (k + 1))).data.toList = 34 :: escL (s.data.toList.take (k + 1))) := Lib.hid (by
          rw [HSN.out, HN.out, ByteArray.data_append, Array.toList_append, ByteArray.data_append, Array.toList_append, ho.out, HEX.out]; rfl)
        have hcs : (⟨#[92]⟩ ++ s.extract k (k + 1) : ByteArray).size = 2 := by rw [ByteArray.size_append, hes]; rfl
        have HCS := Lib.hid hcs
        clear HEX
        rcases h3 with h3 | h3 | h3
        all_goals
          go_wp2_with fail
          go_round
          case rel => exact ⟨k + 1, _, by omega, by go_num, rfl, by rw [ByteArray.size_append, HCS.out]; omega, HEND⟩
          case measure => simp [intOf]; omega
      · have HN : Hid (esc1 c = [c]) := Lib.hid (by unfold esc1; rw [if_neg (by omega), if_neg (by omega), if_neg (by omega)])
        have h34 : ¬ (c.toNat : Int) = 34 := fun e => h3 (.inl e)
        have h92 : ¬ (c.toNat : Int) = 92 := fun e => h3 (.inr (.inl e))
        have h36 : ¬ (c.toNat : Int) = 36 := fun e => h3 (.inr (.inr e))
        have HEND : Hid ((o ++ s.extract k (k + 1)).data.toList = 34 :: escL (s.data.toList.take (k + 1))) := Lib.hid (by
          rw [HSN.out, HN.out, ByteArray.data_append, Array.toList_append, ho.out, HEX.out]; rfl)
        clear h3 HEX
        go_wp2_with fail
        go_round
        case rel => exact ⟨k + 1, _, by omega, by go_num, rfl, by rw [ByteArray.size_append, HES.out]; omega, HEND⟩
        case measure => simp [intOf]; omega
    · obtain rfl : k = s.size := by omega
      have hki : ¬ (s.size : Int) < (s.size : Int) := by omega
      have hcat1 : ¬ 9223372036854775807 < o.size + 1 := by omega
      go_wp2_with fail
      go_ret
      refine ⟨⟨_, rfl, ?_⟩, rfl⟩
      rw [ByteArray.data_append, Array.toList_append, ho.out, List.take_of_length_le (by rw [HSZ.out]; exact Nat.le_refl _)]
      rfl

set_option maxRecDepth 100000 in
set_option maxHeartbeats 8000000 in
theorem walk_LexTexts (w : World) (s : ByteArray) (hs : s.size ≤ 140737488351232) (hl : LaidL w) : Calls Tryd.prog 5 #[.string s] w fun e w' => e = .returned (.bool true) ∧ Below w.heap.size w w' := by
  have HL := Lib.hid hl
  have HLW : Hid (∀ w', Below w.heap.size w w' → LaidL w') := Lib.hid (fun w' hb => hl.below hb hl.size)
  have hsz : s.data.toList.length = s.size := by simp
  clear hl
  by_cases h3 : 3000 < s.size
  · have h3i : (3000 : Int) < (s.size : Int) := by omega
    clear h3
    go_enter Tryd.func5, Tryd.ntmps5
    go_wp2_with fail
    refine (awake_any w HL.out).mono ?_
    rintro e w1 ⟨rfl, hb1⟩
    have HB1 := Lib.hid hb1
    clear hb1
    go_wp2_with fail
    refine (awake_any w1 (HLW.out _ HB1.out)).mono ?_
    rintro e w2 ⟨rfl, hb2⟩
    have HB2 := Lib.hid (HB1.out.trans (hb2.mono HB1.out.size))
    clear hb2
    go_wp2_with fail
    go_ret
    exact ⟨rfl, HB2.out⟩
  have h3i : ¬ (3000 : Int) < (s.size : Int) := by omega
  have h3n : s.size ≤ 3000 := by omega
  have HTQ := Lib.hid (top_quote (s := s.data.toList) (by rw [hsz]; exact h3n))
  clear h3
  by_cases h0 : s.data.toList = []
  · have hem : s.toList.isEmpty = true := by rw [ByteArray.toList_eq, h0]; rfl
    have HTR : Hid (lexTop (quoteL s.data.toList) = .ok [⟨5, [34], 0⟩, ⟨5, [34], 1⟩, ⟨0, [], 2⟩]) := Lib.hid (by rw [HTQ.out, h0]; rfl)
    clear h0 hsz HTQ
    go_enter Tryd.func5, Tryd.ntmps5
    go_wp2_with fail
    refine (awake_any w HL.out).mono ?_
    rintro e w1 ⟨rfl, hb1⟩
    have HB1 := Lib.hid hb1
    clear hb1
    go_wp2_with fail
    refine (quote_any s h3n w1).mono ?_
    rintro e w2 ⟨⟨q, rfl, hq⟩, rfl⟩
    have HTS := Lib.hid (tokens_any q w1 (HLW.out _ HB1.out))
    rw [hq, HTR.out] at HTS
    clear hq
    go_wp2_with fail
    refine HTS.out.mono ?_
    intro e w3 hp
    obtain ⟨g, cap, rfl, hT, hb, hn, hc, hm⟩ := tok_list hp HTR.out
    have HB3 := Lib.hid (HB1.out.trans (hb.mono HB1.out.size))
    clear hp hT hb
    go_wp2_with fail
    go_ret
    exact ⟨rfl, HB3.out⟩
  · have hem : s.toList.isEmpty = false := by
      rw [ByteArray.toList_eq]
      cases h : s.data.toList with
      | nil => exact absurd h h0
      | cons c t => rfl
    have HTR : Hid (lexTop (quoteL s.data.toList) = .ok [⟨5, [34], 0⟩, ⟨6, s.data.toList, 1⟩, ⟨5, [34], 1 + (escL s.data.toList).length⟩, ⟨0, [], 1 + (escL s.data.toList).length + 1⟩]) := Lib.hid (by rw [HTQ.out, if_neg h0]; rfl)
    clear h0 hsz HTQ
    go_enter Tryd.func5, Tryd.ntmps5
    go_wp2_with fail
    refine (awake_any w HL.out).mono ?_
    rintro e w1 ⟨rfl, hb1⟩
    have HB1 := Lib.hid hb1
    clear hb1
    go_wp2_with fail
    refine (quote_any s h3n w1).mono ?_
    rintro e w2 ⟨⟨q, rfl, hq⟩, rfl⟩
    have HTS := Lib.hid (tokens_any q w1 (HLW.out _ HB1.out))
    rw [hq, HTR.out] at HTS
    clear hq
    go_wp2_with fail
    refine HTS.out.mono ?_
    intro e w3 hp
    obtain ⟨g, cap, rfl, hT, hb, hn, hc, hm⟩ := tok_list hp HTR.out
    have HB3 := Lib.hid (HB1.out.trans (hb.mono HB1.out.size))
    obtain ⟨d0, d1, d2⟩ := hT.2 1 _ rfl
    have hsx : (⟨s.data.toList.toArray⟩ : ByteArray) = s := bytes_ext (by simp)
    have d1' : w3.cell? ⟨g, 1 * 3 + 1, none⟩ = some (.string s) := d1.trans (congrArg (fun x => some (Value.string x)) hsx)
    have heq : (s.toList == s.toList) = true := by simp
    clear hp hT hb d1 hsx
    go_wp2_with fail
    go_ret
    exact ⟨rfl, HB3.out⟩

end Go.Proofs.YtjoiddlknocdfaaDoor

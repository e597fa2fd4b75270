/-
  The contract of the search's met. Conditions: bounds on the number of paths.
-/
import Derived.Test.YtcmgafehidgkmaaRfLook
import Derived.Test.YtcmgafehidgkmaaRfPut
namespace Go.Proofs.Ytcmgafehidgkmaa
open Go.RowKit
set_option linter.unusedVariables false

/-- Those that have been met. -/
def metL : List ByteArray → List Bool → List ByteArray
  | x :: ss, m :: ms => if m = true then x :: metL ss ms else metL ss ms
  | _, _ => []
theorem metL_drop {ss : List ByteArray} {ms : List Bool} {i : Nat} (h : ms.length = ss.length) (hi : i < ss.length) :
    metL (ss.drop i) (ms.drop i) = if ms.getD i false = true then ss.getD i ⟨#[]⟩ :: metL (ss.drop (i + 1)) (ms.drop (i + 1)) else metL (ss.drop (i + 1)) (ms.drop (i + 1)) := by
  have hi2 : i < ms.length := by omega
  rw [List.drop_eq_getElem_cons hi, List.drop_eq_getElem_cons hi2, List.getD_eq_getElem?_getD, List.getElem?_eq_getElem hi2, List.getD_eq_getElem?_getD, List.getElem?_eq_getElem hi]
  rfl

set_option maxRecDepth 100000 in
set_option maxHeartbeats 8000000 in
theorem met_any (B s : Nat) (v : Value) (mb : Nat) (sg : List Bool) (D : DataW Unit) (ss : List ByteArray) (ms : List Bool) (w : World) (hS : Sr w B s v mb sg D ss ms) (hss : ss.length ≤ 100000) :
    Calls Try.prog 22 #[.pointer (some ⟨s, 0, none⟩)] w fun e w' => ∃ (v' : Value), e = .returned v' ∧ w'.ownsRow w.heap.size 9 1 v' (metL ss ms).length ((metL ss ms).map Value.string) ∧ Below w.heap.size w w' := by
  obtain ⟨i0, hi, hz0, hz1, hz2⟩ := info_parts info_str
  have HI := Lib.hid hi
  have HZ0 := Lib.hid hz0
  have HZ1 := Lib.hid hz1
  have HZ2 := Lib.hid hz2
  have c0 := hS.row.cellAt (i := 0) rfl
  have HS := Lib.hid hS
  obtain ⟨lv, lc, rfl⟩ := row_form2 hS.own
  clear hi hz0 hz1 hz2 hS
  go_enter Try.func22, Try.ntmps22
  go_wp2_with fail
  obtain ⟨B0, hB⟩ : ∃ B0, B0 = w.heap.size := ⟨_, rfl⟩
  have HB := Lib.hid hB
  clear hB c0
  go_loopg [3, 11] (ss.length + 1) (fun gk v3 v11 wr => Below B0 w wr ∧ ∃ (i : Nat) (out : List ByteArray), gk = ss.length + 1 - i ∧ i ≤ ss.length ∧ v11 = .int .i64 i ∧ wr.ownsRow B0 9 1 v3 out.length (out.map Value.string) ∧ out.length ≤ i ∧ Hid (out ++ metL (ss.drop i) (ms.drop i) = metL ss ms))
  case atStart => exact ⟨Below.refl _ _, 0, [], rfl, Nat.zero_le _, rfl, World.ownsRow_nil _ _ _ _, by simp, Lib.hid rfl⟩
  case round =>
    obtain ⟨hb, i, out, rfl, hin, rfl, how, hol, hrest⟩ := hrel
    have HBR := Lib.hid hb
    have HOW := Lib.hid how
    have HBS : Hid (B0 ≤ wr.heap.size) := Lib.hid (by have := hb.size; rw [HB.out]; exact this)
    have HSR := Lib.hid (HS.out.below (by rw [← HB.out]; exact hb))
    obtain ⟨ov, oc, rfl⟩ := row_form2 how
    clear hb how
    by_cases hlt : i < ss.length
    · have hii : (i : Int) < (ss.length : Int) := by omega
      obtain ⟨g, gc, hg, _, _⟩ := HSR.out.own.form (by omega)
      have hlv : lv = some ⟨g, 0, none⟩ := by injection hg
      have hlc : lc = gc := by injection hg
      subst hlv
      subst hlc
      obtain ⟨e1, e2, _⟩ := HSR.out.at_ i hlt
      obtain ⟨x, hx⟩ : ∃ x, x = ss.getD i ⟨#[]⟩ := ⟨_, rfl⟩
      obtain ⟨m, hm⟩ : ∃ m, m = ms.getD i false := ⟨_, rfl⟩
      rw [← hx] at e1
      rw [← hm] at e2
      have hmd := metL_drop HS.out.same hlt
      rw [← hx, ← hm] at hmd
      have HMD := Lib.hid hmd
      clear hx hm hmd hg
      cases m with
      | false =>
        have HREST : Hid (out ++ metL (ss.drop (i + 1)) (ms.drop (i + 1)) = metL ss ms) := Lib.hid (by
          have h := HMD.out
          rw [if_neg (by decide)] at h
          rw [← h]; exact hrest.out)
        clear hrest
        go_wp2_with fail
        go_roundg (ss.length + 1 - (i + 1))
        case rel => exact ⟨HBR.out.alloc HBS.out _, i + 1, out, rfl, by omega, by go_num, HOW.out.alloc _, by omega, HREST⟩
        case measure => omega
      | true =>
        have HREST : Hid (out ++ [x] ++ metL (ss.drop (i + 1)) (ms.drop (i + 1)) = metL ss ms) := Lib.hid (by
          have h := HMD.out
          rw [if_pos rfl] at h
          rw [List.append_assoc, List.singleton_append, ← h]; exact hrest.out)
        clear hrest
        go_wp2_with (at_builtin; go_must (refine wpList_append_lies _ rfl (.tmp 17) (.tmp 20) 23 rfl B0 9 i0 (.string ByteArray.empty) 1 16 Try.underlying23 HI.out HZ0.out HZ1.out HZ2.out rfl (by omega) _ out.length (out.map Value.string) rfl ((HOW.out.alloc _).alloc _) ⟨wr.heap.size + 1, 0, none⟩ 1 1 [.string x] rfl rfl ?a1 ?a2 ?a3 ?a4 ?a5 ?a6 _ rfl ?a7))
        try (case a2 => first | rfl | (intro u hu; simp only [List.mem_cons, List.not_mem_nil, or_false] at hu; rcases hu with rfl; rfl))
        try (case a4 => (unfold maxLen; omega))
        try (case a5 => (omega))
        try (case a6 => (have := HBS.out; first | omega | (simp; omega)))
        intro g1 cap1 w1 hown hgrow hat hlt2
        have HB1 : Hid (Below B0 w w1) := Lib.hid (((HBR.out.alloc HBS.out _).alloc (by have := HBS.out; simp; omega) _).grown hgrow (by have := HBS.out; simp; omega) (fun k hk => (HOW.out.lt k hk).1))
        have HO1 : Hid (w1.ownsRow B0 9 1 (.slice (some ⟨g1, 0, none⟩) (out.length + 1) cap1) (out.length + 1) ((out ++ [x]).map Value.string)) := Lib.hid (by first | (rw [List.map_append]; exact hown) | simpa using hown)
        clear hown hgrow hat hlt2
        go_wp2_with fail
        go_roundg (ss.length + 1 - (i + 1))
        case rel => exact ⟨HB1.out, i + 1, out ++ [x], rfl, by omega, by go_num, by rw [List.length_append]; exact HO1.out, by simp; omega, HREST⟩
        case measure => omega
    · obtain rfl : i = ss.length := by omega
      have hii : ¬ (ss.length : Int) < (ss.length : Int) := by omega
      have HE : Hid (out = metL ss ms) := Lib.hid (by rw [← hrest.out]; simp [metL])
      clear hrest
      go_wp2_with fail
      go_ret
      exact ⟨_, rfl, by rw [← HB.out, ← HE.out]; exact HOW.out, by rw [← HB.out]; exact HBR.out⟩

end Go.Proofs.Ytcmgafehidgkmaa

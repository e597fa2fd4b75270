/-
  The contract of the reference's Sort. Conditions: bounds on the number of texts.
-/
import Derived.Test.YtdliecailkkciaaRfPut
namespace Go.Proofs.Ytdliecailkkciaa
open Go.RowKit
set_option linter.unusedVariables false

theorem putT_length (s : Bts) : ∀ l : List Bts, (putT s l).length ≤ l.length + 1
  | [] => by simp [putT]
  | x :: t => by
    unfold putT
    by_cases h : x < s
    · rw [if_pos h]; simpa using putT_length s t
    · rw [if_neg h]
      have := List.length_filter_le (· != s) (x :: t)
      simpa using this
theorem isS_of_owns {w : World} {base n : Nat} {v : Value} {l : List ByteArray} (h : w.ownsRow base 9 1 v n (l.map Value.string)) :
    ∃ a cap, v = .slice a n cap ∧ IsS w a n cap l ∧ l.length = n := by
  have hl : l.length = n := by simpa using h.1
  rcases h.2 with ⟨rfl, rfl⟩ | ⟨g, cap, cur, rfl, hb, hg, hnc, hcm, hcs, htake⟩
  · exact ⟨none, 0, rfl, ⟨hl, .inl rfl, fun _ => ⟨rfl, rfl⟩, ⟨Nat.le_refl _, Nat.zero_le _⟩⟩, hl⟩
  · refine ⟨some ⟨g, 0, none⟩, cap, rfl, ⟨hl, .inr ⟨g, 0, rfl, ?_, ?_⟩, (fun hx => by cases hx), ⟨hnc, hcm⟩⟩, hl⟩
    · rcases Nat.lt_or_ge g w.heap.size with hlt | hge
      · exact hlt
      · rw [Array.getElem?_eq_none hge] at hg; cases hg
    · intro i hi
      have h2 : w.ownsRow base 9 1 (.slice (some ⟨g, 0, none⟩) n cap) n (l.map Value.string) := h
      rw [Nat.zero_add, h2.cellAt i (by omega)]
      simp [hi, hl, List.getD]
theorem owns_lower {w : World} {B B' size n : Nat} {e : TypeId} {v : Value} {xs : List Value} (h : w.ownsRow B e size v n xs) (hB : B' ≤ B) : w.ownsRow B' e size v n xs := by
  refine ⟨h.1, ?_⟩
  rcases h.2 with h2 | ⟨g, cap, cur, h1, hb, h3⟩
  · exact .inl h2
  · exact .inr ⟨g, cap, cur, h1, Nat.le_trans hB hb, h3⟩

set_option maxRecDepth 100000 in
set_option maxHeartbeats 8000000 in
theorem rsort_any (a : Option Addr) (n cap : Nat) (l : List ByteArray) (w : World) (hS : IsS w a n cap l) (hn : n ≤ 1000) :
    Calls Try.prog 14 #[.slice a n cap] w fun e w' => ∃ (v : Value) (out : List ByteArray), e = .returned v ∧ out.map btsOf = sortT (l.map btsOf) ∧ w'.ownsRow w.heap.size 9 1 v out.length (out.map Value.string) ∧ out.length ≤ n ∧ Below w.heap.size w w' := by
  have hnl := hS.length
  have HNL := Lib.hid hnl
  have hat := hS.at_
  clear hS hnl
  go_enter Try.func14, Try.ntmps14
  go_wp2_with fail
  go_loopg [3, 4] n (fun gk v3 v4 wr => Below w.heap.size w wr ∧ ∃ (i : Nat) (out : List ByteArray), gk = n - i ∧ i ≤ n ∧ v4 = .int .i64 i ∧ wr.ownsRow w.heap.size 9 1 v3 out.length (out.map Value.string) ∧ out.length ≤ i ∧ Hid (((l.drop i).map btsOf).foldl (fun o s => putT s o) (out.map btsOf) = sortT (l.map btsOf)))
  case atStart => exact ⟨Below.refl _ _, 0, [], rfl, Nat.zero_le _, rfl, World.ownsRow_nil _ _ _ _, Nat.le_refl _, Lib.hid rfl⟩
  case round =>
    obtain ⟨hb, i, out, rfl, hin, rfl, how, hol, hrest⟩ := hrel
    have HBR := Lib.hid hb
    obtain ⟨oa, ocap, rfl, hos, _⟩ := isS_of_owns how
    have HOW := Lib.hid how
    have HOS := Lib.hid hos
    clear hb how hos
    by_cases hlt : i < n
    · rcases hat with h0 | ⟨b, off, rfl, hbb, hc⟩
      · omega
      have hii : (i : Int) < (n : Int) := by omega
      have c1 := (HBR.out.cell (p := ⟨b, off + i, none⟩) hbb).trans (hc i hlt)
      obtain ⟨x, hx⟩ : ∃ x, x = l.getD i ⟨#[]⟩ := ⟨_, rfl⟩
      rw [← hx] at c1
      have HDR : Hid ((l.drop i).map btsOf = btsOf x :: (l.drop (i + 1)).map btsOf) := Lib.hid (by
        have hil : i < l.length := by rw [HNL.out]; exact hlt
        rw [hx, List.getD_eq_getElem?_getD, List.getElem?_eq_getElem hil, List.drop_eq_getElem_cons hil]; rfl)
      clear hx hc hbb
      go_wp2_with fail
      refine (put_any oa out.length ocap out wr HOS.out (by omega) x).mono ?_
      rintro e w2 ⟨v2, out2, rfl, ho2, how2, hb2⟩
      have HB2 := Lib.hid (HBR.out.trans (hb2.mono HBR.out.size))
      have HO2 := Lib.hid (owns_lower how2 HBR.out.size)
      have hl2 : out2.length ≤ out.length + 1 := by
        have h := congrArg List.length ho2
        have h3 := putT_length (btsOf x) (out.map btsOf)
        rw [List.length_map] at h h3; omega
      have HREST : Hid (((l.drop (i + 1)).map btsOf).foldl (fun o s => putT s o) (out2.map btsOf) = sortT (l.map btsOf)) := Lib.hid (by
        rw [← hrest.out, HDR.out, List.foldl_cons, ho2])
      clear ho2 how2 hb2 hrest
      go_wp2_with fail
      go_roundg (n - (i + 1))
      case rel => exact ⟨HB2.out, i + 1, out2, rfl, by omega, by go_num, HO2.out, by omega, HREST⟩
      case measure => omega
    · obtain rfl : i = n := by omega
      have hii : ¬ (i : Int) < (i : Int) := by omega
      have hdn : l.drop i = [] := List.drop_of_length_le (by rw [HNL.out]; exact Nat.le_refl _)
      have HE : Hid (out.map btsOf = sortT (l.map btsOf)) := Lib.hid (by rw [← hrest.out, hdn]; rfl)
      clear hat hdn hrest
      go_wp2_with fail
      go_ret
      exact ⟨_, rfl, out, HE.out, HOW.out, hol, HBR.out⟩

end Go.Proofs.Ytdliecailkkciaa

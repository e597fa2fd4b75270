/-
  What is answered: those of the paths whose digests are met, rising: the mathematics. No program text.
-/
import Derived.Test.YtcmgafehidgkmaaRfNew
namespace Go.Proofs.Ytcmgafehidgkmaa
open Go.RowKit
set_option linter.unusedVariables false

def isP (b : Bts) : Bool := (Nam.parseP b).isSome
/-- Is it met? -/
noncomputable def dQ (Q : Bts → Prop) (k : Bts) : Bool := @decide (Q k) (Classical.propDecidable _)
theorem dQ_iff {Q : Bts → Prop} {k : Bts} : dQ Q k = true ↔ Q k := @decide_eq_true_iff (Q k) (Classical.propDecidable _)
theorem dQ_congr {Q Q' : Bts → Prop} (h : ∀ k, Q k ↔ Q' k) : dQ Q = dQ Q' := by
  have : Q = Q' := by funext k; exact propext (h k)
  rw [this]
/-- The answer: of the paths, those of whose digests Q. -/
noncomputable def ansT (Q : Bts → Prop) (l : List Bts) : List Bts := (first2 keyT none ((sortT l).filter isP)).filter fun b => dQ Q (keyT b)

theorem metL_filter {Q : Bts → Prop} : ∀ {ss : List ByteArray} {ms : List Bool}, ms.length = ss.length → (∀ i, i < ss.length → (ms.getD i false = true ↔ Q (keyB (ss.getD i ⟨#[]⟩)))) → metL ss ms = ss.filter fun x => dQ Q (keyB x)
  | [], [], _, _ => rfl
  | x :: ss, m :: ms, h, hq => by
    have ih := metL_filter (Q := Q) (ss := ss) (ms := ms) (by simpa using h) (fun i hi => by
      have := hq (i + 1) (by simpa using hi)
      exact this)
    have h0 : m = true ↔ Q (keyB x) := hq 0 (by simp)
    rw [List.filter_cons, ← ih]
    show (if m = true then x :: metL ss ms else metL ss ms) = _
    by_cases e : m = true
    · rw [if_pos e, if_pos (dQ_iff.2 (h0.1 e))]
    · rw [if_neg e, if_neg (fun h2 => e (h0.2 (dQ_iff.1 h2)))]

theorem gath_go : ∀ (l : List ByteArray) (q : List ByteArray × List Bool) (seen : List Bts), (∀ K, K ∈ seen ↔ ∃ y ∈ q.1, keyB y = K) →
    ((l.foldl stepG q).1).map btsOf = q.1.map btsOf ++ first1 keyT seen ((l.map btsOf).filter isP)
  | [], q, seen, h => by simp [first1]
  | x :: l, q, seen, h => by
    rw [List.foldl_cons, List.map_cons, List.filter_cons]
    by_cases hp : (Nam.parseP x.data.toList).isSome = true
    · have hp' : isP (btsOf x) = true := hp
      rw [if_pos hp', first1]
      have hs : stepG q x = addT q.1 q.2 x := by unfold stepG; rw [if_pos hp]
      rw [hs]
      by_cases hk : keyB x ∈ seen
      · have hk' : keyT (btsOf x) ∈ seen := hk
        have ha : addT q.1 q.2 x = (q.1, q.2) := by
          unfold addT
          obtain ⟨y, hy, e⟩ := (h _).1 hk
          rw [if_pos (by rw [List.any_eq_true]; exact ⟨y, hy, decide_eq_true e⟩)]
        rw [if_pos hk', ha]
        exact gath_go l (q.1, q.2) seen h
      · have hk' : ¬ keyT (btsOf x) ∈ seen := hk
        have ha : addT q.1 q.2 x = (q.1 ++ [x], q.2 ++ [false]) := by
          unfold addT
          rw [if_neg (by
            rw [List.any_eq_true]
            rintro ⟨y, hy, e⟩
            exact hk ((h _).2 ⟨y, hy, of_decide_eq_true e⟩))]
        rw [if_neg hk', ha, gath_go l (q.1 ++ [x], q.2 ++ [false]) (keyT (btsOf x) :: seen) (fun K => ?_)]
        · simp
        · rw [List.mem_cons, h]
          constructor
          · rintro (e | ⟨y, hy, e⟩)
            · exact ⟨x, by simp, e.symm⟩
            · exact ⟨y, by simp [hy], e⟩
          · rintro ⟨y, hy, e⟩
            rcases List.mem_append.1 hy with hy | hy
            · exact .inr ⟨y, hy, e⟩
            · rw [List.mem_singleton.1 hy] at e; exact .inl e.symm
    · have hp' : ¬ isP (btsOf x) = true := hp
      rw [if_neg hp']
      have hs : stepG q x = q := by unfold stepG; rw [if_neg hp]
      rw [hs]
      exact gath_go l q seen h
theorem addT_false {ss : List ByteArray} {ms : List Bool} {x : ByteArray} (h : ∀ m ∈ ms, m = false) : ∀ m ∈ (addT ss ms x).2, m = false := by
  unfold addT
  split
  · exact h
  · intro m hm
    rcases List.mem_append.1 hm with hm | hm
    · exact h m hm
    · simpa using hm
theorem gath_false : ∀ (l : List ByteArray) (q : List ByteArray × List Bool), (∀ m ∈ q.2, m = false) → ∀ m ∈ (l.foldl stepG q).2, m = false
  | [], q, h => h
  | x :: l, q, h => by
    rw [List.foldl_cons]
    refine gath_false l _ ?_
    unfold stepG
    split
    · exact addT_false h
    · exact h
theorem gath_none (l : List ByteArray) (i : Nat) : (gath l).2.getD i false = false := by
  rw [List.getD_eq_getElem?_getD]
  cases h : (gath l).2[i]? with
  | none => rfl
  | some m => exact gath_false l ([], []) (by simp) m (List.mem_of_getElem? h)
/-- What is gathered is what the reference knows. -/
theorem gath_known {l out : List ByteArray} (h : out.map btsOf = ((l.map btsOf).mergeSort fun x y => decide (x ≤ y))) : (gath out).1.map btsOf = first2 keyT none ((sortT (l.map btsOf)).filter isP) := by
  have h1 := gath_go out ([], []) [] (fun K => by simp)
  rw [List.map_nil, List.nil_append, h] at h1
  rw [← known_first isP (merge_nondec (l.map btsOf)) (merge_mem (l.map btsOf))]
  exact h1
/-- What the search answers at its end. -/
theorem met_ans {Q : Bts → Prop} {l out : List ByteArray} {ms : List Bool} (h : out.map btsOf = ((l.map btsOf).mergeSort fun x y => decide (x ≤ y))) (hl : ms.length = (gath out).1.length)
    (hq : ∀ i, i < (gath out).1.length → (ms.getD i false = true ↔ Q (keyB ((gath out).1.getD i ⟨#[]⟩)))) : (metL (gath out).1 ms).map btsOf = ansT Q (l.map btsOf) := by
  rw [metL_filter hl hq]
  unfold ansT
  rw [← gath_known h, List.filter_map]
  rfl

end Go.Proofs.Ytcmgafehidgkmaa

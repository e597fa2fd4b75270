/-
  A text in quotes is one part: the mathematics. No program text.
-/
import Derived.Test.YtjoiddlknocdfaaDoorLJoinM
namespace Go.Proofs.YtjoiddlknocdfaaDoor
open Go.RowKit
set_option linter.unusedVariables false

def esc1 (c : UInt8) : List UInt8 := if c.toNat = 10 then [92, 110] else if c.toNat = 9 then [92, 116] else if c.toNat = 34 ∨ c.toNat = 92 ∨ c.toNat = 36 then [92, c] else [c]
def escL (s : List UInt8) : List UInt8 := s.flatMap esc1
theorem esc1_len (c : UInt8) : 1 ≤ (esc1 c).length ∧ (esc1 c).length ≤ 2 := by
  unfold esc1; split <;> (try split) <;> (try split) <;> simp
theorem escL_len : ∀ s : List UInt8, (escL s).length ≤ 2 * s.length
  | [] => by simp [escL]
  | c :: t => by
    have h1 := (esc1_len c).2
    have h2 := escL_len t
    simp only [escL, List.flatMap_cons, List.length_append, List.length_cons] at h2 ⊢
    omega
theorem escL_cons (c : UInt8) (t : List UInt8) : escL (c :: t) = esc1 c ++ escL t := by simp [escL]
theorem escL_snoc (l : List UInt8) (c : UInt8) : escL (l ++ [c]) = escL l ++ esc1 c := by simp [escL]

theorem stop_cons {c : UInt8} {t : List UInt8} (h1 : c.toNat ≠ 34) (h2 : c.toNat ≠ 36) : ¬ stopL (c :: t) = true := by
  have e1 : ((34 : UInt8) == c) = false := by rw [beq_eq_false_iff_ne]; intro e; apply h1; rw [← e]; rfl
  have e2 : ((36 : UInt8) == c) = false := by rw [beq_eq_false_iff_ne]; intro e; apply h2; rw [← e]; rfl
  simp [stopL, List.isPrefixOf, e1, e2]

/-- A byte and what stands for it. -/
theorem esc1_part (c : UInt8) (y : List UInt8) : ¬ stopL (esc1 c ++ y) = true ∧ partL (esc1 c ++ y) = ((partL y).1, (partL y).2.1 + (esc1 c).length, c :: (partL y).2.2) := by
  unfold esc1
  split
  · rename_i h
    have hc : c = 10 := UInt8.toNat_inj.1 h
    subst hc
    have hs : ¬ stopL (92 :: 110 :: y) = true := stop_cons (by decide) (by decide)
    exact ⟨hs, pj_esc hs (by decide) (by decide)⟩
  · split
    · rename_i h
      have hc : c = 9 := UInt8.toNat_inj.1 h
      subst hc
      have hs : ¬ stopL (92 :: 116 :: y) = true := stop_cons (by decide) (by decide)
      exact ⟨hs, pj_esc hs (by decide) (by decide)⟩
    · split
      · rename_i h10 h9 h3
        have hs : ¬ stopL (92 :: c :: y) = true := stop_cons (by decide) (by decide)
        have hm : mean1 c = c := by
          unfold mean1
          rw [if_neg (by omega), if_neg (by omega), if_pos h3]
        have hm0 : ¬ mean1 c = 0 := by
          rw [hm]; intro e; have := congrArg UInt8.toNat e; simp at this; omega
        refine ⟨hs, ?_⟩
        show partL (92 :: c :: y) = _
        rw [pj_esc hs (by decide) hm0, hm]; rfl
      · rename_i h10 h9 h3
        have hs : ¬ stopL (c :: y) = true := stop_cons (by omega) (by omega)
        exact ⟨hs, pj_plain hs (by omega)⟩
theorem escL_part (y : List UInt8) : ∀ s : List UInt8, partL (escL s ++ 34 :: y) = (true, (escL s).length, s)
  | [] => by
    show partL (34 :: y) = _
    rw [pj_stop (.inr (by simp [stopL, List.isPrefixOf]))]; rfl
  | c :: t => by
    rw [escL_cons, List.append_assoc, (esc1_part c _).2, escL_part y t, List.length_append]
    simp only [Prod.mk.injEq, true_and, and_true]
    omega

theorem sq_quote {l : List UInt8} {a : Nat} {p : List Nat} (h : [34].isPrefixOf l = true) : stepL l a true p = .ok ([⟨5, [34], a⟩], 1, false, p) := by
  unfold stepL; rw [if_pos rfl, if_pos h]
theorem sq_part {l : List UInt8} {a : Nat} {p : List Nat} (h : ¬ stopL l = true) (h1 : (partL l).1 = true) : stepL l a true p = .ok ([⟨6, (partL l).2.2, a⟩], (partL l).2.1, true, p) := by
  unfold stopL at h
  simp only [Bool.or_eq_true, not_or] at h
  unfold stepL; rw [if_pos rfl, if_neg h.1, if_neg h.2, if_pos h1]

def quoteL (s : List UInt8) : List UInt8 := 34 :: (escL s ++ [34])
theorem lex_end (a : Nat) : lexA [34] a true [] = .ok [⟨5, [34], a⟩, ⟨0, [], a + 1⟩] := by
  rw [lexA_ok (by simp) (sq_quote (by simp [List.isPrefixOf]))]
  show ahead _ (lexA [] (a + 1) false []) = _
  rw [lexA_nil, if_neg (by simp)]; rfl
theorem top_quote {s : List UInt8} (h : s.length ≤ 3000) : lexTop (quoteL s) = .ok (⟨5, [34], 0⟩ :: ((if s = [] then [] else [⟨6, s, 1⟩]) ++ [⟨5, [34], 1 + (escL s).length⟩, ⟨0, [], 1 + (escL s).length + 1⟩])) := by
  have hl := escL_len s
  unfold lexTop quoteL
  rw [if_neg (by simp; omega), lexA_ok (by simp) (step_quote (by decide))]
  show ahead _ (lexA (escL s ++ [34]) (0 + 1) true []) = _
  rw [Nat.zero_add]
  cases s with
  | nil =>
    show ahead _ (lexA [34] 1 true []) = _
    rw [lex_end]; rfl
  | cons c t =>
    have hp := escL_part [] (c :: t)
    have hs : ¬ stopL (escL (c :: t) ++ [34]) = true := by rw [escL_cons, List.append_assoc]; exact (esc1_part c _).1
    rw [lexA_ok (by simp) (sq_part hs (by rw [hp])), hp]
    simp only [List.drop_left]
    rw [lex_end, if_neg (by simp)]
    rfl

end Go.Proofs.YtjoiddlknocdfaaDoor

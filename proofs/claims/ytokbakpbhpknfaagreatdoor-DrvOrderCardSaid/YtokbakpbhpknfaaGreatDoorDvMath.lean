/-
  A derivation's text, and back: the mathematics of drv. No program text.
-/
import Derived.WalkKit
namespace Go.Proofs.YtokbakpbhpknfaaGreatDoor
open Go.RowKit
set_option linter.unusedVariables false

/-! What is written. -/

/-- A byte within quotes. -/
def dq1 (c : UInt8) : List UInt8 := if c = 92 ∨ c = 34 then [92, c] else if c = 10 then [92, 110] else if c = 9 then [92, 116] else [c]
def dqL (s : List UInt8) : List UInt8 := s.flatMap dq1
theorem dqL_nil : dqL [] = [] := rfl
theorem dqL_cons (c : UInt8) (t : List UInt8) : dqL (c :: t) = dq1 c ++ dqL t := by simp [dqL]
theorem dqL_snoc (l : List UInt8) (c : UInt8) : dqL (l ++ [c]) = dqL l ++ dq1 c := by simp [dqL]
theorem dq1_len (c : UInt8) : 1 ≤ (dq1 c).length ∧ (dq1 c).length ≤ 2 := by
  unfold dq1; repeat' split
  all_goals simp
theorem dqL_len : ∀ s : List UInt8, (dqL s).length ≤ 2 * s.length
  | [] => by simp [dqL]
  | c :: t => by rw [dqL_cons, List.length_append, List.length_cons]; have := dqL_len t; have := dq1_len c; omega
/-- A text in quotes. -/
def dquote (s : List UInt8) : List UInt8 := 34 :: (dqL s ++ [34])
theorem dquote_len (s : List UInt8) : (dquote s).length ≤ 2 * s.length + 2 := by
  have := dqL_len s; simp only [dquote, List.length_cons, List.length_append, List.length_nil]; omega
/-- Texts with a comma between. -/
def joinD : List (List UInt8) → List UInt8
  | [] => []
  | [a] => a
  | a :: b :: r => a ++ 44 :: joinD (b :: r)
theorem joinD_cons (a : List UInt8) {l : List (List UInt8)} (h : l ≠ []) : joinD (a :: l) = a ++ 44 :: joinD l := by
  cases l with
  | nil => exact absurd rfl h
  | cons b r => rfl
theorem joinD_snoc (a : List UInt8) : ∀ {l : List (List UInt8)}, l ≠ [] → joinD (l ++ [a]) = joinD l ++ 44 :: a
  | [], h => absurd rfl h
  | [b], _ => rfl
  | b :: c :: r, _ => by
    rw [List.cons_append, joinD_cons b (by simp), joinD_snoc a (by simp : c :: r ≠ []), joinD_cons b (by simp)]; simp
/-- Texts as a list. -/
def dlist (l : List (List UInt8)) : List UInt8 := 91 :: (joinD (l.map dquote) ++ [93])
def dopen : List UInt8 := [68, 101, 114, 105, 118, 101, 40]
/-- A derivation: its name, what it needs, its sources, its recipe, its digest. -/
structure Dv where
  name : List UInt8
  drvs : List (List UInt8)
  srcs : List (List UInt8)
  recipe : List UInt8
  fixed : List UInt8
deriving DecidableEq
/-- Its text, with these in the place of what it needs. -/
def dtext (d : Dv) (needs : List (List UInt8)) : List UInt8 :=
  dopen ++ (dquote d.name ++ 44 :: (dlist needs ++ 44 :: (dlist d.srcs ++ 44 :: (dquote d.recipe ++ 44 :: (dquote d.fixed ++ [41])))))

/-! What is read. -/

/-- What is behind a text that must come next. -/
def dlit (w R : List UInt8) : Option (List UInt8) := if w.isPrefixOf R then some (R.drop w.length) else none
theorem dlit_app (w r : List UInt8) : dlit w (w ++ r) = some r := by
  unfold dlit
  rw [if_pos (by rw [List.isPrefixOf_iff_prefix]; exact List.prefix_append w r)]; simp
theorem dlit_one (c : UInt8) (r : List UInt8) : dlit [c] (c :: r) = some r := dlit_app [c] r
theorem dlit_no {c b : UInt8} (r : List UInt8) (h : b ≠ c) : dlit [b] (c :: r) = none := by
  unfold dlit; rw [if_neg (by simp [List.isPrefixOf, h])]
theorem dlit_nil (c : UInt8) : dlit [c] [] = none := rfl
theorem dlit_some {w R r : List UInt8} (h : dlit w R = some r) : R = w ++ r := by
  unfold dlit at h
  split at h
  · rename_i hp
    rw [List.isPrefixOf_iff_prefix] at hp
    obtain ⟨t, rfl⟩ := hp
    simp at h; rw [h]
  · cases h
theorem dlit_len {w R r : List UInt8} (h : dlit w R = some r) : R.length = w.length + r.length := by rw [dlit_some h]; simp

/-- What a byte behind an escape stands for. -/
def dmean (c : UInt8) : Option UInt8 := if c = 92 ∨ c = 34 then some c else if c = 110 then some 10 else if c = 116 then some 9 else none
/-- The text up to the closing quote, and what is behind. -/
def unqL : List UInt8 → Option (List UInt8 × List UInt8)
  | [] => none
  | c :: r =>
    if c = 34 then some ([], r)
    else if c = 92 then
      match r with
      | [] => none
      | d :: r' =>
        match dmean d with
        | none => none
        | some m => (unqL r').map fun p => (m :: p.1, p.2)
    else (unqL r).map fun p => (c :: p.1, p.2)
theorem unqL_nil : unqL [] = none := rfl
theorem unqL_end (r : List UInt8) : unqL (34 :: r) = some ([], r) := by rw [unqL.eq_def]; rfl
theorem unqL_esc_nil : unqL [92] = none := by rw [unqL.eq_def]; rfl
theorem unqL_esc (d : UInt8) (r : List UInt8) : unqL (92 :: d :: r) = match dmean d with | none => none | some m => (unqL r).map fun p => (m :: p.1, p.2) := by
  rw [unqL.eq_def]; rfl
theorem unqL_self {c : UInt8} (r : List UInt8) (h : c ≠ 34) (h' : c ≠ 92) : unqL (c :: r) = (unqL r).map fun p => (c :: p.1, p.2) := by
  rw [unqL.eq_def]; simp only [if_neg h, if_neg h']
theorem unq_dq1 (c : UInt8) (r : List UInt8) : unqL (dq1 c ++ r) = (unqL r).map fun p => (c :: p.1, p.2) := by
  unfold dq1
  by_cases h1 : c = 92 ∨ c = 34
  · rw [if_pos h1]; show unqL (92 :: c :: r) = _
    rw [unqL_esc, show dmean c = some c from if_pos h1]
  · rw [if_neg h1]
    by_cases h2 : c = 10
    · subst h2; rw [if_pos rfl]; show unqL (92 :: 110 :: r) = _; rw [unqL_esc]; rfl
    · rw [if_neg h2]
      by_cases h3 : c = 9
      · subst h3; rw [if_pos rfl]; show unqL (92 :: 116 :: r) = _; rw [unqL_esc]; rfl
      · rw [if_neg h3]; exact unqL_self r (fun e => h1 (.inr e)) (fun e => h1 (.inl e))
theorem unq_dqL (r : List UInt8) : ∀ s : List UInt8, unqL (dqL s ++ 34 :: r) = some (s, r)
  | [] => unqL_end r
  | c :: s => by rw [dqL_cons, List.append_assoc, unq_dq1, unq_dqL r s]; rfl
/-- What is read is behind by no less than it has. -/
theorem unqL_len : ∀ (n : Nat) (R : List UInt8) {t r : List UInt8}, R.length ≤ n → unqL R = some (t, r) → t.length + r.length + 1 ≤ R.length
  | _, [], t, r, _, h => by cases h
  | 0, c :: R, t, r, hn, h => by simp at hn
  | n + 1, c :: R, t, r, hn, h => by
    simp only [List.length_cons] at hn ⊢
    by_cases h1 : c = 34
    · subst h1; rw [unqL_end] at h; simp only [Option.some.injEq, Prod.mk.injEq] at h; obtain ⟨rfl, rfl⟩ := h; simp
    · by_cases h2 : c = 92
      · subst h2
        cases R with
        | nil => rw [unqL_esc_nil] at h; cases h
        | cons d R =>
          rw [unqL_esc] at h
          cases hm : dmean d with
          | none => rw [hm] at h; cases h
          | some m =>
            rw [hm] at h; simp only [Option.map_eq_some_iff, Prod.mk.injEq] at h
            obtain ⟨⟨a, b⟩, h, rfl, rfl⟩ := h
            have := unqL_len n R (by simp only [List.length_cons] at hn; omega) h
            simp only [List.length_cons]; omega
      · rw [unqL_self R h1 h2] at h
        simp only [Option.map_eq_some_iff, Prod.mk.injEq] at h
        obtain ⟨⟨a, b⟩, h, rfl, rfl⟩ := h
        have := unqL_len n R (by omega) h
        simp only [List.length_cons]; omega

/-- A text in quotes. -/
def dtxt (R : List UInt8) : Option (List UInt8 × List UInt8) := match dlit [34] R with | none => none | some r => unqL r
theorem dtxt_quote (s r : List UInt8) : dtxt (dquote s ++ r) = some (s, r) := by
  unfold dtxt dquote
  rw [List.cons_append, dlit_one]
  show unqL ((dqL s ++ [34]) ++ r) = _
  rw [List.append_assoc]; exact unq_dqL r s
theorem dtxt_len {R t r : List UInt8} (h : dtxt R = some (t, r)) : t.length + r.length + 2 ≤ R.length := by
  unfold dtxt at h
  cases hl : dlit [34] R with
  | none => rw [hl] at h; cases h
  | some q =>
    rw [hl] at h
    have := dlit_len hl; have := unqL_len _ q (Nat.le_refl _) h
    simp only [List.length_cons, List.length_nil] at *; omega
/-- Texts with commas between, up to the closing sign. -/
def ditems : Nat → List UInt8 → Option (List (List UInt8) × List UInt8)
  | 0, _ => none
  | k + 1, R =>
    match dtxt R with
    | none => none
    | some (t, r) =>
      match dlit [93] r with
      | some r2 => some ([t], r2)
      | none =>
        match dlit [44] r with
        | none => none
        | some r2 => (ditems k r2).map fun p => (t :: p.1, p.2)
theorem ditems_end {k : Nat} {R t r r2 : List UInt8} (h1 : dtxt R = some (t, r)) (h2 : dlit [93] r = some r2) : ditems (k + 1) R = some ([t], r2) := by
  unfold ditems; rw [h1]; dsimp only; rw [h2]
theorem ditems_more {k : Nat} {R t r r2 : List UInt8} (h1 : dtxt R = some (t, r)) (h2 : dlit [93] r = none) (h3 : dlit [44] r = some r2) : ditems (k + 1) R = (ditems k r2).map fun p => (t :: p.1, p.2) := by
  conv => lhs; unfold ditems
  rw [h1]; dsimp only; rw [h2]; dsimp only; rw [h3]
theorem ditems_bad {k : Nat} {R t r : List UInt8} (h1 : dtxt R = some (t, r)) (h2 : dlit [93] r = none) (h3 : dlit [44] r = none) : ditems (k + 1) R = none := by
  unfold ditems; rw [h1]; dsimp only; rw [h2]; dsimp only; rw [h3]
theorem ditems_none {k : Nat} {R : List UInt8} (h1 : dtxt R = none) : ditems k R = none := by
  cases k with
  | zero => rfl
  | succ k => unfold ditems; rw [h1]
theorem ditems_join (r : List UInt8) : ∀ (l : List (List UInt8)) (k : Nat), l ≠ [] → l.length ≤ k → ditems k (joinD (l.map dquote) ++ 93 :: r) = some (l, r)
  | [], _, h, _ => absurd rfl h
  | _ :: _, 0, _, h => by simp at h
  | [a], k + 1, _, _ => ditems_end (dtxt_quote a (93 :: r)) (dlit_one 93 r)
  | a :: b :: l, k + 1, _, h => by
    rw [List.map_cons, joinD_cons _ (by simp), List.append_assoc]
    rw [ditems_more (dtxt_quote a _) (by rw [List.cons_append]; exact dlit_no _ (by decide)) (by rw [List.cons_append]; exact dlit_one 44 _)]
    rw [ditems_join r (b :: l) k (by simp) (by simp at h ⊢; omega)]; rfl
/-- The fuel is enough. -/
theorem ditems_fuel : ∀ (k m : Nat) (R : List UInt8), R.length ≤ k → R.length ≤ m → ditems k R = ditems m R
  | 0, m, R, hk, hm => by
    have : R = [] := by cases R with | nil => rfl | cons => simp at hk
    subst this
    rw [ditems_none (show dtxt [] = none from rfl), ditems_none (show dtxt [] = none from rfl)]
  | k + 1, 0, R, hk, hm => by
    have : R = [] := by cases R with | nil => rfl | cons => simp at hm
    subst this
    rw [ditems_none (show dtxt [] = none from rfl), ditems_none (show dtxt [] = none from rfl)]
  | k + 1, m + 1, R, hk, hm => by
    cases h1 : dtxt R with
    | none => rw [ditems_none h1, ditems_none h1]
    | some p =>
      obtain ⟨t, r⟩ := p
      have hl := dtxt_len h1
      cases h2 : dlit [93] r with
      | some r2 => rw [ditems_end h1 h2, ditems_end h1 h2]
      | none =>
        cases h3 : dlit [44] r with
        | none => rw [ditems_bad h1 h2 h3, ditems_bad h1 h2 h3]
        | some r2 =>
          have := dlit_len h3
          rw [ditems_more h1 h2 h3, ditems_more h1 h2 h3, ditems_fuel k m r2 (by omega) (by omega)]
theorem ditems_len : ∀ (k : Nat) (R : List UInt8) {l : List (List UInt8)} {r : List UInt8}, ditems k R = some (l, r) → 2 * l.length + r.length + 1 ≤ R.length ∧ (∀ t ∈ l, t.length ≤ R.length)
  | 0, _, _, _, h => by cases h
  | k + 1, R, l, r, h => by
    cases h1 : dtxt R with
    | none => rw [ditems_none h1] at h; cases h
    | some p =>
      obtain ⟨t, r1⟩ := p
      have hl := dtxt_len h1
      cases h2 : dlit [93] r1 with
      | some r2 =>
        rw [ditems_end h1 h2] at h; simp only [Option.some.injEq, Prod.mk.injEq] at h; obtain ⟨rfl, rfl⟩ := h
        have := dlit_len h2; simp only [List.length_cons, List.length_nil] at *
        exact ⟨by omega, fun t' ht' => by simp only [List.mem_cons, List.not_mem_nil, or_false] at ht'; subst ht'; omega⟩
      | none =>
        cases h3 : dlit [44] r1 with
        | none => rw [ditems_bad h1 h2 h3] at h; cases h
        | some r2 =>
          rw [ditems_more h1 h2 h3] at h; simp only [Option.map_eq_some_iff, Prod.mk.injEq] at h
          obtain ⟨⟨a, b⟩, h, rfl, rfl⟩ := h
          have h4 := dlit_len h3
          obtain ⟨i1, i2⟩ := ditems_len k r2 h
          simp only [List.length_cons, List.length_nil] at *
          refine ⟨by omega, fun t' ht' => ?_⟩
          rcases List.mem_cons.1 ht' with rfl | ht'
          · omega
          · have := i2 t' ht'; omega
/-- Texts in brackets. -/
def dlst (R : List UInt8) : Option (List (List UInt8) × List UInt8) :=
  match dlit [91] R with
  | none => none
  | some r => match dlit [93] r with | some r2 => some ([], r2) | none => ditems r.length r
theorem dlst_list (l : List (List UInt8)) (r : List UInt8) : dlst (dlist l ++ r) = some (l, r) := by
  unfold dlst dlist
  rw [List.cons_append, dlit_one]; dsimp only
  rw [List.append_assoc]
  cases l with
  | nil => rw [show joinD (([] : List (List UInt8)).map dquote) ++ ([93] ++ r) = 93 :: r from rfl, dlit_one]
  | cons a l =>
    have hq : ∃ q, joinD ((a :: l).map dquote) ++ ([93] ++ r) = 34 :: q := by
      cases l with
      | nil => exact ⟨_, rfl⟩
      | cons b l => rw [List.map_cons, joinD_cons _ (by simp)]; exact ⟨_, rfl⟩
    obtain ⟨q, hq⟩ := hq
    have h93 : dlit [93] (joinD ((a :: l).map dquote) ++ ([93] ++ r)) = none := by rw [hq]; exact dlit_no _ (by decide)
    rw [h93]; dsimp only
    have := ditems_join r (a :: l) (max (a :: l).length (joinD ((a :: l).map dquote) ++ ([93] ++ r)).length) (by simp) (by omega)
    rw [← this]
    exact ditems_fuel _ _ _ (Nat.le_refl _) (Nat.le_max_right _ _)
theorem dlst_len {R : List UInt8} {l : List (List UInt8)} {r : List UInt8} (h : dlst R = some (l, r)) : 2 * l.length + r.length + 2 ≤ R.length ∧ (∀ t ∈ l, t.length ≤ R.length) := by
  unfold dlst at h
  cases h1 : dlit [91] R with
  | none => rw [h1] at h; cases h
  | some q =>
    rw [h1] at h; dsimp only at h
    have hl := dlit_len h1
    cases h2 : dlit [93] q with
    | some r2 =>
      rw [h2] at h; simp only [Option.some.injEq, Prod.mk.injEq] at h; obtain ⟨rfl, rfl⟩ := h
      have := dlit_len h2; simp only [List.length_cons, List.length_nil] at *
      exact ⟨by omega, fun t ht => by cases ht⟩
    | none =>
      rw [h2] at h; dsimp only at h
      obtain ⟨i1, i2⟩ := ditems_len _ _ h
      simp only [List.length_cons, List.length_nil] at *
      exact ⟨by omega, fun t ht => by have := i2 t ht; omega⟩
/-- A derivation, and what is behind. -/
def dwhole (R : List UInt8) : Option (Dv × List UInt8) := do
  let r ← dlit dopen R
  let (n, r) ← dtxt r
  let r ← dlit [44] r
  let (ds, r) ← dlst r
  let r ← dlit [44] r
  let (ss, r) ← dlst r
  let r ← dlit [44] r
  let (rc, r) ← dtxt r
  let r ← dlit [44] r
  let (fx, r) ← dtxt r
  let r ← dlit [41] r
  return (⟨n, ds, ss, rc, fx⟩, r)
theorem dwhole_text (d : Dv) : dwhole (dtext d d.drvs) = some (d, []) := by
  unfold dwhole dtext
  simp only [dlit_app, dlit_one, dtxt_quote, dlst_list, Option.bind_eq_bind, Option.bind_some, Option.pure_def]

/-! What the program's reader does. -/

/-- The next byte of a text in quotes, what is behind, and whether it is bad. -/
def nextP : List UInt8 → UInt8 × List UInt8 × Bool
  | [] => (0, [], true)
  | c :: r => if c = 92 then (match r with | [] => (0, [], true) | d :: r' => match dmean d with | none => (0, r', true) | some m => (m, r', false)) else (c, r, false)
theorem nextP_cons (c : UInt8) (r : List UInt8) : nextP (c :: r) = if c = 92 then (match r with | [] => (0, [], true) | d :: r' => match dmean d with | none => (0, r', true) | some m => (m, r', false)) else (c, r, false) := rfl
theorem nextP_len (R : List UInt8) : (nextP R).2.1.length ≤ R.length := by
  cases R with
  | nil => simp [nextP]
  | cons c r =>
    rw [nextP_cons]
    split
    · cases r with
      | nil => simp
      | cons d r' => dsimp only; cases dmean d <;> simp <;> omega
    · simp
theorem unq_bad {R : List UInt8} (h0 : dlit [34] R = none) (h : (nextP R).2.2 = true) : unqL R = none := by
  cases R with
  | nil => rfl
  | cons c r =>
    have hc : c ≠ 34 := by rintro rfl; rw [dlit_one] at h0; cases h0
    by_cases h9 : c = 92
    · subst h9
      cases r with
      | nil => exact unqL_esc_nil
      | cons d r' =>
        rw [unqL_esc]
        cases hm : dmean d with
        | none => rfl
        | some m => simp [nextP, hm] at h
    · simp [nextP, h9] at h
theorem unq_step {R : List UInt8} (h0 : dlit [34] R = none) (h : (nextP R).2.2 = false) : unqL R = (unqL (nextP R).2.1).map (fun p => ((nextP R).1 :: p.1, p.2)) ∧ (nextP R).2.1.length < R.length := by
  cases R with
  | nil => simp [nextP] at h
  | cons c r =>
    have hc : c ≠ 34 := by rintro rfl; rw [dlit_one] at h0; cases h0
    by_cases h9 : c = 92
    · subst h9
      cases r with
      | nil => simp [nextP] at h
      | cons d r' =>
        rw [unqL_esc]
        cases hm : dmean d with
        | none => simp [nextP, hm] at h
        | some m => simp [nextP, hm]; omega
    · rw [unqL_self r hc h9]; simp [nextP, h9]
theorem unq_done {R r : List UInt8} (h0 : dlit [34] R = some r) : unqL R = some ([], r) := by rw [dlit_some h0]; exact unqL_end r
/-- A text behind another. -/
def preT (A : List UInt8) (o : Option (List UInt8 × List UInt8)) : Option (List UInt8 × List UInt8) := o.map fun p => (A ++ p.1, p.2)
theorem preT_none (A : List UInt8) : preT A none = none := rfl
theorem preT_some (A t r : List UInt8) : preT A (some (t, r)) = some (A ++ t, r) := rfl
theorem preT_cons (A : List UInt8) (c : UInt8) (o : Option (List UInt8 × List UInt8)) : preT A (o.map fun p => (c :: p.1, p.2)) = preT (A ++ [c]) o := by
  cases o with
  | none => rfl
  | some p => simp [preT]
theorem preT_nil (o : Option (List UInt8 × List UInt8)) : preT [] o = o := by cases o <;> rfl
/-- Texts behind others. -/
def preL (A : List (List UInt8)) (o : Option (List (List UInt8) × List UInt8)) : Option (List (List UInt8) × List UInt8) := o.map fun p => (A ++ p.1, p.2)
theorem preL_none (A : List (List UInt8)) : preL A none = none := rfl
theorem preL_nil (o : Option (List (List UInt8) × List UInt8)) : preL [] o = o := by cases o <;> rfl
theorem preL_cons (A : List (List UInt8)) (t : List UInt8) (o : Option (List (List UInt8) × List UInt8)) : preL A (o.map fun p => (t :: p.1, p.2)) = preL (A ++ [t]) o := by
  cases o with
  | none => rfl
  | some p => simp [preL]
/-- The items that remain, whatever the fuel. -/
def itemsL (R : List UInt8) := ditems R.length R
theorem items_end {R t r r2 : List UInt8} (h1 : dtxt R = some (t, r)) (h2 : dlit [93] r = some r2) : itemsL R = some ([t], r2) := by
  have hl := dtxt_len h1
  unfold itemsL; rw [ditems_fuel _ (R.length + 1) R (Nat.le_refl _) (Nat.le_succ _)]; exact ditems_end h1 h2
theorem items_more {R t r r2 : List UInt8} (h1 : dtxt R = some (t, r)) (h2 : dlit [93] r = none) (h3 : dlit [44] r = some r2) : itemsL R = (itemsL r2).map (fun p => (t :: p.1, p.2)) := by
  have hl := dtxt_len h1; have := dlit_len h3; simp only [List.length_cons, List.length_nil] at this
  unfold itemsL
  rw [ditems_fuel _ (R.length + 1) R (Nat.le_refl _) (Nat.le_succ _), ditems_more h1 h2 h3, ditems_fuel R.length r2.length r2 (by omega) (Nat.le_refl _)]
theorem items_bad {R t r : List UInt8} (h1 : dtxt R = some (t, r)) (h2 : dlit [93] r = none) (h3 : dlit [44] r = none) : itemsL R = none := by
  unfold itemsL; rw [ditems_fuel _ (R.length + 1) R (Nat.le_refl _) (Nat.le_succ _)]; exact ditems_bad h1 h2 h3
theorem items_none {R : List UInt8} (h1 : dtxt R = none) : itemsL R = none := ditems_none h1
theorem dlst_none {R : List UInt8} (h : dlit [91] R = none) : dlst R = none := by unfold dlst; rw [h]
theorem dlst_empty {R r r2 : List UInt8} (h : dlit [91] R = some r) (h2 : dlit [93] r = some r2) : dlst R = some ([], r2) := by unfold dlst; rw [h]; dsimp only; rw [h2]
theorem dlst_items {R r : List UInt8} (h : dlit [91] R = some r) (h2 : dlit [93] r = none) : dlst R = itemsL r := by unfold dlst; rw [h]; dsimp only; rw [h2]; rfl
end Go.Proofs.YtokbakpbhpknfaaGreatDoor

/-
  The tokens of two texts with a line's end between: the mathematics. No program text.
-/
import Derived.Test.YtjoiddlknocdfaaDoorLCovM
namespace Go.Proofs.YtjoiddlknocdfaaDoor
open Go.RowKit
set_option linter.unusedVariables false

def shT (d : Nat) (t : Tk) : Tk := ⟨t.kind, t.text, t.at_ + d⟩
/-- The same, d places later. -/
def shE (d : Nat) : Except (Nat × Int) (List Tk) → Except (Nat × Int) (List Tk)
  | .error (p, e) => .error (p + d, e)
  | .ok ts => .ok (ts.map (shT d))
def shS (d : Nat) : Except (Nat × Int) (List Tk × Nat × Bool × List Nat) → Except (Nat × Int) (List Tk × Nat × Bool × List Nat)
  | .error (p, e) => .error (p + d, e)
  | .ok (ts, r) => .ok (ts.map (shT d), r)

theorem signTok_sh (g : List UInt8) (a d : Nat) (p : List Nat) : signTok g (a + d) p = ((signTok g a p).1.map (shT d), (signTok g a p).2) := by
  cases p with
  | nil => rfl
  | cons m r =>
    by_cases h1 : g = [123]
    · subst h1; rfl
    · by_cases h2 : g = [125]
      · subst h2
        by_cases hm : 0 < m <;> simp [signTok, hm, shT]
      · simp [signTok, h1, h2, shT]

theorem step_sh (l : List UInt8) (a d : Nat) (q : Bool) (p : List Nat) : stepL l (a + d) q p = shS d (stepL l a q p) := by
  cases q
  · cases l with
    | nil => rfl
    | cons c t =>
      rw [stepL_plain, stepL_plain]
      split
      · rfl
      · split
        · rfl
        · split
          · rfl
          · split
            · split
              · simp only [shS, Except.error.injEq, Prod.mk.injEq, and_true]; omega
              · split <;> rfl
            · split
              · rfl
              · split
                · rfl
                · rw [signTok_sh]; rfl
  · unfold stepL
    rw [if_pos rfl, if_pos rfl]
    split
    · rfl
    · split
      · rfl
      · split
        · rfl
        · simp only [shS, Except.error.injEq, Prod.mk.injEq, and_true]; omega

theorem ahead_sh (d : Nat) (ts : List Tk) (r : Except (Nat × Int) (List Tk)) : ahead (ts.map (shT d)) (shE d r) = shE d (ahead ts r) := by
  cases r with
  | error e => rfl
  | ok x => simp [ahead, shE]

theorem lexN_sh : ∀ (n : Nat) (l : List UInt8) (a d : Nat) (q : Bool) (p : List Nat), lexN n l (a + d) q p = shE d (lexN n l a q p)
  | 0, _, _, _, _, _ => rfl
  | n + 1, l, a, d, q, p => by
    rw [lexN, lexN]
    split
    · split <;> rfl
    · rw [step_sh]
      cases stepL l a q p with
      | error e => rfl
      | ok r =>
        obtain ⟨ts, k, q', p'⟩ := r
        show ahead (ts.map (shT d)) (lexN n (l.drop k) (a + d + k) q' p') = shE d (ahead ts (lexN n (l.drop k) (a + k) q' p'))
        rw [show a + d + k = (a + k) + d by omega, lexN_sh n _ (a + k) d, ahead_sh]
theorem lexA_sh (l : List UInt8) (a d : Nat) (q : Bool) (p : List Nat) : lexA l (a + d) q p = shE d (lexA l a q p) := lexN_sh _ _ _ _ _ _

/-! What stands behind a line's end changes no step ahead of it. -/

theorem lenOf_app {f : UInt8 → Bool} (hf : f 10 = false) (x : List UInt8) : ∀ l : List UInt8, lenOf f (l ++ 10 :: x) = lenOf f l
  | [] => by show (if f 10 = true then _ else 0) = 0; rw [hf]; rfl
  | c :: l => by
    show lenOf f (c :: (l ++ 10 :: x)) = lenOf f (c :: l)
    rw [lenOf, lenOf, lenOf_app hf x l]
theorem in10 : inL 10 = false := by decide
theorem dig10 : digL 10 = false := by decide
theorem bgn10 : bgnL 10 = false := by decide

theorem pre_app {g l x : List UInt8} (hg : (10 : UInt8) ∉ g) : g.isPrefixOf (l ++ 10 :: x) = g.isPrefixOf l := by
  induction g generalizing l with
  | nil => rfl
  | cons c g ih =>
    cases l with
    | nil =>
      have : c ≠ 10 := fun e => hg (by simp [e])
      simp [List.isPrefixOf, this]
    | cons b l =>
      simp only [List.cons_append, List.isPrefixOf]
      rw [ih (fun h => hg (by simp [h]))]
theorem signs10 : ∀ g ∈ signsL, (10 : UInt8) ∉ g := by decide
theorem find_congr {α : Type} {f g : α → Bool} : ∀ {l : List α}, (∀ x ∈ l, f x = g x) → l.find? f = l.find? g
  | [], _ => rfl
  | a :: l, h => by
    rw [List.find?_cons, List.find?_cons, h a (by simp), find_congr (fun x hx => h x (by simp [hx]))]
theorem sign_app (l x : List UInt8) : signOf (l ++ 10 :: x) = signOf l := find_congr (fun g hg => pre_app (signs10 g hg))
theorem stop_app (l x : List UInt8) : stopL (l ++ 10 :: x) = stopL l := by
  unfold stopL
  rw [pre_app (by decide), pre_app (by decide)]

theorem pj_plain {c : UInt8} {t : List UInt8} (hs : ¬ stopL (c :: t) = true) (hc : ¬ c.toNat = 92) : partL (c :: t) = ((partL t).1, (partL t).2.1 + 1, c :: (partL t).2.2) := by
  cases t with
  | nil => conv => lhs; rw [partL]
           rw [if_neg hs, if_neg hc]
  | cons d t => conv => lhs; rw [partL]
                rw [if_neg hs, if_neg hc]
theorem pj_stop {l : List UInt8} (h : l = [] ∨ stopL l = true) : partL l = (true, 0, []) := by
  match l with
  | [] => rfl
  | [c] => rw [partL, if_pos (h.resolve_left (by simp))]
  | c :: d :: t => rw [partL, if_pos (h.resolve_left (by simp))]
theorem pj_esc {c d : UInt8} {t : List UInt8} (hs : ¬ stopL (c :: d :: t) = true) (hc : c.toNat = 92) (hd : ¬ mean1 d = 0) : partL (c :: d :: t) = ((partL t).1, (partL t).2.1 + 2, mean1 d :: (partL t).2.2) := by
  rw [partL, if_neg hs, if_pos hc, if_neg hd]
theorem pj_bad {c d : UInt8} {t : List UInt8} (hs : ¬ stopL (c :: d :: t) = true) (hc : c.toNat = 92) (hd : mean1 d = 0) : partL (c :: d :: t) = (false, 1, []) := by
  rw [partL, if_neg hs, if_pos hc, if_pos hd]
theorem pj_bad1 {c : UInt8} (hs : ¬ stopL [c] = true) (hc : c.toNat = 92) : partL [c] = (false, 1, []) := by
  rw [partL, if_neg hs, if_pos hc]

/-- A part that ends ahead of the text's end. -/
theorem part_app (x : List UInt8) : ∀ (l : List UInt8), (partL l).1 = true → (partL l).2.1 < l.length → partL (l ++ 10 :: x) = partL l
  | [], _, h => by simp [partL] at h
  | [c], h1, h2 => by
    by_cases hs : stopL [c] = true
    · rw [pj_stop (l := [c] ++ 10 :: x) (.inr (by rw [stop_app]; exact hs)), pj_stop (.inr hs)]
    · by_cases h92 : c.toNat = 92
      · rw [pj_bad1 hs h92] at h1; cases h1
      · rw [pj_plain hs h92] at h2
        simp [partL] at h2
  | c :: d :: t, h1, h2 => by
    by_cases hs : stopL (c :: d :: t) = true
    · rw [pj_stop (l := (c :: d :: t) ++ 10 :: x) (.inr (by rw [stop_app]; exact hs)), pj_stop (.inr hs)]
    · have e : ¬ stopL (c :: d :: (t ++ 10 :: x)) = true := by
        have := stop_app (c :: d :: t) x
        rw [List.cons_append, List.cons_append] at this
        rw [this]; exact hs
      rw [List.cons_append, List.cons_append]
      by_cases h92 : c.toNat = 92
      · by_cases hd : mean1 d = 0
        · rw [pj_bad hs h92 hd] at h1; cases h1
        · rw [pj_esc hs h92 hd] at h1 h2 ⊢
          rw [pj_esc e h92 hd, part_app x t h1 (by simp at h2; omega)]
      · rw [pj_plain hs h92] at h1 h2 ⊢
        rw [pj_plain e h92]
        have := part_app x (d :: t) h1 (by simp at h2 ⊢; omega)
        rw [List.cons_append] at this
        rw [this]

theorem lineL_app (l x : List UInt8) : lineL (l ++ 10 :: x) = lineL l := lenOf_app (by decide) x l

theorem badNum_app (l x : List UInt8) : badNum (l ++ 10 :: x) = badNum l := by
  cases l with
  | nil => rfl
  | cons c l => rfl

theorem take_app_le {l y : List UInt8} {n : Nat} (h : n ≤ l.length) : (l ++ y).take n = l.take n := List.take_append_of_le_length h
theorem drop_app_le {l y : List UInt8} {n : Nat} (h : n ≤ l.length) : (l ++ y).drop n = l.drop n ++ y := List.drop_append_of_le_length h

/-- A step that leaves something, or that is in no string, is the same with more behind the line's end. -/
theorem step_app {l x : List UInt8} {a : Nat} {q : Bool} {p : List Nat} {ts : List Tk} {k : Nat} {q' : Bool} {p' : List Nat} (h0 : l ≠ []) (h : stepL l a q p = .ok (ts, k, q', p')) (hq : q' = false ∨ k < l.length) : stepL (l ++ 10 :: x) a q p = .ok (ts, k, q', p') := by
  cases q
  · match l, h0 with
    | c :: t, _ =>
      rw [List.cons_append, stepL_plain]
      rw [stepL_plain] at h
      have en := lenOf_app in10 x (c :: t)
      have ed := lenOf_app dig10 x (c :: t)
      have el := lineL_app (c :: t) x
      have es := sign_app (c :: t) x
      rw [List.cons_append] at en ed el es
      have ln := lenOf_le inL (c :: t)
      have ld := lenOf_le digL (c :: t)
      have tn : (c :: (t ++ 10 :: x)).take (lenOf inL (c :: t)) = (c :: t).take (lenOf inL (c :: t)) := take_app_le (l := c :: t) ln
      have td : (c :: (t ++ 10 :: x)).take (lenOf digL (c :: t)) = (c :: t).take (lenOf digL (c :: t)) := take_app_le (l := c :: t) ld
      have dd : (c :: (t ++ 10 :: x)).drop (lenOf digL (c :: t)) = (c :: t).drop (lenOf digL (c :: t)) ++ 10 :: x := drop_app_le (l := c :: t) ld
      rw [en, ed, el, es, tn, td, dd, badNum_app]
      exact h
  · unfold stepL at h ⊢
    rw [if_pos rfl] at h ⊢
    rw [pre_app (by decide), pre_app (by decide)]
    split at h
    · rename_i h1; rw [if_pos h1]; exact h
    · rename_i h1
      rw [if_neg h1]
      split at h
      · rename_i h2; rw [if_pos h2]; exact h
      · rename_i h2
        rw [if_neg h2]
        split at h
        · rename_i h3
          have hk : k < l.length := by
            rcases hq with e | e
            · cases h; cases e
            · exact e
          have e2 : (partL l).2.1 = k := by cases h; rfl
          rw [part_app x l h3 (by rw [e2]; exact hk), if_pos h3]
          exact h
        · cases h

/-- The last token is the end. -/
theorem lexN_join (x : List UInt8) : ∀ (n : Nat) (l : List UInt8) (a : Nat) (q : Bool) (p : List Nat) (ts : List Tk), l.length < n → lexN n l a q p = .ok ts →
    ∃ ts0, ts = ts0 ++ [⟨0, [], a + l.length⟩] ∧ lexA (l ++ 10 :: x) a q p = ahead ts0 (lexA x (a + l.length + 1) false [])
  | 0, _, _, _, _, _, hn, _ => by omega
  | n + 1, l, a, q, p, ts, hn, h => by
    rw [lexN] at h
    split at h
    · rename_i h0
      subst h0
      split at h
      · cases h
      · rename_i hqp
        obtain rfl : q = false := by cases q with | false => rfl | true => exact absurd (.inl rfl) hqp
        obtain rfl : p = [] := by
          by_cases e : p = []
          · exact e
          · exact absurd (.inr e) hqp
        cases h
        refine ⟨[], by simp, ?_⟩
        rw [List.nil_append, ahead_nil, lexA_ok (by simp) (step_blank (by decide)), ahead_nil]
        rfl
    · rename_i h0
      cases hs : stepL l a q p with
      | error e => rw [hs] at h; cases h
      | ok r =>
        obtain ⟨ts1, k, q', p'⟩ := r
        rw [hs] at h
        have hk := step_some h0 hs
        have h' : ahead ts1 (lexN n (l.drop k) (a + k) q' p') = .ok ts := h
        cases hr : lexN n (l.drop k) (a + k) q' p' with
        | error e => rw [hr] at h'; cases h'
        | ok y =>
          rw [hr] at h'
          cases h'
          obtain ⟨ts0, hy, hj⟩ := lexN_join x n (l.drop k) (a + k) q' p' y (by rw [List.length_drop]; omega) hr
          have hq : q' = false ∨ k < l.length := by
            by_cases e : k < l.length
            · exact .inr e
            · left
              have hd : l.drop k = [] := List.drop_of_length_le (by omega)
              cases q' with
              | false => rfl
              | true =>
                exfalso
                rw [hd] at hr
                match n, hr with
                | 0, hr => rw [lexN] at hr; cases hr
                | n + 1, hr => rw [lexN, if_pos rfl, if_pos (.inl rfl)] at hr; cases hr
          have ea : a + k + (l.drop k).length = a + l.length := by rw [List.length_drop]; omega
          rw [ea] at hy hj
          refine ⟨ts1 ++ ts0, by rw [hy, List.append_assoc], ?_⟩
          rw [lexA_ok (by simp) (step_app h0 hs hq), List.drop_append_of_le_length hk.2, hj, ahead_ahead]

theorem top_join {s x : List UInt8} {ts : List Tk} (h : lexTop s = .ok ts) (hl : s.length + 1 + x.length ≤ 8000) :
    ∃ ts0, ts = ts0 ++ [⟨0, [], s.length⟩] ∧ lexTop (s ++ 10 :: x) = ahead ts0 (shE (s.length + 1) (lexTop x)) := by
  unfold lexTop at h ⊢
  rw [if_neg (by omega)] at h
  rw [if_neg (by rw [List.length_append, List.length_cons]; omega), if_neg (by omega)]
  obtain ⟨ts0, h1, h2⟩ := lexN_join x _ s 0 false [] ts (Nat.lt_succ_self _) h
  rw [Nat.zero_add] at h1 h2
  refine ⟨ts0, h1, ?_⟩
  have := lexA_sh x 0 (s.length + 1) false []
  rw [Nat.zero_add] at this
  rw [h2, this]

end Go.Proofs.YtjoiddlknocdfaaDoor

/-
  Tokens cover the text: the mathematics. No program text.
-/
import Derived.Test.YtnajafnbickiiaaDoorLMath
namespace Go.Proofs.YtnajafnbickiiaaDoor
open Go.RowKit
set_option linter.unusedVariables false

theorem step_err {l : List UInt8} {a : Nat} {q : Bool} {p : List Nat} {pl : Nat} {er : Int} (h : stepL l a q p = .error (pl, er)) : ¬ er = 0 := by
  unfold stepL at h
  repeat' split at h
  all_goals (first | (cases h; decide) | cases h)

/-- The token of a step stands where it says. -/
theorem step_tok {l : List UInt8} {a : Nat} {q : Bool} {p : List Nat} {ts : List Tk} {k : Nat} {q' : Bool} {p' : List Nat} (h : stepL l a q p = .ok (ts, k, q', p')) :
    ts = [] ∨ ∃ t, ts = [t] ∧ t.at_ = a ∧ (t.kind = 6 ∨ t.text <+: l) := by
  have one : ∀ t : Tk, t.at_ = a → (t.kind = 6 ∨ t.text <+: l) → [t] = [] ∨ ∃ t', [t] = [t'] ∧ t'.at_ = a ∧ (t'.kind = 6 ∨ t'.text <+: l) := fun t h1 h2 => .inr ⟨t, rfl, h1, h2⟩
  cases q
  · match l, h with
    | [], h => unfold stepL at h; rw [if_neg Bool.false_ne_true] at h; cases h
    | c :: t, h =>
      rw [stepL_plain] at h
      split at h
      · cases h; exact .inl rfl
      · split at h
        · cases h; exact .inl rfl
        · split at h
          · cases h; exact one _ rfl (.inr (List.take_prefix _ _))
          · split at h
            · split at h
              · cases h
              · split at h
                · cases h
                · cases h; exact one _ rfl (.inr (List.take_prefix _ _))
            · split at h
              · rename_i h34
                cases h
                refine one _ rfl (.inr ?_)
                have : c = 34 := UInt8.toNat_inj.1 h34
                subst this
                exact ⟨t, rfl⟩
              · split at h
                · cases h
                · rename_i g hg
                  have hp := (signOf_some hg).2
                  unfold signTok at h
                  split at h
                  · cases h; exact one _ rfl (.inr hp)
                  · split at h
                    · cases h; exact one _ rfl (.inr hp)
                    · split at h
                      · split at h
                        · cases h; exact one _ rfl (.inr hp)
                        · cases h; exact one _ rfl (.inr hp)
                      · cases h; exact one _ rfl (.inr hp)
  · unfold stepL at h
    rw [if_pos rfl] at h
    split at h
    · rename_i hp
      cases h; exact one _ rfl (.inr (List.isPrefixOf_iff_prefix.1 hp))
    · split at h
      · rename_i hp
        cases h; exact one _ rfl (.inr (List.isPrefixOf_iff_prefix.1 hp))
      · split at h
        · cases h; exact one _ rfl (.inl rfl)
        · cases h

/-- Tokens from place a on, one behind the other, up to the end. -/
def Good (S : List UInt8) : Nat → List Tk → Prop
  | _, [] => False
  | a, t :: r => a ≤ t.at_ ∧ t.at_ ≤ S.length ∧ (t.kind = 6 ∨ (t.at_ + t.text.length ≤ S.length ∧ (S.drop t.at_).take t.text.length = t.text)) ∧ ((r = [] ∧ t.kind = 0 ∧ t.at_ = S.length) ∨ Good S (t.at_ + 1) r)

theorem Good.mono {S : List UInt8} {a b : Nat} {ts : List Tk} (h : Good S b ts) (hab : a ≤ b) : Good S a ts := by
  match ts, h with
  | t :: r, h => exact ⟨Nat.le_trans hab h.1, h.2⟩

theorem lexN_err : ∀ (n : Nat) (l : List UInt8) (a : Nat) (q : Bool) (p : List Nat) (pl : Nat) (er : Int), lexN n l a q p = .error (pl, er) → ¬ er = 0
  | 0, _, _, _, _, _, _, h => by rw [lexN] at h; cases h; decide
  | n + 1, l, a, q, p, pl, er, h => by
    rw [lexN] at h
    split at h
    · split at h
      · cases h; decide
      · cases h
    · cases hs : stepL l a q p with
      | error e =>
        rw [hs] at h
        cases h
        exact step_err hs
      | ok r =>
        obtain ⟨ts, k, q', p'⟩ := r
        rw [hs] at h
        cases hr : lexN n (l.drop k) (a + k) q' p' with
        | error e =>
          obtain ⟨pl', er'⟩ := e
          have h' : ahead ts (lexN n (l.drop k) (a + k) q' p') = .error (pl, er) := h
          rw [hr] at h'
          cases h'
          exact lexN_err n _ _ _ _ _ _ hr
        | ok x =>
          have h' : ahead ts (lexN n (l.drop k) (a + k) q' p') = .error (pl, er) := h
          rw [hr] at h'
          cases h'
theorem top_err {s : List UInt8} {pl : Nat} {er : Int} (h : lexTop s = .error (pl, er)) : ¬ er = 0 := by
  unfold lexTop at h
  split at h
  · cases h; decide
  · exact lexN_err _ _ _ _ _ _ _ h

theorem lexN_good (S : List UInt8) : ∀ (n a : Nat) (q : Bool) (p : List Nat) (ts : List Tk), a ≤ S.length → lexN n (S.drop a) a q p = .ok ts → Good S a ts
  | 0, _, _, _, _, _, h => by rw [lexN] at h; cases h
  | n + 1, a, q, p, ts, ha, h => by
    rw [lexN] at h
    split at h
    · rename_i h0
      split at h
      · cases h
      · cases h
        have hl := congrArg List.length h0
        rw [List.length_drop] at hl
        simp at hl
        have : a = S.length := by omega
        subst this
        exact ⟨Nat.le_refl _, Nat.le_refl _, .inr ⟨by simp, by simp⟩, .inl ⟨rfl, rfl, rfl⟩⟩
    · rename_i h0
      cases hs : stepL (S.drop a) a q p with
      | error e => rw [hs] at h; cases h
      | ok r =>
        obtain ⟨ts1, k, q', p'⟩ := r
        rw [hs] at h
        have hk := step_some h0 hs
        rw [List.length_drop] at hk
        have h' : ahead ts1 (lexN n ((S.drop a).drop k) (a + k) q' p') = .ok ts := h
        rw [List.drop_drop] at h'
        cases hr : lexN n (S.drop (a + k)) (a + k) q' p' with
        | error e => rw [hr] at h'; cases h'
        | ok x =>
          rw [hr] at h'
          cases h'
          have ih := lexN_good S n (a + k) q' p' x (by omega) hr
          rcases step_tok hs with rfl | ⟨t, rfl, hat, hp⟩
          · exact ih.mono (by omega)
          · refine ⟨by omega, by omega, ?_, .inr (ih.mono (by omega))⟩
            rcases hp with h6 | hp
            · exact .inl h6
            · have h1 := hp.length_le
              rw [List.length_drop] at h1
              refine .inr ⟨by omega, ?_⟩
              rw [hat]
              exact (List.prefix_iff_eq_take.1 hp).symm
theorem top_good {s : List UInt8} {ts : List Tk} (h : lexTop s = .ok ts) : Good s 0 ts := by
  unfold lexTop at h
  split at h
  · cases h
  · exact lexN_good s _ 0 false [] ts (Nat.zero_le _) (by rw [List.drop_zero]; exact h)

theorem good_get {S : List UInt8} : ∀ (ts : List Tk) (a i : Nat) (t : Tk), Good S a ts → ts[i]? = some t →
    a ≤ t.at_ ∧ t.at_ ≤ S.length ∧ (t.kind = 6 ∨ (t.at_ + t.text.length ≤ S.length ∧ (S.drop t.at_).take t.text.length = t.text)) ∧ (∀ j t', i = j + 1 → ts[j]? = some t' → t'.at_ < t.at_) ∧ (i + 1 = ts.length → t.kind = 0 ∧ t.at_ = S.length)
  | [], _, _, _, h, _ => h.elim
  | u :: r, a, 0, t, h, ht => by
    simp only [List.getElem?_cons_zero, Option.some.injEq] at ht
    subst ht
    refine ⟨h.1, h.2.1, h.2.2.1, fun j t' e => by omega, fun hl => ?_⟩
    rcases h.2.2.2 with ⟨_, h1, h2⟩ | hg
    · exact ⟨h1, h2⟩
    · simp at hl; subst hl; exact hg.elim
  | u :: r, a, i + 1, t, h, ht => by
    have ht' : r[i]? = some t := by simpa using ht
    rcases h.2.2.2 with ⟨hr, _, _⟩ | hg
    · subst hr; simp at ht'
    · obtain ⟨h1, h2, h3, h4, h5⟩ := good_get r (u.at_ + 1) i t hg ht'
      have hu := h.1
      refine ⟨by omega, h2, h3, fun j t' e hj => ?_, fun hl => h5 (by simpa using hl)⟩
      obtain rfl : j = i := by omega
      cases j with
      | zero =>
        simp only [List.getElem?_cons_zero, Option.some.injEq] at hj
        subst hj
        omega
      | succ j => exact h4 j t' rfl (by simpa using hj)
theorem good_ne {S : List UInt8} {a : Nat} {ts : List Tk} (h : Good S a ts) : 1 ≤ ts.length := by
  match ts, h with
  | t :: r, _ => simp

end Go.Proofs.YtnajafnbickiiaaDoor

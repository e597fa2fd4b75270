/-
  Lexing as a function of lists of bytes: one step, all of them. No program text.
-/
import Derived.Test.YtnajafnbickiiaaDoorRows
import Derived.WalkKit
namespace Go.Proofs.YtnajafnbickiiaaDoor
open Go.RowKit
set_option linter.unusedVariables false

/-- A token: its kind, its text, its place. -/
structure Tk where
  kind : Nat
  text : List UInt8
  at_ : Nat
deriving DecidableEq

def bgnL (c : UInt8) : Bool := (97 ≤ c.toNat && c.toNat ≤ 122) || (65 ≤ c.toNat && c.toNat ≤ 90) || c.toNat == 95
def digL (c : UInt8) : Bool := 48 ≤ c.toNat && c.toNat ≤ 57
def inL (c : UInt8) : Bool := bgnL c || digL c || c.toNat == 39 || c.toNat == 45
def blkL (c : UInt8) : Bool := c.toNat == 32 || c.toNat == 10 || c.toNat == 9

/-- How many bytes, from the first on, are of a sort. -/
def lenOf (p : UInt8 → Bool) : List UInt8 → Nat
  | [] => 0
  | c :: t => if p c then lenOf p t + 1 else 0

def wordsL : List (List UInt8) := [[108, 101, 116], [105, 110], [114, 101, 99], [119, 105, 116, 104], [105, 110, 104, 101, 114, 105, 116], [105, 102], [116, 104, 101, 110], [101, 108, 115, 101], [97, 115, 115, 101, 114, 116], [111, 114]]
def signsL : List (List UInt8) := [[46, 46, 46], [38, 38], [124, 124], [61, 61], [33, 61], [47, 47], [43, 43], [43], [45], [42], [60], [33], [40], [41], [91], [93], [123], [125], [59], [58], [44], [63], [61], [46]]
/-- How many bytes stand ahead of the end of the line. -/
def lineL (l : List UInt8) : Nat := lenOf (fun c => c.toNat != 10) l
def signOf (l : List UInt8) : Option (List UInt8) := signsL.find? (·.isPrefixOf l)

/-- What stands behind a backslash for a byte; 0: nothing does. -/
def mean1 (c : UInt8) : UInt8 := if c.toNat = 110 then 10 else if c.toNat = 116 then 9 else if c.toNat = 34 ∨ c.toNat = 92 ∨ c.toNat = 36 then c else 0
def meanL : List UInt8 → UInt8
  | [] => 0
  | c :: _ => mean1 c

/-- Does a string's part end here? -/
def stopL (l : List UInt8) : Bool := [34].isPrefixOf l || [36, 123].isPrefixOf l

/-- A part of a string: is it right, up to which place, and what it stands for. -/
def partL : List UInt8 → Bool × Nat × List UInt8
  | [] => (true, 0, [])
  | c :: t => if stopL (c :: t) then (true, 0, [])
    else if c.toNat = 92 then match t with
      | [] => (false, 1, [])
      | d :: t' => if mean1 d = 0 then (false, 1, []) else ((partL t').1, (partL t').2.1 + 2, mean1 d :: (partL t').2.2)
    else ((partL t).1, (partL t).2.1 + 1, c :: (partL t).2.2)

/-- The number that digits spell. -/
def decV (l : List UInt8) : Nat := l.foldl (fun a c => a * 10 + (c.toNat - 48)) 0

/-- Digits with a letter behind them are none. -/
def badNum (l : List UInt8) : Bool := match l with
  | [] => false
  | d :: _ => bgnL d

/-- The token of a sign, and what is open behind it. -/
def signTok (g : List UInt8) (at_ : Nat) (p : List Nat) : List Tk × Nat × Bool × List Nat :=
  match p with
  | [] => ([⟨4, g, at_⟩], g.length, false, [])
  | m :: r => if g = [123] then ([⟨4, g, at_⟩], g.length, false, (m + 1) :: r)
    else if g = [125] then (if 0 < m then ([⟨4, g, at_⟩], g.length, false, (m - 1) :: r) else ([⟨8, g, at_⟩], g.length, true, r))
    else ([⟨4, g, at_⟩], g.length, false, m :: r)

/-- One step: the tokens, how many bytes they take, what is open; or the place and the error. -/
def stepL (l : List UInt8) (at_ : Nat) (q : Bool) (p : List Nat) : Except (Nat × Int) (List Tk × Nat × Bool × List Nat) :=
  if q = true then
    if [34].isPrefixOf l then .ok ([⟨5, [34], at_⟩], 1, false, p)
    else if [36, 123].isPrefixOf l then .ok ([⟨7, [36, 123], at_⟩], 2, false, 0 :: p)
    else if (partL l).1 = true then .ok ([⟨6, (partL l).2.2, at_⟩], (partL l).2.1, true, p) else .error (at_ + (partL l).2.1, 4)
  else match l with
  | [] => .error (at_, 4)
  | c :: t =>
    if blkL c then .ok ([], 1, false, p)
    else if c.toNat = 35 then .ok ([], lineL (c :: t), false, p)
    else if bgnL c then .ok ([⟨if ((c :: t).take (lenOf inL (c :: t))) ∈ wordsL then 2 else 1, (c :: t).take (lenOf inL (c :: t)), at_⟩], lenOf inL (c :: t), false, p)
    else if digL c then
      if badNum ((c :: t).drop (lenOf digL (c :: t))) then .error (at_ + lenOf digL (c :: t), 4)
      else if 9223372036854775807 < decV ((c :: t).take (lenOf digL (c :: t))) then .error (at_, 13)
      else .ok ([⟨3, (c :: t).take (lenOf digL (c :: t)), at_⟩], lenOf digL (c :: t), false, p)
    else if c.toNat = 34 then .ok ([⟨5, [34], at_⟩], 1, true, p)
    else match signOf (c :: t) with
      | none => .error (at_, 4)
      | some g => .ok (signTok g at_ p)

/-- Tokens ahead of others. -/
def ahead (ts : List Tk) : Except (Nat × Int) (List Tk) → Except (Nat × Int) (List Tk)
  | .error e => .error e
  | .ok r => .ok (ts ++ r)

/-- All tokens, in at most so many steps. -/
def lexN : Nat → List UInt8 → Nat → Bool → List Nat → Except (Nat × Int) (List Tk)
  | 0, _, at_, _, _ => .error (at_, 99)
  | n + 1, l, at_, q, p => if l = [] then (if q = true ∨ p ≠ [] then .error (at_, 4) else .ok [⟨0, [], at_⟩])
    else match stepL l at_ q p with
      | .error e => .error e
      | .ok (ts, k, q', p') => ahead ts (lexN n (l.drop k) (at_ + k) q' p')
def lexA (l : List UInt8) (at_ : Nat) (q : Bool) (p : List Nat) : Except (Nat × Int) (List Tk) := lexN (l.length + 1) l at_ q p

theorem ahead_nil (r : Except (Nat × Int) (List Tk)) : ahead [] r = r := by cases r <;> rfl
theorem ahead_ahead (a b : List Tk) (r : Except (Nat × Int) (List Tk)) : ahead a (ahead b r) = ahead (a ++ b) r := by cases r <;> simp [ahead]

theorem lenOf_le (p : UInt8 → Bool) : ∀ l, lenOf p l ≤ l.length
  | [] => Nat.le_refl _
  | c :: t => by rw [lenOf]; split <;> simp [lenOf_le p t]
theorem lenOf_pos {p : UInt8 → Bool} {c : UInt8} {t : List UInt8} (h : p c = true) : 1 ≤ lenOf p (c :: t) := by rw [lenOf, if_pos h]; omega

theorem signs_pos : ∀ g ∈ signsL, 1 ≤ g.length ∧ g.length ≤ 3 := by decide
theorem signOf_some {l g : List UInt8} (h : signOf l = some g) : g ∈ signsL ∧ g <+: l := by
  unfold signOf at h
  exact ⟨List.mem_of_find?_eq_some h, List.isPrefixOf_iff_prefix.1 (by simpa using List.find?_some h)⟩
theorem part_le : ∀ l : List UInt8, (partL l).2.1 ≤ l.length
  | [] => by simp [partL]
  | [c] => by rw [partL]; split <;> (try split) <;> simp [partL]
  | c :: d :: t' => by
    rw [partL]
    split
    · simp
    · split
      · have := part_le t'
        split <;> simp <;> omega
      · have := part_le (d :: t')
        simp at this ⊢; omega
theorem part_pos {l : List UInt8} (h0 : l ≠ []) (hs : stopL l = false) : 1 ≤ (partL l).2.1 := by
  match l, h0 with
  | [c], _ => rw [partL, if_neg (by rw [hs]; simp)]; split <;> simp [partL]
  | c :: d :: t', _ =>
    rw [partL, if_neg (by rw [hs]; simp)]
    split
    · split <;> simp
    · simp

theorem stepL_plain (c : UInt8) (t : List UInt8) (at_ : Nat) (p : List Nat) : stepL (c :: t) at_ false p =
    if blkL c then .ok ([], 1, false, p)
    else if c.toNat = 35 then .ok ([], lineL (c :: t), false, p)
    else if bgnL c then .ok ([⟨if ((c :: t).take (lenOf inL (c :: t))) ∈ wordsL then 2 else 1, (c :: t).take (lenOf inL (c :: t)), at_⟩], lenOf inL (c :: t), false, p)
    else if digL c then
      if badNum ((c :: t).drop (lenOf digL (c :: t))) then .error (at_ + lenOf digL (c :: t), 4)
      else if 9223372036854775807 < decV ((c :: t).take (lenOf digL (c :: t))) then .error (at_, 13)
      else .ok ([⟨3, (c :: t).take (lenOf digL (c :: t)), at_⟩], lenOf digL (c :: t), false, p)
    else if c.toNat = 34 then .ok ([⟨5, [34], at_⟩], 1, true, p)
    else match signOf (c :: t) with
      | none => .error (at_, 4)
      | some g => .ok (signTok g at_ p) := by
  unfold stepL; rw [if_neg Bool.false_ne_true]
theorem step_blank {c : UInt8} {t : List UInt8} {at_ : Nat} {p : List Nat} (h : blkL c = true) : stepL (c :: t) at_ false p = .ok ([], 1, false, p) := by
  rw [stepL_plain, if_pos h]
theorem step_line {c : UInt8} {t : List UInt8} {at_ : Nat} {p : List Nat} (h : c.toNat = 35) : stepL (c :: t) at_ false p = .ok ([], lineL (c :: t), false, p) := by
  rw [stepL_plain, if_neg (by unfold blkL; rw [h]; decide), if_pos h]
theorem step_name {c : UInt8} {t : List UInt8} {at_ : Nat} {p : List Nat} (h0 : blkL c = false) (h1 : c.toNat ≠ 35) (h : bgnL c = true) : stepL (c :: t) at_ false p = .ok ([⟨if ((c :: t).take (lenOf inL (c :: t))) ∈ wordsL then 2 else 1, (c :: t).take (lenOf inL (c :: t)), at_⟩], lenOf inL (c :: t), false, p) := by
  rw [stepL_plain, if_neg (by rw [h0]; simp), if_neg h1, if_pos h]
theorem step_num {c : UInt8} {t : List UInt8} {at_ : Nat} {p : List Nat} (h0 : blkL c = false) (h1 : c.toNat ≠ 35) (h2 : bgnL c = false) (h : digL c = true) : stepL (c :: t) at_ false p =
    if badNum ((c :: t).drop (lenOf digL (c :: t))) then .error (at_ + lenOf digL (c :: t), 4)
      else if 9223372036854775807 < decV ((c :: t).take (lenOf digL (c :: t))) then .error (at_, 13)
      else .ok ([⟨3, (c :: t).take (lenOf digL (c :: t)), at_⟩], lenOf digL (c :: t), false, p) := by
  rw [stepL_plain, if_neg (by rw [h0]; simp), if_neg h1, if_neg (by rw [h2]; simp), if_pos h]
theorem step_quote {c : UInt8} {t : List UInt8} {at_ : Nat} {p : List Nat} (h : c.toNat = 34) : stepL (c :: t) at_ false p = .ok ([⟨5, [34], at_⟩], 1, true, p) := by
  rw [stepL_plain, if_neg (by unfold blkL; rw [h]; decide), if_neg (by omega), if_neg (by unfold bgnL; rw [h]; decide), if_neg (by unfold digL; rw [h]; decide), if_pos h]
theorem step_sign {c : UInt8} {t : List UInt8} {at_ : Nat} {p : List Nat} (h0 : blkL c = false) (h1 : c.toNat ≠ 35) (h2 : bgnL c = false) (h3 : digL c = false) (h4 : c.toNat ≠ 34) : stepL (c :: t) at_ false p = match signOf (c :: t) with
      | none => .error (at_, 4)
      | some g => .ok (signTok g at_ p) := by
  rw [stepL_plain, if_neg (by rw [h0]; simp), if_neg h1, if_neg (by rw [h2]; simp), if_neg (by rw [h3]; simp), if_neg h4]

/-- A step takes at least a byte, and no more than there are. -/
theorem step_some {l : List UInt8} {at_ : Nat} {q : Bool} {p : List Nat} {ts : List Tk} {k : Nat} {q' : Bool} {p' : List Nat} (h0 : l ≠ []) (h : stepL l at_ q p = .ok (ts, k, q', p')) : 1 ≤ k ∧ k ≤ l.length := by
  unfold stepL at h
  split at h
  · split at h
    · rename_i hp
      cases h
      have := (List.isPrefixOf_iff_prefix.1 hp).length_le
      simpa using this
    · split at h
      · rename_i hp
        cases h
        have := (List.isPrefixOf_iff_prefix.1 hp).length_le
        exact ⟨by omega, by simpa using this⟩
      · split at h
        · rename_i h1 h2 h3
          cases h
          exact ⟨part_pos h0 (by simp only [stopL, Bool.or_eq_false_iff]; exact ⟨Bool.eq_false_iff.2 h1, Bool.eq_false_iff.2 h2⟩), part_le l⟩
        · cases h
  · split at h
    · cases h
    · rename_i c t
      split at h
      · cases h; simp
      · rename_i hb
        split at h
        · rename_i h35
          cases h
          exact ⟨lenOf_pos (by simp [h35]), lenOf_le _ _⟩
        · split at h
          · rename_i hb
            cases h
            exact ⟨lenOf_pos (by simp [inL, hb]), lenOf_le _ _⟩
          · split at h
            · rename_i hd
              split at h
              · cases h
              · split at h
                · cases h
                · cases h
                  exact ⟨lenOf_pos hd, lenOf_le _ _⟩
            · split at h
              · cases h; simp
              · split at h
                · cases h
                · rename_i g hg
                  obtain ⟨hm, hp⟩ := signOf_some hg
                  have h1 := (signs_pos g hm).1
                  have h2 := hp.length_le
                  have : k = g.length := by
                    simp only [Except.ok.injEq] at h
                    have hk := congrArg (fun x => x.2.1) h
                    simp only [signTok] at hk
                    revert hk
                    split
                    · exact fun e => e.symm
                    · split
                      · exact fun e => e.symm
                      · split
                        · split <;> exact fun e => e.symm
                        · exact fun e => e.symm
                  omega

/-- More steps than needed change nothing. -/
theorem lexN_enough : ∀ (n m : Nat) (l : List UInt8) (at_ : Nat) (q : Bool) (p : List Nat), l.length < n → l.length < m → lexN n l at_ q p = lexN m l at_ q p
  | 0, _, _, _, _, _, h, _ => by omega
  | _, 0, _, _, _, _, _, h => by omega
  | n + 1, m + 1, l, at_, q, p, hn, hm => by
    rw [lexN, lexN]
    split
    · rfl
    · rename_i h0
      cases hs : stepL l at_ q p with
      | error e => rfl
      | ok r =>
        obtain ⟨ts, k, q', p'⟩ := r
        have hk := step_some h0 hs
        show ahead ts _ = ahead ts _
        rw [lexN_enough n m (l.drop k) (at_ + k) q' p' (by rw [List.length_drop]; omega) (by rw [List.length_drop]; omega)]

theorem lexA_nil (at_ : Nat) (q : Bool) (p : List Nat) : lexA [] at_ q p = if q = true ∨ p ≠ [] then .error (at_, 4) else .ok [⟨0, [], at_⟩] := by
  unfold lexA; rw [lexN, if_pos rfl]
theorem lexA_error {l : List UInt8} {at_ : Nat} {q : Bool} {p : List Nat} {e : Nat × Int} (h0 : l ≠ []) (h : stepL l at_ q p = .error e) : lexA l at_ q p = .error e := by
  unfold lexA; rw [lexN, if_neg h0, h]
theorem lexA_ok {l : List UInt8} {at_ : Nat} {q : Bool} {p : List Nat} {ts : List Tk} {k : Nat} {q' : Bool} {p' : List Nat} (h0 : l ≠ []) (h : stepL l at_ q p = .ok (ts, k, q', p')) : lexA l at_ q p = ahead ts (lexA (l.drop k) (at_ + k) q' p') := by
  have hk := step_some h0 h
  unfold lexA; rw [lexN, if_neg h0, h]
  show ahead ts _ = ahead ts _
  rw [lexN_enough _ ((l.drop k).length + 1) _ _ _ _ (by rw [List.length_drop]; omega) (by omega)]

/-- What Tokens tells. -/
def lexTop (s : List UInt8) : Except (Nat × Int) (List Tk) := if 8000 < s.length then .error (0, 2) else lexA s 0 false []

end Go.Proofs.YtnajafnbickiiaaDoor

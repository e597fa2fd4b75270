/-
  Reading archives as lists of bytes. No program text.
-/
import Derived.Test.YthjihibocobndaaNMath
namespace Go.Proofs.Ythjihibocobndaa
open Go.RowKit
set_option linter.unusedVariables false

/-- The number that bytes tell, the least one first. -/
def num8 : List UInt8 → Nat
  | [] => 0
  | b :: l => b.toNat + 256 * num8 l

theorem num8_append (l : List UInt8) (b : UInt8) : num8 (l ++ [b]) = num8 l + b.toNat * 256 ^ l.length := by
  induction l with
  | nil => simp [num8]
  | cons c l ih => simp only [List.cons_append, num8, ih, List.length_cons, Nat.pow_succ]; rw [Nat.mul_add, ← Nat.add_assoc]; congr 1; rw [← Nat.mul_assoc, Nat.mul_comm 256, Nat.mul_assoc, Nat.mul_comm 256]
theorem num8_lt (l : List UInt8) : num8 l < 256 ^ l.length := by
  induction l with
  | nil => simp [num8]
  | cons c l ih =>
    have := UInt8.toNat_lt c
    simp only [num8, List.length_cons, Nat.pow_succ]; omega

theorem le8_eq (n : Nat) : le8 n = [UInt8.ofNat (n / 256 ^ 0), UInt8.ofNat (n / 256 ^ 1), UInt8.ofNat (n / 256 ^ 2), UInt8.ofNat (n / 256 ^ 3), UInt8.ofNat (n / 256 ^ 4), UInt8.ofNat (n / 256 ^ 5), UInt8.ofNat (n / 256 ^ 6), UInt8.ofNat (n / 256 ^ 7)] := rfl
theorem num8_le8 {n : Nat} (h : n < 18446744073709551616) : num8 (le8 n) = n := by
  rw [le8_eq]
  simp only [num8, UInt8.toNat_ofNat', Nat.reducePow, Nat.div_one]
  omega
theorem le8_num8 {l : List UInt8} (h : l.length = 8) : le8 (num8 l) = l := by
  match l, h with
  | [a, b, c, d, e, f, g, k], _ =>
    have ha := UInt8.toNat_lt a
    have hb := UInt8.toNat_lt b
    have hc := UInt8.toNat_lt c
    have hd := UInt8.toNat_lt d
    have he := UInt8.toNat_lt e
    have hf := UInt8.toNat_lt f
    have hg := UInt8.toNat_lt g
    have hk := UInt8.toNat_lt k
    rw [le8_eq]
    simp only [num8, Nat.reducePow, Nat.div_one, List.cons.injEq, and_true]
    refine ⟨?_, ?_, ?_, ?_, ?_, ?_, ?_, ?_⟩ <;> (rw [← UInt8.toNat_inj, UInt8.toNat_ofNat']; omega)

/-- The next n bytes, and what stands behind their padding. -/
def takenL (n : Nat) (r : List UInt8) : Option (List UInt8 × List UInt8) :=
  if r.length < n + padN n then none else if (r.drop n).take (padN n) = List.replicate (padN n) 0 then some (r.take n, r.drop (n + padN n)) else none
/-- The next string, and what stands behind it. -/
def nextL (r : List UInt8) : Option (List UInt8 × List UInt8) :=
  if r.length < 8 then none else if (r.drop 8).length < num8 (r.take 8) then none else takenL (num8 (r.take 8)) (r.drop 8)

theorem next_strN {s r : List UInt8} (h : s.length < 18446744073709551616) : nextL (strN s ++ r) = some (s, r) := by
  have e8 := le8_length s.length
  have h1 : (strN s ++ r).take 8 = le8 s.length := by
    unfold strN; rw [List.append_assoc, List.take_append_of_le_length (by omega), List.take_of_length_le (by omega)]
  have h2 : (strN s ++ r).drop 8 = s ++ (List.replicate (padN s.length) 0 ++ r) := by
    unfold strN; rw [List.append_assoc, List.drop_append_of_le_length (by omega), List.drop_of_length_le (by omega), List.nil_append, List.append_assoc]
  unfold nextL takenL
  rw [h1, h2, num8_le8 h, if_neg (by rw [List.length_append, strN_length]; omega), if_neg (by simp), if_neg (by simp), List.drop_left]
  rw [List.take_append_of_le_length (by simp), List.take_of_length_le (by simp), if_pos rfl, List.take_left, ← List.drop_drop, List.drop_left]
  rw [List.drop_append_of_le_length (by simp), List.drop_of_length_le (by simp)]
  rfl

theorem next_some {r s r' : List UInt8} (h : nextL r = some (s, r')) : r = strN s ++ r' ∧ s.length < 18446744073709551616 := by
  unfold nextL takenL at h
  split at h
  · cases h
  · split at h
    · cases h
    · split at h
      · cases h
      · split at h
        · rename_i h8 hn hp hz
          simp only [Option.some.injEq, Prod.mk.injEq] at h
          obtain ⟨rfl, rfl⟩ := h
          have h8' : (r.take 8).length = 8 := by rw [List.length_take]; omega
          have hl : ((r.drop 8).take (num8 (r.take 8))).length = num8 (r.take 8) := by rw [List.length_take]; omega
          have hlt := num8_lt (r.take 8)
          rw [h8'] at hlt
          refine ⟨?_, by rw [hl]; simpa using hlt⟩
          unfold strN
          rw [hl, le8_num8 h8', ← hz, List.append_assoc, List.append_assoc, ← List.drop_drop, List.take_append_drop, List.take_append_drop, List.take_append_drop]
        · cases h

theorem next_len {r s r' : List UInt8} (h : nextL r = some (s, r')) : r'.length + 8 ≤ r.length := by
  have h1 := (next_some h).1
  have := congrArg List.length h1
  rw [List.length_append, strN_length] at this
  omega

/-- Strings that must be the next ones. -/
def skipL : List (List UInt8) → List UInt8 → Option (List UInt8)
  | [], r => some r
  | s :: l, r => match nextL r with
    | none => none
    | some (a, r') => if a = s then skipL l r' else none

theorem skip_cons {s : List UInt8} {l : List (List UInt8)} {r : List UInt8} (h : s.length < 18446744073709551616) : skipL (s :: l) (strN s ++ r) = skipL l r := by
  rw [skipL, next_strN h]; simp
theorem skip_some {s : List UInt8} {l : List (List UInt8)} {r q : List UInt8} (h : skipL (s :: l) r = some q) : ∃ r', r = strN s ++ r' ∧ skipL l r' = some q := by
  rw [skipL] at h
  split at h
  · cases h
  · rename_i a r' hn
    split at h
    · rename_i ha
      subst ha
      exact ⟨r', (next_some hn).1, h⟩
    · cases h

/-- A file from behind its type on; a link. -/
def fileB (x : Bool) (r : List UInt8) : Option (T × List UInt8) :=
  match nextL r with
  | none => none
  | some (d, r') => (skipL [sClose] r').map fun q => (.mk 1 x d [] [], q)
def fileL (r : List UInt8) : Option (T × List UInt8) :=
  match nextL r with
  | none => none
  | some (a, r1) => if a = sExec then
      match skipL [[]] r1 with
      | none => none
      | some r2 => match nextL r2 with
        | none => none
        | some (b, r3) => if b = sContents then fileB true r3 else none
    else if a = sContents then fileB false r1 else none
def linkL (r : List UInt8) : Option (T × List UInt8) :=
  match skipL [sTarget] r with
  | none => none
  | some r1 => match nextL r1 with
    | none => none
    | some (d, r2) => (skipL [sClose] r2).map fun q => (.mk 2 false d [] [], q)
/-- What is in a directory; f reads a tree. -/
def dirL (f : List UInt8 → Option (T × List UInt8)) : Nat → List ByteArray → List T → List UInt8 → Option (T × List UInt8)
  | 0, _, _, _ => none
  | m + 1, ns, ks, r => match nextL r with
    | none => none
    | some (a, r1) => if a = sEntry then
        match skipL [sOpen, sName] r1 with
        | none => none
        | some r2 => match nextL r2 with
          | none => none
          | some (nm, r3) => match skipL [sNode] r3 with
            | none => none
            | some r4 => match f r4 with
              | none => none
              | some (k, r5) => match skipL [sClose] r5 with
                | none => none
                | some r6 => dirL f m (ns ++ [⟨nm.toArray⟩]) (ks ++ [k]) r6
      else if a = sClose then some (.mk 3 false [] ns ks, r1) else none
/-- A tree of at most so many levels. -/
def treeL : Nat → List UInt8 → Option (T × List UInt8)
  | 0, _ => none
  | n + 1, r => match skipL [sOpen, sType] r with
    | none => none
    | some r1 => match nextL r1 with
      | none => none
      | some (a, r2) => if a = sRegular then fileL r2 else if a = sSymlink then linkL r2 else if a = sDirectory then dirL (treeL n) (r2.length + 1) [] [] r2 else none

def readL (r : List UInt8) : Option T :=
  match skipL [sMagic] r with
  | none => none
  | some r1 => match treeL 17 r1 with
    | none => none
    | some (t, r2) => if r2 = [] ∧ (sizeT t).isSome then some t else none

/-! What is read is what was written. -/

theorem skip1 {s r q : List UInt8} (h : skipL [s] r = some q) : r = strN s ++ q := by
  obtain ⟨r', h1, h2⟩ := skip_some h
  rw [skipL] at h2
  cases h2
  exact h1
theorem skip2 {s s' r q : List UInt8} (h : skipL [s, s'] r = some q) : r = strN s ++ (strN s' ++ q) := by
  obtain ⟨r', h1, h2⟩ := skip_some h
  rw [h1, skip1 h2]

theorem fileB_some {x : Bool} {r q : List UInt8} {t : T} (h : fileB x r = some (t, q)) : ∃ d, t = .mk 1 x d [] [] ∧ r = strN d ++ (strN sClose ++ q) := by
  unfold fileB at h
  split at h
  · cases h
  · rename_i d r' hn
    rw [Option.map_eq_some_iff] at h
    obtain ⟨q', hq, he⟩ := h
    cases he
    exact ⟨d, rfl, by rw [(next_some hn).1, skip1 hq]⟩
theorem fileL_some {r q : List UInt8} {t : T} (h : fileL r = some (t, q)) : strN sOpen ++ (strN sType ++ (strN sRegular ++ r)) = nodeT t ++ q := by
  unfold fileL at h
  split at h
  · cases h
  · rename_i a r1 hn
    split at h
    · rename_i ha
      subst ha
      split at h
      · cases h
      · rename_i r2 h2
        split at h
        · cases h
        · rename_i b r3 h3
          split at h
          · rename_i hb
            subst hb
            obtain ⟨d, rfl, h4⟩ := fileB_some h
            rw [nodeT_1, (next_some hn).1, skip1 h2, (next_some h3).1, h4]
            simp only [if_true, List.append_assoc]
          · cases h
    · split at h
      · rename_i ha
        subst ha
        obtain ⟨d, rfl, h4⟩ := fileB_some h
        rw [nodeT_1, (next_some hn).1, h4]
        simp only [Bool.false_eq_true, if_false, List.nil_append, List.append_assoc]
      · cases h
theorem linkL_some {r q : List UInt8} {t : T} (h : linkL r = some (t, q)) : strN sOpen ++ (strN sType ++ (strN sSymlink ++ r)) = nodeT t ++ q := by
  unfold linkL at h
  split at h
  · cases h
  · rename_i r1 h1
    split at h
    · cases h
    · rename_i d r2 h2
      rw [Option.map_eq_some_iff] at h
      obtain ⟨q', hq, he⟩ := h
      cases he
      rw [nodeT_2, skip1 h1, (next_some h2).1, skip1 hq]
      simp only [List.append_assoc]

theorem ents_snoc : ∀ (ks : List T) (ns : List ByteArray) (k : T) (nm : ByteArray), ns.length = ks.length →
    entsT (ks ++ [k]) (ns ++ [nm]) = entsT ks ns ++ (strN sEntry ++ (strN sOpen ++ (strN sName ++ (strN nm.data.toList ++ (strN sNode ++ (nodeT k ++ strN sClose))))))
  | [], ns, k, nm, h => by
    obtain rfl : ns = [] := List.eq_nil_of_length_eq_zero (by simpa using h)
    simp [entsT]
  | c :: ks, [], k, nm, h => by simp at h
  | c :: ks, m :: ns, k, nm, h => by
    rw [List.cons_append, List.cons_append, entsT, entsT, ents_snoc ks ns k nm (by simpa using h)]
    simp only [List.append_assoc]

theorem dirL_some (f : List UInt8 → Option (T × List UInt8)) (hf : ∀ r t q, f r = some (t, q) → r = nodeT t ++ q) : ∀ (m : Nat) (ns : List ByteArray) (ks : List T) (r q : List UInt8) (t : T), ns.length = ks.length → dirL f m ns ks r = some (t, q) →
    ∃ ns' ks', t = .mk 3 false [] ns' ks' ∧ entsT ks ns ++ r = entsT ks' ns' ++ (strN sClose ++ q)
  | 0, _, _, _, _, _, _, h => by cases h
  | m + 1, ns, ks, r, q, t, hl, h => by
    rw [dirL] at h
    split at h
    · cases h
    · rename_i a r1 hn
      split at h
      · rename_i ha
        subst ha
        split at h
        · cases h
        · rename_i r2 h2
          split at h
          · cases h
          · rename_i nm r3 h3
            split at h
            · cases h
            · rename_i r4 h4
              split at h
              · cases h
              · rename_i k r5 h5
                split at h
                · cases h
                · rename_i r6 h6
                  obtain ⟨ns', ks', h7, h8⟩ := dirL_some f hf m _ _ r6 q t (by simp [hl]) h
                  refine ⟨ns', ks', h7, ?_⟩
                  rw [← h8, ents_snoc ks ns k _ hl, (next_some hn).1, skip2 h2, (next_some h3).1, skip1 h4, hf _ _ _ h5, skip1 h6]
                  simp only [List.append_assoc]
      · split at h
        · rename_i ha
          subst ha
          cases h
          exact ⟨ns, ks, rfl, by rw [(next_some hn).1]⟩
        · cases h

theorem treeL_some : ∀ (n : Nat) (r : List UInt8) (t : T) (q : List UInt8), treeL n r = some (t, q) → r = nodeT t ++ q
  | 0, _, _, _, h => by cases h
  | n + 1, r, t, q, h => by
    rw [treeL] at h
    split at h
    · cases h
    · rename_i r1 h1
      split at h
      · cases h
      · rename_i a r2 h2
        split at h
        · rename_i ha
          subst ha
          rw [skip2 h1, (next_some h2).1, fileL_some h]
        · split at h
          · rename_i ha
            subst ha
            rw [skip2 h1, (next_some h2).1, linkL_some h]
          · split at h
            · rename_i ha
              subst ha
              obtain ⟨ns', ks', rfl, h3⟩ := dirL_some (treeL n) (treeL_some n) _ [] [] r2 q t rfl h
              rw [show entsT [] [] = [] from by simp [entsT], List.nil_append] at h3
              rw [skip2 h1, (next_some h2).1, h3, nodeT_3]
              simp only [List.append_assoc]
            · cases h

theorem readL_some {r : List UInt8} {t : T} (h : readL r = some t) : r = archT t ∧ (sizeT t).isSome = true := by
  unfold readL at h
  split at h
  · cases h
  · rename_i r1 h1
    split at h
    · cases h
    · rename_i t' r2 h2
      split at h
      · rename_i hc
        cases h
        refine ⟨?_, hc.2⟩
        rw [skip1 h1, treeL_some _ _ _ _ h2, hc.1, List.append_nil, archT]
      · cases h

/-! What was written is read. -/

/-- Every kid of a tree that can be taken at a depth can be taken one deeper. -/
theorem take_depth : ∀ (n : Nat) (t : T) (D c b : Nat) (r : Nat × Nat), sizeN t ≤ n → takeT t D c b = some r → D ≤ 16 := by
  intro n t D c b r _ h
  obtain ⟨k, x, d, ns, ks⟩ := t
  rw [takeT_mk] at h
  split at h
  · rename_i hc; exact hc.1
  · cases h

/-- A tree that can be taken at a depth. -/
def GoodAt (D : Nat) (t : T) : Prop := ∃ c b r, takeT t D c b = some r
theorem GoodAt.good {D : Nat} {t : T} (h : GoodAt D t) : Good t := by obtain ⟨c, b, r, h⟩ := h; exact ⟨D, c, b, r, h⟩
theorem GoodAt.depth {D : Nat} {t : T} (h : GoodAt D t) : D ≤ 16 := by obtain ⟨c, b, r, h⟩ := h; exact take_depth _ _ _ _ _ _ (Nat.le_refl _) h
theorem takeL_kid : ∀ (ks : List T) (D c b : Nat) (r : Nat × Nat), takeL ks D c b = some r → ∀ i, i < ks.length → GoodAt D (ks.getD i default)
  | [], _, _, _, _, _, i, hi => by simp at hi
  | k :: ks, D, c, b, r, h, i, hi => by
    rw [takeL] at h
    split at h
    · cases h
    · rename_i c' b' hk
      cases i with
      | zero => exact ⟨c, b, _, by simpa using hk⟩
      | succ i => simpa using takeL_kid ks D c' b' r h i (by simpa using hi)
theorem GoodAt.kid {D : Nat} {k : UInt8} {x : Bool} {d : List UInt8} {ns : List ByteArray} {ks : List T} (h : GoodAt D (.mk k x d ns ks)) (i : Nat) (hi : i < ks.length) : GoodAt (D + 1) (ks.getD i default) := by
  obtain ⟨c, b, r, h⟩ := h
  rw [takeT_mk] at h
  split at h
  · exact takeL_kid _ _ _ _ _ h i hi
  · cases h

theorem skip1_of (s q : List UInt8) (h : s.length < 18446744073709551616) : skipL [s] (strN s ++ q) = some q := by rw [skip_cons h, skipL]
theorem skip2_of (s s' q : List UInt8) (h : s.length < 18446744073709551616) (h' : s'.length < 18446744073709551616) : skipL [s, s'] (strN s ++ (strN s' ++ q)) = some q := by rw [skip_cons h, skip_cons h', skipL]

theorem dirL_of (f : List UInt8 → Option (T × List UInt8)) : ∀ (ks : List T) (ns : List ByteArray) (m : Nat) (ns0 : List ByteArray) (ks0 : List T) (q : List UInt8), ns.length = ks.length → ks.length < m →
    (∀ i, i < ns.length → (ns.getD i ⟨#[]⟩).size ≤ 80) → (∀ i, i < ks.length → ∀ r, f (nodeT (ks.getD i default) ++ r) = some (ks.getD i default, r)) → dirL f m ns0 ks0 (entsT ks ns ++ (strN sClose ++ q)) = some (.mk 3 false [] (ns0 ++ ns) (ks0 ++ ks), q)
  | [], ns, m + 1, ns0, ks0, q, hl, hm, _, _ => by
    obtain rfl : ns = [] := List.eq_nil_of_length_eq_zero (by simpa using hl)
    rw [show entsT [] [] = [] from by simp [entsT], List.nil_append, dirL, next_strN (by decide)]
    simp [show sClose ≠ sEntry from by decide]
  | k :: ks, [], m + 1, _, _, _, hl, _, _, _ => by simp at hl
  | k :: ks, nm :: ns, m + 1, ns0, ks0, q, hl, hm, h8, hf => by
    have b1 : nm.size ≤ 80 := by have := h8 0 (by simp); simpa using this
    have e1 : nm.data.toList.length = nm.size := by rw [Array.length_toList]; rfl
    have hk := hf 0 (by simp)
    simp only [List.getD_cons_zero] at hk
    rw [entsT]
    simp only [List.append_assoc]
    rw [dirL, next_strN (by decide)]
    simp only [if_true]
    rw [skip2_of _ _ _ (by decide) (by decide)]
    simp only []
    rw [next_strN (by omega)]
    simp only []
    rw [skip1_of _ _ (by decide)]
    simp only []
    rw [hk]
    simp only []
    rw [skip1_of _ _ (by decide)]
    simp only []
    rw [dirL_of f ks ns m _ _ q (by simpa using hl) (by simp at hm; omega) (fun i hi => by have := h8 (i + 1) (by simpa using hi); simpa using this) (fun i hi r => by have := hf (i + 1) (by simpa using hi) r; simpa using this)]
    simp only [List.append_assoc, List.singleton_append]
  | _, _, 0, _, _, _, _, hm, _, _ => by simp at hm

theorem ents_count : ∀ (ks : List T) (ns : List ByteArray), ns.length = ks.length → ks.length ≤ (entsT ks ns).length
  | [], _, _ => by simp
  | k :: ks, [], h => by simp at h
  | k :: ks, nm :: ns, h => by
    have := ents_count ks ns (by simpa using h)
    have e := strN_length sEntry
    rw [entsT]
    simp only [List.length_append, List.length_cons]
    omega

theorem treeL_of : ∀ (n : Nat) (t : T) (q : List UInt8), GoodAt (17 - n) t → n ≤ 17 → treeL n (nodeT t ++ q) = some (t, q)
  | 0, t, q, hg, _ => by have := hg.depth; omega
  | n + 1, .mk k x d ns ks, q, hg, hn => by
    have hd := hg.good.data
    rcases formed_cases hg.good.formed with ⟨rfl, rfl, rfl⟩ | ⟨rfl, rfl, rfl, rfl⟩ | ⟨rfl, rfl, rfl, hl⟩
    · rw [nodeT_1]
      simp only [List.append_assoc]
      rw [treeL, skip2_of _ _ _ (by decide) (by decide)]
      simp only []
      rw [next_strN (by decide)]
      simp only [if_true]
      unfold fileL
      cases x
      · simp only [Bool.false_eq_true, if_false, List.nil_append]
        rw [next_strN (by decide)]
        simp only [show sContents ≠ sExec from by decide, if_false, if_true]
        unfold fileB
        rw [next_strN (by omega)]
        simp only []
        rw [skip1_of _ _ (by decide)]; rfl
      · simp only [if_true, List.append_assoc]
        rw [next_strN (by decide)]
        simp only [if_true]
        rw [skip1_of _ _ (by decide)]
        simp only []
        rw [next_strN (by decide)]
        simp only [if_true]
        unfold fileB
        rw [next_strN (by omega)]
        simp only []
        rw [skip1_of _ _ (by decide)]; rfl
    · rw [nodeT_2]
      simp only [List.append_assoc]
      rw [treeL, skip2_of _ _ _ (by decide) (by decide)]
      simp only []
      rw [next_strN (by decide)]
      simp only [show sSymlink ≠ sRegular from by decide, if_false, if_true]
      unfold linkL
      rw [skip1_of _ _ (by decide)]
      simp only []
      rw [next_strN (by omega)]
      simp only []
      rw [skip1_of _ _ (by decide)]; rfl
    · rw [nodeT_3]
      simp only [List.append_assoc]
      rw [treeL, skip2_of _ _ _ (by decide) (by decide)]
      simp only []
      rw [next_strN (by decide)]
      simp only [show sDirectory ≠ sRegular from by decide, show sDirectory ≠ sSymlink from by decide, if_false, if_true]
      have h16 := hg.depth
      rw [dirL_of (treeL n) ks ns _ [] [] q hl (by have := ents_count ks ns hl; rw [List.length_append]; omega) hg.good.short (fun i hi r => treeL_of n _ r (by have := hg.kid i hi; rwa [show 17 - (n + 1) + 1 = 17 - n by omega] at this) (by omega))]
      rfl

theorem readL_of {t : T} {p : Nat × Nat} (h : sizeT t = some p) : readL (archT t) = some t := by
  unfold readL archT
  rw [skip1_of _ _ (by decide)]
  have := treeL_of 17 t [] ⟨0, 0, p, h⟩ (Nat.le_refl _)
  rw [List.append_nil] at this
  simp only []
  rw [this]
  simp [h]

end Go.Proofs.Ythjihibocobndaa

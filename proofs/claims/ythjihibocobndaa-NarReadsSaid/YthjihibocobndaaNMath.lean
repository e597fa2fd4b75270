/-
  Archives as lists of bytes: one tree has one archive, and each archive is one tree's. No program text.
-/
import Derived.Test.YthjihibocobndaaTGood
namespace Go.Proofs.Ythjihibocobndaa
open Go.RowKit
set_option linter.unusedVariables false

/-- A number in eight bytes, the least one first. -/
def le8 (n : Nat) : List UInt8 := (List.range 8).map fun i => UInt8.ofNat (n / 256 ^ i)
def padN (n : Nat) : Nat := (8 - n % 8) % 8
/-- A string of an archive. -/
def strN (s : List UInt8) : List UInt8 := le8 s.length ++ (s ++ List.replicate (padN s.length) 0)

theorem le8_length (n : Nat) : (le8 n).length = 8 := by simp [le8]
theorem le8_inj {n m : Nat} (hn : n < 18446744073709551616) (hm : m < 18446744073709551616) (h : le8 n = le8 m) : n = m := by
  have g : ∀ i, i < 8 → n / 256 ^ i % 256 = m / 256 ^ i % 256 := fun i hi => by
    have := congrArg (fun l : List UInt8 => l[i]?) h
    simp only [le8, List.getElem?_map, List.getElem?_range hi, Option.map_some, Option.some.injEq] at this
    have := congrArg UInt8.toNat this
    rwa [UInt8.toNat_ofNat', UInt8.toNat_ofNat'] at this
  have g0 := g 0 (by omega)
  have g1 := g 1 (by omega)
  have g2 := g 2 (by omega)
  have g3 := g 3 (by omega)
  have g4 := g 4 (by omega)
  have g5 := g 5 (by omega)
  have g6 := g 6 (by omega)
  have g7 := g 7 (by omega)
  simp only [Nat.reducePow, Nat.div_one] at g0 g1 g2 g3 g4 g5 g6 g7
  omega

theorem strN_length (s : List UInt8) : (strN s).length = 8 + s.length + padN s.length := by simp [strN, le8_length]; omega
theorem strN_eight (s : List UInt8) : (strN s).length % 8 = 0 := by
  rw [strN_length]; unfold padN; omega

theorem strN_inj {s s' r r' : List UInt8} (hs : s.length < 18446744073709551616) (hs' : s'.length < 18446744073709551616) (h : strN s ++ r = strN s' ++ r') : s = s' ∧ r = r' := by
  unfold strN at h
  simp only [List.append_assoc] at h
  obtain ⟨h1, h2⟩ := List.append_inj h (by rw [le8_length, le8_length])
  have hl := le8_inj hs hs' h1
  obtain ⟨h3, h4⟩ := List.append_inj h2 hl
  refine ⟨h3, ?_⟩
  rw [hl] at h4
  exact List.append_cancel_left h4

def sOpen : List UInt8 := [40]
def sClose : List UInt8 := [41]
def sType : List UInt8 := [116, 121, 112, 101]
def sRegular : List UInt8 := [114, 101, 103, 117, 108, 97, 114]
def sExec : List UInt8 := [101, 120, 101, 99, 117, 116, 97, 98, 108, 101]
def sContents : List UInt8 := [99, 111, 110, 116, 101, 110, 116, 115]
def sSymlink : List UInt8 := [115, 121, 109, 108, 105, 110, 107]
def sTarget : List UInt8 := [116, 97, 114, 103, 101, 116]
def sDirectory : List UInt8 := [100, 105, 114, 101, 99, 116, 111, 114, 121]
def sEntry : List UInt8 := [101, 110, 116, 114, 121]
def sName : List UInt8 := [110, 97, 109, 101]
def sNode : List UInt8 := [110, 111, 100, 101]
def sMagic : List UInt8 := [110, 105, 120, 45, 97, 114, 99, 104, 105, 118, 101, 45, 49]

mutual
/-- A tree's archive, but for its beginning. -/
def nodeT : T → List UInt8
  | .mk k x d ns ks => strN sOpen ++ (strN sType ++ ((if k = 1 then strN sRegular ++ ((if x then strN sExec ++ strN [] else []) ++ (strN sContents ++ strN d)) else if k = 2 then strN sSymlink ++ (strN sTarget ++ strN d) else if k = 3 then strN sDirectory ++ entsT ks ns else []) ++ strN sClose))
def entsT : List T → List ByteArray → List UInt8
  | k :: r, nm :: s => strN sEntry ++ (strN sOpen ++ (strN sName ++ (strN nm.data.toList ++ (strN sNode ++ (nodeT k ++ strN sClose))))) ++ entsT r s
  | _, _ => []
end

def archT (t : T) : List UInt8 := strN sMagic ++ nodeT t

theorem nodeT_1 (x : Bool) (d : List UInt8) (ns : List ByteArray) (ks : List T) : nodeT (.mk 1 x d ns ks) = strN sOpen ++ (strN sType ++ (strN sRegular ++ ((if x then strN sExec ++ strN [] else []) ++ (strN sContents ++ strN d)) ++ strN sClose)) := by
  rw [nodeT, if_pos rfl]
theorem nodeT_2 (x : Bool) (d : List UInt8) (ns : List ByteArray) (ks : List T) : nodeT (.mk 2 x d ns ks) = strN sOpen ++ (strN sType ++ (strN sSymlink ++ (strN sTarget ++ strN d) ++ strN sClose)) := by
  rw [nodeT, if_neg (by decide), if_pos rfl]
theorem nodeT_3 (x : Bool) (d : List UInt8) (ns : List ByteArray) (ks : List T) : nodeT (.mk 3 x d ns ks) = strN sOpen ++ (strN sType ++ (strN sDirectory ++ entsT ks ns ++ strN sClose)) := by
  rw [nodeT, if_neg (by decide), if_neg (by decide), if_pos rfl]

mutual
theorem nodeT_eight : ∀ t : T, (nodeT t).length % 8 = 0
  | .mk k x d ns ks => by
    have h0 := strN_eight sOpen
    have h1 := strN_eight sType
    have h2 := strN_eight sClose
    have h3 := strN_eight sRegular
    have h4 := strN_eight sExec
    have h5 := strN_eight []
    have h6 := strN_eight sContents
    have h7 := strN_eight d
    have h8 := strN_eight sSymlink
    have h9 := strN_eight sTarget
    have ha := strN_eight sDirectory
    have hb := entsT_eight ks ns
    rw [nodeT]
    simp only [List.length_append]
    by_cases k1 : k = 1
    · rw [if_pos k1]
      cases x
      · simp only [List.length_append, Bool.false_eq_true, if_false, List.length_nil]; omega
      · simp only [List.length_append, if_true]; omega
    · rw [if_neg k1]
      by_cases k2 : k = 2
      · rw [if_pos k2]; simp only [List.length_append]; omega
      · rw [if_neg k2]
        by_cases k3 : k = 3
        · rw [if_pos k3]; simp only [List.length_append]; omega
        · rw [if_neg k3]; simp only [List.length_nil]; omega
theorem entsT_eight : ∀ (ks : List T) (ns : List ByteArray), (entsT ks ns).length % 8 = 0
  | [], ns => by simp [entsT]
  | k :: r, [] => by simp [entsT]
  | k :: r, nm :: s => by
    have h0 := strN_eight sEntry
    have h1 := strN_eight sOpen
    have h2 := strN_eight sName
    have h3 := strN_eight nm.data.toList
    have h4 := strN_eight sNode
    have h5 := nodeT_eight k
    have h6 := strN_eight sClose
    have h7 := entsT_eight r s
    rw [entsT]
    simp only [List.length_append]
    omega
end

theorem archT_eight (t : T) : (archT t).length % 8 = 0 := by
  have h1 := strN_eight sMagic
  have h2 := nodeT_eight t
  unfold archT
  rw [List.length_append]; omega

/-- The forms that a tree can have. -/
theorem formed_cases {k : UInt8} {x : Bool} {d : List UInt8} {ns : List ByteArray} {ks : List T} (h : formedT (.mk k x d ns ks) = true) :
    (k = 1 ∧ ns = [] ∧ ks = []) ∨ (k = 2 ∧ x = false ∧ ns = [] ∧ ks = []) ∨ (k = 3 ∧ x = false ∧ d = [] ∧ ns.length = ks.length) := by
  by_cases h3 : k = 3
  · subst h3
    rw [formedT_dir] at h
    simp only [Bool.and_eq_true, Bool.not_eq_true', decide_eq_true_eq, List.isEmpty_iff] at h
    exact .inr (.inr ⟨rfl, h.1.1.1, h.1.1.2, h.1.2⟩)
  · rw [formedT_other h3] at h
    simp only [Bool.and_eq_true, Bool.or_eq_true, List.isEmpty_iff, beq_iff_eq, Bool.not_eq_true'] at h
    obtain ⟨⟨h1, h2⟩, h4⟩ := h
    rcases h4 with h4 | h4
    · exact .inl ⟨h4, h1, h2⟩
    · exact .inr (.inl ⟨h4.1.1, h4.1.2, h1, h2⟩)

theorem Good.data {k : UInt8} {x : Bool} {d : List UInt8} {ns : List ByteArray} {ks : List T} (h : Good (.mk k x d ns ks)) : d.length ≤ 65536 := by
  obtain ⟨D, c, b, r, h⟩ := h
  rw [takeT_mk] at h
  split at h
  · rename_i hc; omega
  · cases h

theorem Good.formed {k : UInt8} {x : Bool} {d : List UInt8} {ns : List ByteArray} {ks : List T} (h : Good (.mk k x d ns ks)) : formedT (.mk k x d ns ks) = true := by
  obtain ⟨D, c, b, r, h⟩ := h
  exact (takeT_facts h).2.2.1

theorem Good.short {k : UInt8} {x : Bool} {d : List UInt8} {ns : List ByteArray} {ks : List T} (h : Good (.mk k x d ns ks)) : ∀ i, i < ns.length → (ns.getD i ⟨#[]⟩).size ≤ 80 := by
  obtain ⟨D, c, b, r, h⟩ := h
  exact (formed_lens (takeT_facts h).2.2.1).2

/-- Entries that are alike, up to what stands behind them. -/
theorem entsT_inj (N : Nat) (ih : ∀ (t t' : T) (r r' : List UInt8), sizeN t ≤ N → Good t → Good t' → nodeT t ++ r = nodeT t' ++ r' → t = t' ∧ r = r') :
    ∀ (ks : List T) (ns : List ByteArray) (ks' : List T) (ns' : List ByteArray) (r r' : List UInt8), sizeNL ks ≤ N → ns.length = ks.length → ns'.length = ks'.length → (∀ i, i < ks.length → Good (ks.getD i default)) → (∀ i, i < ks'.length → Good (ks'.getD i default)) →
      (∀ i, i < ns.length → (ns.getD i ⟨#[]⟩).size ≤ 80) → (∀ i, i < ns'.length → (ns'.getD i ⟨#[]⟩).size ≤ 80) → entsT ks ns ++ (strN sClose ++ r) = entsT ks' ns' ++ (strN sClose ++ r') → ks = ks' ∧ ns = ns' ∧ r = r'
  | [], ns, [], ns', r, r', _, hn, hn', _, _, _, _, h => by
    have e1 : ns = [] := List.eq_nil_of_length_eq_zero (by simpa using hn)
    have e2 : ns' = [] := List.eq_nil_of_length_eq_zero (by simpa using hn')
    subst e1 e2
    simp only [entsT, List.nil_append] at h
    exact ⟨rfl, rfl, List.append_cancel_left h⟩
  | [], ns, k' :: l', [], r, r', _, _, hn', _, _, _, _, h => by simp at hn'
  | [], ns, k' :: l', nm' :: s', r, r', _, _, _, _, _, _, _, h => by
    simp only [entsT, List.nil_append, List.append_assoc] at h
    have := (strN_inj (by decide) (by decide) h).1
    exact absurd this (by decide)
  | k :: l, [], _, _, r, r', _, hn, _, _, _, _, _, h => by simp at hn
  | k :: l, nm :: s, [], ns', r, r', _, _, _, _, _, _, _, h => by
    simp only [entsT, List.nil_append, List.append_assoc] at h
    have := (strN_inj (by decide) (by decide) h).1
    exact absurd this (by decide)
  | k :: l, nm :: s, k' :: l', [], r, r', _, _, hn', _, _, _, _, h => by simp at hn'
  | k :: l, nm :: s, k' :: l', nm' :: s', r, r', hN, hn, hn', hg, hg', h8, h8', h => by
    rw [sizeNL_cons] at hN
    simp only [entsT, List.append_assoc] at h
    have b1 : nm.size ≤ 80 := by have := h8 0 (by simp); simpa using this
    have b2 : nm'.size ≤ 80 := by have := h8' 0 (by simp); simpa using this
    have h1 := (strN_inj (by decide) (by decide) h).2
    have h2 := (strN_inj (by decide) (by decide) h1).2
    have h3 := (strN_inj (by decide) (by decide) h2).2
    obtain ⟨e4, h4⟩ := strN_inj (by simp; omega) (by simp; omega) h3
    have h5 := (strN_inj (by decide) (by decide) h4).2
    obtain ⟨e6, h6⟩ := ih k k' _ _ (by omega) (by have := hg 0 (by simp); simpa using this) (by have := hg' 0 (by simp); simpa using this) h5
    have h7 := (strN_inj (by decide) (by decide) h6).2
    obtain ⟨e8, e9, e10⟩ := entsT_inj N ih l s l' s' r r' (by omega) (by simpa using hn) (by simpa using hn') (fun i hi => by have := hg (i + 1) (by simpa using hi); simpa using this) (fun i hi => by have := hg' (i + 1) (by simpa using hi); simpa using this)
      (fun i hi => by have := h8 (i + 1) (by simpa using hi); simpa using this) (fun i hi => by have := h8' (i + 1) (by simpa using hi); simpa using this) h7
    exact ⟨by rw [e6, e8], by rw [bytes_ext e4, e9], e10⟩

theorem nodeT_inj (N : Nat) : ∀ (t t' : T) (r r' : List UInt8), sizeN t ≤ N → Good t → Good t' → nodeT t ++ r = nodeT t' ++ r' → t = t' ∧ r = r' := by
  induction N with
  | zero => intro t t' r r' h; have := sizeN_pos t; omega
  | succ N ih =>
    intro t t' r r' hN hg hg' h
    obtain ⟨k, x, d, ns, ks⟩ := t
    obtain ⟨k', x', d', ns', ks'⟩ := t'
    rw [sizeN_mk] at hN
    have hd := hg.data
    have hd' := hg'.data
    rcases formed_cases hg.formed with ⟨rfl, rfl, rfl⟩ | ⟨rfl, rfl, rfl, rfl⟩ | ⟨rfl, rfl, rfl, hl⟩ <;> rcases formed_cases hg'.formed with ⟨rfl, rfl, rfl⟩ | ⟨rfl, rfl, rfl, rfl⟩ | ⟨rfl, rfl, rfl, hl'⟩
    · rw [nodeT_1, nodeT_1] at h
      simp only [List.append_assoc] at h
      have h1 := (strN_inj (by decide) (by decide) h).2
      have h2 := (strN_inj (by decide) (by decide) h1).2
      have h3 := (strN_inj (by decide) (by decide) h2).2
      cases x <;> cases x'
      · simp only [Bool.false_eq_true, if_false, List.nil_append] at h3
        have h4 := (strN_inj (by decide) (by decide) h3).2
        obtain ⟨e5, h5⟩ := strN_inj (by omega) (by omega) h4
        exact ⟨by rw [e5], List.append_cancel_left h5⟩
      · simp only [Bool.false_eq_true, if_false, if_true, List.nil_append, List.append_assoc] at h3
        have := (strN_inj (by decide) (by decide) h3).1
        exact absurd this (by decide)
      · simp only [Bool.false_eq_true, if_false, if_true, List.nil_append, List.append_assoc] at h3
        have := (strN_inj (by decide) (by decide) h3).1
        exact absurd this (by decide)
      · simp only [if_true, List.append_assoc] at h3
        have h4 := (strN_inj (by decide) (by decide) h3).2
        have h5 := (strN_inj (by decide) (by decide) h4).2
        have h6 := (strN_inj (by decide) (by decide) h5).2
        obtain ⟨e7, h7⟩ := strN_inj (by omega) (by omega) h6
        exact ⟨by rw [e7], List.append_cancel_left h7⟩
    · exfalso
      rw [nodeT_1, nodeT_2] at h
      simp only [List.append_assoc] at h
      have h1 := (strN_inj (by decide) (by decide) h).2
      have h2 := (strN_inj (by decide) (by decide) h1).2
      exact absurd (strN_inj (by decide) (by decide) h2).1 (by decide)
    · exfalso
      rw [nodeT_1, nodeT_3] at h
      simp only [List.append_assoc] at h
      have h1 := (strN_inj (by decide) (by decide) h).2
      have h2 := (strN_inj (by decide) (by decide) h1).2
      exact absurd (strN_inj (by decide) (by decide) h2).1 (by decide)
    · exfalso
      rw [nodeT_2, nodeT_1] at h
      simp only [List.append_assoc] at h
      have h1 := (strN_inj (by decide) (by decide) h).2
      have h2 := (strN_inj (by decide) (by decide) h1).2
      exact absurd (strN_inj (by decide) (by decide) h2).1 (by decide)
    · rw [nodeT_2, nodeT_2] at h
      simp only [List.append_assoc] at h
      have h1 := (strN_inj (by decide) (by decide) h).2
      have h2 := (strN_inj (by decide) (by decide) h1).2
      have h3 := (strN_inj (by decide) (by decide) h2).2
      have h4 := (strN_inj (by decide) (by decide) h3).2
      obtain ⟨e5, h5⟩ := strN_inj (by omega) (by omega) h4
      exact ⟨by rw [e5], List.append_cancel_left h5⟩
    · exfalso
      rw [nodeT_2, nodeT_3] at h
      simp only [List.append_assoc] at h
      have h1 := (strN_inj (by decide) (by decide) h).2
      have h2 := (strN_inj (by decide) (by decide) h1).2
      exact absurd (strN_inj (by decide) (by decide) h2).1 (by decide)
    · exfalso
      rw [nodeT_3, nodeT_1] at h
      simp only [List.append_assoc] at h
      have h1 := (strN_inj (by decide) (by decide) h).2
      have h2 := (strN_inj (by decide) (by decide) h1).2
      exact absurd (strN_inj (by decide) (by decide) h2).1 (by decide)
    · exfalso
      rw [nodeT_3, nodeT_2] at h
      simp only [List.append_assoc] at h
      have h1 := (strN_inj (by decide) (by decide) h).2
      have h2 := (strN_inj (by decide) (by decide) h1).2
      exact absurd (strN_inj (by decide) (by decide) h2).1 (by decide)
    · rw [nodeT_3, nodeT_3] at h
      simp only [List.append_assoc] at h
      have h1 := (strN_inj (by decide) (by decide) h).2
      have h2 := (strN_inj (by decide) (by decide) h1).2
      have h3 := (strN_inj (by decide) (by decide) h2).2
      obtain ⟨e1, e2, e3⟩ := entsT_inj N ih ks ns ks' ns' r r' (by omega) hl hl' (fun i hi => hg.kid i hi) (fun i hi => hg'.kid i hi) hg.short hg'.short h3
      exact ⟨by rw [e1, e2], e3⟩

theorem archT_inj {t t' : T} (hg : Good t) (hg' : Good t') : archT t = archT t' ↔ t = t' := by
  constructor
  · intro h
    have h1 : strN sMagic ++ nodeT t = strN sMagic ++ nodeT t' := h
    have h2 : nodeT t ++ [] = nodeT t' ++ [] := by rw [List.append_nil, List.append_nil]; exact List.append_cancel_left h1
    exact (nodeT_inj (sizeN t) t t' [] [] (Nat.le_refl _) hg hg' h2).1
  · intro h; rw [h]

end Go.Proofs.Ythjihibocobndaa

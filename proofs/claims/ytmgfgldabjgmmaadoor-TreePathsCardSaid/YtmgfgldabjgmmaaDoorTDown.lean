/-
  The walk of the law TreeDown: it returns true. Conditions: a global's kind; names, lists and texts are no longer than memory.
-/
import Derived.Test.YtmgfgldabjgmmaaDoorTAtOk
import Derived.Test.YtmgfgldabjgmmaaDoorTRSame
import Derived.Test.YtmgfgldabjgmmaaDoorTRForm
namespace Go.Proofs.YtmgfgldabjgmmaaDoor
open Go.RowKit
set_option linter.unusedVariables false

theorem pieces_cat : ∀ a b : List UInt8, pieces (a ++ 47 :: b) = pieces a ++ pieces b
  | [], b => by
    have e : pieces (47 :: b) = [] :: pieces b := by conv => lhs; rw [pieces, if_pos rfl]
    rw [List.nil_append, e]
    rfl
  | c :: t, b => by
    rw [List.cons_append, pieces, pieces]
    by_cases hc : c = 47
    · rw [if_pos hc, if_pos hc, pieces_cat t b]; rfl
    · rw [if_neg hc, if_neg hc, pieces_cat t b]
      cases h : pieces t with
      | nil => exact absurd h (pieces_ne t)
      | cons x y => rfl

theorem findT_append : ∀ (p q : List ByteArray) (t : T), findT (p ++ q) t = match findT p t with | .inl c => .inl c | .inr y => findT q y
  | [], q, t => by simp [findT]
  | nm :: p, q, .mk k x d ns ks => by
    rw [List.cons_append, findT, findT]
    by_cases h1 : k ≠ 3
    · rw [if_pos h1, if_pos h1]
    · rw [if_neg h1, if_neg h1]
      by_cases h2 : Lib.idxOfS ns nm < 0 ∨ (ks.length : Int) ≤ Lib.idxOfS ns nm
      · rw [if_pos h2, if_pos h2]
      · rw [if_neg h2, if_neg h2]
        exact findT_append p q _

theorem splitT_ne {s : List UInt8} (h : s ≠ []) (hl : s.length ≤ 400) : splitT s = if (pieces s).all tName = true then (pieces s, 0) else ([], 4) := by
  unfold splitT
  rw [if_neg (by omega), if_neg h]

def zeroT : T := .mk 0 false [] [] []
theorem isT_zero (w : World) : IsT w 1 zT zeroT := ⟨none, 0, 0, none, 0, 0, none, 0, 0, rfl, isB_none w, isS_none w, isK_none _ w⟩
theorem small_zero : Small zeroT := .mk (fun i hi => by simp at hi) (fun i hi => by simp at hi) (by simp)

def codeR : Int ⊕ T → Int
  | .inl c => c
  | .inr _ => 0
def resT : Int ⊕ T → T
  | .inl _ => zeroT
  | .inr x => x

/-- Behind a path that goes down: what stands at the rest of what stands at its beginning. -/
theorem atT_cat {a b : List UInt8} (t : T) (ha : a ≠ []) (hb : b ≠ []) (hl : a.length + b.length ≤ 300) :
    (codeR (atT a t) ≠ 0 ∧ codeR (atT (a ++ 47 :: b) t) ≠ 0) ∨ ∃ y, atT a t = .inr y ∧ atT (a ++ 47 :: b) t = atT b y := by
  have hab : a ++ 47 :: b ≠ [] := by simp
  have s1 := splitT_ne ha (by omega)
  have s2 := splitT_ne hb (by omega)
  have s3 := splitT_ne hab (by simp; omega)
  rw [pieces_cat, List.all_append] at s3
  by_cases h1 : (pieces a).all tName = true
  · rw [if_pos h1] at s1
    rw [h1, Bool.true_and] at s3
    have e1 : atT a t = findT ((pieces a).map mkB) t := by unfold atT; rw [s1]; simp
    cases hf : findT ((pieces a).map mkB) t with
    | inl c =>
      have hc := findT_code _ _ _ hf
      refine .inl ⟨by rw [e1, hf]; simp [codeR]; omega, ?_⟩
      by_cases h2 : (pieces b).all tName = true
      · rw [if_pos h2] at s3
        have : atT (a ++ 47 :: b) t = .inl c := by
          unfold atT; rw [s3]
          simp [findT_append, hf]
        rw [this]; simp [codeR]; omega
      · rw [if_neg h2] at s3
        have : atT (a ++ 47 :: b) t = .inl 4 := by unfold atT; rw [s3]; simp
        rw [this]; simp [codeR]
    | inr y =>
      refine .inr ⟨y, by rw [e1, hf], ?_⟩
      by_cases h2 : (pieces b).all tName = true
      · rw [if_pos h2] at s2 s3
        unfold atT; rw [s2, s3]
        simp [findT_append, hf]
      · rw [if_neg h2] at s2 s3
        unfold atT; rw [s2, s3]
        simp
  · rw [if_neg h1] at s1
    have h1' : (pieces a).all tName = false := by simpa using h1
    rw [h1', Bool.false_and, if_neg (by simp)] at s3
    refine .inl ⟨?_, ?_⟩
    · have : atT a t = .inl 4 := by unfold atT; rw [s1]; simp
      rw [this]; simp [codeR]
    · have : atT (a ++ 47 :: b) t = .inl 4 := by unfold atT; rw [s3]; simp
      rw [this]; simp [codeR]

/-- What At tells, in one form. -/
def AtU (r : Int ⊕ T) (w : World) (e : Ending) (w' : World) : Prop := ∃ n cs, e = .returned (.tuple #[.agg cs.toArray, .int .i64 (codeR r)]) ∧ IsT w' n cs (resT r) ∧ Below w.heap.size w w'

theorem at_uni (n : Nat) (cs : List Value) (t : T) (s : ByteArray) (w : World) (ht : IsT w n cs t) (hsm : Small t) (hN : sizeN t ≤ 1000000) (hm : MaxW w) (hmx : 0 < w.heap.size) :
    Calls Tryd.prog 20 #[.agg cs.toArray, .string s] w (AtU (atT s.data.toList t) w) := by
  refine (at_any n cs t s w ht hsm hN hm hmx).mono fun e w' h => ?_
  cases hr : atT s.data.toList t with
  | inl c =>
    rw [hr] at h
    obtain ⟨he, hb⟩ := h
    exact ⟨1, zT, he, isT_zero w', hb⟩
  | inr x =>
    rw [hr] at h
    obtain ⟨cq, G, he, hc, hb⟩ := h
    exact ⟨_, cq, he, hc.isT (atT_small hr hsm).1, hb⟩

mutual
theorem take_size : ∀ (t : T) (D n b : Nat) (r : Nat × Nat), takeT t D n b = some r → n + sizeN t = r.1
  | .mk k x d ns ks, D, n, b, r, h => by
    have hf := takeT_facts h
    have := takeL_size ks _ _ _ r hf.2.2.2
    rw [sizeN_mk]; omega
theorem takeL_size : ∀ (l : List T) (D n b : Nat) (r : Nat × Nat), takeL l D n b = some r → n + sizeNL l = r.1
  | [], D, n, b, r, h => by rw [takeL] at h; cases h; simp [sizeNL]
  | k :: l, D, n, b, r, h => by
    rw [takeL] at h
    cases hk : takeT k D n b with
    | none => rw [hk] at h; cases h
    | some q =>
      rw [hk] at h
      have h1 := take_size k _ _ _ q hk
      have h2 := takeL_size l _ _ _ r h
      rw [sizeNL_cons]; omega
end

theorem size_most {t : T} {r : Nat × Nat} (h : sizeT t = some r) : sizeN t = r.1 ∧ sizeN t ≤ 4096 := by
  have h1 := take_size t 0 0 0 r h
  have h2 := takeT_le t 0 0 0 r h
  omega

end Go.Proofs.YtmgfgldabjgmmaaDoor

/-
  Texts in their order, each once, and of those with one key the first: the mathematics of refs. No program text.
-/
import Derived.WalkKit
import Derived.Sort.Walk0
namespace Go.Proofs.Ytdliecailkkciaa
open Go.RowKit
set_option linter.unusedVariables false

abbrev Bts := List UInt8

theorem lt_cons (a b : UInt8) (x y : Bts) : a :: x < b :: y ↔ a < b ∨ a = b ∧ x < y := List.cons_lt_cons_iff
theorem bt_irr : ∀ x : Bts, ¬ x < x
  | [] => by simp
  | a :: x => by rw [lt_cons]; exact fun h => h.elim (fun h => absurd h (by rw [UInt8.lt_iff_toNat_lt]; omega)) (fun h => bt_irr x h.2)
theorem bt_trans : ∀ {x y z : Bts}, x < y → y < z → x < z
  | _, _, [], _, h => by simp at h
  | [], _, c :: z, _, _ => by simp
  | a :: x, [], c :: z, h, _ => by simp at h
  | a :: x, b :: y, c :: z, h1, h2 => by
    rw [lt_cons] at h1 h2 ⊢
    rcases h1 with h1 | ⟨rfl, h1⟩
    · rcases h2 with h2 | ⟨rfl, h2⟩
      · exact .inl (by rw [UInt8.lt_iff_toNat_lt] at *; omega)
      · exact .inl h1
    · rcases h2 with h2 | ⟨rfl, h2⟩
      · exact .inl h2
      · exact .inr ⟨rfl, bt_trans h1 h2⟩
theorem bt_total : ∀ x y : Bts, x < y ∨ x = y ∨ y < x
  | [], [] => .inr (.inl rfl)
  | [], _ :: _ => .inl (by simp)
  | _ :: _, [] => .inr (.inr (by simp))
  | a :: x, b :: y => by
    rw [lt_cons, lt_cons]
    rcases Nat.lt_trichotomy a.toNat b.toNat with h | h | h
    · exact .inl (.inl (by rw [UInt8.lt_iff_toNat_lt]; exact h))
    · have e := UInt8.toNat_inj.1 h
      subst e
      rcases bt_total x y with h | h | h
      · exact .inl (.inr ⟨rfl, h⟩)
      · exact .inr (.inl (by rw [h]))
      · exact .inr (.inr (.inr ⟨rfl, h⟩))
    · exact .inr (.inr (.inl (by rw [UInt8.lt_iff_toNat_lt]; exact h)))
theorem take_lt : ∀ (n : Nat) {x y : Bts}, x.take n < y.take n → x < y
  | 0, x, y, h => by simp at h
  | n + 1, x, [], h => by simp at h
  | n + 1, [], b :: y, h => by simp
  | n + 1, a :: x, b :: y, h => by
    rw [List.take_succ_cons, List.take_succ_cons, lt_cons] at h
    rw [lt_cons]
    rcases h with h | ⟨h1, h2⟩
    · exact .inl h
    · exact .inr ⟨h1, take_lt n h2⟩
theorem bt_not {x y : Bts} : ¬ x < y ↔ y = x ∨ y < x := by
  constructor
  · intro h
    rcases bt_total x y with h' | h' | h'
    · exact absurd h' h
    · exact .inl h'.symm
    · exact .inr h'
  · rintro (rfl | h) h'
    · exact bt_irr _ h'
    · exact bt_irr _ (bt_trans h h')

/-- A text among others: the reference's Put, of whatever list. -/
def putT (s : Bts) : List Bts → List Bts
  | [] => [s]
  | x :: t => if x < s then x :: putT s t else s :: (x :: t).filter (· != s)
def sortT (l : List Bts) : List Bts := l.foldl (fun o s => putT s o) []
def Inc (l : List Bts) : Prop := l.Pairwise (· < ·)
def NonDec (l : List Bts) : Prop := l.Pairwise (fun x y => ¬ y < x)

theorem putT_mem {s x : Bts} : ∀ {l : List Bts}, x ∈ putT s l ↔ x = s ∨ x ∈ l
  | [] => by simp [putT]
  | y :: t => by
    unfold putT
    by_cases h : y < s
    · rw [if_pos h, List.mem_cons, List.mem_cons, putT_mem (l := t)]
      constructor
      · exact fun h => h.elim (fun h => .inr (.inl h)) (fun h => h.elim .inl (fun h => .inr (.inr h)))
      · exact fun h => h.elim (fun h => .inr (.inl h)) (fun h => h.elim .inl (fun h => .inr (.inr h)))
    · rw [if_neg h, List.mem_cons, List.mem_filter]
      constructor
      · exact fun h => h.elim .inl (fun h => .inr h.1)
      · rintro (h | h)
        · exact .inl h
        · by_cases e : x = s
          · exact .inl e
          · exact .inr ⟨h, by simpa using e⟩
theorem putT_inc {s : Bts} : ∀ {l : List Bts}, Inc l → Inc (putT s l)
  | [], _ => by simp [putT, Inc]
  | y :: t, h => by
    have h' := List.pairwise_cons.1 h
    unfold putT
    by_cases hy : y < s
    · rw [if_pos hy]
      refine List.pairwise_cons.2 ⟨fun x hx => ?_, putT_inc h'.2⟩
      rcases putT_mem.1 hx with rfl | hx
      · exact hy
      · exact h'.1 x hx
    · rw [if_neg hy]
      refine List.pairwise_cons.2 ⟨fun x hx => ?_, List.Pairwise.filter _ h⟩
      rw [List.mem_filter] at hx
      have hne : x ≠ s := by simpa using hx.2
      rcases bt_not.1 hy with e | e
      · subst e
        rcases List.mem_cons.1 hx.1 with e2 | e2
        · exact absurd e2 hne
        · exact h'.1 x e2
      · rcases List.mem_cons.1 hx.1 with e2 | e2
        · rw [e2]; exact e
        · exact bt_trans e (h'.1 x e2)
theorem sortT_go : ∀ (l o : List Bts), Inc o → Inc (l.foldl (fun o s => putT s o) o) ∧ ∀ x, x ∈ l.foldl (fun o s => putT s o) o ↔ x ∈ o ∨ x ∈ l
  | [], o, h => ⟨h, fun x => by simp⟩
  | s :: l, o, h => by
    obtain ⟨h1, h2⟩ := sortT_go l (putT s o) (putT_inc h)
    refine ⟨h1, fun x => ?_⟩
    rw [List.foldl_cons, h2, putT_mem, List.mem_cons]
    constructor
    · exact fun h => h.elim (fun h => h.elim (fun h => .inr (.inl h)) .inl) (fun h => .inr (.inr h))
    · exact fun h => h.elim (fun h => .inl (.inr h)) (fun h => h.elim (fun h => .inl (.inl h)) .inr)
theorem sortT_inc (l : List Bts) : Inc (sortT l) := (sortT_go l [] (by simp [Inc])).1
theorem sortT_mem (l : List Bts) (x : Bts) : x ∈ sortT l ↔ x ∈ l := by
  have h := (sortT_go l [] (by simp [Inc])).2 x
  show x ∈ l.foldl (fun o s => putT s o) [] ↔ x ∈ l
  rw [h]; simp

/-- Two rising lists of the same texts are one. -/
theorem inc_ext : ∀ {a b : List Bts}, Inc a → Inc b → (∀ x, x ∈ a ↔ x ∈ b) → a = b
  | [], [], _, _, _ => rfl
  | [], y :: b, _, _, h => by have := (h y).2 (by simp); simp at this
  | x :: a, [], _, _, h => by have := (h x).1 (by simp); simp at this
  | x :: a, y :: b, ha, hb, h => by
    have ha' := List.pairwise_cons.1 ha
    have hb' := List.pairwise_cons.1 hb
    have e : x = y := by
      rcases List.mem_cons.1 ((h x).1 (by simp)) with e | e
      · exact e
      · rcases List.mem_cons.1 ((h y).2 (by simp)) with e2 | e2
        · exact e2.symm
        · exact absurd (bt_trans (hb'.1 x e) (ha'.1 y e2)) (bt_irr _)
    subst e
    rw [inc_ext ha'.2 hb'.2 (fun z => ?_)]
    constructor
    · intro hz
      rcases List.mem_cons.1 ((h z).1 (by simp [hz])) with e | e
      · subst e; exact absurd (ha'.1 z hz) (bt_irr _)
      · exact e
    · intro hz
      rcases List.mem_cons.1 ((h z).2 (by simp [hz])) with e | e
      · subst e; exact absurd (hb'.1 z hz) (bt_irr _)
      · exact e

/-- Without its like beside it. -/
def dedT : List Bts → List Bts
  | [] => []
  | x :: t => match dedT t with
    | [] => [x]
    | y :: r => if x = y then y :: r else x :: y :: r
theorem dedT_cons (x : Bts) (t : List Bts) : dedT (x :: t) = match dedT t with | [] => [x] | y :: r => if x = y then y :: r else x :: y :: r := rfl
theorem dedT_mem : ∀ (l : List Bts) (x : Bts), x ∈ dedT l ↔ x ∈ l
  | [], x => by simp [dedT]
  | y :: t, x => by
    have ih := dedT_mem t
    rw [dedT_cons]
    cases hd : dedT t with
    | nil =>
      rw [hd] at ih
      have : ∀ z, z ∉ t := fun z hz => by have := (ih z).2 hz; simp at this
      simp [this]
    | cons z r =>
      rw [hd] at ih
      by_cases e : y = z
      · subst e
        simp only [if_true]
        rw [ih x, List.mem_cons]
        exact ⟨.inr, fun h => h.elim (fun e => by rw [e]; exact (ih y).1 (by simp)) id⟩
      · simp only [if_neg e]
        rw [List.mem_cons, ih x, List.mem_cons]
theorem dedT_inc : ∀ (l : List Bts), NonDec l → Inc (dedT l)
  | [], _ => by simp [dedT, Inc]
  | x :: t, h => by
    have h' := List.pairwise_cons.1 h
    have ih := dedT_inc t h'.2
    have hm := dedT_mem t
    rw [dedT_cons]
    cases hd : dedT t with
    | nil => simp [Inc]
    | cons z r =>
      rw [hd] at ih hm
      by_cases e : x = z
      · simp only [if_pos e]; exact ih
      · simp only [if_neg e]
        have hz : x < z := by
          rcases bt_not.1 (h'.1 z ((hm z).1 (by simp))) with e2 | e2
          · exact absurd e2 e
          · exact e2
        refine List.pairwise_cons.2 ⟨fun y hy => ?_, ih⟩
        rcases List.mem_cons.1 hy with rfl | hy
        · exact hz
        · exact bt_trans hz ((List.pairwise_cons.1 ih).1 y hy)
/-- What the program's sort makes, without doubles, is what the reference's sort makes. -/
theorem ded_sort {l s : List Bts} (hs : NonDec s) (hm : ∀ x, x ∈ s ↔ x ∈ l) : dedT s = sortT l :=
  inc_ext (dedT_inc s hs) (sortT_inc l) (fun x => by rw [dedT_mem, hm, sortT_mem])

/-- Of those with one key the first: by what has been seen, and by the last one alone. -/
def first1 (k : Bts → Bts) : List Bts → List Bts → List Bts
  | _, [] => []
  | seen, x :: t => if k x ∈ seen then first1 k seen t else x :: first1 k (k x :: seen) t
def first2 (k : Bts → Bts) : Option Bts → List Bts → List Bts
  | _, [] => []
  | last, x :: t => if last = some (k x) then first2 k last t else x :: first2 k (some (k x)) t
theorem first_same (k : Bts → Bts) : ∀ (l seen : List Bts) (last : Option Bts), l.Pairwise (fun x y => ¬ k y < k x) → (∀ x ∈ l, k x ∈ seen ↔ last = some (k x)) → (∀ m, last = some m → ∀ x ∈ l, ¬ k x < m) → first1 k seen l = first2 k last l
  | [], _, _, _, _, _ => rfl
  | x :: t, seen, last, hp, hs, hl => by
    have hp' := List.pairwise_cons.1 hp
    rw [first1, first2]
    by_cases h : k x ∈ seen
    · rw [if_pos h, if_pos ((hs x (by simp)).1 h)]
      exact first_same k t seen last hp'.2 (fun y hy => hs y (by simp [hy])) (fun m hm y hy => hl m hm y (by simp [hy]))
    · rw [if_neg h, if_neg (fun e => h ((hs x (by simp)).2 e))]
      rw [first_same k t (k x :: seen) (some (k x)) hp'.2 (fun y hy => ?_) (fun m hm y hy => ?_)]
      · rw [List.mem_cons]
        constructor
        · rintro (e | e)
          · rw [e]
          · have e2 := (hs y (by simp [hy])).1 e
            have h1 := hl _ e2 x (by simp)
            have h2 := hp'.1 y hy
            rcases bt_not.1 h1 with e3 | e3
            · rw [e3]
            · exact absurd e3 h2
        · intro e
          exact .inl (Option.some.inj e).symm
      · obtain rfl := Option.some.inj hm
        exact hp'.1 y hy
theorem first2_ded (k : Bts → Bts) : ∀ (l : List Bts) (last : Option Bts), first2 k last (dedT l) = first2 k last l
  | [], _ => rfl
  | x :: t, last => by
    have ih := first2_ded k t
    rw [dedT_cons]
    cases hd : dedT t with
    | nil =>
      rw [hd] at ih
      show (if last = some (k x) then first2 k last [] else x :: first2 k (some (k x)) []) = (if last = some (k x) then first2 k last t else x :: first2 k (some (k x)) t)
      rw [ih, ih]
    | cons y r =>
      rw [hd] at ih
      by_cases e : x = y
      · subst e
        simp only [if_true]
        show (if last = some (k x) then first2 k last r else x :: first2 k (some (k x)) r) = (if last = some (k x) then first2 k last t else x :: first2 k (some (k x)) t)
        rw [← ih last, ← ih (some (k x))]
        by_cases h : last = some (k x)
        · rw [if_pos h, if_pos h, first2, if_pos h]
        · rw [if_neg h, if_neg h, first2, if_pos rfl]
      · simp only [if_neg e]
        show (if last = some (k x) then first2 k last (y :: r) else x :: first2 k (some (k x)) (y :: r)) = (if last = some (k x) then first2 k last t else x :: first2 k (some (k x)) t)
        rw [ih, ih]

/-- What slices.Sort makes of texts. -/
theorem merge_nondec (l : List Bts) : NonDec (l.mergeSort fun x y => decide (x ≤ y)) := by
  have h := List.pairwise_mergeSort (le := fun x y : Bts => decide (x ≤ y)) (fun a b c h1 h2 => by
    simp only [decide_eq_true_eq] at h1 h2 ⊢
    intro h
    rcases bt_not.1 h1 with e | e
    · subst e; exact h2 h
    · rcases bt_not.1 h2 with e2 | e2
      · subst e2; exact h1 h
      · exact bt_irr _ (bt_trans h (bt_trans e e2))) (fun a b => by
    by_cases h : a ≤ b
    · simp [h]
    · have h' : b < a := Classical.not_not.1 h
      have : b ≤ a := fun h2 => bt_irr _ (bt_trans h' h2)
      simp [this]) l
  exact List.Pairwise.imp (fun h => by simpa using h) h
theorem merge_mem (l : List Bts) (x : Bts) : x ∈ (l.mergeSort fun x y => decide (x ≤ y)) ↔ x ∈ l := (List.mergeSort_perm l _).mem_iff

/-- A path's digest. -/
def keyT (x : Bts) : Bts := x.take 32
/-- What is looked for is what the reference knows. -/
theorem known_first (is : Bts → Bool) {l s : List Bts} (hs : NonDec s) (hm : ∀ x, x ∈ s ↔ x ∈ l) : first1 keyT [] (s.filter is) = first2 keyT none ((sortT l).filter is) := by
  have hf : NonDec (s.filter is) := List.Pairwise.filter _ hs
  have e : dedT (s.filter is) = (sortT l).filter is :=
    inc_ext (dedT_inc _ hf) (List.Pairwise.filter _ (sortT_inc l)) (fun x => by rw [dedT_mem, List.mem_filter, List.mem_filter, hm, sortT_mem])
  rw [← e, first2_ded]
  refine first_same keyT _ [] none (List.Pairwise.imp (fun {x y} h h2 => h (take_lt 32 h2)) hf) (fun x _ => by simp) (fun m hm => by simp at hm)
theorem first2_mem (k : Bts → Bts) : ∀ (l : List Bts) (last : Option Bts) (x : Bts), x ∈ first2 k last l → x ∈ l
  | [], _, _, h => by simp [first2] at h
  | y :: t, last, x, h => by
    rw [first2] at h
    split at h
    · exact List.mem_cons_of_mem _ (first2_mem k t _ x h)
    · rcases List.mem_cons.1 h with e | e
      · rw [e]; simp
      · exact List.mem_cons_of_mem _ (first2_mem k t _ x e)
theorem first2_inc (k : Bts → Bts) : ∀ (l : List Bts) (last : Option Bts), Inc l → Inc (first2 k last l)
  | [], _, h => h
  | y :: t, last, h => by
    have h' := List.pairwise_cons.1 h
    rw [first2]
    split
    · exact first2_inc k t _ h'.2
    · exact List.pairwise_cons.2 ⟨fun x hx => h'.1 x (first2_mem k t _ x hx), first2_inc k t _ h'.2⟩
/-- Where no two of them have one key, all are known. -/
theorem first2_all (k : Bts → Bts) : ∀ (l : List Bts) (last : Option Bts), Inc l → (∀ x ∈ l, last ≠ some (k x)) → (∀ x ∈ l, ∀ y ∈ l, k x = k y → x = y) → first2 k last l = l
  | [], _, _, _, _ => rfl
  | y :: t, last, h, h1, h2 => by
    have h' := List.pairwise_cons.1 h
    rw [first2, if_neg (h1 y (by simp)), first2_all k t _ h'.2 (fun x hx e => ?_) (fun a ha b hb => h2 a (by simp [ha]) b (by simp [hb]))]
    have e2 := h2 y (by simp) x (by simp [hx]) (Option.some.inj e)
    exact bt_irr _ (by have := h'.1 x hx; rwa [← e2] at this)

end Go.Proofs.Ytdliecailkkciaa

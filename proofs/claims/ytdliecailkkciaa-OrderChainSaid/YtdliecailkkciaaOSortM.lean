/-
  What Sort begins with. No program text.
-/
import Derived.Test.YtdliecailkkciaaOPops
namespace Go.Proofs.Ytdliecailkkciaa
open Go.RowKit
set_option linter.unusedVariables false

theorem inC_other (N : ByteArray → Option (List ByteArray)) (s t : ByteArray) (ms : List ByteArray) (C : ByteArray → Option Nat) (h : t ≠ s) : ∀ j, getC (inC N s ms C j) t = getC C t
  | 0 => rfl
  | j + 1 => by
    have ih := inC_other N s t ms C h j
    unfold inC stepC
    by_cases hn : nd N s (ms.getD j ⟨#[]⟩) = true
    · rw [if_pos hn, getC_put, if_neg h]; exact ih
    · rw [if_neg hn]; exact ih
theorem getD_get {l : List ByteArray} {i : Nat} (h : i < l.length) : l.getD i ⟨#[]⟩ = l[i] := by
  rw [List.getD_eq_getElem?_getD, List.getElem?_eq_getElem h]; rfl
theorem outC_later {G : List ByteArray} {N : ByteArray → Option (List ByteArray)} (hG : G.Nodup) {t : ByteArray} {i : Nat} (ht : t ∈ G.take i) : ∀ m, i ≤ m → m ≤ G.length → getC (outC G N m) t = getC (outC G N i) t := by
  intro m hm
  induction hm with
  | refl => intro _; rfl
  | @step m hm ih =>
    intro hl
    have hm' : i ≤ m := hm
    rw [← ih (by omega)]
    refine inC_other _ _ _ _ _ (fun e => ?_) _
    obtain ⟨k, hk, e2⟩ := List.mem_take_iff_getElem.1 ht
    rw [getD_get (by omega)] at e
    exact List.pairwise_iff_getElem.1 hG k m (by omega) (by omega) (by omega) (e2.trans e)
theorem outR_sub (G : List ByteArray) (N : ByteArray → Option (List ByteArray)) : ∀ i, i ≤ G.length → (outR G N i).Sublist (G.take i)
  | 0, _ => by simp [outR]
  | i + 1, h => by
    have ih := outR_sub G N i (by omega)
    rw [take_next (by omega)]
    unfold outR
    by_cases hc : getC (outC G N (i + 1)) (G.getD i ⟨#[]⟩) = 0
    · rw [if_pos hc]; exact ih.append (List.Sublist.refl _)
    · rw [if_neg hc]; exact ih.trans (List.sublist_append_left _ _)
theorem outR_zero {G : List ByteArray} {N : ByteArray → Option (List ByteArray)} (hG : G.Nodup) : ∀ i, i ≤ G.length → ∀ s ∈ outR G N i, getC (outC G N G.length) s = 0
  | 0, _, s, hs => by simp [outR] at hs
  | i + 1, h, s, hs => by
    have ih := outR_zero (N := N) hG i (by omega)
    unfold outR at hs
    by_cases hc : getC (outC G N (i + 1)) (G.getD i ⟨#[]⟩) = 0
    · rw [if_pos hc] at hs
      rcases List.mem_append.1 hs with h1 | h1
      · exact ih s h1
      · rw [List.mem_singleton] at h1
        rw [outC_later hG (i := i + 1) (by rw [take_next (by omega), h1]; simp) G.length h (Nat.le_refl _), h1]
        exact hc
    · rw [if_neg hc] at hs; exact ih s hs
theorem inW_in {G : List ByteArray} (N : ByteArray → Option (List ByteArray)) (s : ByteArray) (ms : List ByteArray) (W : ByteArray → Option (List ByteArray)) (hs : s ∈ G) (h : ∀ t, ∀ u ∈ getN W t, u ∈ G) : ∀ j t, ∀ u ∈ getN (inW N s ms W j) t, u ∈ G
  | 0, t, u, hu => h t u hu
  | j + 1, t, u, hu => by
    have ih := inW_in N s ms W hs h j
    unfold inW stepW at hu
    by_cases hn : nd N s (ms.getD j ⟨#[]⟩) = true
    · rw [if_pos hn, getN_put] at hu
      by_cases e : t = ms.getD j ⟨#[]⟩
      · rw [if_pos e] at hu
        rcases List.mem_append.1 hu with h1 | h1
        · exact ih _ u h1
        · rw [List.mem_singleton] at h1; rw [h1]; exact hs
      · rw [if_neg e] at hu; exact ih t u hu
    · rw [if_neg hn] at hu; exact ih t u hu
theorem outW_in (G : List ByteArray) (N : ByteArray → Option (List ByteArray)) : ∀ i, i ≤ G.length → ∀ t, ∀ u ∈ getN (outW G N i) t, u ∈ G
  | 0, _, t, u, hu => by simp [outW, getN] at hu
  | i + 1, h, t, u, hu => inW_in N _ _ _ (getD_mem2 (by omega)) (outW_in G N i (by omega)) _ t u hu
theorem rise_heap {l : List ByteArray} (h : l.Pairwise (fun x y => btsOf x < btsOf y)) : HeapN l.length l := by
  intro k h0 hk
  have := List.pairwise_iff_getElem.1 h ((k - 1) / 2) k (by omega) hk (by omega)
  unfold at'
  rw [getD_get hk, getD_get (by omega)]
  exact lt_asym this
theorem Keep.start {G : List ByteArray} {N : ByteArray → Option (List ByteArray)} (hG : G.Nodup) (hN : ∀ x, (N x).isSome = true → x ∈ G) : Keep G N (outW G N G.length) (outC G N G.length) [] (outR G N G.length) := by
  have hs := outR_sub G N G.length (Nat.le_refl _)
  rw [List.take_length] at hs
  exact ⟨Inv.outer hG hN _, fun t => .inl rfl, fun s h => outR_zero hG _ (Nat.le_refl _) s h, hs.nodup hG, fun s h => hs.mem h⟩
theorem outR_heap {G : List ByteArray} {N : ByteArray → Option (List ByteArray)} (hG : G.Pairwise (fun x y => btsOf x < btsOf y)) : HeapN (outR G N G.length).length (outR G N G.length) := by
  have hs := outR_sub G N G.length (Nat.le_refl _)
  rw [List.take_length] at hs
  exact rise_heap (hG.sublist hs)
/-- What Sort's loop comes to: the least that is ready leaves, its users are told. -/
inductive Pops (G : List ByteArray) (N : ByteArray → Option (List ByteArray)) : List ByteArray → List ByteArray → (ByteArray → Option (List ByteArray)) → (ByteArray → Option Nat) → Prop
  | base : Pops G N [] (outR G N G.length) (outW G N G.length) (outC G N G.length)
  | snoc {out l l0 l' : List ByteArray} {W : ByteArray → Option (List ByteArray)} {C : ByteArray → Option Nat} {x : ByteArray} : Pops G N out l W C → (∀ y ∈ l, ¬ btsOf y < btsOf x) → (l0 ++ [x]).Perm l → l'.Perm (l0 ++ psh (getN W x) C (getN W x).length) → Pops G N (out ++ [x]) l' (fun y => if y = x then none else W y) (dcC (getN W x) C (getN W x).length)
end Go.Proofs.Ytdliecailkkciaa

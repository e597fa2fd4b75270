/-
  The numbers of a queue are what its rows say. No program text.
-/
import Derived.Test.YtdliecailkkciaaONext
namespace Go.Proofs.Ytdliecailkkciaa
open Go.RowKit
set_option linter.unusedVariables false

/-- How often s stands in l. -/
def cnt (s : ByteArray) (l : List ByteArray) : Nat := l.countP (fun y => decide (y = s))
theorem cnt_append (s : ByteArray) (a b : List ByteArray) : cnt s (a ++ b) = cnt s a + cnt s b := List.countP_append ..
theorem cnt_one (s x : ByteArray) : cnt s [x] = if x = s then 1 else 0 := by
  unfold cnt
  by_cases h : x = s
  · rw [if_pos h]; simp [h]
  · rw [if_neg h]; simp [h]
theorem take_next {l : List ByteArray} {j : Nat} (h : j < l.length) : l.take (j + 1) = l.take j ++ [l.getD j ⟨#[]⟩] := by
  rw [List.take_succ_eq_append_getElem h, List.getD_eq_getElem?_getD, List.getElem?_eq_getElem h]; rfl
theorem dcC_get (us : List ByteArray) (C : ByteArray → Option Nat) : ∀ j s, j ≤ us.length → getC (dcC us C j) s = getC C s - cnt s (us.take j)
  | 0, s, _ => by simp [dcC, cnt]
  | j + 1, s, h => by
    have ih := fun s => dcC_get us C j s (by omega)
    rw [take_next (by omega), cnt_append, cnt_one]
    show ((if s = us.getD j ⟨#[]⟩ then some (getC (dcC us C j) (us.getD j ⟨#[]⟩) - 1) else dcC us C j s).getD 0) = _
    by_cases e : s = us.getD j ⟨#[]⟩
    · rw [if_pos e, if_pos e.symm, ← e]
      have := ih s
      simp only [Option.getD_some]
      omega
    · rw [if_neg e, if_neg (fun x => e x.symm)]
      have := ih s
      unfold getC at this
      unfold getC
      omega
def sumG (G : List ByteArray) (W : ByteArray → Option (List ByteArray)) (s : ByteArray) : Nat := (G.map (fun t => cnt s (getN W t))).sum
theorem sum_at {f g : ByteArray → Nat} {x : ByteArray} : ∀ {G : List ByteArray}, G.Nodup → x ∈ G → (∀ t, t ≠ x → f t = g t) → (G.map f).sum + g x = (G.map g).sum + f x
  | [], _, h, _ => by cases h
  | y :: G, hn, hx, hfg => by
    have hn' := List.nodup_cons.1 hn
    simp only [List.map_cons, List.sum_cons]
    by_cases e : y = x
    · subst e
      have : G.map f = G.map g := List.map_congr_left (fun t ht => hfg t (fun e => hn'.1 (e ▸ ht)))
      rw [this]; omega
    · have ih := sum_at (f := f) (g := g) hn'.2 (by
        rcases List.mem_cons.1 hx with h | h
        · exact absurd h.symm e
        · exact h) hfg
      have := hfg y e
      omega
theorem sum_ge {f : ByteArray → Nat} {x : ByteArray} : ∀ {G : List ByteArray}, x ∈ G → f x ≤ (G.map f).sum
  | [], h => by cases h
  | y :: G, h => by
    simp only [List.map_cons, List.sum_cons]
    rcases List.mem_cons.1 h with e | e
    · subst e; omega
    · have := sum_ge (f := f) e; omega
/-- The queue's numbers are right. -/
def Inv (G : List ByteArray) (W : ByteArray → Option (List ByteArray)) (C : ByteArray → Option Nat) : Prop := ∀ s, getC C s = sumG G W s
theorem getN_put (W : ByteArray → Option (List ByteArray)) (t x : ByteArray) (l : List ByteArray) : getN (putN W t l) x = if x = t then l else getN W x := by
  unfold getN putN
  by_cases h : x = t
  · rw [if_pos h, if_pos h]; rfl
  · rw [if_neg h, if_neg h]
theorem getC_put (C : ByteArray → Option Nat) (t x : ByteArray) (n : Nat) : getC (putC C t n) x = if x = t then n else getC C x := by
  unfold getC putC
  by_cases h : x = t
  · rw [if_pos h, if_pos h]; rfl
  · rw [if_neg h, if_neg h]
theorem Inv.step {G : List ByteArray} {N W : ByteArray → Option (List ByteArray)} {C : ByteArray → Option Nat} {s t : ByteArray} (hG : G.Nodup) (hN : ∀ x, (N x).isSome = true → x ∈ G) (h : Inv G W C) : Inv G (stepW N s W t) (stepC N s C t) := by
  unfold stepW stepC
  by_cases hn : nd N s t = true
  · rw [if_pos hn, if_pos hn]
    have ht : t ∈ G := hN t (by unfold nd at hn; exact (Bool.and_eq_true _ _ ▸ hn).2)
    intro x
    have h1 := sum_at (f := fun y => cnt x (getN (putN W t (getN W t ++ [s])) y)) (g := fun y => cnt x (getN W y)) hG ht (fun y hy => by
      show cnt x (getN (putN W t (getN W t ++ [s])) y) = _
      rw [getN_put, if_neg hy])
    have h2 : cnt x (getN (putN W t (getN W t ++ [s])) t) = cnt x (getN W t) + (if s = x then 1 else 0) := by rw [getN_put, if_pos rfl, cnt_append, cnt_one]
    have h3 := h x
    have h4 := h s
    unfold sumG at h3 h4 ⊢
    simp only [h2] at h1
    rw [getC_put]
    by_cases e : x = s
    · subst e
      rw [if_pos rfl] at h1
      rw [if_pos rfl]; omega
    · rw [if_neg e]
      rw [if_neg (fun y => e y.symm)] at h1
      omega
  · rw [if_neg hn, if_neg hn]; exact h
theorem Inv.inner {G : List ByteArray} {N W : ByteArray → Option (List ByteArray)} {C : ByteArray → Option Nat} {s : ByteArray} {ms : List ByteArray} (hG : G.Nodup) (hN : ∀ x, (N x).isSome = true → x ∈ G) (h : Inv G W C) : ∀ j, Inv G (inW N s ms W j) (inC N s ms C j)
  | 0 => h
  | j + 1 => Inv.step hG hN (Inv.inner hG hN h j)
theorem Inv.outer {G : List ByteArray} {N : ByteArray → Option (List ByteArray)} (hG : G.Nodup) (hN : ∀ x, (N x).isSome = true → x ∈ G) : ∀ i, Inv G (outW G N i) (outC G N i)
  | 0 => fun s => by
    unfold sumG
    show 0 = _
    induction G with
    | nil => rfl
    | cons y G ih =>
      simp only [List.map_cons, List.sum_cons]
      have : (List.map (fun t => cnt s (getN (outW G N 0) t)) G).sum = 0 := by
        clear ih hG hN
        induction G with
        | nil => rfl
        | cons z G ih => simp only [List.map_cons, List.sum_cons]; show 0 + _ = 0; rw [Nat.zero_add]; exact ih
      show 0 = 0 + (List.map (fun t => cnt s (getN (outW G N 0) t)) G).sum
      rw [this]
  | i + 1 => Inv.inner hG hN (Inv.outer hG hN i) _
theorem Inv.next {G : List ByteArray} {W : ByteArray → Option (List ByteArray)} {C : ByteArray → Option Nat} {x : ByteArray} (hG : G.Nodup) (hx : x ∈ G) (h : Inv G W C) : Inv G (fun y => if y = x then none else W y) (dcC (getN W x) C (getN W x).length) := by
  intro s
  rw [dcC_get _ _ _ _ (Nat.le_refl _), List.take_length]
  have h1 := sum_at (f := fun y => cnt s (getN (fun y => if y = x then none else W y) y)) (g := fun y => cnt s (getN W y)) hG hx (fun y hy => by
    show cnt s ((if y = x then none else W y).getD []) = _
    rw [if_neg hy]; rfl)
  have h2 : cnt s (getN (fun y => if y = x then none else W y) x) = 0 := by
    show cnt s ((if x = x then none else W x).getD []) = 0
    rw [if_pos rfl]; rfl
  have h3 := h s
  unfold sumG at h3 ⊢
  simp only [h2] at h1
  omega
/-- Each number is at least 1 when it is made less. -/
theorem Inv.one {G : List ByteArray} {W : ByteArray → Option (List ByteArray)} {C : ByteArray → Option Nat} {x : ByteArray} (hx : x ∈ G) (h : Inv G W C) (j : Nat) (hj : j < (getN W x).length) : 1 ≤ getC (dcC (getN W x) C j) ((getN W x).getD j ⟨#[]⟩) := by
  rw [dcC_get _ _ _ _ (by omega)]
  obtain ⟨us, hus⟩ : ∃ us, us = getN W x := ⟨_, rfl⟩
  obtain ⟨u, hu⟩ : ∃ u, u = us.getD j ⟨#[]⟩ := ⟨_, rfl⟩
  have h1 := sum_ge (f := fun t => cnt u (getN W t)) hx
  have h2 := h u
  unfold sumG at h2
  rw [← hus] at hj ⊢
  simp only [← hus] at h1
  rw [← hu]
  have h3 : us = us.take (j + 1) ++ us.drop (j + 1) := (List.take_append_drop _ _).symm
  have h4 : cnt u us = cnt u (us.take j) + 1 + cnt u (us.drop (j + 1)) := by
    conv => lhs; rw [h3]
    rw [cnt_append, take_next hj, cnt_append, cnt_one, ← hu, if_pos rfl]
  omega
end Go.Proofs.Ytdliecailkkciaa

/-
  Heaps as lists. No program text.
-/
import Derived.Test.YtdliecailkkciaaOLeast
namespace Go.Proofs.Ytdliecailkkciaa
set_option linter.unusedVariables false

/-- The k-th name's bytes. -/
def at' (l : List ByteArray) (k : Nat) : Bts := btsOf (l.getD k ⟨#[]⟩)
theorem swapL_get {l : List ByteArray} {i j k : Nat} (hi : i < l.length) (hj : j < l.length) : at' (swapL l i j) k = if k = j then at' l i else if k = i then at' l j else at' l k := by
  unfold at' swapL
  simp only [List.getD_eq_getElem?_getD, List.getElem?_set, List.length_set]
  by_cases h1 : k = j
  · subst h1
    rw [if_pos rfl, if_pos hj, if_pos rfl]; rfl
  · rw [if_neg (fun e => h1 e.symm), if_neg h1]
    by_cases h2 : k = i
    · subst h2
      rw [if_pos rfl, if_pos hi, if_pos rfl]; rfl
    · rw [if_neg (fun e => h2 e.symm), if_neg h2]
theorem swapL_perm {l : List ByteArray} {i j : Nat} (hi : i < l.length) (hj : j < l.length) : (swapL l i j).Perm l := by
  have h := List.set_set_perm hi hj
  unfold swapL
  have e1 : l.getD i ⟨#[]⟩ = l[i] := by rw [List.getD_eq_getElem?_getD, List.getElem?_eq_getElem hi]; rfl
  have e2 : l.getD j ⟨#[]⟩ = l[j] := by rw [List.getD_eq_getElem?_getD, List.getElem?_eq_getElem hj]; rfl
  rw [e1, e2]
  exact h
theorem nlt_trans {x y z : Bts} (h1 : ¬ x < y) (h2 : ¬ y < z) : ¬ x < z := by
  rcases bt_not.1 h1 with rfl | h1
  · exact h2
  · rcases bt_not.1 h2 with rfl | h2
    · exact bt_not.2 (.inr h1)
    · exact bt_not.2 (.inr (bt_trans h2 h1))
theorem lt_asym {x y : Bts} (h : x < y) : ¬ y < x := fun h2 => bt_irr _ (bt_trans h h2)
/-- The first n are a heap. -/
def HeapN (n : Nat) (l : List ByteArray) : Prop := ∀ k, 0 < k → k < n → ¬ at' l k < at' l ((k - 1) / 2)
/-- down stands at i. -/
def DownI (n i : Nat) (l : List ByteArray) : Prop := (∀ k, 0 < k → k < n → (k - 1) / 2 ≠ i → ¬ at' l k < at' l ((k - 1) / 2)) ∧ (0 < i → ∀ k, 0 < k → k < n → (k - 1) / 2 = i → ¬ at' l k < at' l ((i - 1) / 2))
/-- up stands at j. -/
def UpI (n j : Nat) (l : List ByteArray) : Prop := (∀ k, 0 < k → k < n → k ≠ j → ¬ at' l k < at' l ((k - 1) / 2)) ∧ (0 < j → ∀ k, 0 < k → k < n → (k - 1) / 2 = j → ¬ at' l k < at' l ((j - 1) / 2))

theorem DownI.leaf {n i : Nat} {l : List ByteArray} (h : DownI n i l) (hn : n ≤ 2 * i + 1) : HeapN n l := fun k h0 hk => h.1 k h0 hk (by omega)
theorem DownI.stop {n i j : Nat} {l : List ByteArray} (h : DownI n i l) (hj : ∀ k, 0 < k → k < n → (k - 1) / 2 = i → ¬ at' l k < at' l j) (hs : ¬ at' l j < at' l i) : HeapN n l := fun k h0 hk => by
  by_cases hp : (k - 1) / 2 = i
  · rw [hp]; exact nlt_trans (hj k h0 hk hp) hs
  · exact h.1 k h0 hk hp
theorem DownI.step {n i j : Nat} {l : List ByteArray} (h : DownI n i l) (hl : n ≤ l.length) (hjn : j < n) (hjp : j = 2 * i + 1 ∨ j = 2 * i + 2) (hj : ∀ k, 0 < k → k < n → (k - 1) / 2 = i → ¬ at' l k < at' l j) (hs : at' l j < at' l i) : DownI n j (swapL l i j) := by
  have hi : i < l.length := by omega
  have hjl : j < l.length := by omega
  have g := fun k => swapL_get (k := k) hi hjl
  have gi : at' (swapL l i j) i = at' l j := by rw [g, if_neg (by omega), if_pos rfl]
  have gj : at' (swapL l i j) j = at' l i := by rw [g, if_pos rfl]
  have go : ∀ k, k ≠ i → k ≠ j → at' (swapL l i j) k = at' l k := fun k h1 h2 => by rw [g, if_neg h2, if_neg h1]
  constructor
  · intro k h0 hk hp
    by_cases hki : k = i
    · subst hki
      rw [gi, go _ (by omega) (by omega)]
      exact h.2 h0 j (by omega) hjn (by omega)
    · by_cases hkj : k = j
      · subst hkj
        have : (k - 1) / 2 = i := by omega
        rw [this, gi, gj]
        exact lt_asym hs
      · rw [go k hki hkj]
        by_cases hpi : (k - 1) / 2 = i
        · rw [hpi, gi]; exact hj k h0 hk hpi
        · rw [go _ hpi hp]; exact h.1 k h0 hk hpi
  · intro _ k h0 hk hp
    have hpj : (j - 1) / 2 = i := by omega
    rw [hpj, gi, go k (by omega) (by omega), ← hp]
    exact h.1 k h0 hk (by omega)

theorem UpI.stop {n j : Nat} {l : List ByteArray} (h : UpI n j l) (hs : j = 0 ∨ ¬ at' l j < at' l ((j - 1) / 2)) : HeapN n l := fun k h0 hk => by
  by_cases hp : k = j
  · subst hp
    rcases hs with rfl | hs
    · omega
    · exact hs
  · exact h.1 k h0 hk hp
theorem UpI.step {n i j : Nat} {l : List ByteArray} (h : UpI n j l) (hl : n ≤ l.length) (hjn : j < n) (h0 : 0 < j) (hi : i = (j - 1) / 2) (hs : at' l j < at' l i) : UpI n i (swapL l i j) := by
  have hil : i < l.length := by omega
  have hjl : j < l.length := by omega
  have hij : i ≠ j := by omega
  have g := fun k => swapL_get (k := k) hil hjl
  have gi : at' (swapL l i j) i = at' l j := by rw [g, if_neg hij, if_pos rfl]
  have gj : at' (swapL l i j) j = at' l i := by rw [g, if_pos rfl]
  have go : ∀ k, k ≠ i → k ≠ j → at' (swapL l i j) k = at' l k := fun k h1 h2 => by rw [g, if_neg h2, if_neg h1]
  constructor
  · intro k k0 hk hki
    by_cases hkj : k = j
    · subst hkj
      rw [← hi, gi, gj]; exact lt_asym hs
    · rw [go k hki hkj]
      by_cases hpj : (k - 1) / 2 = j
      · rw [hpj, gj, hi]; exact h.2 h0 k k0 hk hpj
      · by_cases hpi : (k - 1) / 2 = i
        · rw [hpi, gi]
          intro h3
          have h4 := h.1 k k0 hk hkj
          rw [hpi] at h4
          exact h4 (bt_trans h3 hs)
        · rw [go _ hpi hpj]; exact h.1 k k0 hk hkj
  · intro i0 k k0 hk hp
    have hpi : (i - 1) / 2 ≠ i := by omega
    have hpj : (i - 1) / 2 ≠ j := by omega
    rw [go _ hpi hpj]
    have h5 := h.1 i i0 (by omega) hij
    by_cases hkj : k = j
    · subst hkj
      rw [gj]; exact h5
    · rw [go k (by omega) hkj]
      have h4 := h.1 k k0 hk hkj
      rw [hp] at h4
      exact nlt_trans h4 h5
/-- The first is the least. -/
theorem HeapN.least {n : Nat} {l : List ByteArray} (h : HeapN n l) : ∀ k, k < n → ¬ at' l k < at' l 0
  | 0, _ => bt_irr _
  | k + 1, hk => by
    have h1 := h (k + 1) (by omega) hk
    have h2 := HeapN.least h ((k + 1 - 1) / 2) (by omega)
    exact nlt_trans h1 h2
termination_by k => k
decreasing_by omega
theorem DownI.begin {n : Nat} {l : List ByteArray} (h : HeapN (n + 1) l) (hl : l.length = n + 1) : DownI n 0 (swapL l 0 n) := by
  have g := fun k => swapL_get (l := l) (i := 0) (j := n) (k := k) (by omega) (by omega)
  constructor
  · intro k h0 hk hp
    rw [g, g, if_neg (by omega), if_neg (by omega), if_neg (by omega), if_neg hp]
    exact h k h0 (by omega)
  · intro h0; omega
theorem UpI.begin {l : List ByteArray} {s : ByteArray} (h : HeapN l.length l) : UpI (l.length + 1) l.length (l ++ [s]) := by
  have g : ∀ k, k < l.length → at' (l ++ [s]) k = at' l k := fun k hk => by
    unfold at'
    rw [List.getD_eq_getElem?_getD, List.getElem?_append_left hk, ← List.getD_eq_getElem?_getD]
  constructor
  · intro k h0 hk hp
    rw [g k (by omega), g _ (by omega)]
    exact h k h0 (by omega)
  · intro h0 k k0 hk hp; omega
theorem HeapN.take {n : Nat} {l : List ByteArray} (h : HeapN n l) (hl : n ≤ l.length) : HeapN (l.take n).length (l.take n) := by
  have hn : (l.take n).length = n := by rw [List.length_take]; omega
  have g : ∀ k, k < n → at' (l.take n) k = at' l k := fun k hk => by
    unfold at'
    rw [List.getD_eq_getElem?_getD, List.getElem?_take, if_pos hk, ← List.getD_eq_getElem?_getD]
  intro k h0 hk
  rw [hn] at hk
  rw [g k hk, g _ (by omega)]
  exact h k h0 hk
end Go.Proofs.Ytdliecailkkciaa

/-
  The chain's names and needs; what a chain and a ring come to. No program text.
-/
import Derived.Test.YtdliecailkkciaaOLinesM
namespace Go.Proofs.Ytdliecailkkciaa
open Go.RowKit
set_option linter.unusedVariables false

def nmB (i : Nat) : ByteArray := ⟨#[UInt8.ofNat (97 + i / 26), UInt8.ofNat (97 + i % 26)]⟩
def nkB (k : Nat) (ring : Bool) (i : Nat) : List ByteArray := if i + 1 < k then [nmB (i + 1)] else if ring = true then [nmB 0] else []
def nmL (k : Nat) : List ByteArray := (List.range k).map nmB
def nmK (k : Nat) (ring : Bool) (i : Nat) : List (List ByteArray) := (List.range i).map (nkB k ring)
theorem nmL_len (k : Nat) : (nmL k).length = k := by unfold nmL; simp
theorem nmK_len (k : Nat) (ring : Bool) (i : Nat) : (nmK k ring i).length = i := by unfold nmK; simp
theorem nmL_succ (k : Nat) : nmL (k + 1) = nmL k ++ [nmB k] := by unfold nmL; rw [List.range_succ, List.map_append]; rfl
theorem nmK_succ (k : Nat) (ring : Bool) (i : Nat) : nmK k ring (i + 1) = nmK k ring i ++ [nkB k ring i] := by unfold nmK; rw [List.range_succ, List.map_append]; rfl
theorem nmL_get {i k : Nat} (hi : i < k) : (nmL k).getD i ⟨#[]⟩ = nmB i := by
  unfold nmL
  rw [List.getD_eq_getElem?_getD, List.getElem?_map, List.getElem?_range hi]; rfl
theorem nmK_get {k : Nat} {ring : Bool} {i j : Nat} (hi : i < j) : (nmK k ring j).getD i [] = nkB k ring i := by
  unfold nmK
  rw [List.getD_eq_getElem?_getD, List.getElem?_map, List.getElem?_range hi]; rfl
theorem nm_lt : ∀ j, j < 42 → ∀ i, i < j → btsOf (nmB i) < btsOf (nmB j) := by decide +kernel
theorem nm_inj {i j : Nat} (hi : i < 42) (hj : j < 42) (e : nmB i = nmB j) : i = j := by
  rcases Nat.lt_trichotomy i j with h | h | h
  · have := nm_lt j hj i h; rw [e] at this; exact absurd this (bt_irr _)
  · exact h
  · have := nm_lt i hi j h; rw [e] at this; exact absurd this (bt_irr _)
theorem nmL_mem {k : Nat} {s : ByteArray} : s ∈ nmL k ↔ ∃ i, i < k ∧ s = nmB i := by
  unfold nmL
  constructor
  · intro h
    obtain ⟨i, hi, rfl⟩ := List.mem_map.1 h
    exact ⟨i, List.mem_range.1 hi, rfl⟩
  · rintro ⟨i, hi, rfl⟩
    exact List.mem_map.2 ⟨i, List.mem_range.2 hi, rfl⟩
theorem nmL_inc {k : Nat} (hk : k ≤ 41) : (nmL k).Pairwise (fun x y => btsOf x < btsOf y) := by
  unfold nmL
  refine List.pairwise_map.2 (List.pairwise_iff_getElem.2 (fun i j hi hj hij => ?_))
  rw [List.length_range] at hi hj
  rw [List.getElem_range, List.getElem_range]
  exact nm_lt j (by omega) i hij
theorem nmL_ris {k : Nat} (hk : k ≤ 41) : risL (nmL k) = nmL k := ris_ext (risL_inc _) (nmL_inc hk) (fun x => risL_mem)
theorem nm_need {k : Nat} (hk : k ≤ 41) (ring : Bool) {i : Nat} (hi : i < k) (t : ByteArray) : Need (nmL k) (nmK k ring k) (nmB i) t ↔ t ∈ nkB k ring i := by
  constructor
  · rintro ⟨j, hj, e, ht⟩
    rw [nmL_len] at hj
    rw [nmL_get hj] at e
    obtain rfl := nm_inj (by omega) (by omega) e
    rw [nmK_get hj] at ht
    exact ht
  · intro ht
    exact ⟨i, by rw [nmL_len]; exact hi, nmL_get hi, by rw [nmK_get hi]; exact ht⟩
theorem nm_told {k : Nat} (hk : k ≤ 41) (ring : Bool) : Told (nmL k) (nmK k ring k) := by
  refine Told.of (by rw [nmL_len]; omega) ?_ (fun s hs => ?_) (fun l hl s hs => ?_)
  · rw [nmL_len]
    have := tot_le (nmK k ring k) 1 k (fun j hj => by
      rw [nmK_get hj]
      unfold nkB
      split
      · exact Nat.le_refl _
      · split
        · exact Nat.le_refl _
        · exact Nat.zero_le _)
    omega
  · obtain ⟨i, _, rfl⟩ := nmL_mem.1 hs
    show 2 ≤ maxLen
    unfold maxLen; omega
  · obtain ⟨i, _, rfl⟩ := List.mem_map.1 hl
    have h2 : ∀ j, (nmB j).size ≤ maxLen := fun j => by
      show 2 ≤ maxLen
      unfold maxLen; omega
    unfold nkB at hs
    split at hs
    · rw [List.mem_singleton.1 hs]; exact h2 _
    · split at hs
      · rw [List.mem_singleton.1 hs]; exact h2 _
      · cases hs
/-- The chain's order. -/
def revL (k : Nat) : List ByteArray := (List.range k).map (fun i => nmB (k - 1 - i))
theorem revL_len (k : Nat) : (revL k).length = k := by unfold revL; simp
theorem revL_get {i k : Nat} (hi : i < k) : (revL k).getD i ⟨#[]⟩ = nmB (k - 1 - i) := by
  unfold revL
  rw [List.getD_eq_getElem?_getD, List.getElem?_map, List.getElem?_range hi]; rfl
theorem revL_take {i k : Nat} (hk : k ≤ 41) (hi : i ≤ k) (m : Nat) (hm : m < k) : nmB m ∈ (revL k).take i ↔ k - i ≤ m := by
  unfold revL
  rw [← List.map_take, List.take_range, List.mem_map]
  constructor
  · rintro ⟨j, hj, e⟩
    rw [List.mem_range] at hj
    have := nm_inj (by omega) (by omega) e
    omega
  · intro h
    exact ⟨k - 1 - m, List.mem_range.2 (by omega), by congr 1; omega⟩
theorem chain_topo {k : Nat} (h2 : 2 ≤ k) (hk : k ≤ 41) : topoL (risL (nmL k)) (finN (nmL k) (nmK k false k)) = revL k := by
  have hl : (risL (nmL k)).length = k := by rw [nmL_ris hk, nmL_len]
  have h := kahn_list (G := risL (nmL k)) (N := finN (nmL k) (nmK k false k)) (revL k) (fun i hi => by
    rw [revL_len] at hi
    rw [revL_get hi]
    unfold nextK
    refine find_only (risL_mem.2 (nmL_mem.2 ⟨_, by omega, rfl⟩)) (decide_eq_true ((fin_rdy _ _ _ _).2 ⟨fun hm => ?_, fun t ht _ _ => ?_⟩)) (fun y hy hp => ?_)
    · have := (revL_take hk (by omega) (k - 1 - i) (by omega)).1 hm
      omega
    · rw [nm_need hk false (by omega)] at ht
      unfold nkB at ht
      by_cases hlt : k - 1 - i + 1 < k
      · rw [if_pos hlt, List.mem_singleton] at ht
        rw [ht]
        exact (revL_take hk (by omega) _ hlt).2 (by omega)
      · rw [if_neg hlt, if_neg (by simp)] at ht
        cases ht
    · obtain ⟨m, hm, rfl⟩ := nmL_mem.1 (risL_mem.1 hy)
      obtain ⟨h1, h3⟩ := (fin_rdy _ _ _ _).1 (of_decide_eq_true hp)
      have h4 : ¬ k - i ≤ m := fun h => h1 ((revL_take hk (by omega) m hm).2 h)
      by_cases h5 : m = k - 1 - i
      · rw [h5]
      · exfalso
        have h6 := h3 (nmB (m + 1)) ((nm_need hk false hm _).2 (by unfold nkB; rw [if_pos (by omega)]; simp)) (fun e => by have := nm_inj (by omega) (by omega) e; omega) (nmL_mem.2 ⟨_, by omega, rfl⟩)
        have := (revL_take hk (by omega) (m + 1) (by omega)).1 h6
        omega) k (by rw [revL_len]; exact Nat.le_refl _)
  unfold topoL
  rw [hl, h, List.take_of_length_le (by rw [revL_len]; exact Nat.le_refl _)]
theorem chain_all {k : Nat} (hk : k ≤ 41) : ∀ s ∈ nmL k, s ∈ revL k := by
  intro s hs
  obtain ⟨m, hm, rfl⟩ := nmL_mem.1 hs
  have := (revL_take hk (Nat.le_refl k) m hm).2 (by omega)
  rwa [List.take_of_length_le (by rw [revL_len]; exact Nat.le_refl _)] at this
/-- Who needs the next, in a ring. -/
theorem ring_next {k : Nat} (h2 : 2 ≤ k) (hk : k ≤ 41) {i : Nat} (hi : i < k) : ∃ j, j < k ∧ j ≠ i ∧ Need (nmL k) (nmK k true k) (nmB i) (nmB j) := by
  by_cases h : i + 1 < k
  · exact ⟨i + 1, h, by omega, (nm_need hk true hi _).2 (by unfold nkB; rw [if_pos h]; simp)⟩
  · exact ⟨0, by omega, by omega, (nm_need hk true hi _).2 (by unfold nkB; rw [if_neg h, if_pos rfl]; simp)⟩
theorem ring_topo {k : Nat} (h2 : 2 ≤ k) (hk : k ≤ 41) : topoL (risL (nmL k)) (finN (nmL k) (nmK k true k)) = [] := by
  have h : nextK (risL (nmL k)) (finN (nmL k) (nmK k true k)) (kahnL (risL (nmL k)) (finN (nmL k) (nmK k true k)) 0) = none := by
    unfold nextK
    refine List.find?_eq_none.2 (fun s hs hp => ?_)
    obtain ⟨m, hm, rfl⟩ := nmL_mem.1 (risL_mem.1 hs)
    obtain ⟨_, h3⟩ := (fin_rdy _ _ _ _).1 (of_decide_eq_true hp)
    obtain ⟨j, hj, hne, hnd⟩ := ring_next h2 hk hm
    have := h3 _ hnd (fun e => hne (nm_inj (by omega) (by omega) e)) (nmL_mem.2 ⟨j, hj, rfl⟩)
    cases this
  have h3 := kahn_stop h (risL (nmL k)).length
  rw [Nat.zero_add] at h3
  exact h3
theorem ring_all {k : Nat} (h2 : 2 ≤ k) : ¬ ∀ s ∈ nmL k, s ∈ ([] : List ByteArray) := fun h => by
  have := h _ (nmL_mem.2 ⟨0, by omega, rfl⟩)
  cases this
theorem ring_rch {k : Nat} (h2 : 2 ≤ k) (hk : k ≤ 41) {mt : List ByteArray} (h : ∀ s, s ∈ mt ↔ Rch (finN (nmL k) (nmK k true k)) [nmB 0] s) : (risL mt).length = k := by
  have hm : ∀ i, i < k → Rch (finN (nmL k) (nmK k true k)) [nmB 0] (nmB i) := by
    intro i
    induction i with
    | zero => exact fun h => .root (by simp) ((fin_some _ _ _).2 (nmL_mem.2 ⟨0, h, rfl⟩))
    | succ i ih => exact fun h => .step (ih (by omega)) ((fin_mem _ _ _ _).2 ((nm_need hk true (by omega) _).2 (by unfold nkB; rw [if_pos h]; simp))) ((fin_some _ _ _).2 (nmL_mem.2 ⟨i + 1, h, rfl⟩))
  have e : risL mt = risL (nmL k) := risL_ext (fun s => by
    rw [h s]
    constructor
    · intro hr; exact (fin_some _ _ _).1 hr.isN
    · intro hs
      obtain ⟨i, hi, rfl⟩ := nmL_mem.1 hs
      exact hm i hi)
  rw [e, nmL_ris hk, nmL_len]
end Go.Proofs.Ytdliecailkkciaa

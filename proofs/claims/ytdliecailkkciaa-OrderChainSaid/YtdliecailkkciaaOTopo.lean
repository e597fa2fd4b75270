/-
  Who waits for whom; a name that leaves stands behind all that it needs. No program text.
-/
import Derived.Test.YtdliecailkkciaaOFull
namespace Go.Proofs.Ytdliecailkkciaa
open Go.RowKit
set_option linter.unusedVariables false

theorem inW_mem (N : ByteArray → Option (List ByteArray)) (s : ByteArray) (ms : List ByteArray) (W : ByteArray → Option (List ByteArray)) (u t : ByteArray) : ∀ j, j ≤ ms.length → (u ∈ getN (inW N s ms W j) t ↔ u ∈ getN W t ∨ (u = s ∧ t ∈ ms.take j ∧ nd N s t = true))
  | 0, _ => by simp [inW]
  | j + 1, h => by
    have ih := fun t => inW_mem N s ms W u t j (by omega)
    rw [take_next (l := ms) (j := j) (by omega), List.mem_append, List.mem_singleton]
    unfold inW stepW
    by_cases hn : nd N s (ms.getD j ⟨#[]⟩) = true
    · rw [if_pos hn, getN_put]
      by_cases e : t = ms.getD j ⟨#[]⟩
      · rw [if_pos e, List.mem_append, List.mem_singleton, ← e, ih t]
        rw [← e] at hn
        constructor
        · rintro ((h1 | ⟨h1, h2, h3⟩) | h1)
          · exact .inl h1
          · exact .inr ⟨h1, .inl h2, h3⟩
          · exact .inr ⟨h1, .inr rfl, hn⟩
        · rintro (h1 | ⟨h1, _, _⟩)
          · exact .inl (.inl h1)
          · exact .inr h1
      · rw [if_neg e, ih t]
        constructor
        · rintro (h1 | ⟨h1, h2, h3⟩)
          · exact .inl h1
          · exact .inr ⟨h1, .inl h2, h3⟩
        · rintro (h1 | ⟨h1, h2 | h2, h3⟩)
          · exact .inl h1
          · exact .inr ⟨h1, h2, h3⟩
          · exact absurd h2 e
    · rw [if_neg hn, ih t]
      constructor
      · rintro (h1 | ⟨h1, h2, h3⟩)
        · exact .inl h1
        · exact .inr ⟨h1, .inl h2, h3⟩
      · rintro (h1 | ⟨h1, h2 | h2, h3⟩)
        · exact .inl h1
        · exact .inr ⟨h1, h2, h3⟩
        · rw [h2] at h3; exact absurd h3 hn
theorem outW_mem (G : List ByteArray) (N : ByteArray → Option (List ByteArray)) (u t : ByteArray) : ∀ i, i ≤ G.length → (u ∈ getN (outW G N i) t ↔ u ∈ G.take i ∧ t ∈ getN N u ∧ nd N u t = true)
  | 0, _ => by simp [outW, getN]
  | i + 1, h => by
    have ih := outW_mem G N u t i (by omega)
    rw [take_next (l := G) (j := i) (by omega), List.mem_append, List.mem_singleton]
    show u ∈ getN (inW N (G.getD i ⟨#[]⟩) (getN N (G.getD i ⟨#[]⟩)) (outW G N i) (getN N (G.getD i ⟨#[]⟩)).length) t ↔ _
    rw [inW_mem _ _ _ _ _ _ _ (Nat.le_refl _), List.take_length, ih]
    constructor
    · rintro (⟨h1, h2⟩ | ⟨rfl, h2⟩)
      · exact ⟨.inl h1, h2⟩
      · exact ⟨.inr rfl, h2⟩
    · rintro ⟨h1 | rfl, h2⟩
      · exact .inl ⟨h1, h2⟩
      · exact .inr ⟨rfl, h2⟩
/-- A row is gone only with its name. -/
theorem Pops.row {G : List ByteArray} {N : ByteArray → Option (List ByteArray)} {out l : List ByteArray} {W : ByteArray → Option (List ByteArray)} {C : ByteArray → Option Nat} (h : Pops G N out l W C) : ∀ t, t ∉ out → W t = outW G N G.length t := by
  induction h with
  | base => exact fun _ _ => rfl
  | @snoc out l l0 l' W C x hp hx h0 hl ih =>
    intro t ht
    show (if t = x then Option.none else W t) = _
    rw [if_neg (fun e => ht (by rw [e]; simp))]
    exact ih t (fun h => ht (List.mem_append_left _ h))
/-- Whose number is 0 needs only what has left. -/
theorem Pops.ready {G : List ByteArray} {N : ByteArray → Option (List ByteArray)} {out l : List ByteArray} {W : ByteArray → Option (List ByteArray)} {C : ByteArray → Option Nat} (h : Pops G N out l W C) (hk : Keep G N W C out l) (hN : ∀ x, (N x).isSome = true → x ∈ G) {s : ByteArray} (hs : s ∈ G) : getC C s = 0 ↔ ∀ t ∈ getN N s, nd N s t = true → t ∈ out := by
  rw [hk.inv s]
  unfold sumG
  constructor
  · intro hc t ht hn
    refine Classical.byContradiction (fun hto => ?_)
    have htG : t ∈ G := hN t (by unfold nd at hn; exact (Bool.and_eq_true _ _ ▸ hn).2)
    have h1 := sum_ge (f := fun t => cnt s (getN W t)) htG
    have h2 : s ∈ getN W t := by
      unfold getN
      rw [h.row t hto]
      have := (outW_mem G N s t G.length (Nat.le_refl _)).2 ⟨by rw [List.take_length]; exact hs, ht, hn⟩
      exact this
    have h3 : 0 < cnt s (getN W t) := List.countP_pos_iff.2 ⟨s, h2, by simp⟩
    have h4 : cnt s (getN W t) ≤ 0 := by rw [← hc]; exact h1
    omega
  · intro ha
    have : G.map (fun t => cnt s (getN W t)) = G.map (fun _ => 0) := List.map_congr_left (fun t ht => by
      show cnt s (getN W t) = 0
      refine Nat.le_zero.1 (Nat.not_lt.1 (fun hp => ?_))
      obtain ⟨u, hu, he⟩ := List.countP_pos_iff.1 hp
      have he' : u = s := by simpa using he
      rw [he'] at hu
      by_cases hto : t ∈ out
      · have : getN W t = [] := by unfold getN; rw [h.gone t hto]; rfl
        rw [this] at hu; cases hu
      · have e : getN W t = getN (outW G N G.length) t := by unfold getN; rw [h.row t hto]
        rw [e] at hu
        have := (outW_mem G N s t G.length (Nat.le_refl _)).1 hu
        exact hto (ha t this.2.1 this.2.2))
    rw [this]
    have hz : ∀ L : List ByteArray, (L.map (fun _ => 0)).sum = 0 := fun L => by
      induction L with
      | nil => rfl
      | cons y L ih => rw [List.map_cons, List.sum_cons, ih]
    exact hz G
end Go.Proofs.Ytdliecailkkciaa

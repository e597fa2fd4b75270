/-
  Sort's loop leaves nobody out: who waits for nobody is ready, or has left. No program text.
-/
import Derived.Test.YtdliecailkkciaaONewE
namespace Go.Proofs.Ytdliecailkkciaa
open Go.RowKit
set_option linter.unusedVariables false

theorem psh_full (us : List ByteArray) (C : ByteArray → Option Nat) (s : ByteArray) (hs : 1 ≤ getC C s) : ∀ j, j ≤ us.length → getC (dcC us C j) s = 0 → s ∈ psh us C j
  | 0, _, h => by
    have h2 : getC C s = 0 := h
    omega
  | j + 1, hj, h => by
    have ih := psh_full us C s hs j (by omega)
    have hst : getC (dcC us C (j + 1)) s = if s = us.getD j ⟨#[]⟩ then getC (dcC us C j) s - 1 else getC (dcC us C j) s := by
      show getC (putC (dcC us C j) (us.getD j ⟨#[]⟩) (getC (dcC us C j) (us.getD j ⟨#[]⟩) - 1)) s = _
      rw [getC_put]
      by_cases e : s = us.getD j ⟨#[]⟩
      · rw [if_pos e, if_pos e, ← e]
      · rw [if_neg e, if_neg e]
    rw [hst] at h
    unfold psh
    by_cases e : s = us.getD j ⟨#[]⟩
    · rw [if_pos e] at h
      rw [← e]
      by_cases h1 : getC (dcC us C j) s = 1
      · rw [if_pos h1]; exact List.mem_append_right _ (List.mem_singleton.2 rfl)
      · rw [if_neg h1]; exact ih (by omega)
    · rw [if_neg e] at h
      have := ih h
      split
      · exact List.mem_append_left _ this
      · exact this
theorem outR_mono (G : List ByteArray) (N : ByteArray → Option (List ByteArray)) {i m : Nat} (h : i ≤ m) : ∀ s ∈ outR G N i, s ∈ outR G N m := by
  induction h with
  | refl => exact fun _ h => h
  | step _ ih =>
    intro s hs
    unfold outR
    split
    · exact List.mem_append_left _ (ih s hs)
    · exact ih s hs
theorem outR_full {G : List ByteArray} {N : ByteArray → Option (List ByteArray)} (hG : G.Nodup) : ∀ s ∈ G, getC (outC G N G.length) s = 0 → s ∈ outR G N G.length := by
  intro s hs h
  obtain ⟨i, hi, rfl⟩ := List.getElem_of_mem hs
  refine outR_mono G N (i := i + 1) hi _ ?_
  rw [outC_later hG (i := i + 1) (List.mem_take_iff_getElem.2 ⟨i, by omega, rfl⟩) G.length hi (Nat.le_refl _)] at h
  unfold outR
  rw [getD_get hi, if_pos h]
  simp
theorem Pops.full {G : List ByteArray} {N : ByteArray → Option (List ByteArray)} (hG : G.Nodup) {out l : List ByteArray} {W : ByteArray → Option (List ByteArray)} {C : ByteArray → Option Nat} (h : Pops G N out l W C) : ∀ s ∈ G, getC C s = 0 → s ∈ out ++ l := by
  induction h with
  | base => intro s hs h; exact outR_full hG s hs h
  | @snoc out l l0 l' W C x hp hx h0 hl ih =>
    intro s hs hc
    by_cases h1 : getC C s = 0
    · have := ih s hs h1
      rcases List.mem_append.1 this with h2 | h2
      · simp [h2]
      · have h3 := h0.mem_iff.2 h2
        rcases List.mem_append.1 h3 with h4 | h4
        · exact List.mem_append_right _ (hl.mem_iff.2 (List.mem_append_left _ h4))
        · rw [List.mem_singleton] at h4
          simp [h4]
    · have h2 := psh_full (getN W x) C s (by omega) _ (Nat.le_refl _) hc
      exact List.mem_append_right _ (hl.mem_iff.2 (List.mem_append_right _ h2))
theorem Pops.gone {G : List ByteArray} {N : ByteArray → Option (List ByteArray)} {out l : List ByteArray} {W : ByteArray → Option (List ByteArray)} {C : ByteArray → Option Nat} (h : Pops G N out l W C) : ∀ x ∈ out, W x = none := by
  induction h with
  | base => intro x hx; cases hx
  | @snoc out l l0 l' W C x hp hx h0 hl ih =>
    intro y hy
    show (if y = x then none else W y) = none
    by_cases e : y = x
    · rw [if_pos e]
    · rw [if_neg e]
      rcases List.mem_append.1 hy with h1 | h1
      · exact ih y h1
      · exact absurd (List.mem_singleton.1 h1) e
theorem inW_none {G : List ByteArray} {N : ByteArray → Option (List ByteArray)} (hN : ∀ x, (N x).isSome = true → x ∈ G) (s : ByteArray) (ms : List ByteArray) (W : ByteArray → Option (List ByteArray)) {t : ByteArray} (ht : t ∉ G) (h : W t = none) : ∀ j, inW N s ms W j t = none
  | 0 => h
  | j + 1 => by
    have ih := inW_none hN s ms W ht h j
    unfold inW stepW
    by_cases hn : nd N s (ms.getD j ⟨#[]⟩) = true
    · rw [if_pos hn]
      unfold putN
      rw [if_neg (fun e => ht (by rw [e]; exact hN _ (by unfold nd at hn; exact (Bool.and_eq_true _ _ ▸ hn).2)))]
      exact ih
    · rw [if_neg hn]; exact ih
theorem outW_none {G : List ByteArray} {N : ByteArray → Option (List ByteArray)} (hN : ∀ x, (N x).isSome = true → x ∈ G) {t : ByteArray} (ht : t ∉ G) : ∀ i, outW G N i t = none
  | 0 => rfl
  | i + 1 => inW_none hN _ _ _ ht (outW_none hN ht i) _
theorem Pops.none {G : List ByteArray} {N : ByteArray → Option (List ByteArray)} (hN : ∀ x, (N x).isSome = true → x ∈ G) {out l : List ByteArray} {W : ByteArray → Option (List ByteArray)} {C : ByteArray → Option Nat} (h : Pops G N out l W C) {t : ByteArray} (ht : t ∉ G) : W t = none := by
  induction h with
  | base => exact outW_none hN ht _
  | @snoc out l l0 l' W C x hp hx h0 hl ih =>
    show (if t = x then Option.none else W t) = Option.none
    split
    · rfl
    · exact ih
/-- Sort's answer is OK just where all names have left. -/
theorem Pops.all {G : List ByteArray} {N : ByteArray → Option (List ByteArray)} (hG : G.Nodup) (hN : ∀ x, (N x).isSome = true → x ∈ G) {out : List ByteArray} {W : ByteArray → Option (List ByteArray)} {C : ByteArray → Option Nat} (h : Pops G N out [] W C) (hk : Keep G N W C out []) : (∀ s, W s = Option.none) ↔ ∀ s ∈ G, s ∈ out := by
  constructor
  · intro hw s hs
    have h1 : getC C s = 0 := by
      rw [hk.inv s]
      unfold sumG
      have : G.map (fun t => cnt s (getN W t)) = G.map (fun _ => 0) := List.map_congr_left (fun t _ => by
        show cnt s ((W t).getD []) = 0
        rw [hw t]; rfl)
      rw [this]
      have hz : ∀ L : List ByteArray, (L.map (fun _ => 0)).sum = 0 := fun L => by
        induction L with
        | nil => rfl
        | cons y L ih => rw [List.map_cons, List.sum_cons, ih]
      exact hz G
    simpa using h.full hG s hs h1
  · intro ha s
    by_cases hs : s ∈ G
    · exact h.gone s (ha s hs)
    · exact h.none hN hs
end Go.Proofs.Ytdliecailkkciaa

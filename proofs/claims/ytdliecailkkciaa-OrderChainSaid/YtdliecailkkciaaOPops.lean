/-
  What Sort's loop keeps. No program text.
-/
import Derived.Test.YtdliecailkkciaaOInv
namespace Go.Proofs.Ytdliecailkkciaa
open Go.RowKit
set_option linter.unusedVariables false

theorem nodup_len {α : Type} [DecidableEq α] : ∀ {a b : List α}, a.Nodup → (∀ x ∈ a, x ∈ b) → a.length ≤ b.length
  | [], _, _, _ => Nat.zero_le _
  | x :: a, b, hn, hs => by
    have hn' := List.nodup_cons.1 hn
    have h1 := nodup_len (a := a) (b := b.filter (fun y => decide (y ≠ x))) hn'.2 (fun y hy => List.mem_filter.2 ⟨hs y (List.mem_cons_of_mem _ hy), by
      have : y ≠ x := fun e => hn'.1 (e ▸ hy)
      simp [this]⟩)
    have hx : x ∈ b := hs x (List.mem_cons_self ..)
    have h2 : (b.filter (fun y => decide (y ≠ x))).length < b.length := by
      refine List.length_filter_lt_length_iff_exists.2 ⟨x, hx, by simp⟩
    simp only [List.length_cons]
    omega
theorem psh_mem (us : List ByteArray) (C : ByteArray → Option Nat) : ∀ j, j ≤ us.length → (psh us C j).Nodup ∧ ∀ u ∈ psh us C j, getC (dcC us C j) u = 0 ∧ 1 ≤ getC C u ∧ u ∈ us
  | 0, _ => ⟨by simp [psh], fun u h => by simp [psh] at h⟩
  | j + 1, h => by
    obtain ⟨h1, h2⟩ := psh_mem us C j (by omega)
    have hle : ∀ u, getC (dcC us C j) u ≤ getC C u := fun u => by rw [dcC_get us C j u (by omega)]; omega
    have hst : ∀ u, getC (dcC us C (j + 1)) u = if u = us.getD j ⟨#[]⟩ then getC (dcC us C j) u - 1 else getC (dcC us C j) u := fun u => by
      show getC (putC (dcC us C j) (us.getD j ⟨#[]⟩) (getC (dcC us C j) (us.getD j ⟨#[]⟩) - 1)) u = _
      rw [getC_put]
      by_cases e : u = us.getD j ⟨#[]⟩
      · rw [if_pos e, if_pos e, ← e]
      · rw [if_neg e, if_neg e]
    have hz : ∀ u, getC (dcC us C j) u = 0 → getC (dcC us C (j + 1)) u = 0 := fun u hu => by
      rw [hst u]
      by_cases e : u = us.getD j ⟨#[]⟩
      · rw [if_pos e]; omega
      · rw [if_neg e]; exact hu
    unfold psh
    by_cases hc : getC (dcC us C j) (us.getD j ⟨#[]⟩) = 1
    · rw [if_pos hc]
      refine ⟨List.nodup_append.2 ⟨h1, by simp, fun a ha c hc' => ?_⟩, fun u hu => ?_⟩
      · rw [List.mem_singleton] at hc'
        rintro rfl
        have := (h2 a ha).1
        rw [hc'] at this
        omega
      · rcases List.mem_append.1 hu with hu | hu
        · exact ⟨hz u (h2 u hu).1, (h2 u hu).2⟩
        · rw [List.mem_singleton] at hu
          refine ⟨?_, ?_, ?_⟩
          · rw [hst u, if_pos hu, hu, hc]
          · have := hle u; rw [hu] at this ⊢; omega
          · rw [hu]; exact getD_mem2 (by omega)
    · rw [if_neg hc]
      exact ⟨h1, fun u hu => ⟨hz u (h2 u hu).1, (h2 u hu).2⟩⟩
/-- What Sort's loop keeps: out has left the queue, l is in the heap. -/
structure Keep (G : List ByteArray) (N W : ByteArray → Option (List ByteArray)) (C : ByteArray → Option Nat) (out l : List ByteArray) : Prop where
  inv : Inv G W C
  rows : ∀ t, getN W t = getN (outW G N G.length) t ∨ getN W t = []
  zero : ∀ s ∈ out ++ l, getC C s = 0
  nodup : (out ++ l).Nodup
  sub : ∀ s ∈ out ++ l, s ∈ G
theorem Keep.perm {G : List ByteArray} {N W : ByteArray → Option (List ByteArray)} {C : ByteArray → Option Nat} {out l l' : List ByteArray} (h : Keep G N W C out l) (hp : l'.Perm l) : Keep G N W C out l' :=
  ⟨h.inv, h.rows, fun s hs => h.zero s ((hp.append_left out).mem_iff.1 hs), (hp.append_left out).nodup_iff.2 h.nodup, fun s hs => h.sub s ((hp.append_left out).mem_iff.1 hs)⟩
theorem Keep.len {G : List ByteArray} {N W : ByteArray → Option (List ByteArray)} {C : ByteArray → Option Nat} {out l : List ByteArray} (h : Keep G N W C out l) : out.length + l.length ≤ G.length := by
  have := nodup_len h.nodup h.sub
  rwa [List.length_append] at this
theorem Keep.next {G : List ByteArray} {N W : ByteArray → Option (List ByteArray)} {C : ByteArray → Option Nat} {out l l0 l' : List ByteArray} {x : ByteArray} (hG : G.Nodup) (hin : ∀ t, ∀ u ∈ getN (outW G N G.length) t, u ∈ G) (h : Keep G N W C out l) (h0 : (l0 ++ [x]).Perm l) (hl : l'.Perm (l0 ++ psh (getN W x) C (getN W x).length)) :
    Keep G N (fun y => if y = x then none else W y) (dcC (getN W x) C (getN W x).length) (out ++ [x]) l' := by
  have hk := h.perm h0
  have hxG : x ∈ G := hk.sub x (by simp)
  obtain ⟨p1, p2⟩ := psh_mem (getN W x) C _ (Nat.le_refl _)
  refine Keep.perm ?_ hl
  have hmem : ∀ s, s ∈ out ++ [x] ++ (l0 ++ psh (getN W x) C (getN W x).length) ↔ s ∈ out ++ (l0 ++ [x]) ∨ s ∈ psh (getN W x) C (getN W x).length := fun s => by
    simp only [List.mem_append, List.mem_singleton]
    constructor
    · rintro ((h | h) | h | h)
      · exact .inl (.inl h)
      · exact .inl (.inr (.inr h))
      · exact .inl (.inr (.inl h))
      · exact .inr h
    · rintro ((h | h | h) | h)
      · exact .inl (.inl h)
      · exact .inr (.inl h)
      · exact .inl (.inr h)
      · exact .inr (.inr h)
  refine ⟨h.inv.next hG hxG, fun t => ?_, fun s hs => ?_, ?_, fun s hs => ?_⟩
  · by_cases e : t = x
    · right
      show (if t = x then none else W t).getD [] = []
      rw [if_pos e]; rfl
    · have : getN (fun y => if y = x then none else W y) t = getN W t := by
        show (if t = x then none else W t).getD [] = _
        rw [if_neg e]; rfl
      rw [this]; exact h.rows t
  · rcases (hmem s).1 hs with h1 | h1
    · have := hk.zero s h1
      rw [dcC_get _ _ _ _ (Nat.le_refl _)]; omega
    · exact (p2 s h1).1
  · have hperm : (out ++ [x] ++ (l0 ++ psh (getN W x) C (getN W x).length)).Perm ((out ++ (l0 ++ [x])) ++ psh (getN W x) C (getN W x).length) := by
      rw [← List.append_assoc, List.append_assoc out]
      refine List.Perm.append_right _ ?_
      exact (List.perm_append_comm).append_left out
    refine hperm.nodup_iff.2 (List.nodup_append.2 ⟨hk.nodup, p1, fun a ha c hc => ?_⟩)
    rintro rfl
    have := hk.zero a ha
    have := (p2 a hc).2.1
    omega
  · rcases (hmem s).1 hs with h1 | h1
    · exact hk.sub s h1
    · have h2 := (p2 s h1).2.2
      rcases h.rows x with h3 | h3
      · rw [h3] at h2; exact hin x s h2
      · rw [h3] at h2; cases h2
end Go.Proofs.Ytdliecailkkciaa

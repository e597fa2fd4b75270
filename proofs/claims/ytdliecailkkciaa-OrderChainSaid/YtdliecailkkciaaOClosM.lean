/-
  What some names need, and so on, as a relation; what Closure's loop keeps. No program text.
-/
import Derived.Test.YtdliecailkkciaaOKahn
namespace Go.Proofs.Ytdliecailkkciaa
open Go.RowKit
set_option linter.unusedVariables false

/-- What these names need, and so on; names alone. -/
inductive Rch (N : ByteArray → Option (List ByteArray)) (R : List ByteArray) : ByteArray → Prop
  | root {s : ByteArray} : s ∈ R → (N s).isSome = true → Rch N R s
  | step {s t : ByteArray} : Rch N R s → t ∈ getN N s → (N t).isSome = true → Rch N R t
theorem Rch.isN {N : ByteArray → Option (List ByteArray)} {R : List ByteArray} {s : ByteArray} (h : Rch N R s) : (N s).isSome = true := by
  cases h with
  | root _ h => exact h
  | step _ _ h => exact h
/-- What Closure's loop keeps: mt is met, td is still to be looked at. -/
structure CI (N : ByteArray → Option (List ByteArray)) (R mt td : List ByteArray) : Prop where
  nd : mt.Nodup
  met : ∀ s ∈ mt, Rch N R s
  todo : ∀ s ∈ td, (N s).isSome = true → Rch N R s
  roots : ∀ s ∈ R, (N s).isSome = true → s ∈ mt ∨ s ∈ td
  needs : ∀ s ∈ mt, ∀ t ∈ getN N s, (N t).isSome = true → t ∈ mt ∨ t ∈ td
theorem CI.start (N : ByteArray → Option (List ByteArray)) (R : List ByteArray) : CI N R [] R :=
  ⟨List.nodup_nil, fun s h => (by cases h), fun s h hs => .root h hs, fun s h _ => .inr h, fun s h => (by cases h)⟩
theorem CI.drop {N : ByteArray → Option (List ByteArray)} {R mt td : List ByteArray} {s : ByteArray} (h : CI N R mt (td ++ [s])) (hs : s ∈ mt ∨ (N s).isSome = false) : CI N R mt td := by
  have key : ∀ t, (N t).isSome = true → (t ∈ mt ∨ t ∈ td ++ [s]) → t ∈ mt ∨ t ∈ td := by
    intro t ht h1
    rcases h1 with h1 | h1
    · exact .inl h1
    · rcases List.mem_append.1 h1 with h2 | h2
      · exact .inr h2
      · rw [List.mem_singleton] at h2
        subst h2
        rcases hs with h3 | h3
        · exact .inl h3
        · rw [h3] at ht; cases ht
  exact ⟨h.nd, h.met, fun t ht => h.todo t (List.mem_append_left _ ht), fun t ht hn => key t hn (h.roots t ht hn), fun u hu t ht hn => key t hn (h.needs u hu t ht hn)⟩
theorem CI.add {N : ByteArray → Option (List ByteArray)} {R mt td : List ByteArray} {s : ByteArray} (h : CI N R mt (td ++ [s])) (hs : s ∉ mt) (hn : (N s).isSome = true) : CI N R (mt ++ [s]) (td ++ getN N s) := by
  have hr : Rch N R s := h.todo s (by simp) hn
  have key : ∀ t, (t ∈ mt ∨ t ∈ td ++ [s]) → t ∈ mt ++ [s] ∨ t ∈ td ++ getN N s := by
    intro t h1
    rcases h1 with h1 | h1
    · exact .inl (List.mem_append_left _ h1)
    · rcases List.mem_append.1 h1 with h2 | h2
      · exact .inr (List.mem_append_left _ h2)
      · exact .inl (List.mem_append_right _ h2)
  refine ⟨List.nodup_append.2 ⟨h.nd, by simp, fun a ha b hb => ?_⟩, fun t ht => ?_, fun t ht hnt => ?_, fun t ht hnt => key t (h.roots t ht hnt), fun u hu t ht hnt => ?_⟩
  · rw [List.mem_singleton] at hb
    rintro rfl
    exact hs (hb ▸ ha)
  · rcases List.mem_append.1 ht with h1 | h1
    · exact h.met t h1
    · rw [List.mem_singleton] at h1; rw [h1]; exact hr
  · rcases List.mem_append.1 ht with h1 | h1
    · exact h.todo t (List.mem_append_left _ h1) hnt
    · exact .step hr h1 hnt
  · rcases List.mem_append.1 hu with h1 | h1
    · exact key t (h.needs u h1 t ht hnt)
    · rw [List.mem_singleton] at h1
      subst h1
      exact .inr (List.mem_append_right _ ht)
theorem CI.ended {N : ByteArray → Option (List ByteArray)} {R mt : List ByteArray} (h : CI N R mt []) (s : ByteArray) : s ∈ mt ↔ Rch N R s := by
  refine ⟨h.met s, fun hr => ?_⟩
  induction hr with
  | root h1 h2 => exact (h.roots _ h1 h2).elim id (fun h3 => by cases h3)
  | step h1 h2 h3 ih => exact (h.needs _ ih _ h2 h3).elim id (fun h3 => by cases h3)
theorem CI.len {G : List ByteArray} {N : ByteArray → Option (List ByteArray)} {R mt td : List ByteArray} (h : CI N R mt td) (hN : ∀ x, (N x).isSome = true → x ∈ G) : mt.length ≤ G.length :=
  nodup_len h.nd (fun x hx => hN x (h.met x hx).isN)
/-- How many rounds are to come at most. -/
def tmC (g K m t : Nat) : Nat := (g - m) * (K + 1) + t
theorem tmC_drop (g K m n : Nat) : tmC g K m n < tmC g K m (n + 1) := by unfold tmC; omega
theorem tmC_add {g K m n k : Nat} (hk : k ≤ K) (hm : m + 1 ≤ g) : tmC g K (m + 1) (n + k) < tmC g K m (n + 1) := by
  unfold tmC
  have : (g - m) * (K + 1) = (g - (m + 1)) * (K + 1) + (K + 1) := by
    have e : g - m = (g - (m + 1)) + 1 := by omega
    rw [e, Nat.add_mul, Nat.one_mul]
  omega
/-- A set as a map's contents. -/
noncomputable def setM (mt : List ByteArray) : ByteArray → Option Value := fun s => if s ∈ mt then some (.agg #[]) else none
theorem setM_nil : setM [] = fun _ => none := by
  funext s
  unfold setM
  rw [if_neg (by simp)]
theorem setM_put (mt : List ByteArray) (s : ByteArray) : putM (setM mt) s (.agg #[]) = setM (mt ++ [s]) := by
  funext x
  unfold putM setM
  by_cases h : x = s
  · rw [if_pos h, if_pos (by rw [h]; simp)]
  · rw [if_neg h]
    by_cases h2 : x ∈ mt
    · rw [if_pos h2, if_pos (List.mem_append_left _ h2)]
    · rw [if_neg h2, if_neg (fun h3 => (List.mem_append.1 h3).elim h2 (fun h4 => h (List.mem_singleton.1 h4)))]
/-- Texts that rise are told by what stands among them. -/
theorem ris_ext {a b : List ByteArray} (ha : a.Pairwise (fun x y => btsOf x < btsOf y)) (hb : b.Pairwise (fun x y => btsOf x < btsOf y)) (h : ∀ x, x ∈ a ↔ x ∈ b) : a = b := by
  have e : a.map btsOf = b.map btsOf := inc_ext (List.pairwise_map.2 ha) (List.pairwise_map.2 hb) (fun x => by
    constructor
    · intro hx
      obtain ⟨y, hy, rfl⟩ := List.mem_map.1 hx
      exact List.mem_map.2 ⟨y, (h y).1 hy, rfl⟩
    · intro hx
      obtain ⟨y, hy, rfl⟩ := List.mem_map.1 hx
      exact List.mem_map.2 ⟨y, (h y).2 hy, rfl⟩)
  have e2 : (a.map btsOf).map unb = (b.map btsOf).map unb := by rw [e]
  rw [List.map_map, List.map_map] at e2
  have : (unb ∘ btsOf) = id := by funext x; exact unb_bts x
  rwa [this, List.map_id, List.map_id] at e2
theorem risL_ext {a b : List ByteArray} (h : ∀ x, x ∈ a ↔ x ∈ b) : risL a = risL b := ris_ext (risL_inc a) (risL_inc b) (fun x => by rw [risL_mem, risL_mem]; exact h x)
end Go.Proofs.Ytdliecailkkciaa

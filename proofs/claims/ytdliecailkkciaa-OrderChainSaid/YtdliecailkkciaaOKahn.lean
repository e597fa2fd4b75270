/-
  Sort's answer as a function: at each place the first of the names that is not there yet and needs only those that are. No program text.
-/
import Derived.Test.YtdliecailkkciaaOTopo
namespace Go.Proofs.Ytdliecailkkciaa
open Go.RowKit
set_option linter.unusedVariables false

/-- May s stand behind these? -/
def Rdy (N : ByteArray → Option (List ByteArray)) (out : List ByteArray) (s : ByteArray) : Prop := s ∉ out ∧ ∀ t ∈ getN N s, nd N s t = true → t ∈ out
noncomputable instance rdyDec (N : ByteArray → Option (List ByteArray)) (out : List ByteArray) (s : ByteArray) : Decidable (Rdy N out s) := Classical.propDecidable _
noncomputable def nextK (G : List ByteArray) (N : ByteArray → Option (List ByteArray)) (out : List ByteArray) : Option ByteArray := G.find? (fun s => decide (Rdy N out s))
noncomputable def kahnL (G : List ByteArray) (N : ByteArray → Option (List ByteArray)) : Nat → List ByteArray
  | 0 => []
  | n + 1 => match nextK G N (kahnL G N n) with
    | .some s => kahnL G N n ++ [s]
    | .none => kahnL G N n
theorem Pops.keep {G : List ByteArray} {N : ByteArray → Option (List ByteArray)} (hG : G.Nodup) (hN : ∀ x, (N x).isSome = true → x ∈ G) {out l : List ByteArray} {W : ByteArray → Option (List ByteArray)} {C : ByteArray → Option Nat} (h : Pops G N out l W C) : Keep G N W C out l := by
  induction h with
  | base => exact Keep.start hG hN
  | snoc hp hx h0 hl ih => exact ih.next hG (outW_in G N _ (Nat.le_refl _)) h0 hl
/-- The heap holds just who may stand next. -/
theorem Pops.mem {G : List ByteArray} {N : ByteArray → Option (List ByteArray)} (hG : G.Nodup) (hN : ∀ x, (N x).isSome = true → x ∈ G) {out l : List ByteArray} {W : ByteArray → Option (List ByteArray)} {C : ByteArray → Option Nat} (h : Pops G N out l W C) (s : ByteArray) : s ∈ l ↔ s ∈ G ∧ Rdy N out s := by
  have hk := h.keep hG hN
  constructor
  · intro hs
    have hsG := hk.sub s (List.mem_append_right _ hs)
    refine ⟨hsG, fun ho => ?_, (h.ready hk hN hsG).1 (hk.zero s (List.mem_append_right _ hs))⟩
    exact (List.nodup_append.1 hk.nodup).2.2 s ho s hs rfl
  · rintro ⟨hsG, hno, hr⟩
    have := h.full hG s hsG ((h.ready hk hN hsG).2 hr)
    exact (List.mem_append.1 this).elim (fun h => absurd h hno) id
theorem find_least {p : ByteArray → Bool} {x : ByteArray} : ∀ {G : List ByteArray}, G.Pairwise (fun x y => btsOf x < btsOf y) → x ∈ G → p x = true → (∀ y ∈ G, p y = true → ¬ btsOf y < btsOf x) → G.find? p = some x
  | [], _, h, _, _ => by cases h
  | y :: G, hp, hx, hpx, hl => by
    have hp' := List.pairwise_cons.1 hp
    by_cases e : y = x
    · subst e; rw [List.find?_cons, hpx]
    · have hxG : x ∈ G := (List.mem_cons.1 hx).elim (fun h => absurd h.symm e) id
      have hy : p y = false := by
        cases hpy : p y with
        | false => rfl
        | true => exact absurd (hp'.1 x hxG) (hl y (List.mem_cons_self ..) hpy)
      rw [List.find?_cons, hy]
      exact find_least hp'.2 hxG hpx (fun z hz => hl z (List.mem_cons_of_mem _ hz))
theorem Pops.is_kahn {G : List ByteArray} {N : ByteArray → Option (List ByteArray)} (hG : G.Pairwise (fun x y => btsOf x < btsOf y)) (hN : ∀ x, (N x).isSome = true → x ∈ G) {out l : List ByteArray} {W : ByteArray → Option (List ByteArray)} {C : ByteArray → Option Nat} (h : Pops G N out l W C) : out = kahnL G N out.length := by
  have hnd : G.Nodup := List.Pairwise.imp (R := fun x y : ByteArray => btsOf x < btsOf y) (S := fun x y => x ≠ y) (fun {a b} h e => by subst e; exact bt_irr _ h) hG
  induction h with
  | base => rfl
  | @snoc out l l0 l' W C x hp hx h0 hl ih =>
    have hxl : x ∈ l := h0.mem_iff.1 (by simp)
    have hm := fun s => hp.mem hnd hN s
    have hf : nextK G N out = some x := by
      unfold nextK
      refine find_least hG ((hm x).1 hxl).1 (decide_eq_true ((hm x).1 hxl).2) (fun y hy hp => ?_)
      exact hx y ((hm y).2 ⟨hy, of_decide_eq_true hp⟩)
    rw [List.length_append, List.length_singleton]
    rw [kahnL, ← ih, hf]
/-- Where the heap is empty, nobody may stand next. -/
theorem Pops.ended {G : List ByteArray} {N : ByteArray → Option (List ByteArray)} (hG : G.Nodup) (hN : ∀ x, (N x).isSome = true → x ∈ G) {out : List ByteArray} {W : ByteArray → Option (List ByteArray)} {C : ByteArray → Option Nat} (h : Pops G N out [] W C) : nextK G N out = Option.none := by
  unfold nextK
  refine List.find?_eq_none.2 (fun s hs hp => ?_)
  have := (h.mem hG hN s).2 ⟨hs, of_decide_eq_true hp⟩
  cases this
end Go.Proofs.Ytdliecailkkciaa

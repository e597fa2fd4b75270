/-
  What lay and take share: changes of single blocks, a spot's cells. No program text but the types' numbers.
-/
import Derived.Test.YtbempgdndmchlaaDoorEIns
import Derived.Test.YtbempgdndmchlaaDoorESIns
import Derived.Test.YtbempgdndmchlaaDoorEFrame
namespace Go.Proofs.YtbempgdndmchlaaDoor
open Go.RowKit
set_option linter.unusedVariables false

theorem has_fr {w w' : World} {S : List Nat} {b : Nat} {L : List Value} {t : TypeId} (h : Has w b L t) (hf : Fr S w w') (hb : b ∉ S) : Has w' b L t := (hf.block b h.lt hb).trans h
theorem Fr.setCell {S : List Nat} {w x : World} (h : Fr S w x) {b : Nat} (hb : b ∈ S ∨ w.heap.size ≤ b) (i : Nat) (v : Value) : Fr S w (x.setCell ⟨b, i, none⟩ v) :=
  ⟨h.os, h.tape, h.output, by simpa [World.setCell] using h.size, fun g hg hn => (heap_setCell_other x ⟨b, i, none⟩ g v (fun e => by
    have e' : g = b := e
    subst e'
    rcases hb with h1 | h1
    · exact hn h1
    · omega)).trans (h.block g hg hn)⟩
theorem Fr.alloc {S : List Nat} {w x : World} (h : Fr S w x) (o : Obj) : Fr S w (x.alloc o) :=
  h.trans (S' := []) (Fr.of_below ((Below.refl _ _).alloc (Nat.le_refl _) o)) (fun g hg => by simp at hg)
theorem Fr.drew {S : List Nat} {w x : World} (h : Fr S w x) : Fr S w x.drew :=
  h.trans (S' := []) (Fr.of_below (Below.refl _ _).drew) (fun g hg => by simp at hg)
theorem owns_alloc {w : World} {B size n : Nat} {t : TypeId} {v : Value} {xs : List Value} (h : w.ownsRow B t size v n xs) (o : Obj) : (w.alloc o).ownsRow B t size v n xs := World.ownsRow.alloc h o
theorem owns_drew {w : World} {B size n : Nat} {t : TypeId} {v : Value} {xs : List Value} (h : w.ownsRow B t size v n xs) : w.drew.ownsRow B t size v n xs := h
theorem has_range {w : World} {b : Nat} {L : List Value} {t : TypeId} (h : Has w b L t) : w.rangeAt b 0 L := fun j v hv => by
  have := h.cellAt hv
  rw [Nat.zero_add]
  exact this
theorem slice_owned {w : World} {B size n : Nat} {t : TypeId} {v : Value} {xs : List Value} (h : w.ownsRow B t size v n xs) : ∃ a m c, v = .slice a m c := by
  rcases h.2 with ⟨rfl, _⟩ | ⟨g, cap, cur', rfl, _⟩
  · exact ⟨_, _, _, rfl⟩
  · exact ⟨_, _, _, rfl⟩
theorem own_type2 {w : World} {B b size n : Nat} {L xs : List Value} {t e : TypeId} {v : Value} (h : w.ownsRow B e size v n xs) (h' : Has w b L t) (ht : e ≠ t) : v.ownBlock ≠ some b := fun ek => by
  rcases h.2 with ⟨rfl, _⟩ | ⟨g, cap, cur, rfl, hb, hg, _⟩
  · cases ek
  · cases ek
    have := hg.symm.trans (show w.heap[g]? = some (.cells L.toArray t (0, 0)) from h')
    simp only [Option.some.injEq, Obj.cells.injEq] at this
    exact ht this.2.1
theorem blk_lt {w : World} {B size n : Nat} {t : TypeId} {v : Value} {xs : List Value} (h : w.ownsRow B t size v n xs) {g : Nat} (hg : v.ownBlock = some g) : g < w.heap.size := by
  rcases h.2 with ⟨rfl, _⟩ | ⟨q, cap, cur, rfl, _, hq, _⟩
  · cases hg
  · cases hg; exact (Array.getElem?_eq_some_iff.1 hq).1
theorem owns_set2 {w : World} {B size n : Nat} {t : TypeId} {v : Value} {xs : List Value} (h : w.ownsRow B t size v n xs) {b : Nat} (hb : v.ownBlock ≠ some b) (i : Nat) (u : Value) : (w.setCell ⟨b, i, none⟩ u).ownsRow B t size v n xs :=
  owns_fr h ((Fr.refl [b] w).setCell (.inl (by simp)) i u) (fun g hg hm => by
    simp only [List.mem_cons, List.not_mem_nil, or_false] at hm
    subst hm
    exact hb (mem_blk.1 hg))
theorem owns_grown3 {w w2 : World} {B B' n size n' size' : Nat} {e e' : TypeId} {v v' : Value} {xs xs' : List Value} (hx : w.ownsRow B' e' size' v' n' xs') (h : w.ownsRow B e size v n xs) (he : e ≠ e') (hg : w.grownBy w2 v.ownBlock) : w2.ownsRow B' e' size' v' n' xs' :=
  owns_fr hx (Fr.of_grown (S := blk v) hg (fun g h => mem_blk.2 h)) (fun g h1 h2 => by
    rw [mem_blk] at h1 h2
    rcases h.2 with ⟨rfl, _⟩ | ⟨q, cap, cur, rfl, _, hq, _⟩
    · cases h2
    · rcases hx.2 with ⟨rfl, _⟩ | ⟨q', cap', cur', rfl, _, hq', _⟩
      · cases h1
      · cases h1; cases h2
        rw [hq] at hq'
        cases hq'
        exact he rfl)

/-- The cells of a spot. -/
def spC (db o : Nat) (x : ByteArray) (i dep : Nat) (tk : Bool) : List Value := [.pointer (some ⟨db, o, none⟩), .string x, .int .i64 (i : Int), .int .i64 (dep : Int), .bool tk]

theorem has_setRow {w : World} {g : Nat} {L L' : List Value} {t : TypeId} (h : Has w g L t) : Has (w.setRow g L'.toArray) g L' t := setRow_heap w g L.toArray L'.toArray t (0, 0) h
theorem has_setRow_other {w : World} {b g : Nat} {L : List Value} {t : TypeId} (h : Has w b L t) (hne : b ≠ g) (R : Array Value) : Has (w.setRow g R) b L t := (setRow_other w g b R hne).trans h
theorem Fr.setRow {S : List Nat} {w x : World} (h : Fr S w x) {b : Nat} (hb : b ∈ S ∨ w.heap.size ≤ b) (R : Array Value) : Fr S w (x.setRow b R) :=
  ⟨h.os, h.tape, h.output, by simpa [World.setRow] using h.size, fun g hg hn => (setRow_other x b g R (fun e => by
    subst e
    rcases hb with h1 | h1
    · exact hn h1
    · omega)).trans (h.block g hg hn)⟩
theorem range_five {w : World} {kb n i : Nat} {cur : List Value} {L : List Value} {t : TypeId} (h : Has w kb cur t) (hL : cur.take (n * 5) = L) (hi : i < n) : w.rangeAt kb (i * 5) (five L i) := fun j v hv => by
  have hj : j < 5 := by
    have := (List.getElem?_eq_some_iff.1 hv).1
    unfold five at this
    rw [List.length_take] at this
    omega
  rw [five_get j hj, ← hL, List.getElem?_take] at hv
  split at hv
  · exact h.cellAt hv
  · cases hv

end Go.Proofs.YtbempgdndmchlaaDoor

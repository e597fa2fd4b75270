/-
  What a block holds, and a world that is as it was but for one block and new ones. No program text.
-/
import Derived.Test.YtnajafnbickiiaaDoorRows
import Derived.WalkKit
import Derived.WalkSpells
import Derived.WalkLawsBesides
import Derived.Lib.Hide
namespace Go.Proofs.YtnajafnbickiiaaDoor
open Go.RowKit

/-- Block b holds just these cells. -/
def Has (w : World) (b : Nat) (L : List Value) (t : TypeId) : Prop := w.heap[b]? = some (.cells L.toArray t (0, 0))

theorem Has.lt {w : World} {b : Nat} {L : List Value} {t : TypeId} (h : Has w b L t) : b < w.heap.size := (Array.getElem?_eq_some_iff.1 h).1
theorem Has.cellAt {w : World} {b : Nat} {L : List Value} {t : TypeId} (h : Has w b L t) {i : Nat} {v : Value} (hv : L[i]? = some v) : w.cell? ⟨b, i, none⟩ = some v := by
  rw [cell_of_row w b i _ t _ h]; simpa using hv
theorem Has.frozen {w : World} {b : Nat} {L : List Value} {t : TypeId} (h : Has w b L t) (i : Nat) : w.frozen? ⟨b, i, none⟩ = false := frozen_of_row w b i _ t h
theorem Has.set {w : World} {b : Nat} {L : List Value} {t : TypeId} (h : Has w b L t) (i : Nat) (v : Value) : Has (w.setCell ⟨b, i, none⟩ v) b (L.set i v) t := by
  have := heap_setCell_same w b i _ t v h
  simpa [Has] using this
theorem Has.setOther {w : World} {b : Nat} {L : List Value} {t : TypeId} (h : Has w b L t) {a : Addr} (ha : b ≠ a.block) (v : Value) : Has (w.setCell a v) b L t :=
  (heap_setCell_other w a b v ha).trans h
theorem Has.alloc {w : World} {b : Nat} {L : List Value} {t : TypeId} (h : Has w b L t) (o : Obj) : Has (w.alloc o) b L t := (Go.RowKit.Below.heap_alloc w o b h.lt).trans h
theorem Has.drew {w : World} {b : Nat} {L : List Value} {t : TypeId} (h : Has w b L t) : Has w.drew b L t := h
theorem Has.new (w : World) (L : List Value) (t : TypeId) : Has (w.alloc (.cells L.toArray t)) w.heap.size L t := heap_alloc_new w _
theorem Has.below {w w' : World} {b B : Nat} {L : List Value} {t : TypeId} (h : Has w b L t) (hb : Below B w w') (hlt : b < B) : Has w' b L t := (hb.block b hlt).trans h
theorem Has.row {w : World} {b : Nat} {L : List Value} {t : TypeId} (h : Has w b L t) (M : List Value) : Has (w.setRow b M.toArray) b M t := setRow_heap w b _ _ t _ h
theorem Has.rowOther {w : World} {b : Nat} {L : List Value} {t : TypeId} (h : Has w b L t) {g : Nat} (hg : b ≠ g) (c : Array Value) : Has (w.setRow g c) b L t := (setRow_other w g b c hg).trans h

/-- Below B all is as it was but for block b. -/
structure But (B b : Nat) (w w' : World) : Prop where
  os : w'.os = w.os
  tape : w'.tape = w.tape
  output : w'.output = w.output
  size : w.heap.size ≤ w'.heap.size
  block : ∀ k, k < B → k ≠ b → w'.heap[k]? = w.heap[k]?

theorem But.refl (B b : Nat) (w : World) : But B b w w := ⟨rfl, rfl, rfl, Nat.le_refl _, fun _ _ _ => rfl⟩
theorem But.trans {B b : Nat} {x y z : World} (h : But B b x y) (k : But B b y z) : But B b x z :=
  ⟨k.os.trans h.os, k.tape.trans h.tape, k.output.trans h.output, Nat.le_trans h.size k.size, fun i hi hb => (k.block i hi hb).trans (h.block i hi hb)⟩
theorem But.mono {B B' b : Nat} {w w' : World} (h : But B b w w') (hB : B' ≤ B) : But B' b w w' := ⟨h.os, h.tape, h.output, h.size, fun k hk hb => h.block k (Nat.lt_of_lt_of_le hk hB) hb⟩
theorem But.of_below {B b : Nat} {w w' : World} (h : Below B w w') : But B b w w' := ⟨h.os, h.tape, h.output, h.size, fun k hk _ => h.block k hk⟩
theorem But.drew {B b : Nat} {x w : World} (h : But B b x w) : But B b x w.drew := ⟨h.os, h.tape, h.output, h.size, h.block⟩
theorem But.alloc {B b : Nat} {x w : World} (h : But B b x w) (hB : B ≤ w.heap.size) (o : Obj) : But B b x (w.alloc o) :=
  h.trans (.of_below ((Below.refl _ _).alloc hB o))
theorem But.setCell {B b : Nat} {x w : World} (h : But B b x w) {p : Addr} (hp : B ≤ p.block ∨ p.block = b) (u : Value) : But B b x (w.setCell p u) :=
  h.trans ⟨rfl, rfl, rfl, by simp [World.setCell], fun k hk hb => Below.heap_setCell _ _ _ _ (by omega)⟩
theorem But.setB {B b : Nat} {x w : World} (h : But B b x w) (i : Nat) (u : Value) : But B b x (w.setCell ⟨b, i, none⟩ u) := h.setCell (p := ⟨b, i, none⟩) (.inr rfl) u
theorem But.setRow {B b : Nat} {x w : World} (h : But B b x w) {g : Nat} (hp : B ≤ g ∨ g = b) (c : Array Value) : But B b x (w.setRow g c) :=
  h.trans ⟨rfl, rfl, rfl, by simp, fun k hk hb => setRow_other w g k c (by omega)⟩
/-- From the block itself on new: then it is as below. -/
theorem But.below {B b : Nat} {w w' : World} (h : But B b w w') (hb : B ≤ b) : Below B w w' := ⟨h.os, h.tape, h.output, h.size, fun k hk => h.block k hk (by omega)⟩
theorem Has.but {w w' : World} {b b' B : Nat} {L : List Value} {t : TypeId} (h : Has w b L t) (hb : But B b' w w') (hlt : b < B) (hne : b ≠ b') : Has w' b L t := (hb.block b hlt hne).trans h

def wv (n : Nat) : Value := .int .u32 (n : Int)
def byv (n : Nat) : Value := .int .u8 (n : Int)

end Go.Proofs.YtnajafnbickiiaaDoor

/-
  The contract of awake: the document's examples hold. No conditions.
-/
import Derived.Test.YtoonbnfageefnaaRows
import Derived.Test.YtoonbnfageefnaaHex
namespace Go.Proofs.Ytoonbnfageefnaa
open Go.RowKit

theorem enc_a : (enc [255]).toArray = #[55, 122] := by decide
theorem enc_b : (enc [0, 1]).toArray = #[48, 48, 56, 48] := by decide
theorem hex_c : (hexL [0, 255]).toArray = #[48, 48, 102, 102] := by decide

theorem By_new (w : World) (C : Array Value) (t : TypeId) (l : List UInt8) (h : C = (l.map bv).toArray) : By (w.alloc (.cells C t)) w.heap.size 0 l := by
  intro i hi
  rw [Nat.zero_add, World.cell?_alloc_at C t _ _ rfl, h]
  simp [hi, bv, List.getD]

theorem new_lt (w : World) (o : Obj) : w.heap.size < (w.alloc o).heap.size := by simp

set_option maxHeartbeats 400000 in
theorem awake_any (w : World) :
    Calls Try.prog 9 #[] w fun e w' => e = .returned (.bool true) ∧ Below w.heap.size w w' := by
  go_enter Try.func9, Try.ntmps9
  go_wp2_with fail
  refine (encode_any w.heap.size 0 1 [255] _ (by decide) (by decide) (By_new w _ _ _ rfl) (new_lt w _)).mono ?_
  rintro e w1 ⟨rfl, hb1⟩
  rw [enc_a]
  go_wp2_with fail
  refine (encode_any w1.heap.size 0 2 [0, 1] _ (by decide) (by decide) (By_new w1 _ _ _ rfl) (new_lt w1 _)).mono ?_
  rintro e w2 ⟨rfl, hb2⟩
  rw [enc_b]
  go_wp2_with fail
  refine (hex_any w2.heap.size 0 2 [0, 255] _ (by decide) (by decide) (By_new w2 _ _ _ rfl) (new_lt w2 _)).mono ?_
  rintro e w3 ⟨rfl, hb3⟩
  rw [hex_c]
  go_wp2_with fail
  go_ret
  have s1 := hb1.size
  have s2 := hb2.size
  have s3 := hb3.size
  simp at s1 s2 s3
  refine ⟨rfl, ?_⟩
  have t1 : Below w.heap.size w w1 := ((Below.refl _ _).alloc (Nat.le_refl _) _).trans (hb1.mono (by simp))
  have t2 : Below w.heap.size w w2 := (t1.alloc (by omega) _).trans (hb2.mono (by simp; omega))
  exact (t2.alloc (by omega) _).trans (hb3.mono (by simp; omega))

end Go.Proofs.Ytoonbnfageefnaa

/-
  The contract of the reference's Is; and: of two texts one is below the other, or they are alike. Condition: the text's bound.
-/
import Derived.Test.YtokbakpbhpknfaaDvForm
import Derived.Test.YtokbakpbhpknfaaRParse
import Derived.Test.YtokbakpbhpknfaaRReadHex
import Derived.Test.YtokbakpbhpknfaaRfSort
import Derived.Deep.RegionHeld3
namespace Go.Proofs.Ytokbakpbhpknfaa
open Go.RowKit
set_option linter.unusedVariables false

theorem less_iff : ∀ x y : List UInt8, Op.bytesLess x y = true ↔ x < y
  | [], [] => by simp [Op.bytesLess]
  | [], _ :: _ => by simp [Op.bytesLess]
  | _ :: _, [] => by simp [Op.bytesLess]
  | a :: x, b :: y => by
    rw [lt_cons, ← less_iff x y]
    simp [Op.bytesLess]
theorem geB_leS (s p : ByteArray) : geB s p = leS s p := by
  unfold geB leS
  rw [Bool.eq_iff_iff, Bool.not_eq_true', ← Bool.not_eq_true, less_iff, Bool.or_eq_true, less_iff, beq_iff_eq, bt_not]
  constructor
  · rintro (h | h)
    · exact .inr h
    · exact .inl h
  · rintro (h | h)
    · exact .inr h
    · exact .inl h

theorem rparse_form {o : Option (List UInt8 × List UInt8)} {w w' : World} {e : Ending} (h : Nam.RParsePost o w e w') :
    ∃ (D : List UInt8) (n : ByteArray), e = .returned (.tuple #[.agg (D.map Nam.bv).toArray, .string n, .bool o.isSome]) ∧ D.length = 20 := by
  obtain ⟨hs, hn, _⟩ := h
  cases o with
  | none => exact ⟨Nam.zU, _, hn rfl, rfl⟩
  | some q =>
    obtain ⟨d, m⟩ := q
    obtain ⟨hd, he⟩ := hs d m rfl
    exact ⟨d, _, he, hd⟩

set_option maxRecDepth 100000 in
set_option maxHeartbeats 4000000 in
theorem ris_any (s : ByteArray) (w : World) (hm : s.size ≤ 140737488355328) :
    Calls Try.prog 34 #[.string s] w fun e w' => e = .returned (.bool (isP s.data.toList)) ∧ Below w.heap.size w w' := by
  obtain ⟨O, hO⟩ : ∃ O, O = Nam.parseP s.data.toList := ⟨_, rfl⟩
  have HO := Lib.hid hO
  have HP : Hid (isP s.data.toList = O.isSome) := Lib.hid (by rw [hO]; rfl)
  clear hO
  go_enter Try.func34, Try.ntmps34
  go_wp2_with fail
  refine (Nam.rparse_any s _ hm).mono ?_
  rintro e w1 hq
  have b1 := hq.2.2
  obtain ⟨D, n, rfl, hD⟩ := rparse_form hq
  rw [← HO.out]
  have hc := Nam.c20 D hD
  obtain ⟨C, hC⟩ : ∃ C, C = (D.map Nam.bv).toArray := ⟨_, rfl⟩
  rw [← hC] at hc ⊢
  obtain ⟨r, hr⟩ : ∃ r, r = O.isSome := ⟨_, rfl⟩
  have HR := Lib.hid hr
  rw [← hr]
  have I1 := Lib.hid hc.info
  have I2 := Lib.hid hc.size
  have I3 := Lib.hid hc.one
  have B1 := Lib.hid b1
  clear hq hC hc b1 hr hD
  go_wp2_with (refine wpList_store_row rfl 54 _ _ rfl w1.heap.size C rfl rfl 54 _ (heap_alloc_new w1 _) I1.out I2.out.symm I3.out ?_)
  go_ret
  exact ⟨by rw [HP.out, ← HR.out]; rfl, below_setRow (B1.out.alloc B1.out.size _) B1.out.size _⟩
end Go.Proofs.Ytokbakpbhpknfaa

/-
  A parameter of 32 bytes, opened.
-/
import Derived.Test.YtokbakpbhpknfaaGreatDoorBut
import Derived.Lib.LaidTab
import Derived.Below
namespace Go.Proofs.YtokbakpbhpknfaaGreatDoor
open Go.RowKit

theorem open_bytes_arr {H : Type} {enc : TypeId × Value → H} {P : Program} {w : World} {base : Nat} {sp : Nat → Bool} {held : Bool} {t e : TypeId} {n : Nat} {C : Array Value} {d : DataW H} {p : List MemPlace}
    (ht : P.underlying t = some (.array n e)) (he : P.underlying e = some (.int .u8)) (hce : P.cellsOf e = 1) (hct : P.cellsOf t = n)
    (h : DataW.Trod enc P w base sp held t (.agg C) d p) : ∃ D : List Nat, C = (D.map byv).toArray ∧ D.length = n ∧ ∀ x ∈ D, x < 256 := by
  obtain ⟨fuel, h⟩ := h
  cases fuel with
  | zero => simp [DataW.trod] at h
  | succ fuel =>
    simp only [DataW.trod, ht, hce, hct, Nat.mul_one] at h
    split at h
    · rename_i hl
      obtain ⟨xs, hm, hx⟩ := Option.map_eq_some_iff.1 h
      have hl' : C.size = n := by simpa [Value.cells] using hl
      have hall : ∀ i, i < n → ∃ x : Nat, x < 256 ∧ C[i]? = some (byv x) := by
        intro i hi
        obtain ⟨b, hb, hf⟩ := Lib.mapM_at hm i i (by simp [hi])
        obtain ⟨z, hc, _, hw⟩ := DataW.trod_int he hf
        have h1 : C[i]? = some (.int .u8 z) := by
          have := congrArg (·[0]?) hc
          simpa [List.getElem?_take, List.getElem?_drop, Value.cells] using this
        simp only [Lit.wf, Bool.and_eq_true, decide_eq_true_eq] at hw
        have hmin : IntKind.u8.min = 0 := rfl
        have hmax : IntKind.u8.max = 255 := rfl
        refine ⟨z.toNat, by omega, ?_⟩
        rw [h1]; unfold byv
        congr 2; omega
      refine ⟨(List.range n).map fun i => (intOf (C.getD i undef)).toNat, ?_, by simp, ?_⟩
      · apply Array.ext_getElem?
        intro i
        by_cases hi : i < n
        · obtain ⟨x, hx1, hx2⟩ := hall i hi
          rw [hx2]
          simp [hi, hx2, byv, intOf]
        · rw [Array.getElem?_eq_none (by omega)]
          rw [eq_comm, Array.getElem?_eq_none (by simp; omega)]
      · intro x hx
        obtain ⟨i, hi, rfl⟩ := List.mem_map.1 hx
        obtain ⟨x, hx1, hx2⟩ := hall i (by simpa using hi)
        simp [hx2, byv, intOf]; omega
    · cases h

end Go.Proofs.YtokbakpbhpknfaaGreatDoor

/-
  What the row's condition gives: the first state and the primes lie where the program's text lays them.
-/
import Derived.Test.YtgjckddcnmbceaaGreatDoorJKeeps
import Derived.Test.YtgjckddcnmbceaaGreatDoorTie
import Derived.Lib.LaidTab
import Derived.LaidMore
import Derived.Lay
import Derived.ProofKit
import Derived.OpenShut
import Derived.Stop.Joined
namespace Go.Proofs.YtgjckddcnmbceaaGreatDoor
open Go.ChangeShapes Go.WideShapes Go.ChangeAt Go.RowKit
set_option linter.unusedVariables false

theorem gStart : Tryz.prog.globalNamed "staddle/hash.start" = some 0 := by kernel_rfl
theorem gPrimes : Tryz.prog.globalNamed "staddle/hash.primes" = some 3 := by kernel_rfl
theorem tStart : (Tryz.prog.globals[0]?).map (·.type) = some 121 := by kernel_rfl
theorem tPrimes : (Tryz.prog.globals[3]?).map (·.type) = some 148 := by kernel_rfl

theorem block_of_var {P : Program} {W : World} {name : String} {g : Nat} {cs : Array Value} (hg : P.globalNamed name = some g) (hv : W.var? P name = some cs) : ∃ t fr, W.heap[g]? = some (.cells cs t fr) := by
  unfold World.var? at hv
  rw [hg] at hv
  simp only [Option.bind_some] at hv
  split at hv
  · rename_i c t fr hb
    cases hv
    exact ⟨t, fr, hb⟩
  · cases hv

theorem laid_met {W : World} (h : laidMetH Tryz.prog Rows.journalKeepsRow.laid W) : LaidW W := by
  rw [MakeChecks.laidMetH_plain _ _ _ (by kernel_rfl)] at h
  obtain ⟨ps, ⟨gA, tA, csA, fA, pA, qA, hgA, htA, hvA, hdA, ⟨g0, t0, cs0, f0, p0, q0, hg0, ht0, hv0, hd0, ⟨g1, t1, cs1, f1, p1, q1, hg1, ht1, hv1, hd1, _, _⟩, _⟩, _⟩, _, _⟩ := h
  obtain rfl := Option.some.inj (gStart.symm.trans hg0)
  obtain rfl := Option.some.inj (gPrimes.symm.trans hg1)
  obtain rfl := Option.some.inj (tStart.symm.trans ht0)
  obtain rfl := Option.some.inj (tPrimes.symm.trans ht1)
  have e0 : (Rows.laid_staddle_hash_start : DataW Unit) = Lib.tabData .u32 (startL.map fun (n : Nat) => (n : Int)) := rfl
  have e1 : (Rows.laid_staddle_hash_primes : DataW Unit) = Lib.tabData .u64 (primesL.map fun (n : Nat) => (n : Int)) := rfl
  rw [e0] at hd0
  rw [e1] at hd1
  have c0 := Lib.cells_of_tab Tryz.underlying121 Tryz.underlying120 (by kernel_rfl) (by kernel_rfl) hd0
  have c1 := Lib.cells_of_tab Tryz.underlying148 Tryz.underlying60 (by kernel_rfl) (by kernel_rfl) hd1
  obtain ⟨ta, fa, ba⟩ := block_of_var hg0 hv0
  obtain ⟨tb, fb, bb⟩ := block_of_var hg1 hv1
  have k0 : cs0 = (startL.map wv).toArray := by
    rw [← Array.toArray_toList (xs := cs0), c0]; rfl
  have k1 : cs1 = (primesL.map fun (n : Nat) => Value.int .u64 (n : Int)).toArray := by
    rw [← Array.toArray_toList (xs := cs1), c1]; rfl
  have hlt : 3 < W.heap.size := (Array.getElem?_eq_some_iff.1 bb).1
  refine ⟨⟨ta, fa, by rw [← k0]; exact ba⟩, fun i hi => ?_, hlt⟩
  rw [World.var?_cell hg1 hv1 i, k1, List.getElem?_toArray]
  exact map_get (fun n => Value.int .u64 (n : Int)) primesL i hi

end Go.Proofs.YtgjckddcnmbceaaGreatDoor

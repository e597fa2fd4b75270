/-
  What the row's condition gives: words, signs and the error lie where the program's text lays them.
-/
import Derived.Test.YtjoiddlknocdfaaDoorLWr
import Derived.Test.YtjoiddlknocdfaaDoorTie
import Derived.Lib.LaidTab
import Derived.LaidLaws
import Derived.Stop.LaidErr
import Derived.ProofKit
import Derived.OpenShut
namespace Go.Proofs.YtjoiddlknocdfaaDoor
open Go.ChangeShapes Go.WideShapes Go.ChangeAt Go.RowKit
set_option linter.unusedVariables false

def strData {H : Type} (l : List (List UInt8)) : DataW H := .agg (l.map fun s => .lit (.string s))

theorem cells_of_strs {H : Type} {enc : TypeId × Value → H} {P : Program} {w : World} {base : Nat} {sp : Nat → Bool} {held : Bool} {fuel : Nat} {t e : TypeId} {n : Nat} {cs : List Value} {zs : List (List UInt8)} {p : List MemPlace}
    (ht : P.underlying t = some (.array n e)) (he : P.underlying e = some .string) (hce : P.cellsOf e = 1) (hct : P.cellsOf t = n)
    (h : DataW.trod enc P w base sp held fuel t cs = some (strData zs, p)) : cs = (zs.map fun z => (⟨z.toArray⟩ : ByteArray)).map Value.string := by
  cases fuel with
  | zero => simp [DataW.trod] at h
  | succ fuel =>
    simp only [DataW.trod, ht, hce, hct, Nat.mul_one] at h
    split at h
    · rename_i hl
      obtain ⟨xs, hm, hx⟩ := Option.map_eq_some_iff.1 h
      have hxs : xs.map (·.1) = zs.map fun z => (DataW.lit (.string z) : DataW H) := by
        have := congrArg Prod.fst hx
        simpa [strData] using this
      have hxl : xs.length = n := by simpa using Lib.mapM_length hm
      have hzl : zs.length = n := by
        have := congrArg List.length hxs
        simp at this
        omega
      apply List.ext_getElem?
      intro i
      by_cases hi : i < n
      · obtain ⟨b, hb, hf⟩ := Lib.mapM_at hm i i (by simp [hi])
        obtain ⟨z, hc, rfl, _⟩ := DataW.trod_string he hf
        have h1 : cs[i]? = some (.string z) := by
          have := congrArg (·[0]?) hc
          simpa [List.getElem?_take, List.getElem?_drop] using this
        have h2 : (xs.map (·.1))[i]? = some (DataW.lit (.string z.data.toList) : DataW H) := by simp [hb]
        rw [hxs] at h2
        simp only [List.getElem?_map, Option.map_eq_some_iff, DataW.lit.injEq, Lit.string.injEq] at h2
        obtain ⟨z', hz', rfl⟩ := h2
        simp [h1, hz']
      · rw [List.getElem?_eq_none (by omega), List.getElem?_eq_none (by simp; omega)]
    · cases h

theorem gWords : Tryd.prog.globalNamed "staddle/lex.words" = some 0 := by kernel_rfl
theorem gSigns : Tryd.prog.globalNamed "staddle/lex.signs" = some 1 := by kernel_rfl
theorem gRange : Tryd.prog.globalNamed "strconv.ErrRange" = some 4 := by kernel_rfl
theorem tWords : (Tryd.prog.globals[0]?).map (·.type) = some 52 := by kernel_rfl
theorem tSigns : (Tryd.prog.globals[1]?).map (·.type) = some 57 := by kernel_rfl
theorem tRange : (Tryd.prog.globals[4]?).map (·.type) = some 54 := by kernel_rfl

theorem block_of_var {P : Program} {W : World} {name : String} {g : Nat} {cs : Array Value} (hg : P.globalNamed name = some g) (hv : W.var? P name = some cs) : ∃ t fr, W.heap[g]? = some (.cells cs t fr) := by
  unfold World.var? at hv
  rw [hg] at hv
  simp only [Option.bind_some] at hv
  split at hv
  · rename_i c t fr hb
    cases hv
    exact ⟨t, fr, hb⟩
  · cases hv

theorem laid_met {W : World} (h : laidMetH Tryd.prog Rows.lexCoversRow.laid W) : LaidL W := by
  rw [MakeChecks.laidMetH_plain _ _ _ (by kernel_rfl)] at h
  have h3 := h.tail.tail.tail
  have h5 := h3.tail.tail
  obtain ⟨ps, ⟨g0, t0, cs0, f0, p0, q0, hg0, ht0, hv0, hd0, ⟨g1, t1, cs1, f1, p1, q1, hg1, ht1, hv1, hd1, _, _⟩, _⟩, _, _⟩ := h5
  obtain ⟨pr, ⟨g2, t2, cs2, f2, p2, q2, hg2, ht2, hv2, hd2, _, _⟩, _, _⟩ := h3
  obtain rfl := Option.some.inj (gWords.symm.trans hg0)
  obtain rfl := Option.some.inj (gSigns.symm.trans hg1)
  obtain rfl := Option.some.inj (gRange.symm.trans hg2)
  obtain rfl := Option.some.inj (tWords.symm.trans ht0)
  obtain rfl := Option.some.inj (tSigns.symm.trans ht1)
  obtain rfl := Option.some.inj (tRange.symm.trans ht2)
  have e0 : (Rows.laid_staddle_lex_words : DataW Unit) = strData wordsL := rfl
  have e1 : (Rows.laid_staddle_lex_signs : DataW Unit) = strData signsL := rfl
  rw [e0] at hd0
  rw [e1] at hd1
  have c0 := cells_of_strs Tryd.underlying52 Tryd.underlying9 (by kernel_rfl) (by kernel_rfl) hd0
  have c1 := cells_of_strs Tryd.underlying57 Tryd.underlying9 (by kernel_rfl) (by kernel_rfl) hd1
  obtain ⟨_, u, v, c2, _, _⟩ := iface_of_trod Tryd.underlying54 hd2
  obtain ⟨ta, fa, ba⟩ := block_of_var hg0 hv0
  obtain ⟨tb, fb, bb⟩ := block_of_var hg1 hv1
  obtain ⟨tc, fc, bc⟩ := block_of_var hg2 hv2
  have k0 : cs0 = (wordB.map Value.string).toArray := by
    rw [← Array.toArray_toList (xs := cs0), c0]; rfl
  have k1 : cs1 = (signB.map Value.string).toArray := by
    rw [← Array.toArray_toList (xs := cs1), c1]; rfl
  have hlt : 4 < W.heap.size := (Array.getElem?_eq_some_iff.1 bc).1
  refine ⟨⟨ta, fa, by rw [← k0]; exact ba⟩, ⟨tb, fb, by rw [← k1]; exact bb⟩, ⟨.iface u v, ?_, .inr ⟨u, v, rfl⟩⟩, hlt⟩
  have := World.var?_cell hg2 hv2 0
  rw [this, ← Array.getElem?_toList, c2]; rfl

end Go.Proofs.YtjoiddlknocdfaaDoor

/-
  What a parser's row's condition gives: the lexer's words, signs and error and the parser's signs lie where the program's text lays them.
-/
import Derived.Test.YtnajafnbickiiaaDoorLWr
import Derived.Test.YtnajafnbickiiaaDoorPDat
import Derived.Test.YtnajafnbickiiaaDoorTie
import Derived.Lib.LaidTab
import Derived.LaidLaws
import Derived.Stop.LaidErr
import Derived.ProofKit
import Derived.OpenShut
import Derived.ChangeArms
import Derived.Deep.Strs
namespace Go.Proofs.YtnajafnbickiiaaDoor
open Go.ChangeShapes Go.WideShapes Go.ChangeAt Go.RowKit
set_option linter.unusedVariables false

def strData {H : Type} (l : List (List UInt8)) : DataW H := .agg (l.map fun s => .lit (.string s))

theorem cells_of_strs {H : Type} {enc : TypeId × Value → H} {P : Program} {w : World} {base : Nat} {sp : Nat → Bool} {held : Bool} {fuel : Nat} {t e : TypeId} {n : Nat} {cs : List Value} {zs : List (List UInt8)} {p : List MemPlace}
    (ht : P.underlying t = some (.array n e)) (he : P.underlying e = some .string) (hce : P.cellsOf e = 1) (hct : P.cellsOf t = n)
    (h : DataW.trod enc P w base sp held fuel t cs = some (strData zs, p)) : cs = (zs.map fun z => (⟨z.toArray⟩ : ByteArray)).map Value.string := by
  cases fuel with
  | zero => simp [DataW.trod] at h
  | succ fuel =>
    simp only [DataW.trod, ht, hce, hct, Nat.mul_one] at h
    split at h
    · rename_i hl
      obtain ⟨xs, hm, hx⟩ := Option.map_eq_some_iff.1 h
      have hxs : xs.map (·.1) = zs.map fun z => (DataW.lit (.string z) : DataW H) := by
        have := congrArg Prod.fst hx
        simpa [strData] using this
      have hxl : xs.length = n := by simpa using Lib.mapM_length hm
      have hzl : zs.length = n := by
        have := congrArg List.length hxs
        simp at this
        omega
      apply List.ext_getElem?
      intro i
      by_cases hi : i < n
      · obtain ⟨b, hb, hf⟩ := Lib.mapM_at hm i i (by simp [hi])
        obtain ⟨z, hc, rfl, _⟩ := DataW.trod_string he hf
        have h1 : cs[i]? = some (.string z) := by
          have := congrArg (·[0]?) hc
          simpa [List.getElem?_take, List.getElem?_drop] using this
        have h2 : (xs.map (·.1))[i]? = some (DataW.lit (.string z.data.toList) : DataW H) := by simp [hb]
        rw [hxs] at h2
        simp only [List.getElem?_map, Option.map_eq_some_iff, DataW.lit.injEq, Lit.string.injEq] at h2
        obtain ⟨z', hz', rfl⟩ := h2
        simp [h1, hz']
      · rw [List.getElem?_eq_none (by omega), List.getElem?_eq_none (by simp; omega)]
    · cases h

theorem gWords : Tryd.prog.globalNamed "staddle/lex.words" = some 0 := by kernel_rfl
theorem gSigns : Tryd.prog.globalNamed "staddle/lex.signs" = some 1 := by kernel_rfl
theorem gRange : Tryd.prog.globalNamed "strconv.ErrRange" = some 5 := by kernel_rfl
theorem tWords : (Tryd.prog.globals[0]?).map (·.type) = some 62 := by kernel_rfl
theorem tSigns : (Tryd.prog.globals[1]?).map (·.type) = some 67 := by kernel_rfl
theorem tRange : (Tryd.prog.globals[5]?).map (·.type) = some 64 := by kernel_rfl

theorem block_of_var {P : Program} {W : World} {name : String} {g : Nat} {cs : Array Value} (hg : P.globalNamed name = some g) (hv : W.var? P name = some cs) : ∃ t fr, W.heap[g]? = some (.cells cs t fr) := by
  unfold World.var? at hv
  rw [hg] at hv
  simp only [Option.bind_some] at hv
  split at hv
  · rename_i c t fr hb
    cases hv
    exact ⟨t, fr, hb⟩
  · cases hv


def sgD {H : Type} (g : List UInt8 × Nat × Bool) : DataW H := .agg [.lit (.string g.1), .lit (.int .i64 (g.2.1 : Int)), .lit (.bool g.2.2)]
def sgsD {H : Type} : DataW H := .agg (signsP.map sgD)
theorem three_of {cs : List Value} (h : cs.length = 3) : ∃ a b c, cs = [a, b, c] := by
  match cs, h with
  | [a, b, c], _ => exact ⟨a, b, c, rfl⟩
set_option maxRecDepth 100000 in
theorem cells_of_sg {H : Type} {enc : TypeId × Value → H} {w : World} {base : Nat} {sp : Nat → Bool} {held : Bool} {fuel : Nat} {cs : List Value} {g : List UInt8 × Nat × Bool} {x : DataW H × List MemPlace} (hg : x.1 = sgD g)
    (h : DataW.trod enc Tryd.prog w base sp held fuel 74 cs = some x) : cs = sgC g := by
  obtain ⟨y0, y1, y2, n, rfl, hl, h0, h1, h2⟩ := Go.Deep.trod_struct3 Tryd.underlying74 h
  have hl3 : cs.length = 3 := hl.trans (by kernel_rfl)
  have c0 : Tryd.prog.cellsOf 9 = 1 := by kernel_rfl
  have c1 : Tryd.prog.cellsOf 3 = 1 := by kernel_rfl
  have c2 : Tryd.prog.cellsOf 4 = 1 := by kernel_rfl
  obtain ⟨a, b, c, rfl⟩ := three_of hl3
  clear hl3 hl h
  simp only [c0, c1, c2, List.drop_zero, List.drop_succ_cons, List.take_succ_cons, List.take_zero] at h0 h1 h2
  obtain ⟨s, hs, rfl, _⟩ := DataW.trod_string Tryd.underlying9 h0
  obtain ⟨m, hm, rfl, _⟩ := DataW.trod_int Tryd.underlying3 h1
  obtain ⟨b', hb, rfl⟩ := DataW.trod_bool Tryd.underlying4 h2
  simp only [sgD, DataW.agg.injEq, List.cons.injEq, DataW.lit.injEq, Lit.string.injEq, Lit.int.injEq, Lit.bool.injEq, and_true, true_and] at hg
  simp only [List.cons.injEq, and_true] at hs hm hb
  obtain ⟨e1, e2, e3⟩ := hg
  subst hs hm hb
  rw [sgC, ← e1, ← e2, ← e3]
theorem chunks (c : Nat → List Value) : ∀ (n k : Nat) (cs : List Value), cs.length = n * 3 → (∀ i, i < n → (cs.drop (i * 3)).take 3 = c (k + i)) → cs = (List.range' k n).flatMap c
  | 0, k, cs, hl, h => by
    have : cs = [] := List.eq_nil_of_length_eq_zero (by omega)
    subst this; rfl
  | n + 1, k, cs, hl, h => by
    have h0 := h 0 (by omega)
    simp only [Nat.zero_mul, List.drop_zero, Nat.add_zero] at h0
    have ih := chunks c n (k + 1) (cs.drop 3) (by rw [List.length_drop]; omega) (fun i hi => by
      have := h (i + 1) (by omega)
      rw [List.drop_drop, show 3 + i * 3 = (i + 1) * 3 by omega, this, show k + (i + 1) = k + 1 + i by omega])
    rw [List.range'_succ, List.flatMap_cons, ← ih, ← h0, List.take_append_drop]
theorem cells_of_sgs {H : Type} {enc : TypeId × Value → H} {w : World} {base : Nat} {sp : Nat → Bool} {held : Bool} {fuel : Nat} {cs : List Value} {p : List MemPlace}
    (h : DataW.trod enc Tryd.prog w base sp held fuel 80 cs = some (sgsD, p)) : cs = sgAll := by
  obtain ⟨xs, m, rfl, hx, hl, hn, hf⟩ := DataW.trod_array Tryd.underlying80 h
  have hl2 : cs.length = 10 * 3 := hl.trans (by kernel_rfl)
  have ce : Tryd.prog.cellsOf 74 = 3 := by kernel_rfl
  rw [ce] at hf
  have hxs : xs.map (·.1) = signsP.map sgD := by
    have := congrArg Prod.fst hx
    simpa [sgsD] using this.symm
  refine (chunks (fun i => sgC (signsP.getD i ([], 0, false))) 10 0 cs hl2 (fun i hi => ?_)).trans (by rfl)
  rw [Nat.zero_add]
  have h1 := hf i hi
  obtain ⟨y, hy⟩ : ∃ y, xs[i]? = some y := ⟨_, List.getElem?_eq_getElem (by omega)⟩
  rw [hy] at h1
  refine cells_of_sg ?_ h1
  have h2 : (xs.map (·.1))[i]? = some y.1 := by rw [List.getElem?_map, hy]; rfl
  rw [hxs, List.getElem?_map] at h2
  have hi2 : i < signsP.length := hi
  rw [List.getElem?_eq_getElem hi2] at h2
  simp only [Option.map_some, Option.some.injEq] at h2
  rw [← h2, List.getD_eq_getElem?_getD, List.getElem?_eq_getElem hi2]; rfl
theorem gSgs : Tryd.prog.globalNamed "staddle/parse.signs" = some 2 := by kernel_rfl
theorem tSgs : (Tryd.prog.globals[2]?).map (·.type) = some 80 := by kernel_rfl

theorem laid_metP {W : World} (h : laidMetH Tryd.prog Rows.parseOrderRow.laid W) : LaidL W ∧ LaidP W := by
  rw [MakeChecks.laidMetH_plain _ _ _ (by kernel_rfl)] at h
  have h3 := h.tail.tail.tail
  have h5 := h3.tail.tail
  obtain ⟨ps, ⟨g0, t0, cs0, f0, p0, q0, hg0, ht0, hv0, hd0, ⟨g1, t1, cs1, f1, p1, q1, hg1, ht1, hv1, hd1, ⟨g3, t3, cs3, f3, p3, q3, hg3, ht3, hv3, hd3, _, _⟩, _⟩, _⟩, _, _⟩ := h5
  obtain ⟨pr, ⟨g2, t2, cs2, f2, p2, q2, hg2, ht2, hv2, hd2, _, _⟩, _, _⟩ := h3
  obtain rfl := Option.some.inj (gWords.symm.trans hg0)
  obtain rfl := Option.some.inj (gSigns.symm.trans hg1)
  obtain rfl := Option.some.inj (gRange.symm.trans hg2)
  obtain rfl := Option.some.inj (gSgs.symm.trans hg3)
  obtain rfl := Option.some.inj (tWords.symm.trans ht0)
  obtain rfl := Option.some.inj (tSigns.symm.trans ht1)
  obtain rfl := Option.some.inj (tRange.symm.trans ht2)
  obtain rfl := Option.some.inj (tSgs.symm.trans ht3)
  have e0 : (Rows.laid_staddle_lex_words : DataW Unit) = strData wordsL := rfl
  have e1 : (Rows.laid_staddle_lex_signs : DataW Unit) = strData signsL := rfl
  have e3 : (Rows.laid_staddle_parse_signs : DataW Unit) = sgsD := rfl
  rw [e0] at hd0
  rw [e1] at hd1
  rw [e3] at hd3
  have c0 := cells_of_strs Tryd.underlying62 Tryd.underlying9 (by kernel_rfl) (by kernel_rfl) hd0
  have c1 := cells_of_strs Tryd.underlying67 Tryd.underlying9 (by kernel_rfl) (by kernel_rfl) hd1
  have c3 := cells_of_sgs hd3
  obtain ⟨_, u, v, c2, _, _⟩ := iface_of_trod Tryd.underlying64 hd2
  obtain ⟨ta, fa, ba⟩ := block_of_var hg0 hv0
  obtain ⟨tb, fb, bb⟩ := block_of_var hg1 hv1
  obtain ⟨tc, fc, bc⟩ := block_of_var hg2 hv2
  obtain ⟨td, fd, bd⟩ := block_of_var hg3 hv3
  have k0 : cs0 = (wordB.map Value.string).toArray := by
    rw [← Array.toArray_toList (xs := cs0), c0]; rfl
  have k1 : cs1 = (signB.map Value.string).toArray := by
    rw [← Array.toArray_toList (xs := cs1), c1]; rfl
  have k3 : cs3 = sgAll.toArray := by
    rw [← Array.toArray_toList (xs := cs3), c3]
  have hlt : 5 < W.heap.size := (Array.getElem?_eq_some_iff.1 bc).1
  refine ⟨⟨⟨ta, fa, by rw [← k0]; exact ba⟩, ⟨tb, fb, by rw [← k1]; exact bb⟩, ⟨.iface u v, ?_, .inr ⟨u, v, rfl⟩⟩, hlt⟩, ⟨td, fd, by rw [← k3]; exact bd⟩⟩
  have := World.var?_cell hg2 hv2 0
  rw [this, ← Array.getElem?_toList, c2]; rfl
end Go.Proofs.YtnajafnbickiiaaDoor

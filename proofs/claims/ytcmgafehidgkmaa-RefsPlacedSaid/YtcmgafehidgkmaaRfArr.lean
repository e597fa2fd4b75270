/-
  A slice of arrays of twenty bytes that came in. No conditions.
-/
import Derived.Test.YtcmgafehidgkmaaRfPartsWalk
import Derived.Lib.AppendStr
namespace Go.Proofs.Ytcmgafehidgkmaa
open Go.RowKit
set_option linter.unusedVariables false

structure IsA (w : World) (a : Option Addr) (len cap : Nat) (l : List (List UInt8)) : Prop where
  length : l.length = len
  at_ : len = 0 ∨ ∃ b off, a = some ⟨b, off, none⟩ ∧ b < w.heap.size ∧ ∀ i, i < len → w.rangeAt b (off + i * 20) ((l.getD i []).map Nam.bv)
  each : ∀ i, i < len → (l.getD i []).length = 20
theorem IsA.later {w w' : World} {a : Option Addr} {len cap : Nat} {l : List (List UInt8)} (h : IsA w a len cap l) (hb : Below w.heap.size w w') : IsA w' a len cap l := by
  refine ⟨h.length, ?_, h.each⟩
  rcases h.at_ with h0 | ⟨b, off, e, hlt, hc⟩
  · exact .inl h0
  · exact .inr ⟨b, off, e, Nat.lt_of_lt_of_le hlt hb.size, fun i hi j v hj => (hb.cell (p := ⟨b, _, none⟩) hlt).trans (hc i hi j v hj)⟩
theorem isA_of {H : Type} {enc : TypeId × Value → H} {w : World} {base : Nat} {held : Bool} {fuel : Nat} {c : Value} {x : DataW H × List MemPlace} (h : DataW.trod enc Try.prog w base (fun _ => true) held fuel 35 [c] = some x) :
    ∃ a len cap l, c = .slice a len cap ∧ IsA w a len cap l := by
  have hC : Try.prog.cellsOf 38 = 20 := by kernel_rfl
  rcases Deep.open_slice Try.underlying35 h with ⟨hc, _⟩ | ⟨y, len, cap, m, n, D, Pl, hc, _, hl, hm, hmm, hxx, hx⟩
  · simp at hc
    exact ⟨none, 0, 0, [], hc, ⟨rfl, .inl rfl, fun i hi => by omega⟩⟩
  · simp at hc
    have hlm : len ≤ m := by rw [hmm]; split <;> omega
    have hall : ∀ i, i < len → ∃ d : List UInt8, d.length = 20 ∧ ∀ j, j < 20 → w.cell? (y.add (i * 20 + j)) = (d.map Nam.bv)[j]? := by
      intro i hi
      obtain ⟨cs', hcs', ht⟩ := hx i (by omega)
      rw [hC] at hcs'
      obtain ⟨_, hl20, hat⟩ := World.cells?_some hcs'
      obtain ⟨d, hd, hdl⟩ := Nam.open_u20 (C := cs'.toArray) (d := D i) (p := Pl i) (w := w) (base := base) (sp := fun _ => true) (held := held) (enc := enc) ⟨n, by simpa [Value.cells] using ht⟩
      have hd2 : cs' = d.map Nam.bv := by
        have := congrArg Array.toList hd
        simpa using this
      refine ⟨d, hdl, fun j hj => ?_⟩
      rw [← hd2]
      have := hat j (by omega)
      rw [Deep.add_add] at this
      exact this
    obtain ⟨f, hf⟩ := Deep.choose_lt hall
    refine ⟨some y, len, cap, (List.range len).map f, hc, ⟨by simp, ?_, fun i hi => ?_⟩⟩
    · rcases Nat.eq_zero_or_pos len with h0 | h0
      · exact .inl h0
      · right
        obtain ⟨b, off, spot⟩ := y
        obtain ⟨hl0, hc0⟩ := hf 0 (by omega)
        have hc00 := hc0 0 (by omega)
        rw [List.getElem?_map, List.getElem?_eq_getElem (by omega), Option.map_some] at hc00
        have hspot : spot = none := by simpa [Addr.add] using World.cell?_spot hc00
        subst hspot
        have hb := World.block_lt_of_cell? w _ hc00
        refine ⟨b, off, rfl, by simpa [Addr.add] using hb, fun i hi j v hj => ?_⟩
        obtain ⟨hl1, hc1⟩ := hf i hi
        have e1 : ((List.range len).map f).getD i [] = f i := by simp [List.getD, hi]
        rw [e1] at hj
        have hj20 : j < 20 := by
          obtain ⟨h1, _⟩ := List.getElem?_eq_some_iff.1 hj
          simpa [hl1] using h1
        have h2 := hc1 j hj20
        rw [Addr.add_mid] at h2
        rw [Nat.add_assoc, h2, hj]
    · have e1 : ((List.range len).map f).getD i [] = f i := by simp [List.getD, hi]
      rw [e1]; exact (hf i hi).1

/-! The mathematics. -/
/-- The bytes that are laid. -/
def layP (btw : Bts) (name : ByteArray) (ds : List (List UInt8)) : Bts := ds.flatMap fun d => btw ++ btsOf (Nam.pathB d name)
def pathsP (name : ByteArray) (ds : List (List UInt8)) : List ByteArray := ds.map fun d => Nam.pathB d name
theorem placed_math (btw : Bts) (name : ByteArray) (ds : List (List UInt8)) (hn : Nam.isName name.data.toList = true) (hd : ∀ d ∈ ds, d.length = 20) :
    ansT (fun K => K <:+: layP btw name ds) ((pathsP name ds).map btsOf) = sortT ((pathsP name ds).map btsOf) := by
  have hm : ∀ x, x ∈ sortT ((pathsP name ds).map btsOf) → ∃ d ∈ ds, x = btsOf (Nam.pathB d name) := by
    intro x hx
    rw [sortT_mem] at hx
    obtain ⟨y, hy, rfl⟩ := List.mem_map.1 hx
    obtain ⟨d, hd, rfl⟩ := List.mem_map.1 hy
    exact ⟨d, hd, rfl⟩
  unfold ansT
  have h1 : (sortT ((pathsP name ds).map btsOf)).filter isP = sortT ((pathsP name ds).map btsOf) := by
    rw [List.filter_eq_self]
    intro x hx
    obtain ⟨d, hd', rfl⟩ := hm x hx
    exact path_isP d name (hd d hd') hn
  rw [h1, first2_all keyT _ none (sortT_inc _) (fun x _ => by simp) (fun x hx y hy hk => by
    obtain ⟨d, hd1, rfl⟩ := hm x hx
    obtain ⟨d', hd2, rfl⟩ := hm y hy
    rw [path_keyT d name (hd d hd1), path_keyT d' name (hd d' hd2)] at hk
    show (Nam.pathB d name).data.toList = (Nam.pathB d' name).data.toList
    rw [path_list, path_list, hk]), List.filter_eq_self]
  intro x hx
  obtain ⟨d, hd', rfl⟩ := hm x hx
  rw [dQ_iff]
  have h2 : keyT (btsOf (Nam.pathB d name)) <:+: btsOf (Nam.pathB d name) := List.IsPrefix.isInfix (List.take_prefix _ _)
  obtain ⟨s, t, e⟩ := List.append_of_mem hd'
  refine h2.trans ⟨layP btw name s ++ btw, layP btw name t, ?_⟩
  unfold layP
  rw [e]; simp
theorem layP_snoc (btw : Bts) (name : ByteArray) {ds : List (List UInt8)} {i : Nat} (h : i < ds.length) : layP btw name (ds.take (i + 1)) = layP btw name (ds.take i) ++ btw ++ btsOf (Nam.pathB (ds.getD i []) name) := by
  unfold layP
  rw [List.take_succ_eq_append_getElem h, List.flatMap_append, List.getD_eq_getElem?_getD, List.getElem?_eq_getElem h]
  simp
theorem pathsP_snoc (name : ByteArray) {ds : List (List UInt8)} {i : Nat} (h : i < ds.length) : pathsP name (ds.take (i + 1)) = pathsP name (ds.take i) ++ [Nam.pathB (ds.getD i []) name] := by
  unfold pathsP
  rw [List.take_succ_eq_append_getElem h, List.map_append, List.getD_eq_getElem?_getD, List.getElem?_eq_getElem h]
  simp
theorem strCells_bv (s : ByteArray) : Lib.strCells s = (btsOf s).map Nam.bv := by
  unfold Lib.strCells btsOf
  rfl

end Go.Proofs.Ytcmgafehidgkmaa

/-
  A slice of arrays of 32 bytes that came in. No program text but types.
-/
import Derived.Test.YtokbakpbhpknfaaGreatDoorDzMath
import Derived.Deep.Slices
namespace Go.Proofs.YtokbakpbhpknfaaGreatDoor
open Go.RowKit Go.ChangeShapes Go.WideShapes
set_option linter.unusedVariables false

theorem info_a32 (L : List UInt8) (h : L.length = 32) : (Tryz.prog.info? 30).map (·.size) = some (L.map Nam.bv).toArray.size := by rw [List.size_toArray, List.length_map, h]; kernel_rfl

theorem open_a32 {H : Type} {enc : TypeId × Value → H} {w : World} {base : Nat} {sp : Nat → Bool} {held : Bool} {C : Array Value} {d : DataW H} {p : List MemPlace}
    (h : DataW.Trod enc Tryz.prog w base sp held 30 (.agg C) d p) : ∃ D : List UInt8, C = (D.map Nam.bv).toArray ∧ D.length = 32 := by
  obtain ⟨D, h1, h2, h3⟩ := open_bytes_arr Tryz.underlying30 Tryz.underlying5 (by kernel_rfl) (by kernel_rfl) h
  refine ⟨D.map UInt8.ofNat, ?_, by simpa using h2⟩
  rw [h1, Nam.bv_byv, List.map_map, List.map_map]
  congr 1
  refine List.map_congr_left fun x hx => ?_
  have := h3 x hx
  simp only [Function.comp, UInt8.toNat_ofNat']
  congr 1; omega

structure IsA (w : World) (a : Option Addr) (len cap : Nat) (l : List (List UInt8)) : Prop where
  length : l.length = len
  at_ : len = 0 ∨ ∃ b off, a = some ⟨b, off, none⟩ ∧ b < w.heap.size ∧ ∀ i, i < len → w.rangeAt b (off + i * 32) ((l.getD i []).map Nam.bv)
  each : ∀ i, i < len → (l.getD i []).length = 32
  room : len ≤ cap ∧ cap ≤ maxLen
  most : len * 32 ≤ 140737488355328
theorem IsA.later {w w' : World} {a : Option Addr} {len cap : Nat} {l : List (List UInt8)} (h : IsA w a len cap l) (hb : Below w.heap.size w w') : IsA w' a len cap l := by
  refine ⟨h.length, ?_, h.each, h.room, h.most⟩
  rcases h.at_ with h0 | ⟨b, off, e, hlt, hc⟩
  · exact .inl h0
  · exact .inr ⟨b, off, e, Nat.lt_of_lt_of_le hlt hb.size, fun i hi j v hj => (hb.cell (p := ⟨b, _, none⟩) hlt).trans (hc i hi j v hj)⟩
theorem isA_of {H : Type} {enc : TypeId × Value → H} {w : World} {base : Nat} {held : Bool} {fuel : Nat} {c : Value} {x : DataW H × List MemPlace} (h : DataW.trod enc Tryz.prog w base (fun _ => true) held fuel 25 [c] = some x)
    (hw : ∀ m ∈ x.1.weights Tryz.prog 25, m ≤ reachBytes) :
    ∃ a len cap l, c = .slice a len cap ∧ IsA w a len cap l := by
  have hC : Tryz.prog.cellsOf 30 = 32 := by kernel_rfl
  rcases Deep.open_slice Tryz.underlying25 h with ⟨hc, _⟩ | ⟨y, len, cap, m, n, D, Pl, hc, _, hl, hm, hmm, hxx, hx⟩
  · simp at hc
    exact ⟨none, 0, 0, [], hc, ⟨rfl, .inl rfl, (fun i hi => by omega), ⟨Nat.le_refl _, Nat.zero_le _⟩, by omega⟩⟩
  · simp at hc
    have hlm : len ≤ m := by rw [hmm]; split <;> omega
    have hb32 : Tryz.prog.bytesOf 30 = 32 := by kernel_rfl
    have h32 : len * 32 ≤ 140737488355328 := by
      have := hw ((len + (m - len)) * Tryz.prog.bytesOf 30) (by rw [hxx]; simp [DataW.weights, Tryz.underlying25])
      rw [hb32] at this
      unfold reachBytes at this
      omega
    have hall : ∀ i, i < len → ∃ d : List UInt8, d.length = 32 ∧ ∀ j, j < 32 → w.cell? (y.add (i * 32 + j)) = (d.map Nam.bv)[j]? := by
      intro i hi
      obtain ⟨cs', hcs', ht⟩ := hx i (by omega)
      rw [hC] at hcs'
      obtain ⟨_, hl32, hat⟩ := World.cells?_some hcs'
      obtain ⟨d, hd, hdl⟩ := open_a32 (C := cs'.toArray) (d := D i) (p := Pl i) (w := w) (base := base) (sp := fun _ => true) (held := held) (enc := enc) ⟨n, by simpa [Value.cells] using ht⟩
      have hd2 : cs' = d.map Nam.bv := by
        have := congrArg Array.toList hd
        simpa using this
      refine ⟨d, hdl, fun j hj => ?_⟩
      rw [← hd2]
      have := hat j (by omega)
      rw [Deep.add_add] at this
      exact this
    obtain ⟨f, hf⟩ := Deep.choose_lt hall
    refine ⟨some y, len, cap, (List.range len).map f, hc, ⟨by simp, ?_, (fun i hi => ?_), ⟨hl, hm⟩, h32⟩⟩
    · rcases Nat.eq_zero_or_pos len with h0 | h0
      · exact .inl h0
      · right
        obtain ⟨b, off, spot⟩ := y
        obtain ⟨hl0, hc0⟩ := hf 0 (by omega)
        have hc00 := hc0 0 (by omega)
        rw [List.getElem?_map, List.getElem?_eq_getElem (by omega), Option.map_some] at hc00
        have hspot : spot = none := by simpa [Addr.add] using World.cell?_spot hc00
        subst hspot
        have hb := World.block_lt_of_cell? w _ hc00
        refine ⟨b, off, rfl, by simpa [Addr.add] using hb, fun i hi j v hj => ?_⟩
        obtain ⟨hl1, hc1⟩ := hf i hi
        have e1 : ((List.range len).map f).getD i [] = f i := by simp [List.getD, hi]
        rw [e1] at hj
        have hj32 : j < 32 := by
          obtain ⟨h1, _⟩ := List.getElem?_eq_some_iff.1 hj
          simpa [hl1] using h1
        have h2 := hc1 j hj32
        rw [Addr.add_mid] at h2
        rw [Nat.add_assoc, h2, hj]
    · have e1 : ((List.range len).map f).getD i [] = f i := by simp [List.getD, hi]
      rw [e1]; exact (hf i hi).1

end Go.Proofs.YtokbakpbhpknfaaGreatDoor

/-
  A slice of slices of bytes that came in, opened to the list of its lists.
-/
import Derived.Test.YtjofllkjkmhjcaaDoorOpen
import Derived.Deep.Slices
namespace Go.Proofs.YtjofllkjkmhjcaaDoor
open Go.RowKit Go.ChangeShapes Go.WideShapes
set_option linter.unusedVariables false

/-- A slice of slices: each of its cells holds a slice that reads as bytes. -/
structure IsNN (w : World) (a : Option Addr) (len cap : Nat) (ls : List (List Nat)) : Prop where
  length : ls.length = len
  nil : a = none → len = 0 ∧ cap = 0
  room : len ≤ cap ∧ cap ≤ maxLen
  at_ : len = 0 ∨ ∃ b off, a = some ⟨b, off, none⟩ ∧ b < w.heap.size ∧ ∀ i, i < len → ∃ ai ni ci, w.cell? ⟨b, off + i, none⟩ = some (.slice ai ni ci) ∧ IsN w ai ni ci (ls.getD i [])

theorem open_bytess {H : Type} {enc : TypeId × Value → H} {w : World} {base : Nat} {held : Bool} {a : Option Addr} {len cap : Nat} {d : DataW H} {p : List MemPlace}
    (h : DataW.Trod enc Tryd.prog w base (fun _ => true) held 27 (.slice a len cap) d p) : ∃ ls, IsNN w a len cap ls := by
  obtain ⟨fuel, hf⟩ := h
  rcases Deep.open_slice1 Tryd.underlying27 (by kernel_rfl) hf with ⟨hcs, _⟩ | ⟨x, l, c, m, n, V, D, Pl, hcs, _, hl, hm, hmm, _, hx⟩
  · simp [Value.cells] at hcs
    obtain ⟨rfl, rfl, rfl⟩ := hcs
    exact ⟨[], rfl, fun _ => ⟨rfl, rfl⟩, ⟨Nat.le_refl _, Nat.zero_le _⟩, .inl rfl⟩
  · simp [Value.cells] at hcs
    obtain ⟨rfl, rfl, rfl⟩ := hcs
    have hle : len ≤ m := by rw [hmm]; split <;> omega
    have hall : ∀ i, i < len → ∃ l : List Nat, ∃ ai ni ci, V i = .slice ai ni ci ∧ IsN w ai ni ci l := by
      intro i hi
      have h2 := (hx i (by omega)).2
      have hs : ∃ ai ni ci zs, V i = .slice ai ni ci ∧ IsRow .u8 w ai ni ci zs := by
        rcases open_ints Tryd.underlying22 Tryd.underlying5 (by kernel_rfl) h2 with ⟨hc, _⟩ | ⟨y, l', c', zs, hc, _, hl', hm', hz, _, hcell, hwz⟩
        · simp at hc
          exact ⟨none, 0, 0, [], hc, .inl ⟨rfl, rfl, rfl, rfl⟩⟩
        · simp at hc
          exact ⟨some y, l', c', zs, hc, .inr ⟨_, rfl, hl', hm', by simpa using hz, hcell, hwz⟩⟩
      obtain ⟨ai, ni, ci, zs, hv, hr⟩ := hs
      obtain ⟨l, hI⟩ := bytes_of_n hr
      exact ⟨l, ai, ni, ci, hv, hI⟩
    obtain ⟨f, hf'⟩ := Deep.choose_lt hall
    refine ⟨(List.range len).map f, by simp, (fun e => by cases e), ⟨hl, hm⟩, ?_⟩
    rcases Nat.eq_zero_or_pos len with h0 | h0
    · exact .inl h0
    · right
      obtain ⟨b, off, spot⟩ := x
      have hc := (hx 0 (by omega)).1
      have hspot : spot = none := by simpa [Addr.add] using World.cell?_spot hc
      subst hspot
      have hb := World.block_lt_of_cell? w _ hc
      refine ⟨b, off, rfl, by simpa [Addr.add] using hb, fun i hi => ?_⟩
      obtain ⟨ai, ni, ci, hv, hI⟩ := hf' i hi
      have hc := (hx i (by omega)).1
      rw [Addr.add_mid, hv] at hc
      refine ⟨ai, ni, ci, hc, ?_⟩
      have e : ((List.range len).map f).getD i [] = f i := by simp [List.getD, hi]
      rw [e]; exact hI

theorem ownsRow_but {w w' : World} {base n h : Nat} {e : TypeId} {v : Value} {xs : List Value} (H : w.ownsRow base e 1 v n xs) (hb : But w.heap.size h w w') (hh : h < base) : w'.ownsRow base e 1 v n xs := by
  refine ⟨H.1, ?_⟩
  rcases H.2 with h0 | ⟨g, cap, cur, hv, hg, hc, hrest⟩
  · exact .inl h0
  · have hlt : g < w.heap.size := (Array.getElem?_eq_some_iff.1 hc).1
    exact .inr ⟨g, cap, cur, hv, hg, (hb.block g hlt (by omega)).trans hc, hrest⟩

end Go.Proofs.YtjofllkjkmhjcaaDoor

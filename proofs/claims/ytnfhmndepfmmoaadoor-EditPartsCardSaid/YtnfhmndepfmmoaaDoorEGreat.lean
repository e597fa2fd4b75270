/-
  The reference's Great of edits; loads behind a guard. Conditions: the edits may be read.
-/
import Derived.Test.YtnfhmndepfmmoaaDoorEArg
import Derived.Test.YtnfhmndepfmmoaaDoorTGreat
import Derived.BigFrame
namespace Go.Proofs.YtnfhmndepfmmoaaDoor
open Go.RowKit
set_option linter.unusedVariables false

/-- Loads of structs, guarded or not. -/
theorem ld_rowG {P : Program} {ops : Array Oper} {rest : List Oper} {o : Oper} {a : Act} {w : World} {Q : Exit → Act → World → Prop} (hw : Region.wanted o (yielded ops a.tmps) = true) (ty : TypeId) (x : Operand) (ho : o.op = .load ty x)
    (g : Nat) (hx : a.eval x = .pointer (some ⟨g, 0, none⟩)) (t : TypeId) (cs : Array Value) (fr : Nat × Nat) (d : TypeDesc) (hg : w.heap[g]? = some (.cells cs t fr))
    (hu : P.underlying ty = some d) (hd : (match d with | .struct _ | .array _ _ => true | _ => false) = true) (hi : (P.info? ty).map (·.size) = some cs.size)
    (h : wpList P ops Q rest (a.put o.dst (.agg cs)) w) : wpList P ops Q (o :: rest) a w :=
  BigFrame.wpList_want hw fun _ hK => wp_load_row ty x ho g hx t cs fr d hg hu hd hi (hK _ _ h)
theorem ld_midG {P : Program} {ops : Array Oper} {rest : List Oper} {op : Oper} {a : Act} {w : World} {Q : Exit → Act → World → Prop} (hw : Region.wanted op (yielded ops a.tmps) = true) (ty : TypeId) (x : Operand) (ho : op.op = .load ty x)
    (b o : Nat) (hx : a.eval x = .pointer (some ⟨b, o, none⟩)) (cs : List Value) (d : TypeDesc) (hc : w.rangeAt b o cs)
    (hu : P.underlying ty = some d) (hd : d.isRow = true) (hi : (P.info? ty).map (·.size) = some cs.length)
    (h : wpList P ops Q rest (a.put op.dst (.agg cs.toArray)) w) : wpList P ops Q (op :: rest) a w :=
  BigFrame.wpList_want hw fun _ hK => wp_load_mid ty x ho b o hx cs d hc hu hd hi (hK _ _ h)

/-- The tree of an edit, in its cells. -/
theorem tree_cells {w : World} {m b o : Nat} {cs : List Value} {x : EdD} (h : IsX w m cs x) (hr : w.rangeAt b o cs) : ∃ ct, IsT w m ct x.tree ∧ w.rangeAt b (o + 3) ct := by
  obtain ⟨ct, rfl, hT⟩ := h
  refine ⟨ct, hT, fun j v hv => ?_⟩
  have := hr (3 + j) v (by rw [List.getElem?_append_right (by simp)]; simpa using hv)
  rw [Nat.add_assoc]
  exact this

set_option maxRecDepth 100000 in
set_option maxHeartbeats 8000000 in
theorem greatX_any {w : World} {m : Nat} {a : Option Addr} {n c : Nat} {l : List EdD} (h : IsXs w m a n c l) (mo : Int) (h0 : 0 ≤ mo) (h1 : mo ≤ 1000000) :
    Calls Tryd.prog 9 #[.slice a n c, .int .i64 mo] w fun e w' => (∃ g, e = .returned (.bool g)) ∧ Below w.heap.size w w' := by
  have HX := Lib.hid h
  have H0 := Lib.hid h0
  have H1 := Lib.hid h1
  clear h h0 h1
  go_enter Tryd.func9, Tryd.ntmps9
  go_wp2_with fail
  go_loopw [5] (fun vi wr => ∃ (i : Nat), i ≤ n ∧ vi = .int .i64 i ∧ Below w.heap.size w wr) (fun vi _ => n - (intOf vi).toNat)
  case atStart => exact ⟨0, Nat.zero_le _, rfl, Below.refl _ _⟩
  case round =>
    obtain ⟨i, hi, rfl, hbel⟩ := hrel
    have HBE := Lib.hid hbel
    clear hbel
    by_cases hlt : i < n
    · rcases HX.out.at_ with h0 | ⟨b, off, rfl, hb, hc⟩
      · omega
      obtain ⟨L, hX, hr0⟩ := hc i hlt
      obtain ⟨ct, hT, hrt⟩ := tree_cells (hX.later (Below.refl _ _)) hr0
      have HRANGE := Lib.hid (range_later hrt HBE.out hb)
      have HG := Lib.hid (great_any m ct _ wr (IsT.later HBE.out _ _ _ hT) mo H0.out H1.out)
      have HI5 : Hid ((Tryd.prog.info? 26).map (·.size) = some ct.length) := Lib.hid (by rw [info5, isT_five hT])
      have hki : (i : Int) < (n : Int) := by omega
      have hroom := HX.out.room
      unfold maxLen at hroom
      have hni : (i : Int) + 1 ≤ 9223372036854775807 := by omega
      have HLT := Lib.hid hlt
      clear hX hr0 hT hrt hc hroom
      by_cases h200 : 200 < i
      · have h2i : (200 : Int) < (i : Int) := by omega
        clear h200 hlt
        go_wp2_with fail
        go_ret
        exact ⟨⟨_, rfl⟩, HBE.out⟩
      · have h2i : ¬ (200 : Int) < (i : Int) := by omega
        clear h200
        go_wp2_with (refine ld_midG (by rfl) 26 _ rfl b (off + i * 8 + 3) rfl ct _ HRANGE.out Tryd.underlying26 rfl HI5.out ?_)
        refine HG.out.mono ?_
        rintro e w2 ⟨⟨g, rfl⟩, hb2⟩
        have B2 := Lib.hid (HBE.out.trans (hb2.mono HBE.out.size))
        clear hb2
        rcases Bool.eq_false_or_eq_true g with rfl | rfl
        · clear hlt
          go_wp2_with fail
          go_ret
          exact ⟨⟨_, rfl⟩, B2.out⟩
        · go_wp2_with fail
          go_roundw
          case rel => exact ⟨i + 1, by have := HLT.out; omega, by go_num, B2.out⟩
          case measure =>
            have := HLT.out
            simp only [intOf]; omega
    · have hki : ¬ (i : Int) < (n : Int) := by omega
      clear hlt
      go_wp2_with fail
      go_ret
      first | exact ⟨⟨_, rfl⟩, HBE.out⟩ | exact ⟨.inl rfl, HBE.out⟩

end Go.Proofs.YtnfhmndepfmmoaaDoor

/-
  An expression in memory. No program text but types.
-/
import Derived.Test.YtnajafnbickiiaaDoorPSkip
import Derived.Defers
namespace Go.Proofs.YtnajafnbickiiaaDoor
open Go.RowKit
set_option linter.unusedVariables false

theorem info_ex : (Tryd.prog.info? 28).map (·.size) = some 8 := by kernel_rfl

/-- The cells of an expression, kv those of its parts. -/
def exC (k n : Nat) (t : List UInt8) (kv : Value) (a : Nat) : List Value := [.int .u8 (k : Int), .int .i64 (n : Int), .string ⟨t.toArray⟩, .slice none 0 0, .slice none 0 0, .bool false, kv, .int .i64 (a : Int)]
/-- The value reads as the expression; its parts lie at blocks of the sort S. -/
inductive IsXS (w : World) (S : Nat → Prop) : List Value → Ex → Prop
  | leaf (k n : Nat) (t : List UInt8) (a : Nat) : IsXS w S (exC k n t (.slice none 0 0) a) (.mk k n t [] a)
  | node (k n : Nat) (t : List UInt8) (a g cap : Nat) (kids : List Ex) (C : Nat → List Value) (h0 : kids ≠ []) (hb : S g) (hg : g < w.heap.size) (hc : kids.length ≤ cap ∧ cap ≤ maxLen)
      (hC : ∀ i, i < kids.length → (C i).length = 8 ∧ w.rangeAt g (i * 8) (C i)) (hX : ∀ i x, kids[i]? = some x → IsXS w S (C i) x) :
      IsXS w S (exC k n t (.slice (some ⟨g, 0, none⟩) kids.length cap) a) (.mk k n t kids a)

theorem IsXS.len {w : World} {S : Nat → Prop} {cs : List Value} {x : Ex} (h : IsXS w S cs x) : cs.length = 8 := by cases h <;> rfl
theorem IsXS.one {w : World} {S : Nat → Prop} {cs : List Value} {x : Ex} (h : IsXS w S cs x) : cs.toArray.all (·.oneCell') = true := by
  cases h <;> exact all_oneCell_toArray (by intro v hv; simp [exC] at hv; rcases hv with rfl | rfl | rfl | rfl | rfl | rfl | rfl <;> rfl)
theorem IsXS.keep {w w' : World} {S : Nat → Prop} {cs : List Value} {x : Ex} (h : IsXS w S cs x) (hs : w.heap.size ≤ w'.heap.size) (hk : ∀ k, S k → k < w.heap.size → w'.heap[k]? = w.heap[k]?) : IsXS w' S cs x := by
  induction h with
  | leaf k n t a => exact .leaf k n t a
  | node k n t a g cap kids C h0 hB hg hc hC hX ih =>
    refine .node k n t a g cap kids C h0 hB (Nat.lt_of_lt_of_le hg hs) hc (fun i hi => ⟨(hC i hi).1, fun j v hj => ?_⟩) ih
    rw [← (hC i hi).2 j v hj]
    exact World.cell?_of_block (hk g hB hg)
theorem IsXS.mono {w : World} {S S' : Nat → Prop} {cs : List Value} {x : Ex} (h : IsXS w S cs x) (hB : ∀ k, S k → k < w.heap.size → S' k) : IsXS w S' cs x := by
  induction h with
  | leaf k n t a => exact .leaf k n t a
  | node k n t a g cap kids C h0 hB1 hg hc hC hX ih => exact .node k n t a g cap kids C h0 (hB g hB1 hg) hg hc hC ih

/-- .. from block B on. -/
abbrev IsX (w : World) (B : Nat) (cs : List Value) (x : Ex) : Prop := IsXS w (fun k => B ≤ k) cs x
theorem IsX.leaf {w : World} {B : Nat} (k n : Nat) (t : List UInt8) (a : Nat) : IsX w B (exC k n t (.slice none 0 0) a) (.mk k n t [] a) := IsXS.leaf k n t a
theorem IsX.len {w : World} {B : Nat} {cs : List Value} {x : Ex} (h : IsX w B cs x) : cs.length = 8 := IsXS.len h
theorem IsX.one {w : World} {B : Nat} {cs : List Value} {x : Ex} (h : IsX w B cs x) : cs.toArray.all (·.oneCell') = true := IsXS.one h
theorem IsX.keep {w w' : World} {B : Nat} {cs : List Value} {x : Ex} (h : IsX w B cs x) (hs : w.heap.size ≤ w'.heap.size) (hk : ∀ k, B ≤ k → k < w.heap.size → w'.heap[k]? = w.heap[k]?) : IsX w' B cs x := IsXS.keep h hs hk
theorem IsX.mono {w : World} {B B' : Nat} {cs : List Value} {x : Ex} (h : IsX w B cs x) (hB : B' ≤ B) : IsX w B' cs x := IsXS.mono h fun k hk _ => Nat.le_trans hB hk
theorem IsX.later {w w' : World} {B pb : Nat} {cs : List Value} {x : Ex} (h : IsX w B cs x) (hb : But w.heap.size pb w w') (hp : pb < B) : IsX w' B cs x :=
  IsX.keep h hb.size fun k h1 h2 => hb.block k h2 (by omega)
/-- What a step that reads an expression tells. -/
def PX (pb g d : Nat) (rm : Int) (w : World) (x : Ex) (r : List Tk) (e : Ending) (w' : World) : Prop :=
  ∃ cs off cap, e = .returned (.agg cs.toArray) ∧ IsX w' w.heap.size cs x ∧ But w.heap.size pb w w' ∧ Ps w' pb g off cap r d rm

set_option maxRecDepth 100000 in
/-- leave, as a deferred call. -/
theorem leave_d {w : World} {pb g off cap d : Nat} {ts : List Tk} {rm : Int} (u : FrameMode) (h : Ps w pb g off cap ts (d + 1) rm) (hd : d ≤ 60) :
    CallsD Tryd.prog 24 #[.pointer (some ⟨pb, 0, none⟩)] u w fun e u' w' => u' = u ∧ (e = .returned (.tuple #[]) ∧ w' = w.setCell ⟨pb, 1, none⟩ (.int .i64 (d : Int))) := by
  have y1 : w.cell? ⟨pb, 1, none⟩ = some (.int .i64 ((d : Int) + 1)) := by have := h.row.cellAt (i := 1) (v := .int .i64 ((d + 1 : Nat) : Int)) rfl; simpa using this
  have y2 := h.row.frozen 1
  have hw : IntKind.i64.wrap ((d : Int) + 1 - 1) = (d : Int) := by rw [IntWalk.i64_in _ (by omega)]; omega
  clear h
  go_enter_d Tryd.func24, Tryd.ntmps24
  go_wp2_with fail
  go_end0
  exact ⟨rfl, rfl⟩

/-- A zero expression's cells. -/
def exZ : List Value := [.int .u8 0, .int .i64 0, .string ⟨#[]⟩, .slice none 0 0, .slice none 0 0, .bool false, .slice none 0 0, .int .i64 0]
/-- The way out of a step that has opened and deferred leave: the result lies at block Z. -/
theorem door_x {fn : Func} {p : Tmp} (hres : fn.results = #[.cell p 28]) (R : Ending → World → Prop) (a : Act) {w : World} {pb g off cap d Z : Nat} {ts : List Tk} {rm : Int} {C : Array Value}
    (hd : a.defers = [{ target := Target.fn (Fn.func 24) #[], args := #[.pointer (some ⟨pb, 0, none⟩)] }]) (hp : a.tmps.getD p undef = .pointer (some ⟨Z, 0, none⟩))
    (h : Ps w pb g off cap ts (d + 1) rm) (hd60 : d ≤ 60) (hz : w.heap[Z]? = some (.cells C 28 (0, 0))) (hZ : Z ≠ pb) (hci : (Tryd.prog.info? 28).map (·.size) = some C.size)
    (hR : R (.returned (.agg C)) (w.setCell ⟨pb, 1, none⟩ (.int .i64 (d : Int)))) : bodyPostD Tryd.prog fn R Exit.ret a w := by
  show Leaves Tryd.prog fn a.tmps R a.defers .returning w
  rw [hd]
  refine leaves_cons (f := 24) (args := #[.pointer (some ⟨pb, 0, none⟩)]) (by simp) (by simp [go_sem]) ?_
  refine (leave_d .returning h hd60).mono ?_
  rintro e u' w'' ⟨rfl, rfl, rfl⟩
  exact ⟨_, results_cell_row (fn := fn) (p := p) (ty := 28) hres a.tmps _ Z 28 C (0, 0) _ hp ((heap_setCell_other w ⟨pb, 1, none⟩ Z _ hZ).trans hz) Tryd.underlying28 rfl hci, hR⟩

set_option maxRecDepth 100000 in
set_option maxHeartbeats 2000000 in
/-- The right side of a sign, if op tells what it shall. -/
theorem right_ok {w : World} {pb g off cap d : Nat} {ts : List Tk} {rm : Int} (h : Ps w pb g off cap ts d rm) (hd : d < 60) (s : ByteArray) (st : Nat) (rt : Bool) (hst : st ≤ 8) (x : Ex) (r : List Tk)
    (hop : ∀ (W : World), Ps W pb g off cap ts (d + 1) rm → Calls Tryd.prog 33 #[.pointer (some ⟨pb, 0, none⟩), .int .i64 ((if rt = true then st else st + 1 : Nat) : Int)] W (PX pb g (d + 1) rm W x r)) :
    Calls Tryd.prog 48 #[.pointer (some ⟨pb, 0, none⟩), .agg #[.string s, .int .i64 (st : Int), .bool rt]] w (PX pb g d rm w x r) := by
  have HOP := Lib.hid hop
  have HH := Lib.hid h
  have hlt := h.row.lt
  have hgl := h.lt
  have HL : Hid (pb < w.heap.size ∧ g < w.heap.size) := Lib.hid ⟨hlt, hgl⟩
  clear hop h hlt hgl
  go_enter_defers Tryd.func48, Tryd.ntmps48
  go_upto_region 1 with fail
  obtain ⟨G, hG⟩ : ∃ G, G = w.heap.size := ⟨_, rfl⟩
  rw [← hG]
  obtain ⟨x1, hx1⟩ : ∃ x, x = w.alloc (.cells #[.string s, .int .i64 (st : Int), .bool rt] 74) := ⟨_, rfl⟩
  obtain ⟨x2, hx2⟩ : ∃ x, x = x1.alloc (.cells #[.int .u8 0, .int .i64 0, .string ⟨#[]⟩, .slice none 0 0, .slice none 0 0, .bool false, .slice none 0 0, .int .i64 0] 28) := ⟨_, rfl⟩
  rw [← hx1, ← hx2]
  have e1 : x1.heap.size = G + 1 := by rw [hx1, hG]; simp
  have e2 : x2.heap.size = G + 2 := by rw [hx2]; simp [e1]
  have S2 : Hid (Has x2 G [.string s, .int .i64 (st : Int), .bool rt] 74) := Lib.hid (by rw [hx2, hx1, hG]; exact (Has.new w [.string s, .int .i64 (st : Int), .bool rt] _).alloc _)
  have Z2 : Hid (Has x2 (G + 1) exZ 28) := Lib.hid (by rw [hx2, ← e1]; exact Has.new x1 exZ _)
  have B2 : Hid (Below G w x2) := Lib.hid (by rw [hx2, hx1, hG]; exact ((Below.refl _ _).alloc (Nat.le_refl _) _).alloc (by simp) _)
  have H2 := Lib.hid (HH.out.later (by rw [← hG]; exact B2.out))
  have E2 := Lib.hid e2
  have HG := Lib.hid hG
  clear hx1 hx2 e1 e2 hG HH
  have HEN := Lib.hid (enter_ok H2.out hd)
  go_wp2_with fail
  refine HEN.out.mono ?_
  rintro e w3 ⟨rfl, h3⟩
  have H3 : Hid (Ps w3 pb g off cap ts (d + 1) rm) := Lib.hid (by rw [h3]; exact H2.out.deeper _)
  have S3 : Hid (Has w3 G [.string s, .int .i64 (st : Int), .bool rt] 74) := Lib.hid (by rw [h3]; exact S2.out.setOther (a := ⟨pb, 1, none⟩) (by have := HL.out.1; have := HG.out; show G ≠ pb; omega) _)
  have Z3 : Hid (Has w3 (G + 1) exZ 28) := Lib.hid (by rw [h3]; exact Z2.out.setOther (a := ⟨pb, 1, none⟩) (by have := HL.out.1; have := HG.out; show G + 1 ≠ pb; omega) _)
  have B3 : Hid (But G pb w w3) := Lib.hid (by rw [h3]; exact (But.of_below B2.out).setB 1 _)
  have E3 : Hid (w3.heap.size = G + 2) := Lib.hid (by rw [h3]; simpa [World.setCell] using E2.out)
  have y1 : w3.cell? ⟨G, 1, none⟩ = some (.int .i64 (st : Int)) := S3.out.cellAt (i := 1) rfl
  have y2 : w3.cell? ⟨G, 2, none⟩ = some (.bool rt) := S3.out.cellAt (i := 2) rfl
  have hw : IntKind.i64.wrap ((st : Int) + 1) = ((st + 1 : Nat) : Int) := by rw [IntWalk.i64_in _ (by omega)]; omega
  have HOP2 := Lib.hid (HOP.out w3 H3.out)
  clear h3 H2 S2 Z2 B2 E2 HEN HOP
  cases rt with
  | true =>
    as_aux_lemma =>
      have hop := HOP2.out
      rw [if_pos rfl] at hop
      have HP := Lib.hid hop
      clear hop HOP2
      go_wp2_with fail
      refine HP.out.mono ?_
      rintro e w4 ⟨cs, o2, c2, rfl, ix, bt, p4⟩
      have Z4 : Hid (Has w4 (G + 1) exZ 28) := Lib.hid (Z3.out.but bt (by rw [E3.out]; omega) (by have := HL.out.1; have := HG.out; omega))
      have IX := Lib.hid ix
      have P4 := Lib.hid p4
      have B4 : Hid (But G pb w w4) := Lib.hid (B3.out.trans (bt.mono (by rw [E3.out]; omega)))
      have HS4 : Hid (w3.heap.size ≤ w4.heap.size) := Lib.hid bt.size
      obtain ⟨C, hC⟩ : ∃ C, C = cs.toArray := ⟨_, rfl⟩
      have HCI : Hid ((Tryd.prog.info? 28).map (·.size) = some C.size) := Lib.hid (by rw [hC, List.size_toArray, ix.len]; exact info_ex)
      have HCO : Hid (C.all (·.oneCell') = true) := Lib.hid (by rw [hC]; exact ix.one)
      have HCS : Hid (exZ.toArray.size = C.size) := Lib.hid (by rw [hC, List.size_toArray, List.size_toArray, ix.len]; rfl)
      rw [← hC]
      have HC := Lib.hid hC
      clear ix bt p4 hC HP Z3 B3
      go_wp2_with (refine wpList_store_row rfl 28 _ _ rfl (G + 1) C rfl rfl 28 _ Z4.out HCI.out HCS.out HCO.out ?_)
      have hps : Ps (w4.setRow (G + 1) C) pb g o2 c2 r (d + 1) rm := P4.out.laterB (below_setRow (Below.refl (G + 1) w4) (Nat.le_refl _) _) (by have := HL.out.1; have := HG.out; omega) (by have := HL.out.2; have := HG.out; omega)
      have hz5 : (w4.setRow (G + 1) C).heap[G + 1]? = some (.cells C 28 (0, 0)) := setRow_heap _ _ _ _ _ _ Z4.out
      clear HCS HCO
      refine door_x (p := 4) (Z := G + 1) (C := C) Tryd.results48 _ _ rfl rfl hps (by omega) hz5 (by have := HL.out.1; have := HG.out; omega) HCI.out ?_
      refine ⟨cs, o2, c2, by rw [HC.out], ?_, ?_, hps.deeper d⟩
      · refine IsX.mono (B := w3.heap.size) ?_ (by rw [E3.out, HG.out]; omega)
        refine (IX.out).keep (by simp [World.setCell]) fun k h1 h2 => ?_
        rw [heap_setCell_other _ ⟨pb, 1, none⟩ k _ (by have := HL.out.1; have := E3.out; have := HG.out; show k ≠ pb; omega)]
        exact setRow_other _ _ _ _ (by have := E3.out; omega)
      · rw [← HG.out]; exact (B4.out.setRow (.inl (by omega)) _).setB 1 _
  | false =>
    as_aux_lemma =>
      have hop := HOP2.out
      rw [if_neg (by decide)] at hop
      have HP := Lib.hid hop
      clear hop HOP2
      go_wp2_with fail
      refine HP.out.mono ?_
      rintro e w4 ⟨cs, o2, c2, rfl, ix, bt, p4⟩
      have Z4 : Hid (Has w4 (G + 1) exZ 28) := Lib.hid (Z3.out.but bt (by rw [E3.out]; omega) (by have := HL.out.1; have := HG.out; omega))
      have IX := Lib.hid ix
      have P4 := Lib.hid p4
      have B4 : Hid (But G pb w w4) := Lib.hid (B3.out.trans (bt.mono (by rw [E3.out]; omega)))
      have HS4 : Hid (w3.heap.size ≤ w4.heap.size) := Lib.hid bt.size
      obtain ⟨C, hC⟩ : ∃ C, C = cs.toArray := ⟨_, rfl⟩
      have HCI : Hid ((Tryd.prog.info? 28).map (·.size) = some C.size) := Lib.hid (by rw [hC, List.size_toArray, ix.len]; exact info_ex)
      have HCO : Hid (C.all (·.oneCell') = true) := Lib.hid (by rw [hC]; exact ix.one)
      have HCS : Hid (exZ.toArray.size = C.size) := Lib.hid (by rw [hC, List.size_toArray, List.size_toArray, ix.len]; rfl)
      rw [← hC]
      have HC := Lib.hid hC
      clear ix bt p4 hC HP Z3 B3
      go_wp2_with (refine wpList_store_row rfl 28 _ _ rfl (G + 1) C rfl rfl 28 _ Z4.out HCI.out HCS.out HCO.out ?_)
      have hps : Ps (w4.setRow (G + 1) C) pb g o2 c2 r (d + 1) rm := P4.out.laterB (below_setRow (Below.refl (G + 1) w4) (Nat.le_refl _) _) (by have := HL.out.1; have := HG.out; omega) (by have := HL.out.2; have := HG.out; omega)
      have hz5 : (w4.setRow (G + 1) C).heap[G + 1]? = some (.cells C 28 (0, 0)) := setRow_heap _ _ _ _ _ _ Z4.out
      clear HCS HCO
      refine door_x (p := 4) (Z := G + 1) (C := C) Tryd.results48 _ _ rfl rfl hps (by omega) hz5 (by have := HL.out.1; have := HG.out; omega) HCI.out ?_
      refine ⟨cs, o2, c2, by rw [HC.out], ?_, ?_, hps.deeper d⟩
      · refine IsX.mono (B := w3.heap.size) ?_ (by rw [E3.out, HG.out]; omega)
        refine (IX.out).keep (by simp [World.setCell]) fun k h1 h2 => ?_
        rw [heap_setCell_other _ ⟨pb, 1, none⟩ k _ (by have := HL.out.1; have := E3.out; have := HG.out; show k ≠ pb; omega)]
        exact setRow_other _ _ _ _ (by have := E3.out; omega)
      · rw [← HG.out]; exact (B4.out.setRow (.inl (by omega)) _).setB 1 _
end Go.Proofs.YtnajafnbickiiaaDoor

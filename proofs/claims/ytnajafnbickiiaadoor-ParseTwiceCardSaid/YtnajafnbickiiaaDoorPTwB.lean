/-
  add, where the expression has no name yet. Conditions: the expression's block.
-/
import Derived.Test.YtnajafnbickiiaaDoorPTwA
import Derived.Test.YtnajafnbickiiaaDoorPBuild
import Derived.Deep.MidRow
import Derived.Deep.AppendLies
import Derived.Laws.OwnMore
import Derived.Deep.Cut
import Derived.BigFrame
namespace Go.Proofs.YtnajafnbickiiaaDoor
open Go.RowKit
set_option linter.unusedVariables false
set_option maxRecDepth 100000

theorem info_st : ∃ i, Tryd.prog.info? 9 = some i ∧ i.zero = some (.string ByteArray.empty) ∧ i.size = 1 ∧ i.bytes = 16 := by
  have h : (Tryd.prog.info? 9).map (fun i => (i.zero, i.size, i.bytes)) = some (some (.string ByteArray.empty), 1, 16) := by kernel_rfl
  obtain ⟨i, hi, hx⟩ := Option.map_eq_some_iff.1 h
  simp only [Prod.mk.injEq] at hx
  exact ⟨i, hi, hx.1, hx.2.1, hx.2.2⟩
theorem info_bo : ∃ i, Tryd.prog.info? 4 = some i ∧ i.zero = some (.bool false) ∧ i.size = 1 ∧ i.bytes = 1 := by
  have h : (Tryd.prog.info? 4).map (fun i => (i.zero, i.size, i.bytes)) = some (some (.bool false), 1, 1) := by kernel_rfl
  obtain ⟨i, hi, hx⟩ := Option.map_eq_some_iff.1 h
  simp only [Prod.mk.injEq] at hx
  exact ⟨i, hi, hx.1, hx.2.1, hx.2.2⟩
theorem tw_range {w : World} {b : Nat} {L : List Value} {t : TypeId} (h : Has w b L t) : w.rangeAt b 0 L := fun j v hj => by rw [Nat.zero_add]; exact h.cellAt hj
theorem there_block {w w' : World} {b o n : Nat} (h : w.there b o n) (hb : w'.heap[b]? = w.heap[b]?) : w'.there b o n := fun j hj => by
  rw [World.cell?_of_block (a := ⟨b, o + j, none⟩) hb, World.frozen?_of_block (a := ⟨b, o + j, none⟩) hb]; exact h j hj
theorem cells_below {B b : Nat} (hb : B ≤ b) : ∀ (vs : List Value) (o : Nat) {a w : World}, Below B a w → Below B a (w.setCells b o vs)
  | [], _, _, _, h => h
  | u :: vs, o, _, _, h => cells_below hb vs (o + 1) (h.setCell (p := ⟨b, o, none⟩) hb u)

set_option maxHeartbeats 8000000 in
theorem add_nil {w : World} {X k a : Nat} (hx : S0 w X k a) (s : ByteArray) (b : Bool) (kid : List Value) (h8 : kid.length = 8) (h1 : kid.toArray.all (·.oneCell') = true) :
    Calls Tryd.prog 67 #[.pointer (some ⟨X, 0, none⟩), .string s, .bool b, .agg kid.toArray] w fun e w' => e = .returned (.tuple #[]) ∧ S1 w' X s ∧ Below X w w' := by
  obtain ⟨is, his, hs0, hs1, hs2⟩ := info_st
  obtain ⟨ib, hib, hb0, hb1, hb2⟩ := info_bo
  obtain ⟨ie, hie, he0, he1, he2⟩ := info_exp
  have HI := Lib.hid his
  have HI0 := Lib.hid hs0
  have HI1 := Lib.hid hs1
  have HI2 := Lib.hid hs2
  have HB := Lib.hid hib
  have HB0 := Lib.hid hb0
  have HB1 := Lib.hid hb1
  have HB2 := Lib.hid hb2
  have HE := Lib.hid hie
  have HE0 := Lib.hid he0
  have HE1 := Lib.hid he1
  have HE2 := Lib.hid he2
  have H8 := Lib.hid h8
  have HKO := Lib.hid h1
  have HKL : Hid ((Tryd.prog.info? 28).map (·.size) = some kid.length) := Lib.hid (by rw [h8]; exact info_ex)
  have HKI : Hid ((Tryd.prog.info? 28).map (·.size) = some kid.toArray.size) := Lib.hid (by rw [List.size_toArray, h8]; exact info_ex)
  have hx : Has w X [.int .u8 (k : Int), .int .i64 0, .string ⟨#[]⟩, .slice none 0 0, .slice none 0 0, .bool false, .slice none 0 0, .int .i64 (a : Int)] 28 := hx
  obtain ⟨Kb, hKb⟩ : ∃ z, z = w.heap.size := ⟨_, rfl⟩
  have HKX : Hid (X < Kb) := Lib.hid (by rw [hKb]; exact hx.lt)
  obtain ⟨w1, hw1⟩ : ∃ y, y = w.alloc (.cells kid.toArray 28) := ⟨_, rfl⟩
  have X1 : Hid (Has w1 X [.int .u8 (k : Int), .int .i64 0, .string ⟨#[]⟩, .slice none 0 0, .slice none 0 0, .bool false, .slice none 0 0, .int .i64 (a : Int)] 28) := Lib.hid (by rw [hw1]; exact hx.alloc _)
  have K1 : Hid (Has w1 Kb kid 28) := Lib.hid (by rw [hw1, hKb]; exact Has.new w kid _)
  have B1 : Hid (Below X w w1) := Lib.hid (by rw [hw1]; exact (Below.refl _ _).alloc (Nat.le_of_lt hx.lt) _)
  have HW1 := Lib.hid hw1
  have HKB := Lib.hid hKb
  clear his hs0 hs1 hs2 hib hb0 hb1 hb2 hie he0 he1 he2 h8 h1 hw1 hKb hx
  go_enter Tryd.func67, Tryd.ntmps67
  go_upto_region 1 with (refine wpList_box_row HKI.out ?_)
  rw [← HW1.out, ← HKB.out]
  clear HW1 HKB
  have hc := Has.cellAt X1.out (i := 3) rfl
  obtain ⟨w2, hw⟩ : ∃ y, y = w1.alloc (.cells #[.string s] 9) := ⟨_, rfl⟩
  have P2 : Hid (Has w2 w1.heap.size [.string s] 9) := Lib.hid (by rw [hw]; exact Has.new w1 [.string s] _)
  have X2 := Lib.hid (show Has w2 X [.int .u8 (k : Int), .int .i64 0, .string ⟨#[]⟩, .slice none 0 0, .slice none 0 0, .bool false, .slice none 0 0, .int .i64 (a : Int)] 28 by rw [hw]; exact X1.out.alloc _)
  have K2 := Lib.hid (show Has w2 Kb kid 28 by rw [hw]; exact K1.out.alloc _)
  have B2 : Hid (Below X w w2) := Lib.hid (by rw [hw]; exact B1.out.alloc (Nat.le_of_lt X1.out.lt) _)
  have HW := Lib.hid hw
  clear hw
  go_upto_region 2 with (at_builtin; go_must (refine wpList_append_lies _ rfl (.tmp 12) (.tmp 14) 23 rfl (X + 1) 9 is (.string ByteArray.empty) 1 16 Tryd.underlying23 HI.out HI0.out HI1.out HI2.out rfl (by omega) (.slice none 0 0) 0 [] rfl (World.ownsRow_nil _ _ _ _) ⟨w1.heap.size, 0, none⟩ 1 1 [.string s] rfl rfl ?q11 ?q12 (by omega) (by unfold maxLen; omega) (by omega) ?q13 _ rfl ?z1))
  case q11 =>
    intro j u hj
    match j, hj with
    | 0, hj => cases hj; rw [Addr.add_lit, ← HW.out]; exact P2.out.cellAt (i := 0) rfl
    | j + 1, hj => simp at hj
  case q12 => first | rfl | (intro u hu; simp at hu; subst hu; rfl)
  case q13 => rw [← HW.out]; exact X2.out.lt
  intro ga capa w3 ho hg hb hs
  rw [← HW.out] at hg
  have hbel : Below w2.heap.size w2 w3 := ⟨hg.os, hg.tape, hg.output, hg.size, fun q hq => hg.block q hq (by simp [Value.ownBlock])⟩
  have hga : ga = w2.heap.size := by rw [HW.out]; simpa [Value.ownBlock] using hb
  clear HW
  have X3 := Lib.hid (X2.out.below hbel X2.out.lt)
  have K3 := Lib.hid (K2.out.below hbel K2.out.lt)
  have B3 : Hid (Below X w w3) := Lib.hid (B2.out.trans (hbel.mono (Nat.le_of_lt X2.out.lt)))
  have N3 : Hid (w3.cell? ⟨ga, 0, none⟩ = some (.string s)) := Lib.hid (by rw [World.ownsRow.cellAt ho 0 (by omega)]; rfl)
  have HGN : Hid (X < ga) := Lib.hid (by rw [hga]; exact X2.out.lt)
  obtain ⟨gn, hgn⟩ : ∃ z, z = ga := ⟨_, rfl⟩
  obtain ⟨cn, hcn⟩ : ∃ z, z = capa := ⟨_, rfl⟩
  rw [← hgn, ← hcn]
  rw [← hgn] at N3 HGN
  clear ho hg hb hs hga hbel hc hgn hcn
  have c6 := Has.cellAt X3.out (i := 3) rfl
  have f6 := Has.frozen X3.out 3
  go_upto_region 2 with fail
  clear c6 f6
  obtain ⟨w4, hw⟩ : ∃ y, y = w3.setCell ⟨X, 3, none⟩ (.slice (some ⟨gn, 0, none⟩) 1 cn) := ⟨_, rfl⟩
  have X4 := Lib.hid (show Has w4 X [.int .u8 (k : Int), .int .i64 0, .string ⟨#[]⟩, .slice (some ⟨gn, 0, none⟩) 1 cn, .slice none 0 0, .bool false, .slice none 0 0, .int .i64 (a : Int)] 28 by rw [hw]; exact X3.out.set 3 _)
  have K4 := Lib.hid (show Has w4 Kb kid 28 by rw [hw]; exact K3.out.setOther (by have := HKX.out; show Kb ≠ X; omega) _)
  have N4 : Hid (w4.cell? ⟨gn, 0, none⟩ = some (.string s)) := Lib.hid (by rw [hw, World.cell?_setCell_other _ _ _ _ (fun e => by have h2 : X = gn := congrArg Addr.block e; have := HGN.out; omega)]; exact N3.out)
  have B4 : Hid (Below X w w4) := Lib.hid (by rw [hw]; exact B3.out.setCell (p := ⟨X, 3, none⟩) (Nat.le_refl _) _)
  rw [← hw]
  clear hw
  have hc := Has.cellAt X4.out (i := 4) rfl
  obtain ⟨w5, hw⟩ : ∃ y, y = w4.alloc (.cells #[.bool b] 4) := ⟨_, rfl⟩
  have P5 : Hid (Has w5 w4.heap.size [.bool b] 4) := Lib.hid (by rw [hw]; exact Has.new w4 [.bool b] _)
  have X5 := Lib.hid (show Has w5 X [.int .u8 (k : Int), .int .i64 0, .string ⟨#[]⟩, .slice (some ⟨gn, 0, none⟩) 1 cn, .slice none 0 0, .bool false, .slice none 0 0, .int .i64 (a : Int)] 28 by rw [hw]; exact X4.out.alloc _)
  have K5 := Lib.hid (show Has w5 Kb kid 28 by rw [hw]; exact K4.out.alloc _)
  have N5 : Hid (w5.cell? ⟨gn, 0, none⟩ = some (.string s)) := Lib.hid (by rw [hw]; exact (World.cell?_of_block (((Below.refl w4.heap.size _).alloc (Nat.le_refl _) _).block gn (World.block_lt_of_cell? _ _ N4.out))).trans N4.out)
  have B5 : Hid (Below X w w5) := Lib.hid (by rw [hw]; exact B4.out.alloc (Nat.le_of_lt X4.out.lt) _)
  have HW := Lib.hid hw
  clear hw
  go_upto_region 3 with (at_builtin; go_must (refine wpList_append_lies _ rfl (.tmp 22) (.tmp 24) 25 rfl (X + 1) 4 ib (.bool false) 1 1 Tryd.underlying25 HB.out HB0.out HB1.out HB2.out rfl (by omega) (.slice none 0 0) 0 [] rfl (World.ownsRow_nil _ _ _ _) ⟨w4.heap.size, 0, none⟩ 1 1 [.bool b] rfl rfl ?q41 ?q42 (by omega) (by unfold maxLen; omega) (by omega) ?q43 _ rfl ?z4))
  case q41 =>
    intro j u hj
    match j, hj with
    | 0, hj => cases hj; rw [Addr.add_lit, ← HW.out]; exact P5.out.cellAt (i := 0) rfl
    | j + 1, hj => simp at hj
  case q42 => first | rfl | (intro u hu; simp at hu; subst hu; rfl)
  case q43 => rw [← HW.out]; exact X5.out.lt
  intro ga capa w6 ho hg hb hs
  rw [← HW.out] at hg
  have hbel : Below w5.heap.size w5 w6 := ⟨hg.os, hg.tape, hg.output, hg.size, fun q hq => hg.block q hq (by simp [Value.ownBlock])⟩
  have hga : ga = w5.heap.size := by rw [HW.out]; simpa [Value.ownBlock] using hb
  clear HW
  have X6 := Lib.hid (X5.out.below hbel X5.out.lt)
  have K6 := Lib.hid (K5.out.below hbel K5.out.lt)
  have B6 : Hid (Below X w w6) := Lib.hid (B5.out.trans (hbel.mono (Nat.le_of_lt X5.out.lt)))
  have N6 : Hid (w6.cell? ⟨gn, 0, none⟩ = some (.string s)) := Lib.hid ((World.cell?_of_block (hbel.block gn (World.block_lt_of_cell? _ _ N5.out))).trans N5.out)
  obtain ⟨gh, hgh⟩ : ∃ z, z = ga := ⟨_, rfl⟩
  obtain ⟨ch, hch⟩ : ∃ z, z = capa := ⟨_, rfl⟩
  rw [← hgh, ← hch]
  clear ho hg hb hs hga hbel hc hgh hch
  have c6 := Has.cellAt X6.out (i := 4) rfl
  have f6 := Has.frozen X6.out 4
  go_upto_region 3 with fail
  clear c6 f6
  obtain ⟨w7, hw⟩ : ∃ y, y = w6.setCell ⟨X, 4, none⟩ (.slice (some ⟨gh, 0, none⟩) 1 ch) := ⟨_, rfl⟩
  have X7 := Lib.hid (show Has w7 X [.int .u8 (k : Int), .int .i64 0, .string ⟨#[]⟩, .slice (some ⟨gn, 0, none⟩) 1 cn, .slice (some ⟨gh, 0, none⟩) 1 ch, .bool false, .slice none 0 0, .int .i64 (a : Int)] 28 by rw [hw]; exact X6.out.set 4 _)
  have K7 := Lib.hid (show Has w7 Kb kid 28 by rw [hw]; exact K6.out.setOther (by have := HKX.out; show Kb ≠ X; omega) _)
  have N7 : Hid (w7.cell? ⟨gn, 0, none⟩ = some (.string s)) := Lib.hid (by rw [hw, World.cell?_setCell_other _ _ _ _ (fun e => by have h2 : X = gn := congrArg Addr.block e; have := HGN.out; omega)]; exact N6.out)
  have B7 : Hid (Below X w w7) := Lib.hid (by rw [hw]; exact B6.out.setCell (p := ⟨X, 4, none⟩) (Nat.le_refl _) _)
  rw [← hw]
  clear hw
  refine wp_region_held_drew (S := fun W => (∃ u, Has W X [.int .u8 (k : Int), .int .i64 0, .string ⟨#[]⟩, .slice (some ⟨gn, 0, none⟩) 1 cn, .slice (some ⟨gh, 0, none⟩) 1 ch, .bool false, u, .int .i64 (a : Int)] 28) ∧ Has W Kb kid 28) (by kernel_rfl) ⟨⟨_, X7.out.drew⟩, K7.out.drew⟩ (fun hHeld => ?_)
  obtain ⟨v0, hv0⟩ : ∃ y, y = w7.drew := ⟨_, rfl⟩
  have X0 := Lib.hid (show Has v0 X [.int .u8 (k : Int), .int .i64 0, .string ⟨#[]⟩, .slice (some ⟨gn, 0, none⟩) 1 cn, .slice (some ⟨gh, 0, none⟩) 1 ch, .bool false, .slice none 0 0, .int .i64 (a : Int)] 28 by rw [hv0]; exact X7.out.drew)
  have K0 := Lib.hid (show Has v0 Kb kid 28 by rw [hv0]; exact K7.out.drew)
  have N0 : Hid (v0.cell? ⟨gn, 0, none⟩ = some (.string s)) := Lib.hid (by rw [hv0]; exact N7.out)
  have B0 : Hid (Below X w v0) := Lib.hid (by rw [hv0]; exact B7.out.drew)
  rw [← hv0] at hHeld
  rw [← hv0]
  clear hv0
  refine wpAnyH_take (i := 0) (oi := { dst := some 28, op := Op.move (Operand.tmp 0), type := 72, pos := "parse.go:130", after := #[], guard := none }) (v := .pointer (some ⟨X, 0, none⟩)) rfl (by kernel_rfl) (by kernel_rfl) (by kernel_rfl) (fun _ _ _ h => h)
    (Or.inl ⟨by rfl, by intro w hSw;  clear hSw; go_simp⟩) hHeld ?_
  try simp only [Act.put, List.setIfInBounds_toArray, List.set_cons_zero, List.set_cons_succ]
  refine wpAnyH_take (i := 1) (oi := { dst := some 29, op := Op.nilCheck (Operand.tmp 28), type := 0, pos := "parse.go:130", after := #[{ on := 0, ground := Ground.data }], guard := none }) (v := .pointer (some ⟨X, 0, none⟩)) rfl (by kernel_rfl) (by kernel_rfl) (by kernel_rfl) (fun _ _ _ h => h)
    (Or.inl ⟨by rfl, by intro w hSw;  clear hSw; go_simp⟩) hHeld ?_
  try simp only [Act.put, List.setIfInBounds_toArray, List.set_cons_zero, List.set_cons_succ]
  refine wpAnyH_take (i := 2) (oi := { dst := some 30, op := Op.fieldAddr 28 (Operand.tmp 29) 6, type := 0, pos := "parse.go:130", after := #[{ on := 1, ground := Ground.data }], guard := none }) (v := .pointer (some ⟨X, 6, none⟩)) rfl (by kernel_rfl) (by kernel_rfl) (by kernel_rfl) (fun _ _ _ h => h)
    (Or.inl ⟨by rfl, by intro w hSw;  clear hSw; go_simp⟩) hHeld ?_
  try simp only [Act.put, List.setIfInBounds_toArray, List.set_cons_zero, List.set_cons_succ]
  refine wpAnyH_take (i := 4) (oi := { dst := some 32, op := Op.load 28 (Operand.tmp 7), type := 28, pos := "parse.go:130", after := #[], guard := none }) rfl (by kernel_rfl) (by kernel_rfl) (by kernel_rfl) (fun _ _ _ h => h)
    (yieldsIf_load_mid (by rfl) 28 (.tmp 7) rfl Kb (0) rfl kid _ (fun _ h => tw_range h.2) Tryd.underlying28 rfl HKL.out) hHeld ?_
  try simp only [Act.put, List.setIfInBounds_toArray, List.set_cons_zero, List.set_cons_succ]
  refine wpAnyH_ready (rs := [3, 6]) (by kernel_rfl) (by simp) ?_
  refine AllReadyH.cons (o := { dst := some 31, op := Op.load 26 (Operand.tmp 30), type := 26, pos := "parse.go:130", after := #[{ on := 2, ground := Ground.data }], guard := none }) rfl (fun K hK => ?_) (AllReadyH.cons (o := { dst := some 34, op := Op.buildSlice 26 1 #[(0, Operand.const (Value.agg #[Value.int IntKind.u8 0, Value.int IntKind.i64 0, Value.string { data := #[] }, Value.slice none 0 0, Value.slice none 0 0, Value.bool false, Value.slice none 0 0, Value.int IntKind.i64 0]))], type := 26, pos := "parse.go:130", after := #[], guard := none }) rfl (fun K hK => ?_) AllReadyH.nil)
  · have hcl := Has.cellAt X0.out (i := 6) rfl
    go_simp
    clear hcl
    refine hK.out _ _ ⟨⟨_, X0.out⟩, K0.out⟩ (fun hHw1 => ?_)
    clear hK K hHeld
    try simp only [Act.put, List.setIfInBounds_toArray, List.set_cons_zero, List.set_cons_succ]
    refine wpAnyH_take (i := 5) (oi := { dst := some 33, op := Op.call { callee := Callee.builtin Builtin.len, args := #[Operand.tmp 31], argTypes := #[26] }, type := 3, pos := "parse.go:130", after := #[{ on := 3, ground := Ground.data }], guard := none }) (v := .int .i64 0) rfl (by kernel_rfl) (by kernel_rfl) (by kernel_rfl) (fun _ _ _ h => h)
      (Or.inl ⟨by rfl, by intro w hSw;  clear hSw; go_simp⟩) hHw1 ?_
    try simp only [Act.put, List.setIfInBounds_toArray, List.set_cons_zero, List.set_cons_succ]
    refine wpAnyH_ready (rs := [6]) (by kernel_rfl) (by simp) ?_
    refine AllReadyH.cons (o := { dst := some 34, op := Op.buildSlice 26 1 #[(0, Operand.const (Value.agg #[Value.int IntKind.u8 0, Value.int IntKind.i64 0, Value.string { data := #[] }, Value.slice none 0 0, Value.slice none 0 0, Value.bool false, Value.slice none 0 0, Value.int IntKind.i64 0]))], type := 26, pos := "parse.go:130", after := #[], guard := none }) rfl (fun K hK => ?_) AllReadyH.nil
    go_simp
    obtain ⟨v0b, hv⟩ : ∃ y, y = v0.alloc (.cells #[.int .u8 0, .int .i64 0, .string ⟨#[]⟩, .slice none 0 0, .slice none 0 0, .bool false, .slice none 0 0, .int .i64 0] 28) := ⟨_, rfl⟩
    have Z0b : Hid (Has v0b v0.heap.size exZ 28) := Lib.hid (by rw [hv]; exact Has.new v0 exZ _)
    have X0b : Hid (Has v0b X [.int .u8 (k : Int), .int .i64 0, .string ⟨#[]⟩, .slice (some ⟨gn, 0, none⟩) 1 cn, .slice (some ⟨gh, 0, none⟩) 1 ch, .bool false, .slice none 0 0, .int .i64 (a : Int)] 28) := Lib.hid (by rw [hv]; exact X0.out.alloc _)
    have K0b : Hid (Has v0b Kb kid 28) := Lib.hid (by rw [hv]; exact K0.out.alloc _)
    have N0b : Hid (v0b.cell? ⟨gn, 0, none⟩ = some (.string s)) := Lib.hid (by rw [hv]; exact (World.cell?_of_block (((Below.refl v0.heap.size _).alloc (Nat.le_refl _) _).block gn (World.block_lt_of_cell? _ _ N0.out))).trans N0.out)
    have B0b : Hid (Below X w v0b) := Lib.hid (by rw [hv]; exact B0.out.alloc (Nat.le_of_lt X0.out.lt) _)
    rw [← hv]
    have HV0b := Lib.hid hv
    clear hv
    refine hK.out _ _ ⟨⟨_, X0b.out⟩, K0b.out⟩ (fun hHw2 => ?_)
    clear hK K hHw1
    try simp only [Act.put, List.setIfInBounds_toArray, List.set_cons_zero, List.set_cons_succ]
    refine wpAnyH_ready (rs := [7]) (by kernel_rfl) (by simp) ?_
    refine AllReadyH.cons (o := { dst := some 35, op := Op.call { callee := Callee.builtin Builtin.append, args := #[Operand.tmp 31, Operand.tmp 34], argTypes := #[26, 26] }, type := 26, pos := "parse.go:130", after := #[{ on := 3, ground := Ground.data }, { on := 6, ground := Ground.data }, { on := 0, ground := Ground.phase }, { on := 1, ground := Ground.phase }, { on := 2, ground := Ground.phase }, { on := 3, ground := Ground.phase }, { on := 4, ground := Ground.phase }, { on := 5, ground := Ground.phase }, { on := 6, ground := Ground.phase }], guard := none }) rfl (fun K hK => ?_) AllReadyH.nil
    rw [if_pos (by rfl)]
    refine wp_append_lies _ (.tmp 31) (.tmp 34) 26 rfl (X + 1) 28 ie (.agg exZ.toArray) 8 120 Tryd.underlying26 HE.out HE0.out HE1.out HE2.out rfl (by omega) (.slice none 0 0) 0 [] rfl (World.ownsRow_nil _ _ _ _) ⟨v0.heap.size, 0, none⟩ 1 1 exZ rfl rfl (fun j u hj => ?_) (fun u hu => ?_) (by omega) (by unfold maxLen; omega) (by omega) X0b.out.lt v0b.heap.size rfl (fun ga capa v0bp ho hg hb hs => ?_)
    · rw [Addr.add_lit]; exact Z0b.out.cellAt (by rw [Nat.zero_add]; exact hj)
    · simp only [exZ, List.mem_cons, List.not_mem_nil, or_false] at hu; rcases hu with rfl | rfl | rfl | rfl | rfl | rfl | rfl | rfl <;> rfl
    have hbel : Below v0b.heap.size v0b v0bp := ⟨hg.os, hg.tape, hg.output, hg.size, fun q hq => hg.block q hq (by simp [Value.ownBlock])⟩
    obtain rfl : ga = v0b.heap.size := hb.resolve_left (by simp [Value.ownBlock])
    have T0bp : Hid (v0bp.there v0b.heap.size 0 kid.length) := Lib.hid (fun j hj => by
      rw [Nat.zero_add]; refine ⟨?_, ?_⟩
      · rw [World.ownsRow.cellAt ho j (by rw [H8.out] at hj; omega)]; rw [H8.out] at hj; simp [exZ]; omega
      · rcases ho.2 with ⟨h', _⟩ | ⟨g', cap', cur, h', _, hgc, _⟩
        · simp at h'
        · simp only [Value.slice.injEq, Option.some.injEq, Addr.mk.injEq, and_true, true_and] at h'
          obtain ⟨rfl, _⟩ := h'
          simp [World.frozen?, hgc])
    have X0bp := Lib.hid (X0b.out.below hbel X0b.out.lt)
    have K0bp := Lib.hid (K0b.out.below hbel K0b.out.lt)
    have N0bp : Hid (v0bp.cell? ⟨gn, 0, none⟩ = some (.string s)) := Lib.hid ((World.cell?_of_block (hbel.block gn (World.block_lt_of_cell? _ _ N0b.out))).trans N0b.out)
    have B0bp : Hid (Below X w v0bp) := Lib.hid (B0b.out.trans (hbel.mono (Nat.le_of_lt X0b.out.lt)))
    have LT : Hid (X < v0b.heap.size ∧ Kb < v0b.heap.size ∧ gn < v0b.heap.size) := Lib.hid ⟨X0b.out.lt, K0b.out.lt, World.block_lt_of_cell? _ _ N0b.out⟩
    obtain ⟨GA, hGA⟩ : ∃ z, z = v0b.heap.size := ⟨_, rfl⟩
    rw [← hGA] at T0bp LT ⊢
    clear ho hg hb hs hbel hGA
    refine hK.out _ _ ⟨⟨_, X0bp.out⟩, K0bp.out⟩ (fun hHw3 => ?_)
    clear hK K hHw2
    try simp only [Act.put, List.setIfInBounds_toArray, List.set_cons_zero, List.set_cons_succ]
    refine wpAnyH_take (i := 8) (oi := { dst := some 36, op := Op.indexAddr 26 (Operand.tmp 35) (Operand.tmp 33), type := 0, pos := "parse.go:130", after := #[{ on := 7, ground := Ground.data }, { on := 5, ground := Ground.data }, { on := 0, ground := Ground.phase }, { on := 1, ground := Ground.phase }, { on := 2, ground := Ground.phase }, { on := 3, ground := Ground.phase }, { on := 4, ground := Ground.phase }, { on := 5, ground := Ground.phase }, { on := 6, ground := Ground.phase }, { on := 7, ground := Ground.phase }, { on := 12, ground := Ground.gcOnly Departure.appendInPlace }], guard := none }) (v := .pointer (some ⟨GA, 0, none⟩)) rfl (by kernel_rfl) (by kernel_rfl) (by kernel_rfl) (fun _ _ _ h => h)
      (Or.inl ⟨by rfl, by intro w hSw;  clear hSw; go_simp⟩) hHw3 ?_
    try simp only [Act.put, List.setIfInBounds_toArray, List.set_cons_zero, List.set_cons_succ]
    refine wpAnyH_take (i := 10) (oi := { dst := some 37, op := Op.nilCheck (Operand.tmp 28), type := 0, pos := "parse.go:130", after := #[{ on := 0, ground := Ground.data }, { on := 0, ground := Ground.phase }, { on := 1, ground := Ground.phase }, { on := 2, ground := Ground.phase }, { on := 3, ground := Ground.phase }, { on := 4, ground := Ground.phase }, { on := 5, ground := Ground.phase }, { on := 6, ground := Ground.phase }, { on := 7, ground := Ground.phase }, { on := 8, ground := Ground.textOnly Departure.appendInPlace }, { on := 9, ground := Ground.textOnly Departure.appendInPlace }], guard := none }) (v := .pointer (some ⟨X, 0, none⟩)) rfl (by kernel_rfl) (by kernel_rfl) (by kernel_rfl) (fun _ _ _ h => h)
      (Or.inl ⟨by rfl, by intro w hSw;  clear hSw; go_simp⟩) hHw3 ?_
    try simp only [Act.put, List.setIfInBounds_toArray, List.set_cons_zero, List.set_cons_succ]
    refine wpAnyH_take (i := 11) (oi := { dst := some 38, op := Op.fieldAddr 28 (Operand.tmp 37) 6, type := 0, pos := "parse.go:130", after := #[{ on := 10, ground := Ground.data }, { on := 0, ground := Ground.phase }, { on := 1, ground := Ground.phase }, { on := 2, ground := Ground.phase }, { on := 3, ground := Ground.phase }, { on := 4, ground := Ground.phase }, { on := 5, ground := Ground.phase }, { on := 6, ground := Ground.phase }, { on := 7, ground := Ground.phase }, { on := 8, ground := Ground.textOnly Departure.appendInPlace }, { on := 9, ground := Ground.textOnly Departure.appendInPlace }], guard := none }) (v := .pointer (some ⟨X, 6, none⟩)) rfl (by kernel_rfl) (by kernel_rfl) (by kernel_rfl) (fun _ _ _ h => h)
      (Or.inl ⟨by rfl, by intro w hSw;  clear hSw; go_simp⟩) hHw3 ?_
    try simp only [Act.put, List.setIfInBounds_toArray, List.set_cons_zero, List.set_cons_succ]
    refine wpAnyH_ready (rs := [9, 12]) (by kernel_rfl) (by simp) ?_
    refine AllReadyH.cons (o := { dst := none, op := Op.store 28 (Operand.tmp 36) (Operand.tmp 32), type := 0, pos := "parse.go:130", after := #[{ on := 8, ground := Ground.data }, { on := 4, ground := Ground.data }, { on := 7, ground := Ground.chain }, { on := 0, ground := Ground.phase }, { on := 1, ground := Ground.phase }, { on := 2, ground := Ground.phase }, { on := 3, ground := Ground.phase }, { on := 4, ground := Ground.phase }, { on := 5, ground := Ground.phase }, { on := 6, ground := Ground.phase }, { on := 7, ground := Ground.phase }, { on := 12, ground := Ground.gcOnly Departure.appendInPlace }], guard := none }) rfl (fun K hK => ?_) (AllReadyH.cons (o := { dst := none, op := Op.store 26 (Operand.tmp 38) (Operand.tmp 35), type := 0, pos := "parse.go:130", after := #[{ on := 11, ground := Ground.data }, { on := 7, ground := Ground.data }, { on := 7, ground := Ground.chain }, { on := 9, ground := Ground.textOnly Departure.appendInPlace }, { on := 0, ground := Ground.phase }, { on := 1, ground := Ground.phase }, { on := 2, ground := Ground.phase }, { on := 3, ground := Ground.phase }, { on := 4, ground := Ground.phase }, { on := 5, ground := Ground.phase }, { on := 6, ground := Ground.phase }, { on := 7, ground := Ground.phase }, { on := 8, ground := Ground.textOnly Departure.appendInPlace }, { on := 9, ground := Ground.textOnly Departure.appendInPlace }], guard := none }) rfl (fun K hK => ?_) AllReadyH.nil)
    · rw [if_pos (by rfl)]
      refine wp_store_mid 28 (.tmp 36) (.tmp 32) rfl GA 0 kid.toArray rfl rfl (by rw [List.size_toArray]; exact T0bp.out) HKI.out HKO.out ?_
      obtain ⟨v0bps, hv⟩ : ∃ y, y = v0bp.setCells GA 0 kid.toArray.toList := ⟨_, rfl⟩
      have hbel : Below GA v0bp v0bps := by rw [hv]; exact cells_below (Nat.le_refl _) _ _ (Below.refl _ _)
      have X0bps := Lib.hid (Has.below X0bp.out hbel LT.out.1)
      have K0bps := Lib.hid (Has.below K0bp.out hbel LT.out.2.1)
      have N0bps : Hid (v0bps.cell? ⟨gn, 0, none⟩ = some (.string s)) := Lib.hid ((World.cell?_of_block (hbel.block gn LT.out.2.2)).trans N0bp.out)
      have B0bps : Hid (Below X w v0bps) := Lib.hid (B0bp.out.trans (hbel.mono (Nat.le_of_lt LT.out.1)))
      rw [← hv]
      clear hv hbel
      refine hK.out _ _ ⟨⟨_, X0bps.out⟩, K0bps.out⟩ (fun hHw4 => ?_)
      clear hK K hHw3
      try simp only [Act.put]
      refine wpAnyH_ready (rs := [12]) (by kernel_rfl) (by simp) ?_
      refine AllReadyH.cons (o := { dst := none, op := Op.store 26 (Operand.tmp 38) (Operand.tmp 35), type := 0, pos := "parse.go:130", after := #[{ on := 11, ground := Ground.data }, { on := 7, ground := Ground.data }, { on := 7, ground := Ground.chain }, { on := 9, ground := Ground.textOnly Departure.appendInPlace }, { on := 0, ground := Ground.phase }, { on := 1, ground := Ground.phase }, { on := 2, ground := Ground.phase }, { on := 3, ground := Ground.phase }, { on := 4, ground := Ground.phase }, { on := 5, ground := Ground.phase }, { on := 6, ground := Ground.phase }, { on := 7, ground := Ground.phase }, { on := 8, ground := Ground.textOnly Departure.appendInPlace }, { on := 9, ground := Ground.textOnly Departure.appendInPlace }], guard := none }) rfl (fun K hK => ?_) AllReadyH.nil
      have hcl := Has.cellAt X0bps.out (i := 6) rfl
      have hfz := Has.frozen X0bps.out 6
      go_simp
      clear hcl hfz
      obtain ⟨v0bpse, hv⟩ : ∃ y, y = v0bps.setCell ⟨X, 6, none⟩ (.slice (some ⟨GA, 0, none⟩) 1 capa) := ⟨_, rfl⟩
      have X0bpse := Lib.hid (show Has v0bpse X [.int .u8 (k : Int), .int .i64 0, .string ⟨#[]⟩, .slice (some ⟨gn, 0, none⟩) 1 cn, .slice (some ⟨gh, 0, none⟩) 1 ch, .bool false, .slice (some ⟨GA, 0, none⟩) 1 capa, .int .i64 (a : Int)] 28 by rw [hv]; exact Has.set X0bps.out 6 _)
      have K0bpse := Lib.hid (show Has v0bpse Kb kid 28 by rw [hv]; exact K0bps.out.setOther (by have := HKX.out; show Kb ≠ X; omega) _)
      have N0bpse : Hid (v0bpse.cell? ⟨gn, 0, none⟩ = some (.string s)) := Lib.hid (by rw [hv, World.cell?_setCell_other _ _ _ _ (fun e => by have h2 : X = gn := congrArg Addr.block e; have := HGN.out; omega)]; exact N0bps.out)
      have B0bpse : Hid (Below X w v0bpse) := Lib.hid (by rw [hv]; exact B0bps.out.setCell (p := ⟨X, 6, none⟩) (Nat.le_refl _) _)
      rw [← hv]
      clear hv
      refine hK.out _ _ ⟨⟨_, X0bpse.out⟩, K0bpse.out⟩ (fun hHw5 => ?_)
      clear hK K hHw4
      try simp only [Act.put]
      refine wpAnyH_done (by kernel_rfl) ?_ _
      clear hHw5
      first | go_end0 | (simp only [Exit.inBlock, Exit.then]; refine bodyPost_ret (results_none rfl _ _ _) rfl ?_) | refine bodyPost_ret (results_none rfl _ _ _) rfl ?_ | refine bodyPost_end (v := .tuple #[]) (results_none rfl _ _ _) rfl ?_
      exact ⟨rfl, ⟨_, _, _, _, _, _, _, gn, cn, X0bpse.out, World.block_lt_of_cell? _ _ N0bpse.out, HGN.out, N0bpse.out⟩, B0bpse.out⟩
    · have hcl := Has.cellAt X0bp.out (i := 6) rfl
      have hfz := Has.frozen X0bp.out 6
      go_simp
      clear hcl hfz
      obtain ⟨v0bpe, hv⟩ : ∃ y, y = v0bp.setCell ⟨X, 6, none⟩ (.slice (some ⟨GA, 0, none⟩) 1 capa) := ⟨_, rfl⟩
      have X0bpe := Lib.hid (show Has v0bpe X [.int .u8 (k : Int), .int .i64 0, .string ⟨#[]⟩, .slice (some ⟨gn, 0, none⟩) 1 cn, .slice (some ⟨gh, 0, none⟩) 1 ch, .bool false, .slice (some ⟨GA, 0, none⟩) 1 capa, .int .i64 (a : Int)] 28 by rw [hv]; exact Has.set X0bp.out 6 _)
      have K0bpe := Lib.hid (show Has v0bpe Kb kid 28 by rw [hv]; exact K0bp.out.setOther (by have := HKX.out; show Kb ≠ X; omega) _)
      have N0bpe : Hid (v0bpe.cell? ⟨gn, 0, none⟩ = some (.string s)) := Lib.hid (by rw [hv, World.cell?_setCell_other _ _ _ _ (fun e => by have h2 : X = gn := congrArg Addr.block e; have := HGN.out; omega)]; exact N0bp.out)
      have T0bpe : Hid (v0bpe.there GA 0 kid.length) := Lib.hid (there_block T0bp.out (by rw [hv]; exact heap_setCell_other _ ⟨X, 6, none⟩ GA _ (by have := LT.out.1; show GA ≠ X; omega)))
      have B0bpe : Hid (Below X w v0bpe) := Lib.hid (by rw [hv]; exact B0bp.out.setCell (p := ⟨X, 6, none⟩) (Nat.le_refl _) _)
      rw [← hv]
      clear hv
      refine hK.out _ _ ⟨⟨_, X0bpe.out⟩, K0bpe.out⟩ (fun hHw4 => ?_)
      clear hK K hHw3
      try simp only [Act.put]
      refine wpAnyH_ready (rs := [9]) (by kernel_rfl) (by simp) ?_
      refine AllReadyH.cons (o := { dst := none, op := Op.store 28 (Operand.tmp 36) (Operand.tmp 32), type := 0, pos := "parse.go:130", after := #[{ on := 8, ground := Ground.data }, { on := 4, ground := Ground.data }, { on := 7, ground := Ground.chain }, { on := 0, ground := Ground.phase }, { on := 1, ground := Ground.phase }, { on := 2, ground := Ground.phase }, { on := 3, ground := Ground.phase }, { on := 4, ground := Ground.phase }, { on := 5, ground := Ground.phase }, { on := 6, ground := Ground.phase }, { on := 7, ground := Ground.phase }, { on := 12, ground := Ground.gcOnly Departure.appendInPlace }], guard := none }) rfl (fun K hK => ?_) AllReadyH.nil
      rw [if_pos (by rfl)]
      refine wp_store_mid 28 (.tmp 36) (.tmp 32) rfl GA 0 kid.toArray rfl rfl (by rw [List.size_toArray]; exact T0bpe.out) HKI.out HKO.out ?_
      obtain ⟨v0bpes, hv⟩ : ∃ y, y = v0bpe.setCells GA 0 kid.toArray.toList := ⟨_, rfl⟩
      have hbel : Below GA v0bpe v0bpes := by rw [hv]; exact cells_below (Nat.le_refl _) _ _ (Below.refl _ _)
      have X0bpes := Lib.hid (Has.below X0bpe.out hbel LT.out.1)
      have K0bpes := Lib.hid (Has.below K0bpe.out hbel LT.out.2.1)
      have N0bpes : Hid (v0bpes.cell? ⟨gn, 0, none⟩ = some (.string s)) := Lib.hid ((World.cell?_of_block (hbel.block gn LT.out.2.2)).trans N0bpe.out)
      have B0bpes : Hid (Below X w v0bpes) := Lib.hid (B0bpe.out.trans (hbel.mono (Nat.le_of_lt LT.out.1)))
      rw [← hv]
      clear hv hbel
      refine hK.out _ _ ⟨⟨_, X0bpes.out⟩, K0bpes.out⟩ (fun hHw5 => ?_)
      clear hK K hHw4
      try simp only [Act.put]
      refine wpAnyH_done (by kernel_rfl) ?_ _
      clear hHw5
      first | go_end0 | (simp only [Exit.inBlock, Exit.then]; refine bodyPost_ret (results_none rfl _ _ _) rfl ?_) | refine bodyPost_ret (results_none rfl _ _ _) rfl ?_ | refine bodyPost_end (v := .tuple #[]) (results_none rfl _ _ _) rfl ?_
      exact ⟨rfl, ⟨_, _, _, _, _, _, _, gn, cn, X0bpes.out, World.block_lt_of_cell? _ _ N0bpes.out, HGN.out, N0bpes.out⟩, B0bpes.out⟩
  · go_simp
    obtain ⟨v0b, hv⟩ : ∃ y, y = v0.alloc (.cells #[.int .u8 0, .int .i64 0, .string ⟨#[]⟩, .slice none 0 0, .slice none 0 0, .bool false, .slice none 0 0, .int .i64 0] 28) := ⟨_, rfl⟩
    have Z0b : Hid (Has v0b v0.heap.size exZ 28) := Lib.hid (by rw [hv]; exact Has.new v0 exZ _)
    have X0b : Hid (Has v0b X [.int .u8 (k : Int), .int .i64 0, .string ⟨#[]⟩, .slice (some ⟨gn, 0, none⟩) 1 cn, .slice (some ⟨gh, 0, none⟩) 1 ch, .bool false, .slice none 0 0, .int .i64 (a : Int)] 28) := Lib.hid (by rw [hv]; exact X0.out.alloc _)
    have K0b : Hid (Has v0b Kb kid 28) := Lib.hid (by rw [hv]; exact K0.out.alloc _)
    have N0b : Hid (v0b.cell? ⟨gn, 0, none⟩ = some (.string s)) := Lib.hid (by rw [hv]; exact (World.cell?_of_block (((Below.refl v0.heap.size _).alloc (Nat.le_refl _) _).block gn (World.block_lt_of_cell? _ _ N0.out))).trans N0.out)
    have B0b : Hid (Below X w v0b) := Lib.hid (by rw [hv]; exact B0.out.alloc (Nat.le_of_lt X0.out.lt) _)
    rw [← hv]
    have HV0b := Lib.hid hv
    clear hv
    refine hK.out _ _ ⟨⟨_, X0b.out⟩, K0b.out⟩ (fun hHw1 => ?_)
    clear hK K hHeld
    try simp only [Act.put, List.setIfInBounds_toArray, List.set_cons_zero, List.set_cons_succ]
    refine wpAnyH_ready (rs := [3]) (by kernel_rfl) (by simp) ?_
    refine AllReadyH.cons (o := { dst := some 31, op := Op.load 26 (Operand.tmp 30), type := 26, pos := "parse.go:130", after := #[{ on := 2, ground := Ground.data }], guard := none }) rfl (fun K hK => ?_) AllReadyH.nil
    have hcl := Has.cellAt X0b.out (i := 6) rfl
    go_simp
    clear hcl
    refine hK.out _ _ ⟨⟨_, X0b.out⟩, K0b.out⟩ (fun hHw2 => ?_)
    clear hK K hHw1
    try simp only [Act.put, List.setIfInBounds_toArray, List.set_cons_zero, List.set_cons_succ]
    refine wpAnyH_take (i := 5) (oi := { dst := some 33, op := Op.call { callee := Callee.builtin Builtin.len, args := #[Operand.tmp 31], argTypes := #[26] }, type := 3, pos := "parse.go:130", after := #[{ on := 3, ground := Ground.data }], guard := none }) (v := .int .i64 0) rfl (by kernel_rfl) (by kernel_rfl) (by kernel_rfl) (fun _ _ _ h => h)
      (Or.inl ⟨by rfl, by intro w hSw;  clear hSw; go_simp⟩) hHw2 ?_
    try simp only [Act.put, List.setIfInBounds_toArray, List.set_cons_zero, List.set_cons_succ]
    refine wpAnyH_ready (rs := [7]) (by kernel_rfl) (by simp) ?_
    refine AllReadyH.cons (o := { dst := some 35, op := Op.call { callee := Callee.builtin Builtin.append, args := #[Operand.tmp 31, Operand.tmp 34], argTypes := #[26, 26] }, type := 26, pos := "parse.go:130", after := #[{ on := 3, ground := Ground.data }, { on := 6, ground := Ground.data }, { on := 0, ground := Ground.phase }, { on := 1, ground := Ground.phase }, { on := 2, ground := Ground.phase }, { on := 3, ground := Ground.phase }, { on := 4, ground := Ground.phase }, { on := 5, ground := Ground.phase }, { on := 6, ground := Ground.phase }], guard := none }) rfl (fun K hK => ?_) AllReadyH.nil
    rw [if_pos (by rfl)]
    refine wp_append_lies _ (.tmp 31) (.tmp 34) 26 rfl (X + 1) 28 ie (.agg exZ.toArray) 8 120 Tryd.underlying26 HE.out HE0.out HE1.out HE2.out rfl (by omega) (.slice none 0 0) 0 [] rfl (World.ownsRow_nil _ _ _ _) ⟨v0.heap.size, 0, none⟩ 1 1 exZ rfl rfl (fun j u hj => ?_) (fun u hu => ?_) (by omega) (by unfold maxLen; omega) (by omega) X0b.out.lt v0b.heap.size rfl (fun ga capa v0bp ho hg hb hs => ?_)
    · rw [Addr.add_lit]; exact Z0b.out.cellAt (by rw [Nat.zero_add]; exact hj)
    · simp only [exZ, List.mem_cons, List.not_mem_nil, or_false] at hu; rcases hu with rfl | rfl | rfl | rfl | rfl | rfl | rfl | rfl <;> rfl
    have hbel : Below v0b.heap.size v0b v0bp := ⟨hg.os, hg.tape, hg.output, hg.size, fun q hq => hg.block q hq (by simp [Value.ownBlock])⟩
    obtain rfl : ga = v0b.heap.size := hb.resolve_left (by simp [Value.ownBlock])
    have T0bp : Hid (v0bp.there v0b.heap.size 0 kid.length) := Lib.hid (fun j hj => by
      rw [Nat.zero_add]; refine ⟨?_, ?_⟩
      · rw [World.ownsRow.cellAt ho j (by rw [H8.out] at hj; omega)]; rw [H8.out] at hj; simp [exZ]; omega
      · rcases ho.2 with ⟨h', _⟩ | ⟨g', cap', cur, h', _, hgc, _⟩
        · simp at h'
        · simp only [Value.slice.injEq, Option.some.injEq, Addr.mk.injEq, and_true, true_and] at h'
          obtain ⟨rfl, _⟩ := h'
          simp [World.frozen?, hgc])
    have X0bp := Lib.hid (X0b.out.below hbel X0b.out.lt)
    have K0bp := Lib.hid (K0b.out.below hbel K0b.out.lt)
    have N0bp : Hid (v0bp.cell? ⟨gn, 0, none⟩ = some (.string s)) := Lib.hid ((World.cell?_of_block (hbel.block gn (World.block_lt_of_cell? _ _ N0b.out))).trans N0b.out)
    have B0bp : Hid (Below X w v0bp) := Lib.hid (B0b.out.trans (hbel.mono (Nat.le_of_lt X0b.out.lt)))
    have LT : Hid (X < v0b.heap.size ∧ Kb < v0b.heap.size ∧ gn < v0b.heap.size) := Lib.hid ⟨X0b.out.lt, K0b.out.lt, World.block_lt_of_cell? _ _ N0b.out⟩
    obtain ⟨GA, hGA⟩ : ∃ z, z = v0b.heap.size := ⟨_, rfl⟩
    rw [← hGA] at T0bp LT ⊢
    clear ho hg hb hs hbel hGA
    refine hK.out _ _ ⟨⟨_, X0bp.out⟩, K0bp.out⟩ (fun hHw3 => ?_)
    clear hK K hHw2
    try simp only [Act.put, List.setIfInBounds_toArray, List.set_cons_zero, List.set_cons_succ]
    refine wpAnyH_take (i := 8) (oi := { dst := some 36, op := Op.indexAddr 26 (Operand.tmp 35) (Operand.tmp 33), type := 0, pos := "parse.go:130", after := #[{ on := 7, ground := Ground.data }, { on := 5, ground := Ground.data }, { on := 0, ground := Ground.phase }, { on := 1, ground := Ground.phase }, { on := 2, ground := Ground.phase }, { on := 3, ground := Ground.phase }, { on := 4, ground := Ground.phase }, { on := 5, ground := Ground.phase }, { on := 6, ground := Ground.phase }, { on := 7, ground := Ground.phase }, { on := 12, ground := Ground.gcOnly Departure.appendInPlace }], guard := none }) (v := .pointer (some ⟨GA, 0, none⟩)) rfl (by kernel_rfl) (by kernel_rfl) (by kernel_rfl) (fun _ _ _ h => h)
      (Or.inl ⟨by rfl, by intro w hSw;  clear hSw; go_simp⟩) hHw3 ?_
    try simp only [Act.put, List.setIfInBounds_toArray, List.set_cons_zero, List.set_cons_succ]
    refine wpAnyH_take (i := 10) (oi := { dst := some 37, op := Op.nilCheck (Operand.tmp 28), type := 0, pos := "parse.go:130", after := #[{ on := 0, ground := Ground.data }, { on := 0, ground := Ground.phase }, { on := 1, ground := Ground.phase }, { on := 2, ground := Ground.phase }, { on := 3, ground := Ground.phase }, { on := 4, ground := Ground.phase }, { on := 5, ground := Ground.phase }, { on := 6, ground := Ground.phase }, { on := 7, ground := Ground.phase }, { on := 8, ground := Ground.textOnly Departure.appendInPlace }, { on := 9, ground := Ground.textOnly Departure.appendInPlace }], guard := none }) (v := .pointer (some ⟨X, 0, none⟩)) rfl (by kernel_rfl) (by kernel_rfl) (by kernel_rfl) (fun _ _ _ h => h)
      (Or.inl ⟨by rfl, by intro w hSw;  clear hSw; go_simp⟩) hHw3 ?_
    try simp only [Act.put, List.setIfInBounds_toArray, List.set_cons_zero, List.set_cons_succ]
    refine wpAnyH_take (i := 11) (oi := { dst := some 38, op := Op.fieldAddr 28 (Operand.tmp 37) 6, type := 0, pos := "parse.go:130", after := #[{ on := 10, ground := Ground.data }, { on := 0, ground := Ground.phase }, { on := 1, ground := Ground.phase }, { on := 2, ground := Ground.phase }, { on := 3, ground := Ground.phase }, { on := 4, ground := Ground.phase }, { on := 5, ground := Ground.phase }, { on := 6, ground := Ground.phase }, { on := 7, ground := Ground.phase }, { on := 8, ground := Ground.textOnly Departure.appendInPlace }, { on := 9, ground := Ground.textOnly Departure.appendInPlace }], guard := none }) (v := .pointer (some ⟨X, 6, none⟩)) rfl (by kernel_rfl) (by kernel_rfl) (by kernel_rfl) (fun _ _ _ h => h)
      (Or.inl ⟨by rfl, by intro w hSw;  clear hSw; go_simp⟩) hHw3 ?_
    try simp only [Act.put, List.setIfInBounds_toArray, List.set_cons_zero, List.set_cons_succ]
    refine wpAnyH_ready (rs := [9, 12]) (by kernel_rfl) (by simp) ?_
    refine AllReadyH.cons (o := { dst := none, op := Op.store 28 (Operand.tmp 36) (Operand.tmp 32), type := 0, pos := "parse.go:130", after := #[{ on := 8, ground := Ground.data }, { on := 4, ground := Ground.data }, { on := 7, ground := Ground.chain }, { on := 0, ground := Ground.phase }, { on := 1, ground := Ground.phase }, { on := 2, ground := Ground.phase }, { on := 3, ground := Ground.phase }, { on := 4, ground := Ground.phase }, { on := 5, ground := Ground.phase }, { on := 6, ground := Ground.phase }, { on := 7, ground := Ground.phase }, { on := 12, ground := Ground.gcOnly Departure.appendInPlace }], guard := none }) rfl (fun K hK => ?_) (AllReadyH.cons (o := { dst := none, op := Op.store 26 (Operand.tmp 38) (Operand.tmp 35), type := 0, pos := "parse.go:130", after := #[{ on := 11, ground := Ground.data }, { on := 7, ground := Ground.data }, { on := 7, ground := Ground.chain }, { on := 9, ground := Ground.textOnly Departure.appendInPlace }, { on := 0, ground := Ground.phase }, { on := 1, ground := Ground.phase }, { on := 2, ground := Ground.phase }, { on := 3, ground := Ground.phase }, { on := 4, ground := Ground.phase }, { on := 5, ground := Ground.phase }, { on := 6, ground := Ground.phase }, { on := 7, ground := Ground.phase }, { on := 8, ground := Ground.textOnly Departure.appendInPlace }, { on := 9, ground := Ground.textOnly Departure.appendInPlace }], guard := none }) rfl (fun K hK => ?_) AllReadyH.nil)
    · rw [if_pos (by rfl)]
      refine wp_store_mid 28 (.tmp 36) (.tmp 32) rfl GA 0 kid.toArray rfl rfl (by rw [List.size_toArray]; exact T0bp.out) HKI.out HKO.out ?_
      obtain ⟨v0bps, hv⟩ : ∃ y, y = v0bp.setCells GA 0 kid.toArray.toList := ⟨_, rfl⟩
      have hbel : Below GA v0bp v0bps := by rw [hv]; exact cells_below (Nat.le_refl _) _ _ (Below.refl _ _)
      have X0bps := Lib.hid (Has.below X0bp.out hbel LT.out.1)
      have K0bps := Lib.hid (Has.below K0bp.out hbel LT.out.2.1)
      have N0bps : Hid (v0bps.cell? ⟨gn, 0, none⟩ = some (.string s)) := Lib.hid ((World.cell?_of_block (hbel.block gn LT.out.2.2)).trans N0bp.out)
      have B0bps : Hid (Below X w v0bps) := Lib.hid (B0bp.out.trans (hbel.mono (Nat.le_of_lt LT.out.1)))
      rw [← hv]
      clear hv hbel
      refine hK.out _ _ ⟨⟨_, X0bps.out⟩, K0bps.out⟩ (fun hHw4 => ?_)
      clear hK K hHw3
      try simp only [Act.put]
      refine wpAnyH_ready (rs := [12]) (by kernel_rfl) (by simp) ?_
      refine AllReadyH.cons (o := { dst := none, op := Op.store 26 (Operand.tmp 38) (Operand.tmp 35), type := 0, pos := "parse.go:130", after := #[{ on := 11, ground := Ground.data }, { on := 7, ground := Ground.data }, { on := 7, ground := Ground.chain }, { on := 9, ground := Ground.textOnly Departure.appendInPlace }, { on := 0, ground := Ground.phase }, { on := 1, ground := Ground.phase }, { on := 2, ground := Ground.phase }, { on := 3, ground := Ground.phase }, { on := 4, ground := Ground.phase }, { on := 5, ground := Ground.phase }, { on := 6, ground := Ground.phase }, { on := 7, ground := Ground.phase }, { on := 8, ground := Ground.textOnly Departure.appendInPlace }, { on := 9, ground := Ground.textOnly Departure.appendInPlace }], guard := none }) rfl (fun K hK => ?_) AllReadyH.nil
      have hcl := Has.cellAt X0bps.out (i := 6) rfl
      have hfz := Has.frozen X0bps.out 6
      go_simp
      clear hcl hfz
      obtain ⟨v0bpse, hv⟩ : ∃ y, y = v0bps.setCell ⟨X, 6, none⟩ (.slice (some ⟨GA, 0, none⟩) 1 capa) := ⟨_, rfl⟩
      have X0bpse := Lib.hid (show Has v0bpse X [.int .u8 (k : Int), .int .i64 0, .string ⟨#[]⟩, .slice (some ⟨gn, 0, none⟩) 1 cn, .slice (some ⟨gh, 0, none⟩) 1 ch, .bool false, .slice (some ⟨GA, 0, none⟩) 1 capa, .int .i64 (a : Int)] 28 by rw [hv]; exact Has.set X0bps.out 6 _)
      have K0bpse := Lib.hid (show Has v0bpse Kb kid 28 by rw [hv]; exact K0bps.out.setOther (by have := HKX.out; show Kb ≠ X; omega) _)
      have N0bpse : Hid (v0bpse.cell? ⟨gn, 0, none⟩ = some (.string s)) := Lib.hid (by rw [hv, World.cell?_setCell_other _ _ _ _ (fun e => by have h2 : X = gn := congrArg Addr.block e; have := HGN.out; omega)]; exact N0bps.out)
      have B0bpse : Hid (Below X w v0bpse) := Lib.hid (by rw [hv]; exact B0bps.out.setCell (p := ⟨X, 6, none⟩) (Nat.le_refl _) _)
      rw [← hv]
      clear hv
      refine hK.out _ _ ⟨⟨_, X0bpse.out⟩, K0bpse.out⟩ (fun hHw5 => ?_)
      clear hK K hHw4
      try simp only [Act.put]
      refine wpAnyH_done (by kernel_rfl) ?_ _
      clear hHw5
      first | go_end0 | (simp only [Exit.inBlock, Exit.then]; refine bodyPost_ret (results_none rfl _ _ _) rfl ?_) | refine bodyPost_ret (results_none rfl _ _ _) rfl ?_ | refine bodyPost_end (v := .tuple #[]) (results_none rfl _ _ _) rfl ?_
      exact ⟨rfl, ⟨_, _, _, _, _, _, _, gn, cn, X0bpse.out, World.block_lt_of_cell? _ _ N0bpse.out, HGN.out, N0bpse.out⟩, B0bpse.out⟩
    · have hcl := Has.cellAt X0bp.out (i := 6) rfl
      have hfz := Has.frozen X0bp.out 6
      go_simp
      clear hcl hfz
      obtain ⟨v0bpe, hv⟩ : ∃ y, y = v0bp.setCell ⟨X, 6, none⟩ (.slice (some ⟨GA, 0, none⟩) 1 capa) := ⟨_, rfl⟩
      have X0bpe := Lib.hid (show Has v0bpe X [.int .u8 (k : Int), .int .i64 0, .string ⟨#[]⟩, .slice (some ⟨gn, 0, none⟩) 1 cn, .slice (some ⟨gh, 0, none⟩) 1 ch, .bool false, .slice (some ⟨GA, 0, none⟩) 1 capa, .int .i64 (a : Int)] 28 by rw [hv]; exact Has.set X0bp.out 6 _)
      have K0bpe := Lib.hid (show Has v0bpe Kb kid 28 by rw [hv]; exact K0bp.out.setOther (by have := HKX.out; show Kb ≠ X; omega) _)
      have N0bpe : Hid (v0bpe.cell? ⟨gn, 0, none⟩ = some (.string s)) := Lib.hid (by rw [hv, World.cell?_setCell_other _ _ _ _ (fun e => by have h2 : X = gn := congrArg Addr.block e; have := HGN.out; omega)]; exact N0bp.out)
      have T0bpe : Hid (v0bpe.there GA 0 kid.length) := Lib.hid (there_block T0bp.out (by rw [hv]; exact heap_setCell_other _ ⟨X, 6, none⟩ GA _ (by have := LT.out.1; show GA ≠ X; omega)))
      have B0bpe : Hid (Below X w v0bpe) := Lib.hid (by rw [hv]; exact B0bp.out.setCell (p := ⟨X, 6, none⟩) (Nat.le_refl _) _)
      rw [← hv]
      clear hv
      refine hK.out _ _ ⟨⟨_, X0bpe.out⟩, K0bpe.out⟩ (fun hHw4 => ?_)
      clear hK K hHw3
      try simp only [Act.put]
      refine wpAnyH_ready (rs := [9]) (by kernel_rfl) (by simp) ?_
      refine AllReadyH.cons (o := { dst := none, op := Op.store 28 (Operand.tmp 36) (Operand.tmp 32), type := 0, pos := "parse.go:130", after := #[{ on := 8, ground := Ground.data }, { on := 4, ground := Ground.data }, { on := 7, ground := Ground.chain }, { on := 0, ground := Ground.phase }, { on := 1, ground := Ground.phase }, { on := 2, ground := Ground.phase }, { on := 3, ground := Ground.phase }, { on := 4, ground := Ground.phase }, { on := 5, ground := Ground.phase }, { on := 6, ground := Ground.phase }, { on := 7, ground := Ground.phase }, { on := 12, ground := Ground.gcOnly Departure.appendInPlace }], guard := none }) rfl (fun K hK => ?_) AllReadyH.nil
      rw [if_pos (by rfl)]
      refine wp_store_mid 28 (.tmp 36) (.tmp 32) rfl GA 0 kid.toArray rfl rfl (by rw [List.size_toArray]; exact T0bpe.out) HKI.out HKO.out ?_
      obtain ⟨v0bpes, hv⟩ : ∃ y, y = v0bpe.setCells GA 0 kid.toArray.toList := ⟨_, rfl⟩
      have hbel : Below GA v0bpe v0bpes := by rw [hv]; exact cells_below (Nat.le_refl _) _ _ (Below.refl _ _)
      have X0bpes := Lib.hid (Has.below X0bpe.out hbel LT.out.1)
      have K0bpes := Lib.hid (Has.below K0bpe.out hbel LT.out.2.1)
      have N0bpes : Hid (v0bpes.cell? ⟨gn, 0, none⟩ = some (.string s)) := Lib.hid ((World.cell?_of_block (hbel.block gn LT.out.2.2)).trans N0bpe.out)
      have B0bpes : Hid (Below X w v0bpes) := Lib.hid (B0bpe.out.trans (hbel.mono (Nat.le_of_lt LT.out.1)))
      rw [← hv]
      clear hv hbel
      refine hK.out _ _ ⟨⟨_, X0bpes.out⟩, K0bpes.out⟩ (fun hHw5 => ?_)
      clear hK K hHw4
      try simp only [Act.put]
      refine wpAnyH_done (by kernel_rfl) ?_ _
      clear hHw5
      first | go_end0 | (simp only [Exit.inBlock, Exit.then]; refine bodyPost_ret (results_none rfl _ _ _) rfl ?_) | refine bodyPost_ret (results_none rfl _ _ _) rfl ?_ | refine bodyPost_end (v := .tuple #[]) (results_none rfl _ _ _) rfl ?_
      exact ⟨rfl, ⟨_, _, _, _, _, _, _, gn, cn, X0bpes.out, World.block_lt_of_cell? _ _ N0bpes.out, HGN.out, N0bpes.out⟩, B0bpes.out⟩
end Go.Proofs.YtnajafnbickiiaaDoor

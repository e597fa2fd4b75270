/-
  What whole defers, behind a fault; whole and Parse where the text is too deep. Conditions: the parser's block.
-/
import Derived.Test.YtnajafnbickiiaaDoorPParse
import Derived.Test.YtnajafnbickiiaaDoorPBad
namespace Go.Proofs.YtnajafnbickiiaaDoor
open Go.RowKit
set_option linter.unusedVariables false

theorem assert_fault (w : World) (p er : Nat) : (Instr.typeAssert (fltV p er) 20 46 true).run Tryd.prog w = .ok (.tuple #[.agg #[.int .i64 (p : Int), .int .i64 (er : Int)], .bool true]) w := by
  simp [Instr.typeAssert, fltV, run_underlying Tryd.underlying46]

/-- Behind the catching of a fault. -/
def Caught (A p er : Nat) (w w' : World) : Prop := Has w' A exZ 28 ∧ Has w' (A + 1) [.int .i64 (p : Int)] 3 ∧ Has w' (A + 2) [.int .i64 (er : Int)] 29 ∧ Below A w w'

set_option maxRecDepth 100000 in
set_option maxHeartbeats 4000000 in
theorem catch_flt (A p er : Nat) (w : World) (C : List Value) (hA : Has w A C 28) (hC : C.length = 8) (x y : Int) (hP : Has w (A + 1) [.int .i64 x] 3) (hE : Has w (A + 2) [.int .i64 y] 29) :
    CallsD Tryd.prog 13 #[.pointer (some ⟨A, 0, none⟩), .pointer (some ⟨A + 1, 0, none⟩), .pointer (some ⟨A + 2, 0, none⟩)] (.panicking (flt p er)) w fun e u' w' =>
      e = .returned (.tuple #[]) ∧ u' = .panicking [{ v := fltV p er, recovered := true }] ∧ Caught A p er w w' := by
  refine callsD_of_wpS Tryd.func13 rfl fun c₀ cs hu => ?_
  have hu : c₀.mode = .panicking [{ v := fltV p er, recovered := false }] := hu
  apply wpS_seq
  apply wpS_region
  simp [wpOpsS, go_sem, recoverD, hu, Tryd.ntmps13, Exit.thenS]
  refine wpS_of_wp ?_
  show Code.wp Tryd.prog _ _ { tmps := #[.pointer (some ⟨A, 0, none⟩), .pointer (some ⟨A + 1, 0, none⟩), .pointer (some ⟨A + 2, 0, none⟩), fltV p er, undef, undef, fltV p er, undef, undef, undef, undef, undef, undef, undef, undef, undef, undef, undef, undef, undef], defers := [] } w
  obtain ⟨Q, hQ⟩ : ∃ Q : Exit → Act → World → Prop, Q = fun e a' w' => bodyPostS Tryd.prog Tryd.f13 c₀ cs (fun e u' w' => e = .returned (.tuple #[]) ∧ u' = .panicking [{ v := fltV p er, recovered := true }] ∧ Caught A p er w w') e a'
      ({ fn := c₀.fn, tmps := c₀.tmps, todo := c₀.todo, defers := c₀.defers, mode := .panicking [{ v := fltV p er, recovered := true }], kind := c₀.kind, roundOf := c₀.roundOf } :: cs) w' := ⟨_, rfl⟩
  rw [← hQ]
  have HQ := Lib.hid hQ
  have HAH : Hid (w.heap[A]? = some (.cells C.toArray 28 (0, 0))) := Lib.hid hA
  have HCS : Hid (C.toArray.size = exZ.toArray.size) := Lib.hid (by simp [hC, exZ])
  have HZI : Hid ((Tryd.prog.info? 28).map (·.size) = some exZ.toArray.size) := Lib.hid info_ex
  have HZO : Hid (exZ.toArray.all (·.oneCell') = true) := Lib.hid (IsX.leaf (w := w) (B := 0) 0 0 [] 0).one
  have Z1 : Hid (Has (w.setRow A exZ.toArray) A exZ 28) := Lib.hid (hA.row exZ)
  have P1 : Hid (Has (w.setRow A exZ.toArray) (A + 1) [.int .i64 x] 3) := Lib.hid (hP.rowOther (by omega) _)
  have E1 : Hid (Has (w.setRow A exZ.toArray) (A + 2) [.int .i64 y] 29) := Lib.hid (hE.rowOther (by omega) _)
  have B1 : Hid (Below A w (w.setRow A exZ.toArray)) := Lib.hid (below_setRow (Below.refl _ _) (Nat.le_refl _) _)
  obtain ⟨w2, hw2⟩ : ∃ w2, w2 = w.setRow A exZ.toArray := ⟨_, rfl⟩
  rw [← hw2] at Z1 P1 E1 B1
  have HW2 := Lib.hid hw2
  have c1 := P1.out.cellAt (i := 0) rfl
  have f1 := P1.out.frozen 0
  have c2 := E1.out.cellAt (i := 0) rfl
  have f2 := E1.out.frozen 0
  have hta := fun w => assert_fault w p er
  clear hQ hA hP hE hw2 hC hu
  simp only [fltV] at hta
  unfold fltV
  go_upto_region 3 with (refine wpList_store_row rfl 28 _ _ rfl A exZ.toArray rfl rfl 28 _ HAH.out HZI.out HCS.out HZO.out ?_; rw [← HW2.out])
  obtain ⟨w4, hw4⟩ : ∃ y, y = (w2.setCell ⟨A + 1, 0, none⟩ (.int .i64 0)).setCell ⟨A + 2, 0, none⟩ (.int .i64 4) := ⟨_, rfl⟩
  rw [← hw4]
  have Z4 : Hid (Has w4 A exZ 28) := Lib.hid (by rw [hw4]; exact (Z1.out.setOther (by show A ≠ A + 1; omega) _).setOther (by show A ≠ A + 2; omega) _)
  have P4 : Hid (Has w4 (A + 1) [.int .i64 0] 3) := Lib.hid (by rw [hw4]; exact (P1.out.set 0 (.int .i64 0)).setOther (by show A + 1 ≠ A + 2; omega) _)
  have E4 : Hid (Has w4 (A + 2) [.int .i64 4] 29) := Lib.hid (by rw [hw4]; exact (E1.out.setOther (by show A + 2 ≠ A + 1; omega) _).set 0 (.int .i64 4))
  have B4 : Hid (Below A w w4) := Lib.hid (by rw [hw4]; exact (B1.out.setCell (p := ⟨A + 1, 0, none⟩) (by show A ≤ A + 1; omega) _).setCell (p := ⟨A + 2, 0, none⟩) (by show A ≤ A + 2; omega) _)
  clear hw4 Z1 P1 E1 B1 c1 f1 c2 f2 HW2 HAH HCS HZI HZO
  go_upto_region 4 with fail
  clear hta
  obtain ⟨N, hN⟩ : ∃ N, N = w4.heap.size := ⟨_, rfl⟩
  obtain ⟨w5, hw5⟩ : ∃ y, y = w4.alloc (.cells #[.int .i64 (p : Int), .int .i64 (er : Int)] 46) := ⟨_, rfl⟩
  rw [← hw5, ← hN]
  have F5 : Hid (Has w5 N [.int .i64 (p : Int), .int .i64 (er : Int)] 46) := Lib.hid (by rw [hw5, hN]; exact Has.new w4 _ _)
  have Z5 : Hid (Has w5 A exZ 28) := Lib.hid (by rw [hw5]; exact Z4.out.alloc _)
  have P5 : Hid (Has w5 (A + 1) [.int .i64 0] 3) := Lib.hid (by rw [hw5]; exact P4.out.alloc _)
  have E5 : Hid (Has w5 (A + 2) [.int .i64 4] 29) := Lib.hid (by rw [hw5]; exact E4.out.alloc _)
  have B5 : Hid (Below A w w5) := Lib.hid (by rw [hw5]; exact B4.out.alloc (Nat.le_of_lt Z4.out.lt) _)
  have HNA : Hid (A + 2 < N) := Lib.hid (by rw [hN]; exact E4.out.lt)
  have c0 := F5.out.cellAt (i := 0) rfl
  have c1 := F5.out.cellAt (i := 1) rfl
  have c2 := P5.out.cellAt (i := 0) rfl
  have f2 := P5.out.frozen 0
  have c3 := E5.out.cellAt (i := 0) rfl
  have f3 := E5.out.frozen 0
  have hn1 : ¬ N = A + 1 := by have := HNA.out; omega
  have hn2 : ¬ N = A + 2 := by have := HNA.out; omega
  have hn3 : ¬ A + 1 = N := by have := HNA.out; omega
  have hn4 : ¬ A + 2 = N := by have := HNA.out; omega
  clear hN hw5 Z4 P4 E4 B4
  go_upto_region 5 with fail
  go_region
  all_goals
    go_wp2_with fail
    rw [HQ.out]
    clear HQ
    cases c₀
    simp [bodyPostS, results, Tryd.results13]
    exact ⟨((Z5.out.setOther (by show A ≠ A + 1; omega) _).setOther (by show A ≠ A + 2; omega) _).drew, ((P5.out.set 0 _).setOther (by show A + 1 ≠ A + 2; omega) _).drew, ((E5.out.setOther (by show A + 2 ≠ A + 1; omega) _).set 0 _).drew,
      ((B5.out.setCell (p := ⟨A + 1, 0, none⟩) (by show A ≤ A + 1; omega) _).setCell (p := ⟨A + 2, 0, none⟩) (by show A ≤ A + 2; omega) _).drew⟩

/-- The way out of whole behind a fault. -/
theorem door_flt (R : Ending → World → Prop) (A p er : Nat) (a : Act) (w : World) (C : List Value) (hA : Has w A C 28) (hC : C.length = 8) (x y : Int) (hP : Has w (A + 1) [.int .i64 x] 3) (hE : Has w (A + 2) [.int .i64 y] 29)
    (h2 : a.tmps.getD 2 undef = .pointer (some ⟨A, 0, none⟩)) (h3 : a.tmps.getD 3 undef = .pointer (some ⟨A + 1, 0, none⟩)) (h4 : a.tmps.getD 4 undef = .pointer (some ⟨A + 2, 0, none⟩))
    (hd : a.defers = [{ target := Target.fn (Fn.func 13) #[.pointer (some ⟨A, 0, none⟩), .pointer (some ⟨A + 1, 0, none⟩), .pointer (some ⟨A + 2, 0, none⟩)], args := #[] }])
    (hR : ∀ w', Below A w w' → R (.returned (.tuple #[.agg exZ.toArray, .int .i64 (p : Int), .int .i64 (er : Int)])) w') :
    bodyPostD Tryd.prog Tryd.f9 R (Exit.panic (flt p er)) a w := by
  show Leaves Tryd.prog Tryd.f9 a.tmps R a.defers (.panicking (flt p er)) w
  rw [hd]
  refine leaves_cons (f := 13) (args := #[.pointer (some ⟨A, 0, none⟩), .pointer (some ⟨A + 1, 0, none⟩), .pointer (some ⟨A + 2, 0, none⟩)]) (by simp) (by simp [go_sem]) ?_
  refine (catch_flt A p er w C hA hC x y hP hE).mono ?_
  rintro e u' w'' ⟨rfl, rfl, q1, q2, q3, q4⟩
  exact ⟨_, results_cells3 (fn := Tryd.f9) (p := 2) (q := 3) (r := 4) Tryd.results9 a.tmps _ A 28 exZ.toArray (0, 0) _ (A + 1) (A + 2) _ _ h2 q1 Tryd.underlying28 rfl info_ex h3 (load_int _ _ _ q2) h4 (load_errno _ _ _ q3), hR _ q4⟩

set_option maxRecDepth 100000 in
set_option maxHeartbeats 8000000 in
theorem whole_deep {w : World} {pb g off cap : Nat} {ts : List Tk} {rm : Int} (h : Ps w pb g off cap ts 0 rm) (p er : Nat)
    (hbad : ∀ W : World, Ps W pb g off cap ts 0 rm → Calls Tryd.prog 14 #[.pointer (some ⟨pb, 0, none⟩)] W (PB pb g 0 rm p er W)) :
    Calls Tryd.prog 9 #[.pointer (some ⟨pb, 0, none⟩)] w fun e w' => e = .returned (.tuple #[.agg exZ.toArray, .int .i64 (p : Int), .int .i64 (er : Int)]) ∧ But w.heap.size pb w w' := by
  have hmf : ∀ (fn : Fn) (first cap : Array Value) (w : World), (Instr.makeFunc fn first cap).run Tryd.prog w = .ok (.func fn first cap) w := fun _ _ _ _ => rfl
  have HEX := Lib.hid hbad
  have HH := Lib.hid h
  have HL : Hid (pb < w.heap.size ∧ g < w.heap.size) := Lib.hid ⟨h.row.lt, h.lt⟩
  clear h hbad
  go_enter_defers Tryd.func9, Tryd.ntmps9
  go_upto_region 2 with fail
  obtain ⟨G, hG⟩ : ∃ G, G = w.heap.size := ⟨_, rfl⟩
  rw [← hG]
  obtain ⟨x1, hx1⟩ : ∃ x, x = w.alloc (.cells #[.int .u8 0, .int .i64 0, .string ⟨#[]⟩, .slice none 0 0, .slice none 0 0, .bool false, .slice none 0 0, .int .i64 0] 28) := ⟨_, rfl⟩
  obtain ⟨x2, hx2⟩ : ∃ x, x = x1.alloc (.cells #[.int .i64 0] 3) := ⟨_, rfl⟩
  obtain ⟨x3, hx3⟩ : ∃ x, x = x2.alloc (.cells #[.int .i64 0] 29) := ⟨_, rfl⟩
  rw [← hx1, ← hx2, ← hx3]
  have e1 : x1.heap.size = G + 1 := by rw [hx1, hG]; simp
  have e2 : x2.heap.size = G + 2 := by rw [hx2]; simp [e1]
  have Z1 : Hid (Has x3 G exZ 28) := Lib.hid (by rw [hx3, hx2, hx1, hG]; exact ((Has.new w exZ _).alloc _).alloc _)
  have P1 : Hid (Has x3 (G + 1) [.int .i64 0] 3) := Lib.hid (by rw [hx3, hx2, ← e1]; exact (Has.new x1 [.int .i64 0] _).alloc _)
  have E1 : Hid (Has x3 (G + 2) [.int .i64 0] 29) := Lib.hid (by rw [hx3, ← e2]; exact Has.new x2 [.int .i64 0] _)
  have B1 : Hid (Below G w x3) := Lib.hid (by rw [hx3, hx2, hx1, hG]; exact (((Below.refl _ _).alloc (Nat.le_refl _) _).alloc (by simp) _).alloc (by simp; omega) _)
  have H1 := Lib.hid (HH.out.later (by rw [← hG]; exact B1.out))
  have HG := Lib.hid hG
  have HPG : Hid (pb < G ∧ g < G) := Lib.hid (by rw [hG]; exact HL.out)
  clear hx1 hx2 hx3 e1 e2 hG HH HL
  have HQ := Lib.hid (HEX.out x3 H1.out)
  go_wp2_with fail
  refine HQ.out.mono ?_
  rintro e w4 ⟨rfl, bt, _⟩
  have Z4 : Has w4 G exZ 28 := Z1.out.but bt Z1.out.lt (by have := HPG.out; omega)
  have P4 : Has w4 (G + 1) [.int .i64 0] 3 := P1.out.but bt P1.out.lt (by have := HPG.out; omega)
  have E4 : Has w4 (G + 2) [.int .i64 0] 29 := E1.out.but bt E1.out.lt (by have := HPG.out; omega)
  have B4 : But G pb w w4 := (But.of_below B1.out).trans (bt.mono (Nat.le_of_lt Z1.out.lt))
  first | go_wp2_with fail | skip
  refine door_flt _ G p er _ _ exZ Z4 rfl 0 0 P4 E4 rfl rfl rfl rfl fun w5 b5 => ⟨rfl, ?_⟩
  rw [← HG.out]
  exact B4.trans (But.of_below b5)

set_option maxRecDepth 100000 in
set_option maxHeartbeats 8000000 in
theorem parse_deep (s : ByteArray) {w : World} (hl : LaidL w) (hlp : LaidP w) (p er : Nat) (ts : List Tk) (hlex : lexTop s.data.toList = .ok ts) (hgood : goodB ts = true) (hp : ∀ (W : World) (pb g cap : Nat), Ps W pb g 0 cap ts 0 21474836 → Calls Tryd.prog 14 #[.pointer (some ⟨pb, 0, none⟩)] W (PB pb g 0 21474836 p er W)) :
    Calls Tryd.prog 7 #[.string s] w fun e w' => e = .returned (.tuple #[.agg exZ.toArray, .int .i64 (p : Int), .int .i64 (er : Int)]) ∧ Below w.heap.size w w' := by
  have HLP := Lib.hid hlp
  have HL := Lib.hid hl
  have HX := Lib.hid hlex
  have HGD := Lib.hid hgood
  have HP := Lib.hid hp
  have hpos : 0 < ts.length := by
    cases ts with
    | nil => simp [goodB, endsB] at hgood
    | cons a b => simp
  have HPOS := Lib.hid hpos
  clear hl hlp hlex hgood hp hpos
  go_enter Tryd.func7, Tryd.ntmps7
  go_upto_region 1 with fail
  obtain ⟨G, hG⟩ : ∃ G, G = w.heap.size := ⟨_, rfl⟩
  rw [← hG]
  obtain ⟨w1, hx1⟩ : ∃ x, x = w.alloc (.cells #[.int .u8 0, .int .i64 0, .string ⟨#[]⟩, .slice none 0 0, .slice none 0 0, .bool false, .slice none 0 0, .int .i64 0] 28) := ⟨_, rfl⟩
  rw [← hx1]
  have Z1 : Hid (Has w1 G exZ 28) := Lib.hid (by rw [hx1, hG]; exact Has.new w exZ _)
  have B1 : Hid (Below G w w1) := Lib.hid (by rw [hx1, hG]; exact (Below.refl _ _).alloc (Nat.le_refl _) _)
  have HSG : Hid (2 < G) := Lib.hid (by rw [hG]; exact HLP.out.lt)
  have L1 : Hid (LaidL w1) := Lib.hid (HL.out.below B1.out (by rw [hG]; exact HL.out.size))
  have LP1 : Hid (LaidP w1) := Lib.hid (HLP.out.below B1.out HSG.out)
  have HG := Lib.hid hG
  clear hx1 hG HL HLP
  have HT := Lib.hid (tokens_any s w1 L1.out)
  go_wp2_with fail
  refine HT.out.mono ?_
  rintro e w2 hpost
  rw [HX.out] at hpost
  obtain ⟨⟨v, rfl, ho⟩, hb⟩ := hpost
  obtain ⟨g, cap, rfl, hle⟩ := row_some ho HPOS.out
  have HO := Lib.hid ho
  have HLE := Lib.hid hle
  have Z2 := Lib.hid (Z1.out.below hb Z1.out.lt)
  have B2 : Hid (Below G w w2) := Lib.hid (B1.out.trans (hb.mono (Nat.le_of_lt Z1.out.lt)))
  have LP2 : Hid (LaidP w2) := Lib.hid (LP1.out.below hb LP1.out.lt)
  obtain ⟨nn, hnn⟩ : ∃ nn, nn = ts.length := ⟨_, rfl⟩
  rw [← hnn]
  have HNN := Lib.hid hnn
  clear hb ho hle hnn HT L1 LP1 Z1 B1
  go_upto_region 4 with fail
  go_upto_region 5 with fail
  obtain ⟨pb, hpb⟩ : ∃ pb, pb = w2.heap.size := ⟨_, rfl⟩
  obtain ⟨w3, hw3⟩ : ∃ y, y = w2.alloc (.cells #[.slice (some ⟨g, 0, none⟩) nn cap, .int .i64 0, .int .i64 21474836] 38) := ⟨_, rfl⟩
  rw [← hw3, ← hpb]
  have D3 : Hid (Below pb w2 w3) := Lib.hid (by rw [hw3, hpb]; exact (Below.refl _ _).alloc (Nat.le_refl _) _)
  have Z3 := Lib.hid (Z2.out.below D3.out (by rw [hpb]; exact Z2.out.lt))
  have B3 : Hid (Below G w w3) := Lib.hid (B2.out.trans (D3.out.mono (by rw [hpb]; exact Nat.le_of_lt Z2.out.lt)))
  have HPB : Hid (G < pb) := Lib.hid (by rw [hpb]; exact Z2.out.lt)
  have hgl : g < pb := by
    rcases HO.out.2 with ⟨h', _⟩ | ⟨g', cap', cur, h', _, hg, _, _, _, _⟩
    · simp at h'
    · simp only [Value.slice.injEq, Option.some.injEq, Addr.mk.injEq, and_true, true_and] at h'
      obtain ⟨rfl, _⟩ := h'
      rw [hpb]; exact (Array.getElem?_eq_some_iff.1 hg).1
  have hr3 : Has w3 pb [.slice (some ⟨g, 0, none⟩) ts.length cap, .int .i64 0, .int .i64 21474836] 38 := by
    rw [hw3, hpb, ← HNN.out]; exact Has.new w2 [.slice (some ⟨g, 0, none⟩) nn cap, .int .i64 0, .int .i64 21474836] _
  have ho3 := HO.out.kept (w' := w3) (row := none) (by rw [hw3]; exact World.grownBy_alloc w2 _ none) (.inr (by simp [Value.ownBlock]))
  have hl3 : LaidP w3 := LP2.out.below D3.out (by rw [hpb]; exact LP2.out.lt)
  have hs3 : 2 < pb := Nat.lt_trans HSG.out HPB.out
  have HPS : Hid (Ps w3 pb g 0 cap ts 0 21474836) := Lib.hid (ps_new hr3 ho3 (Nat.ne_of_lt hgl) HGD.out hl3 hs3)
  clear hr3 ho3 hl3 hs3
  have HLT3 := Lib.hid Z3.out.lt
  have HW := Lib.hid (whole_deep HPS.out p er fun W hW => HP.out W pb g cap hW)
  clear hpb hw3 hgl D3 Z2 B2 LP2 HO HPS
  go_wp2_with fail
  refine HW.out.mono ?_
  rintro e w4 ⟨rfl, bt⟩
  have Z4 := Lib.hid (Z3.out.but bt Z3.out.lt (by have := HPB.out; omega))
  have B4 : Hid (But G pb w w4) := Lib.hid ((But.of_below B3.out).trans (bt.mono (Nat.le_of_lt Z3.out.lt)))
  obtain ⟨E, hE⟩ : ∃ E, E = exZ.toArray := ⟨_, rfl⟩
  rw [← hE]
  have HE := Lib.hid hE
  have HEI : Hid ((Tryd.prog.info? 28).map (·.size) = some E.size) := Lib.hid (by rw [hE]; exact info_ex)
  have HEO : Hid (E.all (·.oneCell') = true) := Lib.hid (by rw [hE]; exact (IsX.leaf (w := w) (B := 0) 0 0 [] 0).one)
  have HES : Hid (exZ.toArray.size = E.size) := Lib.hid (by rw [hE])
  clear bt hE HW Z3 B3
  go_wp2_with (refine wpList_store_row rfl 28 _ _ rfl G E rfl rfl 28 _ Z4.out HEI.out HES.out HEO.out ?_)
  refine bodyPost_ret (results_cell2 (fn := Tryd.f7) (p := 2) (q := 3) (r := 4) Tryd.results7 _ _ G 28 E (0, 0) _ rfl (setRow_heap _ _ _ _ _ _ Z4.out) Tryd.underlying28 rfl HEI.out) rfl ?_
  have b4 : Below G w w4 := { os := B4.out.os, tape := B4.out.tape, output := B4.out.output, size := B4.out.size, block := fun k hk => B4.out.block k hk (by have := HPB.out; omega) }
  refine ⟨by rw [HE.out]; rfl, ?_⟩
  rw [← HG.out]; exact below_setRow b4 (Nat.le_refl _) _
end Go.Proofs.YtnajafnbickiiaaDoor

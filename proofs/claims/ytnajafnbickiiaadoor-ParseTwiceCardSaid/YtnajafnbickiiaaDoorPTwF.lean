/-
  Is it a pattern; a set, a let and a pattern that give up. Conditions: the parser's block.
-/
import Derived.Test.YtnajafnbickiiaaDoorPTwE
import Derived.Test.YtnajafnbickiiaaDoorPExpr
namespace Go.Proofs.YtnajafnbickiiaaDoor
open Go.RowKit
set_option linter.unusedVariables false
set_option maxRecDepth 100000

set_option maxHeartbeats 4000000 in
/-- A name and no sign of a pattern. -/
theorem ispat_set {w : World} {pb g off cap d : Nat} {ts : List Tk} {rm : Int} (h : Ps w pb g off cap ts d rm) (hl : 2 < ts.length) (h1 : stT ts 0 [123] = true) (h2 : nmT ts 1 = true) (h3 : stT ts 2 [44] = false) (h4 : stT ts 2 [63] = false) (h5 : stT ts 2 [125] = false) :
    Calls Tryd.prog 28 #[.pointer (some ⟨pb, 0, none⟩)] w fun e w' => e = .returned (.bool false) ∧ Below w.heap.size w w' := by
  have P0 := Lib.hid h
  have B0 : Hid (Below w.heap.size w w) := Lib.hid (Below.refl _ _)
  have HL := Lib.hid hl
  have H1 := Lib.hid h1
  have H2 := Lib.hid h2
  have H3 := Lib.hid h3
  have H4 := Lib.hid h4
  have H5 := Lib.hid h5
  clear h hl h1 h2 h3 h4 h5
  go_enter Tryd.func28, Tryd.ntmps28
  go_wp2_with fail
  refine (stands_any P0.out 0 (by have := HL.out; omega) ⟨#[123]⟩).mono ?_
  rw [show stT ts 0 (⟨#[123]⟩ : ByteArray).data.toList = true from H1.out]
  rintro e w1 ⟨rfl, b1⟩
  have P1 := Lib.hid (P0.out.later b1)
  have B1 : Hid (Below w.heap.size w w1) := Lib.hid (B0.out.trans (b1.mono B0.out.size))
  clear b1 P0 B0
  go_wp2_with fail
  refine (named_any P1.out 1 (by have := HL.out; omega)).mono ?_
  rw [show nmT ts 1 = true from H2.out]
  rintro e wq ⟨rfl, hq⟩
  subst hq
  go_wp2_with fail
  refine (stands_any P1.out 2 (by have := HL.out; omega) ⟨#[44]⟩).mono ?_
  rw [show stT ts 2 (⟨#[44]⟩ : ByteArray).data.toList = false from H3.out]
  rintro e w3 ⟨rfl, b3⟩
  have P3 := Lib.hid (P1.out.later b3)
  have B3 : Hid (Below w.heap.size w w3) := Lib.hid (B1.out.trans (b3.mono B1.out.size))
  clear b3 P1 B1
  go_wp2_with fail
  refine (stands_any P3.out 2 (by have := HL.out; omega) ⟨#[63]⟩).mono ?_
  rw [show stT ts 2 (⟨#[63]⟩ : ByteArray).data.toList = false from H4.out]
  rintro e w4 ⟨rfl, b4⟩
  have P4 := Lib.hid (P3.out.later b4)
  have B4 : Hid (Below w.heap.size w w4) := Lib.hid (B3.out.trans (b4.mono B3.out.size))
  clear b4 P3 B3
  go_wp2_with fail
  refine (stands_any P4.out 2 (by have := HL.out; omega) ⟨#[125]⟩).mono ?_
  rw [show stT ts 2 (⟨#[125]⟩ : ByteArray).data.toList = false from H5.out]
  rintro e w5 ⟨rfl, b5⟩
  have P5 := Lib.hid (P4.out.later b5)
  have B5 : Hid (Below w.heap.size w w5) := Lib.hid (B4.out.trans (b5.mono B4.out.size))
  clear b5 P4 B4
  go_wp2_with fail
  go_ret
  exact ⟨rfl, B5.out⟩

set_option maxHeartbeats 4000000 in
/-- No name, and no sign of a pattern. -/
theorem ispat_inh {w : World} {pb g off cap d : Nat} {ts : List Tk} {rm : Int} (h : Ps w pb g off cap ts d rm) (hl : 1 < ts.length) (h1 : stT ts 0 [123] = true) (h2 : nmT ts 1 = false) (h3 : stT ts 1 [46, 46, 46] = false) (h4 : stT ts 1 [125] = false) :
    Calls Tryd.prog 28 #[.pointer (some ⟨pb, 0, none⟩)] w fun e w' => e = .returned (.bool false) ∧ Below w.heap.size w w' := by
  have P0 := Lib.hid h
  have B0 : Hid (Below w.heap.size w w) := Lib.hid (Below.refl _ _)
  have HL := Lib.hid hl
  have H1 := Lib.hid h1
  have H2 := Lib.hid h2
  have H3 := Lib.hid h3
  have H4 := Lib.hid h4
  clear h hl h1 h2 h3 h4
  go_enter Tryd.func28, Tryd.ntmps28
  go_wp2_with fail
  refine (stands_any P0.out 0 (by have := HL.out; omega) ⟨#[123]⟩).mono ?_
  rw [show stT ts 0 (⟨#[123]⟩ : ByteArray).data.toList = true from H1.out]
  rintro e w1 ⟨rfl, b1⟩
  have P1 := Lib.hid (P0.out.later b1)
  have B1 : Hid (Below w.heap.size w w1) := Lib.hid (B0.out.trans (b1.mono B0.out.size))
  clear b1 P0 B0
  go_wp2_with fail
  refine (named_any P1.out 1 (by have := HL.out; omega)).mono ?_
  rw [show nmT ts 1 = false from H2.out]
  rintro e wq ⟨rfl, hq⟩
  subst hq
  go_wp2_with fail
  refine (stands_any P1.out 1 (by have := HL.out; omega) ⟨#[46, 46, 46]⟩).mono ?_
  rw [show stT ts 1 (⟨#[46, 46, 46]⟩ : ByteArray).data.toList = false from H3.out]
  rintro e w3 ⟨rfl, b3⟩
  have P3 := Lib.hid (P1.out.later b3)
  have B3 : Hid (Below w.heap.size w w3) := Lib.hid (B1.out.trans (b3.mono B1.out.size))
  clear b3 P1 B1
  go_wp2_with fail
  refine (stands_any P3.out 1 (by have := HL.out; omega) ⟨#[125]⟩).mono ?_
  rw [show stT ts 1 (⟨#[125]⟩ : ByteArray).data.toList = false from H4.out]
  rintro e w4 ⟨rfl, b4⟩
  have P4 := Lib.hid (P3.out.later b4)
  have B4 : Hid (Below w.heap.size w w4) := Lib.hid (B3.out.trans (b4.mono B3.out.size))
  clear b4 P3 B3
  go_wp2_with fail
  go_ret
  exact ⟨rfl, B4.out⟩

set_option maxHeartbeats 4000000 in
/-- A name and a comma. -/
theorem ispat_pat {w : World} {pb g off cap d : Nat} {ts : List Tk} {rm : Int} (h : Ps w pb g off cap ts d rm) (hl : 2 < ts.length) (h1 : stT ts 0 [123] = true) (h2 : nmT ts 1 = true) (h3 : stT ts 2 [44] = true) :
    Calls Tryd.prog 28 #[.pointer (some ⟨pb, 0, none⟩)] w fun e w' => e = .returned (.bool true) ∧ Below w.heap.size w w' := by
  have P0 := Lib.hid h
  have B0 : Hid (Below w.heap.size w w) := Lib.hid (Below.refl _ _)
  have HL := Lib.hid hl
  have H1 := Lib.hid h1
  have H2 := Lib.hid h2
  have H3 := Lib.hid h3
  clear h hl h1 h2 h3
  go_enter Tryd.func28, Tryd.ntmps28
  go_wp2_with fail
  refine (stands_any P0.out 0 (by have := HL.out; omega) ⟨#[123]⟩).mono ?_
  rw [show stT ts 0 (⟨#[123]⟩ : ByteArray).data.toList = true from H1.out]
  rintro e w1 ⟨rfl, b1⟩
  have P1 := Lib.hid (P0.out.later b1)
  have B1 : Hid (Below w.heap.size w w1) := Lib.hid (B0.out.trans (b1.mono B0.out.size))
  clear b1 P0 B0
  go_wp2_with fail
  refine (named_any P1.out 1 (by have := HL.out; omega)).mono ?_
  rw [show nmT ts 1 = true from H2.out]
  rintro e wq ⟨rfl, hq⟩
  subst hq
  go_wp2_with fail
  refine (stands_any P1.out 2 (by have := HL.out; omega) ⟨#[44]⟩).mono ?_
  rw [show stT ts 2 (⟨#[44]⟩ : ByteArray).data.toList = true from H3.out]
  rintro e w3 ⟨rfl, b3⟩
  have P3 := Lib.hid (P1.out.later b3)
  have B3 : Hid (Below w.heap.size w w3) := Lib.hid (B1.out.trans (b3.mono B1.out.size))
  clear b3 P1 B1
  go_wp2_with fail
  go_ret
  exact ⟨rfl, B3.out⟩

set_option maxHeartbeats 4000000 in
theorem set_bad {w : World} {pb g off cap d kind place : Nat} {ts : List Tk} {rm : Int} (h : Ps w pb g off cap ts d rm) (p er : Nat)
    (hb : ∀ (W : World) (X o c : Nat), Ps W pb g o c ts d rm → S0 W X kind place → pb < X → g < X → Calls Tryd.prog 45 #[.pointer (some ⟨pb, 0, none⟩), .pointer (some ⟨X, 0, none⟩)] W (PBB X pb g d rm p er W)) :
    Calls Tryd.prog 81 #[.pointer (some ⟨pb, 0, none⟩), .int .u8 (kind : Int), .int .i64 (place : Int)] w (PB pb g d rm p er w) := by
  have HH := Lib.hid h
  have HB := Lib.hid hb
  clear h hb
  go_enter Tryd.func81, Tryd.ntmps81
  go_upto_region 1 with fail
  obtain ⟨w1, hw1⟩ : ∃ x, x = w.alloc (.cells #[.int .u8 0, .int .i64 0, .string ⟨#[]⟩, .slice none 0 0, .slice none 0 0, .bool false, .slice none 0 0, .int .i64 0] 28) := ⟨_, rfl⟩
  rw [← hw1]
  have hb1 : Below w.heap.size w w1 := by rw [hw1]; exact (Below.refl _ _).alloc (Nat.le_refl _) _
  have P1 := Lib.hid (HH.out.later hb1)
  have B1 : Hid (But w.heap.size pb w w1) := Lib.hid (But.of_below hb1)
  have L1 : Hid (w.heap.size ≤ w1.heap.size) := Lib.hid hb1.size
  clear hw1 hb1 HH
  obtain ⟨E, hE⟩ : ∃ E, E = (exC kind 0 [] (.slice none 0 0) place).toArray := ⟨_, rfl⟩
  have HE := Lib.hid hE
  have IX := IsX.leaf (w := w) (B := 0) kind 0 [] place
  have HEI : Hid ((Tryd.prog.info? 28).map (·.size) = some E.size) := Lib.hid (by rw [hE, List.size_toArray, IX.len]; exact info_ex)
  have HEO : Hid (E.all (·.oneCell') = true) := Lib.hid (by rw [hE]; exact IX.one)
  have HES : Hid (exZ.toArray.size = E.size) := Lib.hid (by rw [hE, List.size_toArray, List.size_toArray, IX.len]; rfl)
  have NW : Hid (Has (w1.alloc (.cells exZ.toArray 28)) w1.heap.size exZ 28) := Lib.hid (Has.new w1 exZ _)
  clear hE IX
  go_upto_region 2 with (refine wpList_store_row rfl 28 _ _ rfl w1.heap.size E rfl (by rw [HE.out]; rfl) 28 _ NW.out HEI.out HES.out HEO.out ?_)
  obtain ⟨X, hX⟩ : ∃ X, X = w1.heap.size := ⟨_, rfl⟩
  obtain ⟨w3, hw3⟩ : ∃ x, x = (w1.alloc (.cells exZ.toArray 28)).setRow w1.heap.size E := ⟨_, rfl⟩
  have X3 : Hid (S0 w3 X kind place) := Lib.hid (by rw [hw3, hX, HE.out]; exact NW.out.row _)
  have D3 : Hid (Below X w1 w3) := Lib.hid (by rw [hw3, hX]; exact below_setRow ((Below.refl _ _).alloc (Nat.le_refl _) _) (Nat.le_refl _) _)
  have P3 := Lib.hid (P1.out.later (by rw [← hX]; exact D3.out))
  have HXL : Hid (pb < X ∧ g < X ∧ w.heap.size ≤ X) := Lib.hid (by rw [hX]; exact ⟨P1.out.row.lt, P1.out.lt, L1.out⟩)
  have B3 : Hid (But w.heap.size pb w w3) := Lib.hid (B1.out.trans (But.of_below (D3.out.mono HXL.out.2.2)))
  first | rw [← hw3, ← hX] | (show Code.wp _ _ _ _ ((w1.alloc (.cells exZ.toArray 28)).setRow w1.heap.size E); rw [← hw3, ← hX])
  clear hw3 hX D3 NW HEI HEO HES HE
  have HQ := Lib.hid (HB.out w3 X _ _ P3.out X3.out HXL.out.1 HXL.out.2.1)
  go_wp2_with fail
  refine HQ.out.mono ?_
  rintro e w4 ⟨rfl, b4, p4⟩
  first | go_wp2_with fail | skip
  exact ⟨rfl, rfl, B3.out.trans (b4.mono HXL.out.2.2), p4⟩

set_option maxHeartbeats 4000000 in
theorem let_bad {w : World} {pb g off cap d place : Nat} {ts : List Tk} {rm : Int} (h : Ps w pb g off cap ts d rm) (p er : Nat)
    (hb : ∀ (W : World) (X o c : Nat), Ps W pb g o c ts d rm → S0 W X 11 place → pb < X → g < X → Calls Tryd.prog 45 #[.pointer (some ⟨pb, 0, none⟩), .pointer (some ⟨X, 0, none⟩)] W (PBB X pb g d rm p er W)) :
    Calls Tryd.prog 31 #[.pointer (some ⟨pb, 0, none⟩), .int .i64 (place : Int)] w (PB pb g d rm p er w) := by
  have HH := Lib.hid h
  have HB := Lib.hid hb
  clear h hb
  go_enter Tryd.func31, Tryd.ntmps31
  go_upto_region 1 with fail
  obtain ⟨w1, hw1⟩ : ∃ x, x = w.alloc (.cells #[.int .u8 0, .int .i64 0, .string ⟨#[]⟩, .slice none 0 0, .slice none 0 0, .bool false, .slice none 0 0, .int .i64 0] 28) := ⟨_, rfl⟩
  rw [← hw1]
  have hb1 : Below w.heap.size w w1 := by rw [hw1]; exact (Below.refl _ _).alloc (Nat.le_refl _) _
  have P1 := Lib.hid (HH.out.later hb1)
  have B1 : Hid (But w.heap.size pb w w1) := Lib.hid (But.of_below hb1)
  have L1 : Hid (w.heap.size ≤ w1.heap.size) := Lib.hid hb1.size
  clear hw1 hb1 HH
  obtain ⟨E, hE⟩ : ∃ E, E = (exC 11 0 [] (.slice none 0 0) place).toArray := ⟨_, rfl⟩
  have HE := Lib.hid hE
  have IX := IsX.leaf (w := w) (B := 0) 11 0 [] place
  have HEI : Hid ((Tryd.prog.info? 28).map (·.size) = some E.size) := Lib.hid (by rw [hE, List.size_toArray, IX.len]; exact info_ex)
  have HEO : Hid (E.all (·.oneCell') = true) := Lib.hid (by rw [hE]; exact IX.one)
  have HES : Hid (exZ.toArray.size = E.size) := Lib.hid (by rw [hE, List.size_toArray, List.size_toArray, IX.len]; rfl)
  have NW : Hid (Has (w1.alloc (.cells exZ.toArray 28)) w1.heap.size exZ 28) := Lib.hid (Has.new w1 exZ _)
  clear hE IX
  go_upto_region 2 with (refine wpList_store_row rfl 28 _ _ rfl w1.heap.size E rfl (by rw [HE.out]; rfl) 28 _ NW.out HEI.out HES.out HEO.out ?_)
  obtain ⟨X, hX⟩ : ∃ X, X = w1.heap.size := ⟨_, rfl⟩
  obtain ⟨w3, hw3⟩ : ∃ x, x = (w1.alloc (.cells exZ.toArray 28)).setRow w1.heap.size E := ⟨_, rfl⟩
  have X3 : Hid (S0 w3 X 11 place) := Lib.hid (by rw [hw3, hX, HE.out]; exact NW.out.row _)
  have D3 : Hid (Below X w1 w3) := Lib.hid (by rw [hw3, hX]; exact below_setRow ((Below.refl _ _).alloc (Nat.le_refl _) _) (Nat.le_refl _) _)
  have P3 := Lib.hid (P1.out.later (by rw [← hX]; exact D3.out))
  have HXL : Hid (pb < X ∧ g < X ∧ w.heap.size ≤ X) := Lib.hid (by rw [hX]; exact ⟨P1.out.row.lt, P1.out.lt, L1.out⟩)
  have B3 : Hid (But w.heap.size pb w w3) := Lib.hid (B1.out.trans (But.of_below (D3.out.mono HXL.out.2.2)))
  first | rw [← hw3, ← hX] | (show Code.wp _ _ _ _ ((w1.alloc (.cells exZ.toArray 28)).setRow w1.heap.size E); rw [← hw3, ← hX])
  clear hw3 hX D3 NW HEI HEO HES HE
  have HQ := Lib.hid (HB.out w3 X _ _ P3.out X3.out HXL.out.1 HXL.out.2.1)
  go_wp2_with fail
  refine HQ.out.mono ?_
  rintro e w4 ⟨rfl, b4, p4⟩
  first | go_wp2_with fail | skip
  exact ⟨rfl, rfl, B3.out.trans (b4.mono HXL.out.2.2), p4⟩

set_option maxHeartbeats 4000000 in
theorem pattern_bad {w : World} {pb g off cap d : Nat} {t : Tk} {r : List Tk} {rm : Int} (h : Ps w pb g off cap (t :: r) d rm) (hk : t.kind ≠ 0) (hn : stT r 0 [125] = false) (p er : Nat)
    (hb : ∀ (W : World) (X o c : Nat), Ps W pb g o c r d rm → S0 W X 10 t.at_ → pb < X → g < X → Calls Tryd.prog 44 #[.pointer (some ⟨pb, 0, none⟩), .pointer (some ⟨X, 0, none⟩)] W (PBB X pb g d rm p er W)) :
    Calls Tryd.prog 29 #[.pointer (some ⟨pb, 0, none⟩)] w (PB pb g d rm p er w) := by
  have HH := Lib.hid h
  have HB := Lib.hid hb
  have HK := Lib.hid hk
  have HN := Lib.hid hn
  clear h hb hk hn
  go_enter Tryd.func29, Tryd.ntmps29
  go_upto_region 1 with fail
  obtain ⟨w1, hw1⟩ : ∃ x, x = w.alloc (.cells #[.int .u8 0, .int .i64 0, .string ⟨#[]⟩, .slice none 0 0, .slice none 0 0, .bool false, .slice none 0 0, .int .i64 0] 28) := ⟨_, rfl⟩
  rw [← hw1]
  have hb1 : Below w.heap.size w w1 := by rw [hw1]; exact (Below.refl _ _).alloc (Nat.le_refl _) _
  have P1 := Lib.hid (HH.out.later hb1)
  have B1 : Hid (But w.heap.size pb w w1) := Lib.hid (But.of_below hb1)
  have L1 : Hid (w.heap.size ≤ w1.heap.size) := Lib.hid hb1.size
  clear hw1 hb1 HH
  have HT : Hid (Calls Tryd.prog 43 #[.pointer (some ⟨pb, 0, none⟩)] w1 fun e w' => e = .returned (.agg #[.int .u8 (t.kind : Int), .string ⟨t.text.toArray⟩, .int .i64 (t.at_ : Int)]) ∧ But w1.heap.size pb w1 w' ∧ Ps w' pb g (off + 3) (cap - 1) r d rm) := Lib.hid (take_any P1.out HK.out)
  go_wp2_with fail
  refine HT.out.mono ?_
  rintro e w2 ⟨rfl, b2, p2⟩
  have P2 := Lib.hid p2
  have B2 : Hid (But w.heap.size pb w w2) := Lib.hid (B1.out.trans (b2.mono L1.out))
  have L2 : Hid (w.heap.size ≤ w2.heap.size) := Lib.hid (Nat.le_trans L1.out b2.size)
  clear b2 p2 HT P1 B1 L1
  have hfd := fun W => tok_field2 (.int .u8 (t.kind : Int)) (.string ⟨t.text.toArray⟩) (.int .i64 (t.at_ : Int)) W
  obtain ⟨E, hE⟩ : ∃ E, E = (exC 10 0 [] (.slice none 0 0) t.at_).toArray := ⟨_, rfl⟩
  have HE := Lib.hid hE
  have IX := IsX.leaf (w := w) (B := 0) 10 0 [] t.at_
  have HEI : Hid ((Tryd.prog.info? 28).map (·.size) = some E.size) := Lib.hid (by rw [hE, List.size_toArray, IX.len]; exact info_ex)
  have HEO : Hid (E.all (·.oneCell') = true) := Lib.hid (by rw [hE]; exact IX.one)
  have HES : Hid (exZ.toArray.size = E.size) := Lib.hid (by rw [hE, List.size_toArray, List.size_toArray, IX.len]; rfl)
  have NW : Hid (Has (w2.alloc (.cells exZ.toArray 28)) w2.heap.size exZ 28) := Lib.hid (Has.new w2 exZ _)
  clear hE IX
  go_upto_region 2 with (refine wpList_store_row rfl 28 _ _ rfl w2.heap.size E rfl (by rw [HE.out]; rfl) 28 _ NW.out HEI.out HES.out HEO.out ?_)
  obtain ⟨X, hX⟩ : ∃ X, X = w2.heap.size := ⟨_, rfl⟩
  obtain ⟨w3, hw3⟩ : ∃ x, x = (w2.alloc (.cells exZ.toArray 28)).setRow w2.heap.size E := ⟨_, rfl⟩
  have X3 : Hid (S0 w3 X 10 t.at_) := Lib.hid (by rw [hw3, hX, HE.out]; exact NW.out.row _)
  have D3 : Hid (Below X w2 w3) := Lib.hid (by rw [hw3, hX]; exact below_setRow ((Below.refl _ _).alloc (Nat.le_refl _) _) (Nat.le_refl _) _)
  have P3 := Lib.hid (P2.out.later (by rw [← hX]; exact D3.out))
  have HXL : Hid (pb < X ∧ g < X ∧ w.heap.size ≤ X) := Lib.hid (by rw [hX]; exact ⟨P2.out.row.lt, P2.out.lt, L2.out⟩)
  have B3 : Hid (But w.heap.size pb w w3) := Lib.hid (B2.out.trans (But.of_below (D3.out.mono HXL.out.2.2)))
  first | rw [← hw3, ← hX] | (show Code.wp _ _ _ _ ((w2.alloc (.cells exZ.toArray 28)).setRow w2.heap.size E); rw [← hw3, ← hX])
  clear hw3 hX D3 NW HEI HEO HES HE
  clear hfd
  have HS := Lib.hid (skip_no P3.out ⟨#[125]⟩ HN.out)
  go_wp2_with fail
  refine HS.out.mono ?_
  rintro e w4 ⟨rfl, b4⟩
  have HQ := Lib.hid (HB.out w4 X _ _ (P3.out.later b4) (X3.out.below b4) HXL.out.1 HXL.out.2.1)
  have B4 : Hid (But w.heap.size pb w w4) := Lib.hid (B3.out.trans (But.of_below (b4.mono (Nat.le_trans HXL.out.2.2 (Nat.le_of_lt X3.out.lt)))))
  clear b4 HS P3 X3 B3
  go_wp2_with fail
  refine HQ.out.mono ?_
  rintro e w5 ⟨rfl, b5, p5⟩
  first | go_wp2_with fail | skip
  exact ⟨rfl, rfl, B4.out.trans (b5.mono HXL.out.2.2), p5⟩
end Go.Proofs.YtnajafnbickiiaaDoor

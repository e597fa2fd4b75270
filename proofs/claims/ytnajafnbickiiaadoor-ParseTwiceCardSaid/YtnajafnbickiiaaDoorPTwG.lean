/-
  Things and exprs that give up: sets, with a rec or without, lets, patterns. Conditions: the parser's block.
-/
import Derived.Test.YtnajafnbickiiaaDoorPTwF
namespace Go.Proofs.YtnajafnbickiiaaDoor
open Go.RowKit
set_option linter.unusedVariables false

set_option maxRecDepth 100000 in
set_option maxHeartbeats 4000000 in
theorem thing_set_bad {w : World} {pb g off cap d : Nat} {t : Tk} {r : List Tk} {rm : Int} (h : Ps w pb g off cap (t :: r) d rm) (hd : d < 60) (hk : t.kind = 4) (htx : t.text = [123]) (p er : Nat)
    (hex : ∀ (W : World) (o c : Nat), Ps W pb g o c r (d + 1) rm → Calls Tryd.prog 81 #[.pointer (some ⟨pb, 0, none⟩), .int .u8 ((5 : Nat) : Int), .int .i64 (t.at_ : Int)] W (PB pb g (d + 1) rm p er W)) :
    Calls Tryd.prog 69 #[.pointer (some ⟨pb, 0, none⟩)] w (PB pb g d rm p er w) := by
  have HX := Lib.hid hex
  clear hex
  have HH := Lib.hid h
  have HL : Hid (pb < w.heap.size ∧ g < w.heap.size) := Lib.hid ⟨h.row.lt, h.lt⟩
  clear h
  go_enter_defers Tryd.func69, Tryd.ntmps69
  go_upto_region 1 with fail
  obtain ⟨G, hG⟩ : ∃ G, G = w.heap.size := ⟨_, rfl⟩
  rw [← hG]
  obtain ⟨x1, hx1⟩ : ∃ x, x = w.alloc (.cells #[.int .u8 0, .int .i64 0, .string ⟨#[]⟩, .slice none 0 0, .slice none 0 0, .bool false, .slice none 0 0, .int .i64 0] 28) := ⟨_, rfl⟩
  rw [← hx1]
  have e1 : x1.heap.size = G + 1 := by rw [hx1, hG]; simp
  have Z1 : Hid (Has x1 G exZ 28) := Lib.hid (by rw [hx1, hG]; exact Has.new w exZ _)
  have B1 : Hid (Below G w x1) := Lib.hid (by rw [hx1, hG]; exact (Below.refl _ _).alloc (Nat.le_refl _) _)
  have H1 := Lib.hid (HH.out.later (by rw [← hG]; exact B1.out))
  have HG := Lib.hid hG
  have HPG : Hid (pb < G ∧ g < G) := Lib.hid (by rw [hG]; exact HL.out)
  have HEN := Lib.hid (enter_ok H1.out hd)
  clear hx1 hG HH HL
  go_wp2_with fail
  refine HEN.out.mono ?_
  rintro e w2 ⟨rfl, h2⟩
  have H2 : Hid (Ps w2 pb g off cap (t :: r) (d + 1) rm) := Lib.hid (by rw [h2]; exact H1.out.deeper _)
  have Z2 : Hid (Has w2 G exZ 28) := Lib.hid (by rw [h2]; exact Z1.out.setOther (a := ⟨pb, 1, none⟩) (by have := HPG.out; show G ≠ pb; omega) _)
  have B2 : Hid (But G pb w w2) := Lib.hid (by rw [h2]; exact (But.of_below B1.out).setB 1 _)
  have HIS := Lib.hid (isthing_any H2.out)
  clear h2 H1 Z1 B1 HEN e1
  go_wp2_with fail
  refine HIS.out.mono ?_
  rw [show thingT (t :: r) = true by simp [thingT, stT, hk, htx]]
  rintro e w3 ⟨rfl, x3⟩
  have H3 := Lib.hid (H2.out.later x3)
  have Z3 := Lib.hid (Z2.out.below x3 Z2.out.lt)
  have B3 : Hid (But G pb w w3) := Lib.hid (B2.out.trans (But.of_below (x3.mono (Nat.le_of_lt Z2.out.lt))))
  have HT := Lib.hid (take_any H3.out (by omega))
  clear x3 H2 Z2 B2 HIS
  go_wp2_with fail
  refine HT.out.mono ?_
  rintro e w4 ⟨rfl, bt, p4⟩
  have H4 := Lib.hid p4
  have Z4 : Hid (Has w4 G exZ 28) := Lib.hid (Z3.out.but bt Z3.out.lt (by have := HPG.out; omega))
  have B4 : Hid (But G pb w w4) := Lib.hid (B3.out.trans (bt.mono (Nat.le_of_lt Z3.out.lt)))
  have NW : Hid (Has (w4.alloc (.cells #[.int .u8 0, .string ⟨#[]⟩, .int .i64 0] 50)) w4.heap.size [.int .u8 0, .string ⟨#[]⟩, .int .i64 0] 50) := Lib.hid (Has.new w4 [.int .u8 0, .string ⟨#[]⟩, .int .i64 0] _)
  obtain ⟨C, hC⟩ : ∃ C, C = (tokC t).toArray := ⟨_, rfl⟩
  rw [← hC]
  have HC := Lib.hid hC
  have HCI : Hid ((Tryd.prog.info? 50).map (·.size) = some C.size) := Lib.hid (by rw [hC, List.size_toArray]; exact info_tokp)
  have HCO : Hid (C.all (·.oneCell') = true) := Lib.hid (by rw [hC]; exact tok_one t)
  have HCS : Hid (([.int .u8 0, .string ⟨#[]⟩, .int .i64 0] : List Value).toArray.size = C.size) := Lib.hid (by rw [hC]; rfl)
  clear bt p4 hC HT H3 Z3 B3
  go_upto_region 6 with (refine wpList_store_row rfl 50 _ _ rfl w4.heap.size C rfl rfl 50 _ NW.out HCI.out HCS.out HCO.out ?_)
  obtain ⟨T, hT⟩ : ∃ T, T = w4.heap.size := ⟨_, rfl⟩
  obtain ⟨w5, hw5⟩ : ∃ x, x = (w4.alloc (.cells #[.int .u8 0, .string ⟨#[]⟩, .int .i64 0] 50)).setRow w4.heap.size C := ⟨_, rfl⟩
  rw [← hw5, ← hT]
  have T5 : Hid (Has w5 T (tokC t) 50) := Lib.hid (by rw [hw5, hT, HC.out]; exact NW.out.row _)
  have D5 : Hid (Below T w4 w5) := Lib.hid (by rw [hw5, hT]; exact below_setRow ((Below.refl _ _).alloc (Nat.le_refl _) _) (Nat.le_refl _) _)
  have H5 := Lib.hid (H4.out.later (by rw [← hT]; exact D5.out))
  have Z5 : Hid (Has w5 G exZ 28) := Lib.hid (Z4.out.below D5.out (by rw [hT]; exact Z4.out.lt))
  have B5 : Hid (But G pb w w5) := Lib.hid (B4.out.trans (But.of_below (D5.out.mono (by rw [hT]; exact Nat.le_of_lt Z4.out.lt))))
  have k0 : w5.cell? ⟨T, 0, none⟩ = some (.int .u8 4) := by have := T5.out.cellAt (i := 0) (v := .int .u8 (t.kind : Int)) rfl; rw [hk] at this; exact this
  have k1 : w5.cell? ⟨T, 1, none⟩ = some (.string ⟨#[123]⟩) := by have := T5.out.cellAt (i := 1) (v := .string ⟨t.text.toArray⟩) rfl; rw [htx] at this; exact this
  have k2 : w5.cell? ⟨T, 2, none⟩ = some (.int .i64 (t.at_ : Int)) := T5.out.cellAt (i := 2) rfl
  clear hw5 hT NW H4 Z4 B4 D5 HCS HCO HCI HC
  have HE := Lib.hid (HX.out w5 _ _ H5.out)
  clear HX
  go_wp2_with fail
  refine HE.out.mono ?_
  rintro e w6 ⟨rfl, bt, o6, c6, ts6, p6⟩
  have B6 : Hid (But G pb w w6) := Lib.hid (B5.out.trans (bt.mono (Nat.le_of_lt Z5.out.lt)))
  first | go_wp2_with fail | skip
  refine door_bad _ _ rfl p6 (by omega) ⟨rfl, ?_, _, _, _, p6.deeper d⟩
  rw [← HG.out]; exact B6.out.setB 1 _

set_option maxRecDepth 100000 in
set_option maxHeartbeats 4000000 in
theorem thing_rec_bad {w : World} {pb g off cap d : Nat} {t : Tk} {r : List Tk} {rm : Int} (h : Ps w pb g off cap (t :: r) d rm) (hd : d < 60) (hk : t.kind = 2) (htx : t.text = [114, 101, 99]) (p er : Nat)
    (hu : stT r 0 [123] = true) (hur : ∃ u q, r = u :: q) (hex : ∀ (W : World) (o c : Nat), Ps W pb g o c r.tail (d + 1) rm → Calls Tryd.prog 81 #[.pointer (some ⟨pb, 0, none⟩), .int .u8 ((6 : Nat) : Int), .int .i64 (t.at_ : Int)] W (PB pb g (d + 1) rm p er W)) :
    Calls Tryd.prog 69 #[.pointer (some ⟨pb, 0, none⟩)] w (PB pb g d rm p er w) := by
  have HX := Lib.hid hex
  clear hex
  have HU := Lib.hid hu
  obtain ⟨u, q, hr⟩ := hur
  have HR := Lib.hid hr
  clear hu hr
  have HH := Lib.hid h
  have HL : Hid (pb < w.heap.size ∧ g < w.heap.size) := Lib.hid ⟨h.row.lt, h.lt⟩
  clear h
  go_enter_defers Tryd.func69, Tryd.ntmps69
  go_upto_region 1 with fail
  obtain ⟨G, hG⟩ : ∃ G, G = w.heap.size := ⟨_, rfl⟩
  rw [← hG]
  obtain ⟨x1, hx1⟩ : ∃ x, x = w.alloc (.cells #[.int .u8 0, .int .i64 0, .string ⟨#[]⟩, .slice none 0 0, .slice none 0 0, .bool false, .slice none 0 0, .int .i64 0] 28) := ⟨_, rfl⟩
  rw [← hx1]
  have e1 : x1.heap.size = G + 1 := by rw [hx1, hG]; simp
  have Z1 : Hid (Has x1 G exZ 28) := Lib.hid (by rw [hx1, hG]; exact Has.new w exZ _)
  have B1 : Hid (Below G w x1) := Lib.hid (by rw [hx1, hG]; exact (Below.refl _ _).alloc (Nat.le_refl _) _)
  have H1 := Lib.hid (HH.out.later (by rw [← hG]; exact B1.out))
  have HG := Lib.hid hG
  have HPG : Hid (pb < G ∧ g < G) := Lib.hid (by rw [hG]; exact HL.out)
  have HEN := Lib.hid (enter_ok H1.out hd)
  clear hx1 hG HH HL
  go_wp2_with fail
  refine HEN.out.mono ?_
  rintro e w2 ⟨rfl, h2⟩
  have H2 : Hid (Ps w2 pb g off cap (t :: r) (d + 1) rm) := Lib.hid (by rw [h2]; exact H1.out.deeper _)
  have Z2 : Hid (Has w2 G exZ 28) := Lib.hid (by rw [h2]; exact Z1.out.setOther (a := ⟨pb, 1, none⟩) (by have := HPG.out; show G ≠ pb; omega) _)
  have B2 : Hid (But G pb w w2) := Lib.hid (by rw [h2]; exact (But.of_below B1.out).setB 1 _)
  have HIS := Lib.hid (isthing_any H2.out)
  clear h2 H1 Z1 B1 HEN e1
  go_wp2_with fail
  refine HIS.out.mono ?_
  rw [show thingT (t :: r) = true by simp [thingT, stT, hk, htx]]
  rintro e w3 ⟨rfl, x3⟩
  have H3 := Lib.hid (H2.out.later x3)
  have Z3 := Lib.hid (Z2.out.below x3 Z2.out.lt)
  have B3 : Hid (But G pb w w3) := Lib.hid (B2.out.trans (But.of_below (x3.mono (Nat.le_of_lt Z2.out.lt))))
  have HT := Lib.hid (take_any H3.out (by omega))
  clear x3 H2 Z2 B2 HIS
  go_wp2_with fail
  refine HT.out.mono ?_
  rintro e w4 ⟨rfl, bt, p4⟩
  have H4 := Lib.hid p4
  have Z4 : Hid (Has w4 G exZ 28) := Lib.hid (Z3.out.but bt Z3.out.lt (by have := HPG.out; omega))
  have B4 : Hid (But G pb w w4) := Lib.hid (B3.out.trans (bt.mono (Nat.le_of_lt Z3.out.lt)))
  have NW : Hid (Has (w4.alloc (.cells #[.int .u8 0, .string ⟨#[]⟩, .int .i64 0] 50)) w4.heap.size [.int .u8 0, .string ⟨#[]⟩, .int .i64 0] 50) := Lib.hid (Has.new w4 [.int .u8 0, .string ⟨#[]⟩, .int .i64 0] _)
  obtain ⟨C, hC⟩ : ∃ C, C = (tokC t).toArray := ⟨_, rfl⟩
  rw [← hC]
  have HC := Lib.hid hC
  have HCI : Hid ((Tryd.prog.info? 50).map (·.size) = some C.size) := Lib.hid (by rw [hC, List.size_toArray]; exact info_tokp)
  have HCO : Hid (C.all (·.oneCell') = true) := Lib.hid (by rw [hC]; exact tok_one t)
  have HCS : Hid (([.int .u8 0, .string ⟨#[]⟩, .int .i64 0] : List Value).toArray.size = C.size) := Lib.hid (by rw [hC]; rfl)
  clear bt p4 hC HT H3 Z3 B3
  go_upto_region 6 with (refine wpList_store_row rfl 50 _ _ rfl w4.heap.size C rfl rfl 50 _ NW.out HCI.out HCS.out HCO.out ?_)
  obtain ⟨T, hT⟩ : ∃ T, T = w4.heap.size := ⟨_, rfl⟩
  obtain ⟨w5, hw5⟩ : ∃ x, x = (w4.alloc (.cells #[.int .u8 0, .string ⟨#[]⟩, .int .i64 0] 50)).setRow w4.heap.size C := ⟨_, rfl⟩
  rw [← hw5, ← hT]
  have T5 : Hid (Has w5 T (tokC t) 50) := Lib.hid (by rw [hw5, hT, HC.out]; exact NW.out.row _)
  have D5 : Hid (Below T w4 w5) := Lib.hid (by rw [hw5, hT]; exact below_setRow ((Below.refl _ _).alloc (Nat.le_refl _) _) (Nat.le_refl _) _)
  have H5 := Lib.hid (H4.out.later (by rw [← hT]; exact D5.out))
  have Z5 : Hid (Has w5 G exZ 28) := Lib.hid (Z4.out.below D5.out (by rw [hT]; exact Z4.out.lt))
  have B5 : Hid (But G pb w w5) := Lib.hid (B4.out.trans (But.of_below (D5.out.mono (by rw [hT]; exact Nat.le_of_lt Z4.out.lt))))
  have k0 : w5.cell? ⟨T, 0, none⟩ = some (.int .u8 2) := by have := T5.out.cellAt (i := 0) (v := .int .u8 (t.kind : Int)) rfl; rw [hk] at this; exact this
  have k1 : w5.cell? ⟨T, 1, none⟩ = some (.string ⟨#[114, 101, 99]⟩) := by have := T5.out.cellAt (i := 1) (v := .string ⟨t.text.toArray⟩) rfl; rw [htx] at this; exact this
  have k2 : w5.cell? ⟨T, 2, none⟩ = some (.int .i64 (t.at_ : Int)) := T5.out.cellAt (i := 2) rfl
  have HGT : Hid (G < T) := Lib.hid (by rw [hT]; exact Z4.out.lt)
  clear hw5 hT NW H4 Z4 B4 D5 HCS HCO HCI HC
  have HND := Lib.hid (need_ok (t := u) (r := q) (by have := H5.out; rwa [HR.out] at this) ⟨#[123]⟩ (by have := HU.out; rwa [HR.out] at this))
  go_wp2_with fail
  refine HND.out.mono ?_
  rintro e w7 ⟨rfl, b7, p7⟩
  have HTL : Hid (T < w5.heap.size ∧ T ≠ pb) := Lib.hid ⟨T5.out.lt, by have := HPG.out; have := HGT.out; omega⟩
  have T7 := Lib.hid (T5.out.but b7 HTL.out.1 HTL.out.2)
  have Z7 := Lib.hid (Z5.out.but b7 Z5.out.lt (by have := HPG.out; omega))
  have B7 : Hid (But G pb w w7) := Lib.hid (B5.out.trans (b7.mono (Nat.le_of_lt Z5.out.lt)))
  have HE := Lib.hid (HX.out w7 _ _ (by rw [HR.out]; exact p7))
  clear HX k0 k1 k2 b7 p7 HND T5 H5 B5 Z5
  have k2 : w7.cell? ⟨T, 2, none⟩ = some (.int .i64 (t.at_ : Int)) := T7.out.cellAt (i := 2) rfl
  go_wp2_with fail
  refine HE.out.mono ?_
  rintro e w6 ⟨rfl, bt, o6, c6, ts6, p6⟩
  have B6 : Hid (But G pb w w6) := Lib.hid (B7.out.trans (bt.mono (Nat.le_of_lt Z7.out.lt)))
  first | go_wp2_with fail | skip
  refine door_bad _ _ rfl p6 (by omega) ⟨rfl, ?_, _, _, _, p6.deeper d⟩
  rw [← HG.out]; exact B6.out.setB 1 _

set_option maxRecDepth 100000 in
set_option maxHeartbeats 4000000 in
theorem expr_set_bad {w : World} {pb g off cap d : Nat} {ts : List Tk} {rm : Int} (h : Ps w pb g off cap ts d rm) (hd : d < 60) (hn : (nmT ts 0 && stT ts 1 [58]) = false) (hip : ∀ (W : World), Ps W pb g off cap ts (d + 1) rm → Calls Tryd.prog 28 #[.pointer (some ⟨pb, 0, none⟩)] W fun e w' => e = .returned (.bool false) ∧ Below W.heap.size W w') (hw : noWord ts = true) (p er : Nat)
    (hop : ∀ (W : World), Ps W pb g off cap ts (d + 1) rm → Calls Tryd.prog 33 #[.pointer (some ⟨pb, 0, none⟩), .int .i64 1] W (PB pb g (d + 1) rm p er W)) :
    Calls Tryd.prog 14 #[.pointer (some ⟨pb, 0, none⟩)] w (PB pb g d rm p er w) := by
  have HOP := Lib.hid hop
  have HH := Lib.hid h
  have HL : Hid (pb < w.heap.size ∧ g < w.heap.size) := Lib.hid ⟨h.row.lt, h.lt⟩
  have HNN := Lib.hid hn
  have HB := Lib.hid hip
  obtain ⟨⟨⟨v1, v2⟩, v3⟩, v4⟩ : ((stT ts 0 [108, 101, 116] = false ∧ stT ts 0 [105, 102] = false) ∧ stT ts 0 [119, 105, 116, 104] = false) ∧ stT ts 0 [97, 115, 115, 101, 114, 116] = false := by simpa [noWord] using hw
  have V1 := Lib.hid v1
  have V2 := Lib.hid v2
  have V3 := Lib.hid v3
  have V4 := Lib.hid v4
  obtain ⟨t, hts⟩ : ∃ t, ts[0]? = some t := ⟨_, List.getElem?_eq_getElem h.ends.pos⟩
  have HTS := Lib.hid hts
  clear h hop hn hip hw v1 v2 v3 v4 hts
  go_enter_defers Tryd.func14, Tryd.ntmps14
  go_upto_region 1 with fail
  obtain ⟨G, hG⟩ : ∃ G, G = w.heap.size := ⟨_, rfl⟩
  rw [← hG]
  obtain ⟨x1, hx1⟩ : ∃ x, x = w.alloc (.cells #[.int .u8 0, .int .i64 0, .string ⟨#[]⟩, .slice none 0 0, .slice none 0 0, .bool false, .slice none 0 0, .int .i64 0] 28) := ⟨_, rfl⟩
  rw [← hx1]
  have Z1 : Hid (Has x1 G exZ 28) := Lib.hid (by rw [hx1, hG]; exact Has.new w exZ _)
  have B1 : Hid (Below G w x1) := Lib.hid (by rw [hx1, hG]; exact (Below.refl _ _).alloc (Nat.le_refl _) _)
  have H1 := Lib.hid (HH.out.later (by rw [← hG]; exact B1.out))
  have HG := Lib.hid hG
  have HPG : Hid (pb < G ∧ g < G) := Lib.hid (by rw [hG]; exact HL.out)
  have HEN := Lib.hid (enter_ok H1.out hd)
  clear hx1 hG HH HL
  go_wp2_with fail
  refine HEN.out.mono ?_
  rintro e w2 ⟨rfl, h2⟩
  have H2 : Hid (Ps w2 pb g off cap ts (d + 1) rm) := Lib.hid (by rw [h2]; exact H1.out.deeper _)
  have Z2 : Hid (Has w2 G exZ 28) := Lib.hid (by rw [h2]; exact Z1.out.setOther (a := ⟨pb, 1, none⟩) (by have := HPG.out; show G ≠ pb; omega) _)
  have B2 : Hid (But G pb w w2) := Lib.hid (by rw [h2]; exact (But.of_below B1.out).setB 1 _)
  have y0 : w2.cell? ⟨pb, 0, none⟩ = some (.slice (some ⟨g, off, none⟩) ts.length cap) := H2.out.row.cellAt (i := 0) rfl
  have z2 : w2.cell? ⟨g, off + 2, none⟩ = some (.int .i64 (t.at_ : Int)) := by have := (H2.out.cell HTS.out).2.2; simpa using this
  have hlen : (0 : Int) < (ts.length : Int) := by have := H2.out.ends.pos; omega
  have HN0 := Lib.hid (named_any H2.out 0 H2.out.ends.pos)
  clear h2 H1 Z1 B1 HEN
  go_upto_region 4 with fail
  clear y0 z2 hlen
  go_wp2_with fail
  refine HN0.out.mono ?_
  rintro e w3 ⟨rfl, hx⟩
  subst hx
  clear HN0
  obtain ⟨b0, hb0⟩ : ∃ b, b = nmT ts 0 := ⟨_, rfl⟩
  rw [← hb0]
  cases b0 with
  | true =>
    as_aux_lemma =>
      have hl1 : 1 < ts.length := by
        cases ts with
        | nil => simp [nmT] at hb0
        | cons u q =>
          have hk : u.kind = 1 := by have := hb0.symm; unfold nmT at this; simpa using this
          have := (H2.out.ends.tail (by omega)).pos
          rw [List.length_cons]; omega
      have hs := stands_any H2.out 1 hl1 ⟨#[58]⟩
      rw [show stT ts 1 (⟨#[58]⟩ : ByteArray).data.toList = false by have := HNN.out; rw [← hb0, Bool.true_and] at this; exact this] at hs
      have HS := Lib.hid hs
      clear hs hl1 hb0
      go_wp2_with fail
      refine HS.out.mono ?_
      rintro e w3 ⟨rfl, x3⟩
      have H3 := Lib.hid (H2.out.later x3)
      have Z3 := Lib.hid (Z2.out.below x3 Z2.out.lt)
      have B3 : Hid (But G pb w w3) := Lib.hid (B2.out.trans (But.of_below (x3.mono (Nat.le_of_lt Z2.out.lt))))
      clear x3 H2 Z2 B2 HS
      have K4 := Lib.hid (HB.out _ H3.out)
      go_wp2_with fail
      refine K4.out.mono ?_
      rintro e w4 ⟨rfl, x4⟩
      have H4 := Lib.hid (H3.out.later x4)
      have Z4 := Lib.hid (Z3.out.below x4 Z3.out.lt)
      have B4 : Hid (But G pb w w4) := Lib.hid (B3.out.trans (But.of_below (x4.mono (Nat.le_of_lt Z3.out.lt))))
      clear x4 H3 Z3 B3 K4
      have K5 := Lib.hid (skip_no H4.out ⟨#[108, 101, 116]⟩ V1.out)
      go_wp2_with fail
      refine K5.out.mono ?_
      rintro e w5 ⟨rfl, x5⟩
      have H5 := Lib.hid (H4.out.later x5)
      have Z5 := Lib.hid (Z4.out.below x5 Z4.out.lt)
      have B5 : Hid (But G pb w w5) := Lib.hid (B4.out.trans (But.of_below (x5.mono (Nat.le_of_lt Z4.out.lt))))
      clear x5 H4 Z4 B4 K5
      have K6 := Lib.hid (skip_no H5.out ⟨#[105, 102]⟩ V2.out)
      go_wp2_with fail
      refine K6.out.mono ?_
      rintro e w6 ⟨rfl, x6⟩
      have H6 := Lib.hid (H5.out.later x6)
      have Z6 := Lib.hid (Z5.out.below x6 Z5.out.lt)
      have B6 : Hid (But G pb w w6) := Lib.hid (B5.out.trans (But.of_below (x6.mono (Nat.le_of_lt Z5.out.lt))))
      clear x6 H5 Z5 B5 K6
      have K7 := Lib.hid (skip_no H6.out ⟨#[119, 105, 116, 104]⟩ V3.out)
      go_wp2_with fail
      refine K7.out.mono ?_
      rintro e w7 ⟨rfl, x7⟩
      have H7 := Lib.hid (H6.out.later x7)
      have Z7 := Lib.hid (Z6.out.below x7 Z6.out.lt)
      have B7 : Hid (But G pb w w7) := Lib.hid (B6.out.trans (But.of_below (x7.mono (Nat.le_of_lt Z6.out.lt))))
      clear x7 H6 Z6 B6 K7
      have K8 := Lib.hid (skip_no H7.out ⟨#[97, 115, 115, 101, 114, 116]⟩ V4.out)
      go_wp2_with fail
      refine K8.out.mono ?_
      rintro e w8 ⟨rfl, x8⟩
      have H8 := Lib.hid (H7.out.later x8)
      have Z8 := Lib.hid (Z7.out.below x8 Z7.out.lt)
      have B8 : Hid (But G pb w w8) := Lib.hid (B7.out.trans (But.of_below (x8.mono (Nat.le_of_lt Z7.out.lt))))
      clear x8 H7 Z7 B7 K8
      have HQ := Lib.hid (HOP.out w8 H8.out)
      have HLT := Lib.hid Z8.out.lt
      have HLP := Lib.hid H8.out.row.lt
      clear HOP
      go_wp2_with fail
      refine HQ.out.mono ?_
      rintro e w9 ⟨rfl, bt, o9, c9, ts9, p9⟩
      have B9 : Hid (But G pb w w9) := Lib.hid (B8.out.trans (bt.mono (Nat.le_of_lt Z8.out.lt)))
      first | go_wp2_with fail | skip
      refine door_bad _ _ rfl p9 (by omega) ⟨rfl, ?_, _, _, _, p9.deeper d⟩
      rw [← HG.out]; exact B9.out.setB 1 _
  | false =>
    as_aux_lemma =>
      clear hb0
      have K4 := Lib.hid (HB.out _ H2.out)
      go_wp2_with fail
      refine K4.out.mono ?_
      rintro e w4 ⟨rfl, x4⟩
      have H4 := Lib.hid (H2.out.later x4)
      have Z4 := Lib.hid (Z2.out.below x4 Z2.out.lt)
      have B4 : Hid (But G pb w w4) := Lib.hid (B2.out.trans (But.of_below (x4.mono (Nat.le_of_lt Z2.out.lt))))
      clear x4 H2 Z2 B2 K4
      have K5 := Lib.hid (skip_no H4.out ⟨#[108, 101, 116]⟩ V1.out)
      go_wp2_with fail
      refine K5.out.mono ?_
      rintro e w5 ⟨rfl, x5⟩
      have H5 := Lib.hid (H4.out.later x5)
      have Z5 := Lib.hid (Z4.out.below x5 Z4.out.lt)
      have B5 : Hid (But G pb w w5) := Lib.hid (B4.out.trans (But.of_below (x5.mono (Nat.le_of_lt Z4.out.lt))))
      clear x5 H4 Z4 B4 K5
      have K6 := Lib.hid (skip_no H5.out ⟨#[105, 102]⟩ V2.out)
      go_wp2_with fail
      refine K6.out.mono ?_
      rintro e w6 ⟨rfl, x6⟩
      have H6 := Lib.hid (H5.out.later x6)
      have Z6 := Lib.hid (Z5.out.below x6 Z5.out.lt)
      have B6 : Hid (But G pb w w6) := Lib.hid (B5.out.trans (But.of_below (x6.mono (Nat.le_of_lt Z5.out.lt))))
      clear x6 H5 Z5 B5 K6
      have K7 := Lib.hid (skip_no H6.out ⟨#[119, 105, 116, 104]⟩ V3.out)
      go_wp2_with fail
      refine K7.out.mono ?_
      rintro e w7 ⟨rfl, x7⟩
      have H7 := Lib.hid (H6.out.later x7)
      have Z7 := Lib.hid (Z6.out.below x7 Z6.out.lt)
      have B7 : Hid (But G pb w w7) := Lib.hid (B6.out.trans (But.of_below (x7.mono (Nat.le_of_lt Z6.out.lt))))
      clear x7 H6 Z6 B6 K7
      have K8 := Lib.hid (skip_no H7.out ⟨#[97, 115, 115, 101, 114, 116]⟩ V4.out)
      go_wp2_with fail
      refine K8.out.mono ?_
      rintro e w8 ⟨rfl, x8⟩
      have H8 := Lib.hid (H7.out.later x8)
      have Z8 := Lib.hid (Z7.out.below x8 Z7.out.lt)
      have B8 : Hid (But G pb w w8) := Lib.hid (B7.out.trans (But.of_below (x8.mono (Nat.le_of_lt Z7.out.lt))))
      clear x8 H7 Z7 B7 K8
      have HQ := Lib.hid (HOP.out w8 H8.out)
      have HLT := Lib.hid Z8.out.lt
      have HLP := Lib.hid H8.out.row.lt
      clear HOP
      go_wp2_with fail
      refine HQ.out.mono ?_
      rintro e w9 ⟨rfl, bt, o9, c9, ts9, p9⟩
      have B9 : Hid (But G pb w w9) := Lib.hid (B8.out.trans (bt.mono (Nat.le_of_lt Z8.out.lt)))
      first | go_wp2_with fail | skip
      refine door_bad _ _ rfl p9 (by omega) ⟨rfl, ?_, _, _, _, p9.deeper d⟩
      rw [← HG.out]; exact B9.out.setB 1 _

set_option maxRecDepth 100000 in
set_option maxHeartbeats 4000000 in
theorem expr_pat_bad {w : World} {pb g off cap d : Nat} {ts : List Tk} {rm : Int} (h : Ps w pb g off cap ts d rm) (hd : d < 60) (hn : nmT ts 0 = false) (hip : ∀ (W : World), Ps W pb g off cap ts (d + 1) rm → Calls Tryd.prog 28 #[.pointer (some ⟨pb, 0, none⟩)] W fun e w' => e = .returned (.bool true) ∧ Below W.heap.size W w') (p er : Nat)
    (hop : ∀ (W : World), Ps W pb g off cap ts (d + 1) rm → Calls Tryd.prog 29 #[.pointer (some ⟨pb, 0, none⟩)] W (PB pb g (d + 1) rm p er W)) :
    Calls Tryd.prog 14 #[.pointer (some ⟨pb, 0, none⟩)] w (PB pb g d rm p er w) := by
  have HOP := Lib.hid hop
  have HH := Lib.hid h
  have HL : Hid (pb < w.heap.size ∧ g < w.heap.size) := Lib.hid ⟨h.row.lt, h.lt⟩
  have HNN := Lib.hid hn
  have HB := Lib.hid hip
  obtain ⟨t, hts⟩ : ∃ t, ts[0]? = some t := ⟨_, List.getElem?_eq_getElem h.ends.pos⟩
  have HTS := Lib.hid hts
  clear h hop hn hip hts
  go_enter_defers Tryd.func14, Tryd.ntmps14
  go_upto_region 1 with fail
  obtain ⟨G, hG⟩ : ∃ G, G = w.heap.size := ⟨_, rfl⟩
  rw [← hG]
  obtain ⟨x1, hx1⟩ : ∃ x, x = w.alloc (.cells #[.int .u8 0, .int .i64 0, .string ⟨#[]⟩, .slice none 0 0, .slice none 0 0, .bool false, .slice none 0 0, .int .i64 0] 28) := ⟨_, rfl⟩
  rw [← hx1]
  have Z1 : Hid (Has x1 G exZ 28) := Lib.hid (by rw [hx1, hG]; exact Has.new w exZ _)
  have B1 : Hid (Below G w x1) := Lib.hid (by rw [hx1, hG]; exact (Below.refl _ _).alloc (Nat.le_refl _) _)
  have H1 := Lib.hid (HH.out.later (by rw [← hG]; exact B1.out))
  have HG := Lib.hid hG
  have HPG : Hid (pb < G ∧ g < G) := Lib.hid (by rw [hG]; exact HL.out)
  have HEN := Lib.hid (enter_ok H1.out hd)
  clear hx1 hG HH HL
  go_wp2_with fail
  refine HEN.out.mono ?_
  rintro e w2 ⟨rfl, h2⟩
  have H2 : Hid (Ps w2 pb g off cap ts (d + 1) rm) := Lib.hid (by rw [h2]; exact H1.out.deeper _)
  have Z2 : Hid (Has w2 G exZ 28) := Lib.hid (by rw [h2]; exact Z1.out.setOther (a := ⟨pb, 1, none⟩) (by have := HPG.out; show G ≠ pb; omega) _)
  have B2 : Hid (But G pb w w2) := Lib.hid (by rw [h2]; exact (But.of_below B1.out).setB 1 _)
  have y0 : w2.cell? ⟨pb, 0, none⟩ = some (.slice (some ⟨g, off, none⟩) ts.length cap) := H2.out.row.cellAt (i := 0) rfl
  have z2 : w2.cell? ⟨g, off + 2, none⟩ = some (.int .i64 (t.at_ : Int)) := by have := (H2.out.cell HTS.out).2.2; simpa using this
  have hlen : (0 : Int) < (ts.length : Int) := by have := H2.out.ends.pos; omega
  have HN0 := Lib.hid (named_any H2.out 0 H2.out.ends.pos)
  clear h2 H1 Z1 B1 HEN
  go_upto_region 4 with fail
  clear y0 z2 hlen
  go_wp2_with fail
  refine HN0.out.mono ?_
  rintro e w3 ⟨rfl, hx⟩
  subst hx
  clear HN0
  rw [HNN.out]
  have K4 := Lib.hid (HB.out _ H2.out)
  go_wp2_with fail
  refine K4.out.mono ?_
  rintro e w4 ⟨rfl, x4⟩
  have H4 := Lib.hid (H2.out.later x4)
  have Z4 := Lib.hid (Z2.out.below x4 Z2.out.lt)
  have B4 : Hid (But G pb w w4) := Lib.hid (B2.out.trans (But.of_below (x4.mono (Nat.le_of_lt Z2.out.lt))))
  clear x4 H2 Z2 B2 K4
  have HQ := Lib.hid (HOP.out w4 H4.out)
  have HLT := Lib.hid Z4.out.lt
  go_wp2_with fail
  refine HQ.out.mono ?_
  rintro e w9 ⟨rfl, bt, o9, c9, ts9, p9⟩
  have B9 : Hid (But G pb w w9) := Lib.hid (B4.out.trans (bt.mono (Nat.le_of_lt Z4.out.lt)))
  first | go_wp2_with fail | skip
  refine door_bad _ _ rfl p9 (by omega) ⟨rfl, ?_, _, _, _, p9.deeper d⟩
  rw [← HG.out]; exact B9.out.setB 1 _

set_option maxRecDepth 100000 in
set_option maxHeartbeats 4000000 in
theorem expr_let_bad {w : World} {pb g off cap d : Nat} {ts : List Tk} {rm : Int} (h : Ps w pb g off cap ts d rm) (hd : d < 60) (hn : nmT ts 0 = false) (hb : stT ts 0 [123] = false) (t0 : Tk) (r : List Tk) (ht0 : ts = t0 :: r) (hlet : stT ts 0 [108, 101, 116] = true) (p er : Nat)
    (hop : ∀ (W : World) (o c : Nat), Ps W pb g o c r (d + 1) rm → Calls Tryd.prog 31 #[.pointer (some ⟨pb, 0, none⟩), .int .i64 (t0.at_ : Int)] W (PB pb g (d + 1) rm p er W)) :
    Calls Tryd.prog 14 #[.pointer (some ⟨pb, 0, none⟩)] w (PB pb g d rm p er w) := by
  have HOP := Lib.hid hop
  have HH := Lib.hid h
  have HL : Hid (pb < w.heap.size ∧ g < w.heap.size) := Lib.hid ⟨h.row.lt, h.lt⟩
  have HNN := Lib.hid hn
  have HB := Lib.hid hb
  obtain ⟨t, hts⟩ : ∃ t, ts[0]? = some t := ⟨_, List.getElem?_eq_getElem h.ends.pos⟩
  obtain rfl : t = t0 := by rw [ht0] at hts; simpa using hts.symm
  have HTS := Lib.hid hts
  have HT0 := Lib.hid ht0
  have HLET := Lib.hid hlet
  clear h hop hn hb hts ht0 hlet
  go_enter_defers Tryd.func14, Tryd.ntmps14
  go_upto_region 1 with fail
  obtain ⟨G, hG⟩ : ∃ G, G = w.heap.size := ⟨_, rfl⟩
  rw [← hG]
  obtain ⟨x1, hx1⟩ : ∃ x, x = w.alloc (.cells #[.int .u8 0, .int .i64 0, .string ⟨#[]⟩, .slice none 0 0, .slice none 0 0, .bool false, .slice none 0 0, .int .i64 0] 28) := ⟨_, rfl⟩
  rw [← hx1]
  have Z1 : Hid (Has x1 G exZ 28) := Lib.hid (by rw [hx1, hG]; exact Has.new w exZ _)
  have B1 : Hid (Below G w x1) := Lib.hid (by rw [hx1, hG]; exact (Below.refl _ _).alloc (Nat.le_refl _) _)
  have H1 := Lib.hid (HH.out.later (by rw [← hG]; exact B1.out))
  have HG := Lib.hid hG
  have HPG : Hid (pb < G ∧ g < G) := Lib.hid (by rw [hG]; exact HL.out)
  have HEN := Lib.hid (enter_ok H1.out hd)
  clear hx1 hG HH HL
  go_wp2_with fail
  refine HEN.out.mono ?_
  rintro e w2 ⟨rfl, h2⟩
  have H2 : Hid (Ps w2 pb g off cap ts (d + 1) rm) := Lib.hid (by rw [h2]; exact H1.out.deeper _)
  have Z2 : Hid (Has w2 G exZ 28) := Lib.hid (by rw [h2]; exact Z1.out.setOther (a := ⟨pb, 1, none⟩) (by have := HPG.out; show G ≠ pb; omega) _)
  have B2 : Hid (But G pb w w2) := Lib.hid (by rw [h2]; exact (But.of_below B1.out).setB 1 _)
  have y0 : w2.cell? ⟨pb, 0, none⟩ = some (.slice (some ⟨g, off, none⟩) ts.length cap) := H2.out.row.cellAt (i := 0) rfl
  have z2 : w2.cell? ⟨g, off + 2, none⟩ = some (.int .i64 (t.at_ : Int)) := by have := (H2.out.cell HTS.out).2.2; simpa using this
  have hlen : (0 : Int) < (ts.length : Int) := by have := H2.out.ends.pos; omega
  have HN0 := Lib.hid (named_any H2.out 0 H2.out.ends.pos)
  clear h2 H1 Z1 B1 HEN
  go_upto_region 4 with fail
  clear y0 z2 hlen
  go_wp2_with fail
  refine HN0.out.mono ?_
  rintro e w3 ⟨rfl, hx⟩
  subst hx
  clear HN0
  rw [HNN.out]
  have K4 := Lib.hid (ispat_no H2.out HB.out)
  go_wp2_with fail
  refine K4.out.mono ?_
  rintro e w4 ⟨rfl, x4⟩
  have H4 := Lib.hid (H2.out.later x4)
  have Z4 := Lib.hid (Z2.out.below x4 Z2.out.lt)
  have B4 : Hid (But G pb w w4) := Lib.hid (B2.out.trans (But.of_below (x4.mono (Nat.le_of_lt Z2.out.lt))))
  clear x4 H2 Z2 B2 K4
  have H4b : Hid (Ps w4 pb g off cap (t :: r) (d + 1) rm) := Lib.hid (by have := H4.out; rwa [HT0.out] at this)
  have K5 := Lib.hid (skip_yes H4b.out ⟨#[108, 101, 116]⟩ (by have := HLET.out; rwa [HT0.out] at this))
  go_wp2_with fail
  refine K5.out.mono ?_
  rintro e w5 ⟨rfl, b5, p5⟩
  have Z5 := Lib.hid (Z4.out.but b5 Z4.out.lt (by have := HPG.out; omega))
  have B5 : Hid (But G pb w w5) := Lib.hid (B4.out.trans (b5.mono (Nat.le_of_lt Z4.out.lt)))
  have HQ := Lib.hid (HOP.out w5 _ _ p5)
  clear b5 p5 K5 H4 H4b Z4 B4
  have HLT := Lib.hid Z5.out.lt
  go_wp2_with fail
  refine HQ.out.mono ?_
  rintro e w9 ⟨rfl, bt, o9, c9, ts9, p9⟩
  have B9 : Hid (But G pb w w9) := Lib.hid (B5.out.trans (bt.mono (Nat.le_of_lt Z5.out.lt)))
  first | go_wp2_with fail | skip
  refine door_bad _ _ rfl p9 (by omega) ⟨rfl, ?_, _, _, _, p9.deeper d⟩
  rw [← HG.out]; exact B9.out.setB 1 _
end Go.Proofs.YtnajafnbickiiaaDoor

/-
  A thing: a name; brackets. Conditions: the parser's block.
-/
import Derived.Test.YtnajafnbickiiaaDoorPEx
namespace Go.Proofs.YtnajafnbickiiaaDoor
open Go.RowKit
set_option linter.unusedVariables false

set_option maxRecDepth 100000 in
theorem need_ok {w : World} {pb g off cap d : Nat} {t : Tk} {r : List Tk} {rm : Int} (h : Ps w pb g off cap (t :: r) d rm) (s : ByteArray) (hs : stT (t :: r) 0 s.data.toList = true) :
    Calls Tryd.prog 42 #[.pointer (some ⟨pb, 0, none⟩), .string s] w fun e w' => e = .returned (.tuple #[]) ∧ But w.heap.size pb w w' ∧ Ps w' pb g (off + 3) (cap - 1) r d rm := by
  have HK := Lib.hid (skip_yes h s hs)
  clear h hs
  go_enter Tryd.func42, Tryd.ntmps42
  go_wp2_with fail
  refine HK.out.mono ?_
  rintro e w1 ⟨rfl, x1, p1⟩
  have X1 := Lib.hid x1
  have P1 := Lib.hid p1
  clear x1 p1 HK
  go_wp2_with fail
  first | go_end0 | (simp only [Exit.inBlock, Exit.then]; refine bodyPost_ret (results_none rfl _ _ _) rfl ?_) | refine bodyPost_ret (results_none rfl _ _ _) rfl ?_
  exact ⟨rfl, X1.out, P1.out⟩

set_option maxRecDepth 100000 in
set_option maxHeartbeats 4000000 in
theorem thing_name {w : World} {pb g off cap d : Nat} {t : Tk} {r : List Tk} {rm : Int} (h : Ps w pb g off cap (t :: r) d rm) (hd : d < 60) (hk : t.kind = 1) :
    Calls Tryd.prog 69 #[.pointer (some ⟨pb, 0, none⟩)] w (PX pb g d rm w (.mk 3 0 t.text [] t.at_) r) := by
  have HH := Lib.hid h
  have HL : Hid (pb < w.heap.size ∧ g < w.heap.size) := Lib.hid ⟨h.row.lt, h.lt⟩
  clear h
  go_enter_defers Tryd.func69, Tryd.ntmps69
  go_upto_region 1 with fail
  obtain ⟨G, hG⟩ : ∃ G, G = w.heap.size := ⟨_, rfl⟩
  rw [← hG]
  obtain ⟨x1, hx1⟩ : ∃ x, x = w.alloc (.cells #[.int .u8 0, .int .i64 0, .string ⟨#[]⟩, .slice none 0 0, .slice none 0 0, .bool false, .slice none 0 0, .int .i64 0] 28) := ⟨_, rfl⟩
  rw [← hx1]
  have e1 : x1.heap.size = G + 1 := by rw [hx1, hG]; simp
  have Z1 : Hid (Has x1 G exZ 28) := Lib.hid (by rw [hx1, hG]; exact Has.new w exZ _)
  have B1 : Hid (Below G w x1) := Lib.hid (by rw [hx1, hG]; exact (Below.refl _ _).alloc (Nat.le_refl _) _)
  have H1 := Lib.hid (HH.out.later (by rw [← hG]; exact B1.out))
  have HG := Lib.hid hG
  have HPG : Hid (pb < G ∧ g < G) := Lib.hid (by rw [hG]; exact HL.out)
  have HEN := Lib.hid (enter_ok H1.out hd)
  clear hx1 hG HH HL
  go_wp2_with fail
  refine HEN.out.mono ?_
  rintro e w2 ⟨rfl, h2⟩
  have H2 : Hid (Ps w2 pb g off cap (t :: r) (d + 1) rm) := Lib.hid (by rw [h2]; exact H1.out.deeper _)
  have Z2 : Hid (Has w2 G exZ 28) := Lib.hid (by rw [h2]; exact Z1.out.setOther (a := ⟨pb, 1, none⟩) (by have := HPG.out; show G ≠ pb; omega) _)
  have B2 : Hid (But G pb w w2) := Lib.hid (by rw [h2]; exact (But.of_below B1.out).setB 1 _)
  have HIS := Lib.hid (isthing_any H2.out)
  clear h2 H1 Z1 B1 HEN e1
  go_wp2_with fail
  refine HIS.out.mono ?_
  rw [show thingT (t :: r) = true by simp [thingT, hk]]
  rintro e w3 ⟨rfl, x3⟩
  have H3 := Lib.hid (H2.out.later x3)
  have Z3 := Lib.hid (Z2.out.below x3 Z2.out.lt)
  have B3 : Hid (But G pb w w3) := Lib.hid (B2.out.trans (But.of_below (x3.mono (Nat.le_of_lt Z2.out.lt))))
  have HT := Lib.hid (take_any H3.out (by omega))
  clear x3 H2 Z2 B2 HIS
  go_wp2_with fail
  refine HT.out.mono ?_
  rintro e w4 ⟨rfl, bt, p4⟩
  have H4 := Lib.hid p4
  have Z4 : Hid (Has w4 G exZ 28) := Lib.hid (Z3.out.but bt Z3.out.lt (by have := HPG.out; omega))
  have B4 : Hid (But G pb w w4) := Lib.hid (B3.out.trans (bt.mono (Nat.le_of_lt Z3.out.lt)))
  have NW : Hid (Has (w4.alloc (.cells #[.int .u8 0, .string ⟨#[]⟩, .int .i64 0] 50)) w4.heap.size [.int .u8 0, .string ⟨#[]⟩, .int .i64 0] 50) := Lib.hid (Has.new w4 [.int .u8 0, .string ⟨#[]⟩, .int .i64 0] _)
  obtain ⟨C, hC⟩ : ∃ C, C = (tokC t).toArray := ⟨_, rfl⟩
  rw [← hC]
  have HC := Lib.hid hC
  have HCI : Hid ((Tryd.prog.info? 50).map (·.size) = some C.size) := Lib.hid (by rw [hC, List.size_toArray]; exact info_tokp)
  have HCO : Hid (C.all (·.oneCell') = true) := Lib.hid (by rw [hC]; exact tok_one t)
  have HCS : Hid (([.int .u8 0, .string ⟨#[]⟩, .int .i64 0] : List Value).toArray.size = C.size) := Lib.hid (by rw [hC]; rfl)
  clear bt p4 hC HT H3 Z3 B3
  go_upto_region 6 with (refine wpList_store_row rfl 50 _ _ rfl w4.heap.size C rfl rfl 50 _ NW.out HCI.out HCS.out HCO.out ?_)
  obtain ⟨T, hT⟩ : ∃ T, T = w4.heap.size := ⟨_, rfl⟩
  obtain ⟨w5, hw5⟩ : ∃ x, x = (w4.alloc (.cells #[.int .u8 0, .string ⟨#[]⟩, .int .i64 0] 50)).setRow w4.heap.size C := ⟨_, rfl⟩
  rw [← hw5, ← hT]
  have T5 : Hid (Has w5 T (tokC t) 50) := Lib.hid (by rw [hw5, hT, HC.out]; exact NW.out.row _)
  have D5 : Hid (Below T w4 w5) := Lib.hid (by rw [hw5, hT]; exact below_setRow ((Below.refl _ _).alloc (Nat.le_refl _) _) (Nat.le_refl _) _)
  have H5 := Lib.hid (H4.out.later (by rw [← hT]; exact D5.out))
  have Z5 : Hid (Has w5 G exZ 28) := Lib.hid (Z4.out.below D5.out (by rw [hT]; exact Z4.out.lt))
  have B5 : Hid (But G pb w w5) := Lib.hid (B4.out.trans (But.of_below (D5.out.mono (by rw [hT]; exact Nat.le_of_lt Z4.out.lt))))
  have k0 : w5.cell? ⟨T, 0, none⟩ = some (.int .u8 1) := by have := T5.out.cellAt (i := 0) (v := .int .u8 (t.kind : Int)) rfl; rw [hk] at this; exact this
  have k1 : w5.cell? ⟨T, 1, none⟩ = some (.string ⟨t.text.toArray⟩) := T5.out.cellAt (i := 1) rfl
  have k2 : w5.cell? ⟨T, 2, none⟩ = some (.int .i64 (t.at_ : Int)) := T5.out.cellAt (i := 2) rfl
  clear hw5 hT NW H4 Z4 B4 D5 HCS HCO HCI HC
  obtain ⟨E, hE⟩ : ∃ E, E = (exC 3 0 t.text (.slice none 0 0) t.at_).toArray := ⟨_, rfl⟩
  have HE := Lib.hid hE
  have IX := IsX.leaf (w := w5) (B := G) 3 0 t.text t.at_
  have HEI : Hid ((Tryd.prog.info? 28).map (·.size) = some E.size) := Lib.hid (by rw [hE, List.size_toArray, IX.len]; exact info_ex)
  have HEO : Hid (E.all (·.oneCell') = true) := Lib.hid (by rw [hE]; exact IX.one)
  have HES : Hid (exZ.toArray.size = E.size) := Lib.hid (by rw [hE, List.size_toArray, List.size_toArray, IX.len]; rfl)
  clear hE IX
  go_wp2_with (refine wpList_store_row rfl 28 _ _ rfl G E rfl (by rw [HE.out]; rfl) 28 _ Z5.out HEI.out HES.out HEO.out ?_)
  have hps : Ps (w5.setRow G E) pb g (off + 3) (cap - 1) r (d + 1) rm := H5.out.laterB (below_setRow (Below.refl G w5) (Nat.le_refl _) _) HPG.out.1 HPG.out.2
  have hz6 : (w5.setRow G E).heap[G]? = some (.cells E 28 (0, 0)) := setRow_heap _ _ _ _ _ _ Z5.out
  refine door_x (p := 2) (Z := G) (C := E) Tryd.results69 _ _ rfl rfl hps (by omega) hz6 (by have := HPG.out; omega) HEI.out ?_
  refine ⟨exC 3 0 t.text (.slice none 0 0) t.at_, off + 3, cap - 1, by rw [HE.out], ?_, ?_, hps.deeper d⟩
  · exact .leaf 3 0 t.text t.at_
  · rw [← HG.out]; exact (B5.out.setRow (.inl (Nat.le_refl _)) _).setB 1 _
set_option maxRecDepth 100000 in
set_option maxHeartbeats 4000000 in
theorem thing_paren {w : World} {pb g off cap d : Nat} {t : Tk} {r : List Tk} {rm : Int} (h : Ps w pb g off cap (t :: r) d rm) (hd : d < 60) (hk : t.kind = 4) (htx : t.text = [40]) (x : Ex) (u : Tk) (r' : List Tk) (hu : stT (u :: r') 0 [41] = true)
    (hex : ∀ (W : World) (o c : Nat), Ps W pb g o c r (d + 1) rm → Calls Tryd.prog 14 #[.pointer (some ⟨pb, 0, none⟩)] W (PX pb g (d + 1) rm W x (u :: r'))) :
    Calls Tryd.prog 69 #[.pointer (some ⟨pb, 0, none⟩)] w (PX pb g d rm w x r') := by
  have HX := Lib.hid hex
  clear hex
  have HH := Lib.hid h
  have HL : Hid (pb < w.heap.size ∧ g < w.heap.size) := Lib.hid ⟨h.row.lt, h.lt⟩
  clear h
  go_enter_defers Tryd.func69, Tryd.ntmps69
  go_upto_region 1 with fail
  obtain ⟨G, hG⟩ : ∃ G, G = w.heap.size := ⟨_, rfl⟩
  rw [← hG]
  obtain ⟨x1, hx1⟩ : ∃ x, x = w.alloc (.cells #[.int .u8 0, .int .i64 0, .string ⟨#[]⟩, .slice none 0 0, .slice none 0 0, .bool false, .slice none 0 0, .int .i64 0] 28) := ⟨_, rfl⟩
  rw [← hx1]
  have e1 : x1.heap.size = G + 1 := by rw [hx1, hG]; simp
  have Z1 : Hid (Has x1 G exZ 28) := Lib.hid (by rw [hx1, hG]; exact Has.new w exZ _)
  have B1 : Hid (Below G w x1) := Lib.hid (by rw [hx1, hG]; exact (Below.refl _ _).alloc (Nat.le_refl _) _)
  have H1 := Lib.hid (HH.out.later (by rw [← hG]; exact B1.out))
  have HG := Lib.hid hG
  have HPG : Hid (pb < G ∧ g < G) := Lib.hid (by rw [hG]; exact HL.out)
  have HEN := Lib.hid (enter_ok H1.out hd)
  clear hx1 hG HH HL
  go_wp2_with fail
  refine HEN.out.mono ?_
  rintro e w2 ⟨rfl, h2⟩
  have H2 : Hid (Ps w2 pb g off cap (t :: r) (d + 1) rm) := Lib.hid (by rw [h2]; exact H1.out.deeper _)
  have Z2 : Hid (Has w2 G exZ 28) := Lib.hid (by rw [h2]; exact Z1.out.setOther (a := ⟨pb, 1, none⟩) (by have := HPG.out; show G ≠ pb; omega) _)
  have B2 : Hid (But G pb w w2) := Lib.hid (by rw [h2]; exact (But.of_below B1.out).setB 1 _)
  have HIS := Lib.hid (isthing_any H2.out)
  clear h2 H1 Z1 B1 HEN e1
  go_wp2_with fail
  refine HIS.out.mono ?_
  rw [show thingT (t :: r) = true by simp [thingT, stT, hk, htx]]
  rintro e w3 ⟨rfl, x3⟩
  have H3 := Lib.hid (H2.out.later x3)
  have Z3 := Lib.hid (Z2.out.below x3 Z2.out.lt)
  have B3 : Hid (But G pb w w3) := Lib.hid (B2.out.trans (But.of_below (x3.mono (Nat.le_of_lt Z2.out.lt))))
  have HT := Lib.hid (take_any H3.out (by omega))
  clear x3 H2 Z2 B2 HIS
  go_wp2_with fail
  refine HT.out.mono ?_
  rintro e w4 ⟨rfl, bt, p4⟩
  have H4 := Lib.hid p4
  have Z4 : Hid (Has w4 G exZ 28) := Lib.hid (Z3.out.but bt Z3.out.lt (by have := HPG.out; omega))
  have B4 : Hid (But G pb w w4) := Lib.hid (B3.out.trans (bt.mono (Nat.le_of_lt Z3.out.lt)))
  have NW : Hid (Has (w4.alloc (.cells #[.int .u8 0, .string ⟨#[]⟩, .int .i64 0] 50)) w4.heap.size [.int .u8 0, .string ⟨#[]⟩, .int .i64 0] 50) := Lib.hid (Has.new w4 [.int .u8 0, .string ⟨#[]⟩, .int .i64 0] _)
  obtain ⟨C, hC⟩ : ∃ C, C = (tokC t).toArray := ⟨_, rfl⟩
  rw [← hC]
  have HC := Lib.hid hC
  have HCI : Hid ((Tryd.prog.info? 50).map (·.size) = some C.size) := Lib.hid (by rw [hC, List.size_toArray]; exact info_tokp)
  have HCO : Hid (C.all (·.oneCell') = true) := Lib.hid (by rw [hC]; exact tok_one t)
  have HCS : Hid (([.int .u8 0, .string ⟨#[]⟩, .int .i64 0] : List Value).toArray.size = C.size) := Lib.hid (by rw [hC]; rfl)
  clear bt p4 hC HT H3 Z3 B3
  go_upto_region 6 with (refine wpList_store_row rfl 50 _ _ rfl w4.heap.size C rfl rfl 50 _ NW.out HCI.out HCS.out HCO.out ?_)
  obtain ⟨T, hT⟩ : ∃ T, T = w4.heap.size := ⟨_, rfl⟩
  obtain ⟨w5, hw5⟩ : ∃ x, x = (w4.alloc (.cells #[.int .u8 0, .string ⟨#[]⟩, .int .i64 0] 50)).setRow w4.heap.size C := ⟨_, rfl⟩
  rw [← hw5, ← hT]
  have T5 : Hid (Has w5 T (tokC t) 50) := Lib.hid (by rw [hw5, hT, HC.out]; exact NW.out.row _)
  have D5 : Hid (Below T w4 w5) := Lib.hid (by rw [hw5, hT]; exact below_setRow ((Below.refl _ _).alloc (Nat.le_refl _) _) (Nat.le_refl _) _)
  have H5 := Lib.hid (H4.out.later (by rw [← hT]; exact D5.out))
  have Z5 : Hid (Has w5 G exZ 28) := Lib.hid (Z4.out.below D5.out (by rw [hT]; exact Z4.out.lt))
  have B5 : Hid (But G pb w w5) := Lib.hid (B4.out.trans (But.of_below (D5.out.mono (by rw [hT]; exact Nat.le_of_lt Z4.out.lt))))
  have k0 : w5.cell? ⟨T, 0, none⟩ = some (.int .u8 4) := by have := T5.out.cellAt (i := 0) (v := .int .u8 (t.kind : Int)) rfl; rw [hk] at this; exact this
  have k1 : w5.cell? ⟨T, 1, none⟩ = some (.string ⟨#[40]⟩) := by have := T5.out.cellAt (i := 1) (v := .string ⟨t.text.toArray⟩) rfl; rw [htx] at this; exact this
  have k2 : w5.cell? ⟨T, 2, none⟩ = some (.int .i64 (t.at_ : Int)) := T5.out.cellAt (i := 2) rfl
  clear hw5 hT NW H4 Z4 B4 D5 HCS HCO HCI HC
  have HE := Lib.hid (HX.out w5 _ _ H5.out)
  clear HX
  go_wp2_with fail
  refine HE.out.mono ?_
  rintro e w6 ⟨cs, o6, c6, rfl, ix, bt, p6⟩
  have Z6 : Hid (Has w6 G exZ 28) := Lib.hid (Z5.out.but bt Z5.out.lt (by have := HPG.out; omega))
  have B6 : Hid (But G pb w w6) := Lib.hid (B5.out.trans (bt.mono (Nat.le_of_lt Z5.out.lt)))
  have HS6 : Hid (w5.heap.size ≤ w6.heap.size) := Lib.hid bt.size
  have IX := Lib.hid ix
  have H6 := Lib.hid p6
  obtain ⟨E, hE⟩ : ∃ E, E = cs.toArray := ⟨_, rfl⟩
  rw [← hE]
  have HQ := Lib.hid hE
  have HEI : Hid ((Tryd.prog.info? 28).map (·.size) = some E.size) := Lib.hid (by rw [hE, List.size_toArray, ix.len]; exact info_ex)
  have HEO : Hid (E.all (·.oneCell') = true) := Lib.hid (by rw [hE]; exact ix.one)
  have HES : Hid (exZ.toArray.size = E.size) := Lib.hid (by rw [hE, List.size_toArray, List.size_toArray, ix.len]; rfl)
  have NW : Hid (Has (w6.alloc (.cells #[.int .u8 0, .int .i64 0, .string ⟨#[]⟩, .slice none 0 0, .slice none 0 0, .bool false, .slice none 0 0, .int .i64 0] 28)) w6.heap.size exZ 28) := Lib.hid (Has.new w6 exZ _)
  clear ix bt p6 hE HE k0 k1 k2 T5
  go_upto_region 17 with (refine wpList_store_row rfl 28 _ _ rfl w6.heap.size E rfl rfl 28 _ NW.out HEI.out HES.out HEO.out ?_)
  obtain ⟨X, hX⟩ : ∃ X, X = w6.heap.size := ⟨_, rfl⟩
  obtain ⟨w7, hw7⟩ : ∃ y, y = (w6.alloc (.cells #[.int .u8 0, .int .i64 0, .string ⟨#[]⟩, .slice none 0 0, .slice none 0 0, .bool false, .slice none 0 0, .int .i64 0] 28)).setRow w6.heap.size E := ⟨_, rfl⟩
  rw [← hw7, ← hX]
  have X7 : Hid (Has w7 X cs 28) := Lib.hid (by rw [hw7, hX, HQ.out]; exact NW.out.row _)
  have D7 : Hid (Below X w6 w7) := Lib.hid (by rw [hw7, hX]; exact below_setRow ((Below.refl _ _).alloc (Nat.le_refl _) _) (Nat.le_refl _) _)
  have H7 := Lib.hid (H6.out.later (by rw [← hX]; exact D7.out))
  have Z7 : Hid (Has w7 G exZ 28) := Lib.hid (Z6.out.below D7.out (by rw [hX]; exact Z6.out.lt))
  have B7 : Hid (But G pb w w7) := Lib.hid (B6.out.trans (But.of_below (D7.out.mono (by rw [hX]; exact Nat.le_of_lt Z6.out.lt))))
  have I7 : Hid (IsX w7 w5.heap.size cs x) := Lib.hid (IX.out.keep D7.out.size fun k _ h2 => D7.out.block k (by rw [hX]; exact h2))
  have HGX : Hid (G < X ∧ pb < X) := Lib.hid (by rw [hX]; exact ⟨Z6.out.lt, H6.out.row.lt⟩)
  have S7 : Hid (w5.heap.size ≤ w7.heap.size) := Lib.hid (Nat.le_trans HS6.out D7.out.size)
  have HN := Lib.hid (need_ok H7.out ⟨#[41]⟩ hu)
  have G5 := Lib.hid Z5.out.lt
  have hG5 : Hid (pb < w5.heap.size) := Lib.hid H5.out.row.lt
  clear hw7 hX NW H6 Z6 B6 D7 IX H5 Z5 B5
  go_wp2_with fail
  refine HN.out.mono ?_
  rintro e w8 ⟨rfl, bt, p8⟩
  have X8 : Hid (Has w8 X cs 28) := Lib.hid (X7.out.but bt X7.out.lt (by have := HGX.out; omega))
  have Z8 : Hid (Has w8 G exZ 28) := Lib.hid (Z7.out.but bt Z7.out.lt (by have := HPG.out; omega))
  have B8 : Hid (But G pb w w8) := Lib.hid (B7.out.trans (bt.mono (Nat.le_of_lt Z7.out.lt)))
  have I8 : Hid (IsX w8 w5.heap.size cs x) := Lib.hid (I7.out.later bt hG5.out)
  have H8 := Lib.hid p8
  have HEX : Hid (w8.heap[X]? = some (.cells E 28 (0, 0))) := Lib.hid (by rw [HQ.out]; exact X8.out)
  clear bt p8 X7 Z7 B7 I7 H7 HN
  go_wp2_with (first
    | (refine wpList_load_row rfl 28 _ rfl X rfl 28 E (0, 0) _ HEX.out Tryd.underlying28 rfl HEI.out ?_)
    | (refine wpList_store_row rfl 28 _ _ rfl G E rfl rfl 28 _ Z8.out HEI.out HES.out HEO.out ?_))
  have hps : Ps (w8.setRow G E) pb g (o6 + 3) (c6 - 1) r' (d + 1) rm := H8.out.laterB (below_setRow (Below.refl G w8) (Nat.le_refl _) _) HPG.out.1 HPG.out.2
  have hz6 : (w8.setRow G E).heap[G]? = some (.cells E 28 (0, 0)) := setRow_heap _ _ _ _ _ _ Z8.out
  refine door_x (p := 2) (Z := G) (C := E) Tryd.results69 _ _ rfl rfl hps (by omega) hz6 (by have := HPG.out; omega) HEI.out ?_
  refine ⟨cs, o6 + 3, c6 - 1, by rw [HQ.out], ?_, ?_, hps.deeper d⟩
  · refine IsX.mono (B := w5.heap.size) ?_ (by rw [← HG.out]; exact Nat.le_of_lt G5.out)
    refine I8.out.keep (by simp [World.setCell]) fun k h1 h2 => ?_
    rw [heap_setCell_other _ ⟨pb, 1, none⟩ k _ (by have := hG5.out; show k ≠ pb; omega)]
    exact setRow_other _ _ _ _ (by have := G5.out; omega)
  · rw [← HG.out]; exact (B8.out.setRow (.inl (Nat.le_refl _)) _).setB 1 _
end Go.Proofs.YtnajafnbickiiaaDoor

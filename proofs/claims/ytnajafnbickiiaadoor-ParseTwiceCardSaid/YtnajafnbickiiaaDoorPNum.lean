/-
  The parser's thing, at a number. Conditions: the parser's block; the lexer's numbers.
-/
import Derived.Test.YtnajafnbickiiaaDoorPThing
import Derived.Test.YtnajafnbickiiaaDoorLNum
namespace Go.Proofs.YtnajafnbickiiaaDoor
open Go.RowKit
set_option linter.unusedVariables false

set_option maxRecDepth 100000 in
set_option maxHeartbeats 4000000 in
theorem thing_num {w : World} {pb g off cap d : Nat} {t : Tk} {r : List Tk} {rm : Int} (h : Ps w pb g off cap (t :: r) d rm) (hd : d < 60) (hk : t.kind = 3) :
    Calls Tryd.prog 69 #[.pointer (some ⟨pb, 0, none⟩)] w (PX pb g d rm w (.mk 1 (decV t.text) [] [] t.at_) r) := by
  obtain ⟨hn0, hn1, hn2, hn3⟩ := (h.small t (by simp)).2.2.2 hk
  have HN := Lib.hid (fun (w : World) => parse_ok ⟨t.text.toArray⟩ t.text rfl hn0 hn1 (by simpa [ByteArray.size] using hn3) (by omega) w)
  clear hn0 hn1 hn2 hn3
  have HH := Lib.hid h
  have HL : Hid (pb < w.heap.size ∧ g < w.heap.size) := Lib.hid ⟨h.row.lt, h.lt⟩
  clear h
  go_enter_defers Tryd.func69, Tryd.ntmps69
  go_upto_region 1 with fail
  obtain ⟨G, hG⟩ : ∃ G, G = w.heap.size := ⟨_, rfl⟩
  rw [← hG]
  obtain ⟨x1, hx1⟩ : ∃ x, x = w.alloc (.cells #[.int .u8 0, .int .i64 0, .string ⟨#[]⟩, .slice none 0 0, .slice none 0 0, .bool false, .slice none 0 0, .int .i64 0] 28) := ⟨_, rfl⟩
  rw [← hx1]
  have e1 : x1.heap.size = G + 1 := by rw [hx1, hG]; simp
  have Z1 : Hid (Has x1 G exZ 28) := Lib.hid (by rw [hx1, hG]; exact Has.new w exZ _)
  have B1 : Hid (Below G w x1) := Lib.hid (by rw [hx1, hG]; exact (Below.refl _ _).alloc (Nat.le_refl _) _)
  have H1 := Lib.hid (HH.out.later (by rw [← hG]; exact B1.out))
  have HG := Lib.hid hG
  have HPG : Hid (pb < G ∧ g < G) := Lib.hid (by rw [hG]; exact HL.out)
  have HEN := Lib.hid (enter_ok H1.out hd)
  clear hx1 hG HH HL
  go_wp2_with fail
  refine HEN.out.mono ?_
  rintro e w2 ⟨rfl, h2⟩
  have H2 : Hid (Ps w2 pb g off cap (t :: r) (d + 1) rm) := Lib.hid (by rw [h2]; exact H1.out.deeper _)
  have Z2 : Hid (Has w2 G exZ 28) := Lib.hid (by rw [h2]; exact Z1.out.setOther (a := ⟨pb, 1, none⟩) (by have := HPG.out; show G ≠ pb; omega) _)
  have B2 : Hid (But G pb w w2) := Lib.hid (by rw [h2]; exact (But.of_below B1.out).setB 1 _)
  have HIS := Lib.hid (isthing_any H2.out)
  clear h2 H1 Z1 B1 HEN e1
  go_wp2_with fail
  refine HIS.out.mono ?_
  rw [show thingT (t :: r) = true by simp [thingT, hk]]
  rintro e w3 ⟨rfl, x3⟩
  have H3 := Lib.hid (H2.out.later x3)
  have Z3 := Lib.hid (Z2.out.below x3 Z2.out.lt)
  have B3 : Hid (But G pb w w3) := Lib.hid (B2.out.trans (But.of_below (x3.mono (Nat.le_of_lt Z2.out.lt))))
  have HT := Lib.hid (take_any H3.out (by omega))
  clear x3 H2 Z2 B2 HIS
  go_wp2_with fail
  refine HT.out.mono ?_
  rintro e w4 ⟨rfl, bt, p4⟩
  have H4 := Lib.hid p4
  have Z4 : Hid (Has w4 G exZ 28) := Lib.hid (Z3.out.but bt Z3.out.lt (by have := HPG.out; omega))
  have B4 : Hid (But G pb w w4) := Lib.hid (B3.out.trans (bt.mono (Nat.le_of_lt Z3.out.lt)))
  have NW : Hid (Has (w4.alloc (.cells #[.int .u8 0, .string ⟨#[]⟩, .int .i64 0] 50)) w4.heap.size [.int .u8 0, .string ⟨#[]⟩, .int .i64 0] 50) := Lib.hid (Has.new w4 [.int .u8 0, .string ⟨#[]⟩, .int .i64 0] _)
  obtain ⟨C, hC⟩ : ∃ C, C = (tokC t).toArray := ⟨_, rfl⟩
  rw [← hC]
  have HC := Lib.hid hC
  have HCI : Hid ((Tryd.prog.info? 50).map (·.size) = some C.size) := Lib.hid (by rw [hC, List.size_toArray]; exact info_tokp)
  have HCO : Hid (C.all (·.oneCell') = true) := Lib.hid (by rw [hC]; exact tok_one t)
  have HCS : Hid (([.int .u8 0, .string ⟨#[]⟩, .int .i64 0] : List Value).toArray.size = C.size) := Lib.hid (by rw [hC]; rfl)
  clear bt p4 hC HT H3 Z3 B3
  go_upto_region 6 with (refine wpList_store_row rfl 50 _ _ rfl w4.heap.size C rfl rfl 50 _ NW.out HCI.out HCS.out HCO.out ?_)
  obtain ⟨T, hT⟩ : ∃ T, T = w4.heap.size := ⟨_, rfl⟩
  obtain ⟨w5, hw5⟩ : ∃ x, x = (w4.alloc (.cells #[.int .u8 0, .string ⟨#[]⟩, .int .i64 0] 50)).setRow w4.heap.size C := ⟨_, rfl⟩
  rw [← hw5, ← hT]
  have T5 : Hid (Has w5 T (tokC t) 50) := Lib.hid (by rw [hw5, hT, HC.out]; exact NW.out.row _)
  have D5 : Hid (Below T w4 w5) := Lib.hid (by rw [hw5, hT]; exact below_setRow ((Below.refl _ _).alloc (Nat.le_refl _) _) (Nat.le_refl _) _)
  have H5 := Lib.hid (H4.out.later (by rw [← hT]; exact D5.out))
  have Z5 : Hid (Has w5 G exZ 28) := Lib.hid (Z4.out.below D5.out (by rw [hT]; exact Z4.out.lt))
  have B5 : Hid (But G pb w w5) := Lib.hid (B4.out.trans (But.of_below (D5.out.mono (by rw [hT]; exact Nat.le_of_lt Z4.out.lt))))
  have k0 : w5.cell? ⟨T, 0, none⟩ = some (.int .u8 3) := by have := T5.out.cellAt (i := 0) (v := .int .u8 (t.kind : Int)) rfl; rw [hk] at this; exact this
  have k1 : w5.cell? ⟨T, 1, none⟩ = some (.string ⟨t.text.toArray⟩) := T5.out.cellAt (i := 1) rfl
  clear hw5 hT NW H4 Z4 B4 D5 HCS HCO HCI HC
  go_wp2_with fail
  refine (HN.out w5).mono ?_
  rintro e w6 ⟨rfl, x6⟩
  have T6 := Lib.hid (T5.out.below x6 T5.out.lt)
  have Z6 := Lib.hid (Z5.out.below x6 Z5.out.lt)
  have H6 := Lib.hid (H5.out.later x6)
  have B6 : Hid (But G pb w w6) := Lib.hid (B5.out.trans (But.of_below (x6.mono (Nat.le_of_lt Z5.out.lt))))
  have k2 : w6.cell? ⟨T, 2, none⟩ = some (.int .i64 (t.at_ : Int)) := T6.out.cellAt (i := 2) rfl
  clear x6 T5 Z5 H5 B5 HN k0 k1
  obtain ⟨E, hE⟩ : ∃ E, E = (exC 1 (decV t.text) [] (.slice none 0 0) t.at_).toArray := ⟨_, rfl⟩
  have HE := Lib.hid hE
  have IX := IsX.leaf (w := w6) (B := G) 1 (decV t.text) [] t.at_
  have HEI : Hid ((Tryd.prog.info? 28).map (·.size) = some E.size) := Lib.hid (by rw [hE, List.size_toArray, IX.len]; exact info_ex)
  have HEO : Hid (E.all (·.oneCell') = true) := Lib.hid (by rw [hE]; exact IX.one)
  have HES : Hid (exZ.toArray.size = E.size) := Lib.hid (by rw [hE, List.size_toArray, List.size_toArray, IX.len]; rfl)
  clear hE IX
  go_wp2_with (refine wpList_store_row rfl 28 _ _ rfl G E rfl (by rw [HE.out]; rfl) 28 _ Z6.out HEI.out HES.out HEO.out ?_)
  have hps : Ps (w6.setRow G E) pb g (off + 3) (cap - 1) r (d + 1) rm := H6.out.laterB (below_setRow (Below.refl G w6) (Nat.le_refl _) _) HPG.out.1 HPG.out.2
  have hz6 : (w6.setRow G E).heap[G]? = some (.cells E 28 (0, 0)) := setRow_heap _ _ _ _ _ _ Z6.out
  refine door_x (p := 2) (Z := G) (C := E) Tryd.results69 _ _ rfl rfl hps (by omega) hz6 (by have := HPG.out; omega) HEI.out ?_
  refine ⟨exC 1 (decV t.text) [] (.slice none 0 0) t.at_, off + 3, cap - 1, by rw [HE.out], ?_, ?_, hps.deeper d⟩
  · exact .leaf 1 (decV t.text) [] t.at_
  · rw [← HG.out]; exact (B6.out.setRow (.inl (Nat.le_refl _)) _).setB 1 _

end Go.Proofs.YtnajafnbickiiaaDoor

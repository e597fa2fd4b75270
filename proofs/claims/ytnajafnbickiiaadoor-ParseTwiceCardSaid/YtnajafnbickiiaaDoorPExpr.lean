/-
  An expr that is operands and signs. Conditions: the parser's block.
-/
import Derived.Test.YtnajafnbickiiaaDoorPThing
namespace Go.Proofs.YtnajafnbickiiaaDoor
open Go.RowKit
set_option linter.unusedVariables false

set_option maxRecDepth 100000 in
theorem ispat_no {w : World} {pb g off cap d : Nat} {ts : List Tk} {rm : Int} (h : Ps w pb g off cap ts d rm) (hs : stT ts 0 [123] = false) :
    Calls Tryd.prog 28 #[.pointer (some ⟨pb, 0, none⟩)] w fun e w' => e = .returned (.bool false) ∧ Below w.heap.size w w' := by
  have hk := stands_any h 0 h.ends.pos ⟨#[123]⟩
  rw [show stT ts 0 (⟨#[123]⟩ : ByteArray).data.toList = false from hs] at hk
  have HK := Lib.hid hk
  clear hk h hs
  go_enter Tryd.func28, Tryd.ntmps28
  go_wp2_with fail
  refine HK.out.mono ?_
  rintro e w1 ⟨rfl, x1⟩
  have X1 := Lib.hid x1
  clear x1 HK
  go_wp2_with fail
  go_ret
  exact ⟨rfl, X1.out⟩

/-- No word stands there that begins another expr. -/
def noWord (ts : List Tk) : Bool := !stT ts 0 [108, 101, 116] && !stT ts 0 [105, 102] && !stT ts 0 [119, 105, 116, 104] && !stT ts 0 [97, 115, 115, 101, 114, 116]

set_option maxRecDepth 100000 in
set_option maxHeartbeats 4000000 in
theorem expr_ok {w : World} {pb g off cap d : Nat} {ts : List Tk} {rm : Int} (h : Ps w pb g off cap ts d rm) (hd : d < 60) (hn : (nmT ts 0 && stT ts 1 [58]) = false) (hb : stT ts 0 [123] = false) (hw : noWord ts = true) (x : Ex) (r : List Tk)
    (hop : ∀ (W : World), Ps W pb g off cap ts (d + 1) rm → Calls Tryd.prog 33 #[.pointer (some ⟨pb, 0, none⟩), .int .i64 1] W (PX pb g (d + 1) rm W x r)) :
    Calls Tryd.prog 14 #[.pointer (some ⟨pb, 0, none⟩)] w (PX pb g d rm w x r) := by
  have HOP := Lib.hid hop
  have HH := Lib.hid h
  have HL : Hid (pb < w.heap.size ∧ g < w.heap.size) := Lib.hid ⟨h.row.lt, h.lt⟩
  have HNN := Lib.hid hn
  have HB := Lib.hid hb
  obtain ⟨⟨⟨v1, v2⟩, v3⟩, v4⟩ : ((stT ts 0 [108, 101, 116] = false ∧ stT ts 0 [105, 102] = false) ∧ stT ts 0 [119, 105, 116, 104] = false) ∧ stT ts 0 [97, 115, 115, 101, 114, 116] = false := by simpa [noWord] using hw
  have V1 := Lib.hid v1
  have V2 := Lib.hid v2
  have V3 := Lib.hid v3
  have V4 := Lib.hid v4
  obtain ⟨t, hts⟩ : ∃ t, ts[0]? = some t := ⟨_, List.getElem?_eq_getElem h.ends.pos⟩
  have HTS := Lib.hid hts
  clear h hop hn hb hw v1 v2 v3 v4 hts
  go_enter_defers Tryd.func14, Tryd.ntmps14
  go_upto_region 1 with fail
  obtain ⟨G, hG⟩ : ∃ G, G = w.heap.size := ⟨_, rfl⟩
  rw [← hG]
  obtain ⟨x1, hx1⟩ : ∃ x, x = w.alloc (.cells #[.int .u8 0, .int .i64 0, .string ⟨#[]⟩, .slice none 0 0, .slice none 0 0, .bool false, .slice none 0 0, .int .i64 0] 28) := ⟨_, rfl⟩
  rw [← hx1]
  have Z1 : Hid (Has x1 G exZ 28) := Lib.hid (by rw [hx1, hG]; exact Has.new w exZ _)
  have B1 : Hid (Below G w x1) := Lib.hid (by rw [hx1, hG]; exact (Below.refl _ _).alloc (Nat.le_refl _) _)
  have H1 := Lib.hid (HH.out.later (by rw [← hG]; exact B1.out))
  have HG := Lib.hid hG
  have HPG : Hid (pb < G ∧ g < G) := Lib.hid (by rw [hG]; exact HL.out)
  have HEN := Lib.hid (enter_ok H1.out hd)
  clear hx1 hG HH HL
  go_wp2_with fail
  refine HEN.out.mono ?_
  rintro e w2 ⟨rfl, h2⟩
  have H2 : Hid (Ps w2 pb g off cap ts (d + 1) rm) := Lib.hid (by rw [h2]; exact H1.out.deeper _)
  have Z2 : Hid (Has w2 G exZ 28) := Lib.hid (by rw [h2]; exact Z1.out.setOther (a := ⟨pb, 1, none⟩) (by have := HPG.out; show G ≠ pb; omega) _)
  have B2 : Hid (But G pb w w2) := Lib.hid (by rw [h2]; exact (But.of_below B1.out).setB 1 _)
  have y0 : w2.cell? ⟨pb, 0, none⟩ = some (.slice (some ⟨g, off, none⟩) ts.length cap) := H2.out.row.cellAt (i := 0) rfl
  have z2 : w2.cell? ⟨g, off + 2, none⟩ = some (.int .i64 (t.at_ : Int)) := by have := (H2.out.cell HTS.out).2.2; simpa using this
  have hlen : (0 : Int) < (ts.length : Int) := by have := H2.out.ends.pos; omega
  have HN0 := Lib.hid (named_any H2.out 0 H2.out.ends.pos)
  clear h2 H1 Z1 B1 HEN
  go_upto_region 4 with fail
  clear y0 z2 hlen
  go_wp2_with fail
  refine HN0.out.mono ?_
  rintro e w3 ⟨rfl, hx⟩
  subst hx
  clear HN0
  obtain ⟨b0, hb0⟩ : ∃ b, b = nmT ts 0 := ⟨_, rfl⟩
  rw [← hb0]
  cases b0 with
  | true =>
    as_aux_lemma =>
      have hl1 : 1 < ts.length := by
        cases ts with
        | nil => simp [nmT] at hb0
        | cons u q =>
          have hk : u.kind = 1 := by have := hb0.symm; unfold nmT at this; simpa using this
          have := (H2.out.ends.tail (by omega)).pos
          rw [List.length_cons]; omega
      have hs := stands_any H2.out 1 hl1 ⟨#[58]⟩
      rw [show stT ts 1 (⟨#[58]⟩ : ByteArray).data.toList = false by have := HNN.out; rw [← hb0, Bool.true_and] at this; exact this] at hs
      have HS := Lib.hid hs
      clear hs hl1 hb0
      go_wp2_with fail
      refine HS.out.mono ?_
      rintro e w3 ⟨rfl, x3⟩
      have H3 := Lib.hid (H2.out.later x3)
      have Z3 := Lib.hid (Z2.out.below x3 Z2.out.lt)
      have B3 : Hid (But G pb w w3) := Lib.hid (B2.out.trans (But.of_below (x3.mono (Nat.le_of_lt Z2.out.lt))))
      clear x3 H2 Z2 B2 HS
      have K4 := Lib.hid (ispat_no H3.out HB.out)
      go_wp2_with fail
      refine K4.out.mono ?_
      rintro e w4 ⟨rfl, x4⟩
      have H4 := Lib.hid (H3.out.later x4)
      have Z4 := Lib.hid (Z3.out.below x4 Z3.out.lt)
      have B4 : Hid (But G pb w w4) := Lib.hid (B3.out.trans (But.of_below (x4.mono (Nat.le_of_lt Z3.out.lt))))
      clear x4 H3 Z3 B3 K4
      have K5 := Lib.hid (skip_no H4.out ⟨#[108, 101, 116]⟩ V1.out)
      go_wp2_with fail
      refine K5.out.mono ?_
      rintro e w5 ⟨rfl, x5⟩
      have H5 := Lib.hid (H4.out.later x5)
      have Z5 := Lib.hid (Z4.out.below x5 Z4.out.lt)
      have B5 : Hid (But G pb w w5) := Lib.hid (B4.out.trans (But.of_below (x5.mono (Nat.le_of_lt Z4.out.lt))))
      clear x5 H4 Z4 B4 K5
      have K6 := Lib.hid (skip_no H5.out ⟨#[105, 102]⟩ V2.out)
      go_wp2_with fail
      refine K6.out.mono ?_
      rintro e w6 ⟨rfl, x6⟩
      have H6 := Lib.hid (H5.out.later x6)
      have Z6 := Lib.hid (Z5.out.below x6 Z5.out.lt)
      have B6 : Hid (But G pb w w6) := Lib.hid (B5.out.trans (But.of_below (x6.mono (Nat.le_of_lt Z5.out.lt))))
      clear x6 H5 Z5 B5 K6
      have K7 := Lib.hid (skip_no H6.out ⟨#[119, 105, 116, 104]⟩ V3.out)
      go_wp2_with fail
      refine K7.out.mono ?_
      rintro e w7 ⟨rfl, x7⟩
      have H7 := Lib.hid (H6.out.later x7)
      have Z7 := Lib.hid (Z6.out.below x7 Z6.out.lt)
      have B7 : Hid (But G pb w w7) := Lib.hid (B6.out.trans (But.of_below (x7.mono (Nat.le_of_lt Z6.out.lt))))
      clear x7 H6 Z6 B6 K7
      have K8 := Lib.hid (skip_no H7.out ⟨#[97, 115, 115, 101, 114, 116]⟩ V4.out)
      go_wp2_with fail
      refine K8.out.mono ?_
      rintro e w8 ⟨rfl, x8⟩
      have H8 := Lib.hid (H7.out.later x8)
      have Z8 := Lib.hid (Z7.out.below x8 Z7.out.lt)
      have B8 : Hid (But G pb w w8) := Lib.hid (B7.out.trans (But.of_below (x8.mono (Nat.le_of_lt Z7.out.lt))))
      clear x8 H7 Z7 B7 K8
      have HQ := Lib.hid (HOP.out w8 H8.out)
      have HLT := Lib.hid Z8.out.lt
      have HLP := Lib.hid H8.out.row.lt
      clear HOP
      go_wp2_with fail
      refine HQ.out.mono ?_
      rintro e w9 ⟨cs, o9, c9, rfl, ix, bt, p9⟩
      have Z9 : Hid (Has w9 G exZ 28) := Lib.hid (Z8.out.but bt Z8.out.lt (by have := HPG.out; omega))
      have B9 : Hid (But G pb w w9) := Lib.hid (B8.out.trans (bt.mono (Nat.le_of_lt Z8.out.lt)))
      have IX := Lib.hid ix
      have H9 := Lib.hid p9
      obtain ⟨E, hE⟩ : ∃ E, E = cs.toArray := ⟨_, rfl⟩
      rw [← hE]
      have HE := Lib.hid hE
      have HEI : Hid ((Tryd.prog.info? 28).map (·.size) = some E.size) := Lib.hid (by rw [hE, List.size_toArray, ix.len]; exact info_ex)
      have HEO : Hid (E.all (·.oneCell') = true) := Lib.hid (by rw [hE]; exact ix.one)
      have HES : Hid (exZ.toArray.size = E.size) := Lib.hid (by rw [hE, List.size_toArray, List.size_toArray, ix.len]; rfl)
      clear ix bt p9 hE HQ H8 Z8 B8
      go_wp2_with (refine wpList_store_row rfl 28 _ _ rfl G E rfl rfl 28 _ Z9.out HEI.out HES.out HEO.out ?_)
      have hps : Ps (w9.setRow G E) pb g o9 c9 r (d + 1) rm := H9.out.laterB (below_setRow (Below.refl G w9) (Nat.le_refl _) _) HPG.out.1 HPG.out.2
      have hz6 : (w9.setRow G E).heap[G]? = some (.cells E 28 (0, 0)) := setRow_heap _ _ _ _ _ _ Z9.out
      refine door_x (p := 2) (Z := G) (C := E) Tryd.results14 _ _ rfl rfl hps (by omega) hz6 (by have := HPG.out; omega) HEI.out ?_
      refine ⟨cs, o9, c9, by rw [HE.out], ?_, ?_, hps.deeper d⟩
      · refine IsX.mono (B := w8.heap.size) ?_ (by rw [← HG.out]; exact Nat.le_of_lt HLT.out)
        refine IX.out.keep (by simp [World.setCell]) fun k h1 h2 => ?_
        rw [heap_setCell_other _ ⟨pb, 1, none⟩ k _ (by have := HLP.out; show k ≠ pb; omega)]
        exact setRow_other _ _ _ _ (by have := HLT.out; omega)
      · rw [← HG.out]; exact (B9.out.setRow (.inl (Nat.le_refl _)) _).setB 1 _
  | false =>
    as_aux_lemma =>
      clear hb0
      have K4 := Lib.hid (ispat_no H2.out HB.out)
      go_wp2_with fail
      refine K4.out.mono ?_
      rintro e w4 ⟨rfl, x4⟩
      have H4 := Lib.hid (H2.out.later x4)
      have Z4 := Lib.hid (Z2.out.below x4 Z2.out.lt)
      have B4 : Hid (But G pb w w4) := Lib.hid (B2.out.trans (But.of_below (x4.mono (Nat.le_of_lt Z2.out.lt))))
      clear x4 H2 Z2 B2 K4
      have K5 := Lib.hid (skip_no H4.out ⟨#[108, 101, 116]⟩ V1.out)
      go_wp2_with fail
      refine K5.out.mono ?_
      rintro e w5 ⟨rfl, x5⟩
      have H5 := Lib.hid (H4.out.later x5)
      have Z5 := Lib.hid (Z4.out.below x5 Z4.out.lt)
      have B5 : Hid (But G pb w w5) := Lib.hid (B4.out.trans (But.of_below (x5.mono (Nat.le_of_lt Z4.out.lt))))
      clear x5 H4 Z4 B4 K5
      have K6 := Lib.hid (skip_no H5.out ⟨#[105, 102]⟩ V2.out)
      go_wp2_with fail
      refine K6.out.mono ?_
      rintro e w6 ⟨rfl, x6⟩
      have H6 := Lib.hid (H5.out.later x6)
      have Z6 := Lib.hid (Z5.out.below x6 Z5.out.lt)
      have B6 : Hid (But G pb w w6) := Lib.hid (B5.out.trans (But.of_below (x6.mono (Nat.le_of_lt Z5.out.lt))))
      clear x6 H5 Z5 B5 K6
      have K7 := Lib.hid (skip_no H6.out ⟨#[119, 105, 116, 104]⟩ V3.out)
      go_wp2_with fail
      refine K7.out.mono ?_
      rintro e w7 ⟨rfl, x7⟩
      have H7 := Lib.hid (H6.out.later x7)
      have Z7 := Lib.hid (Z6.out.below x7 Z6.out.lt)
      have B7 : Hid (But G pb w w7) := Lib.hid (B6.out.trans (But.of_below (x7.mono (Nat.le_of_lt Z6.out.lt))))
      clear x7 H6 Z6 B6 K7
      have K8 := Lib.hid (skip_no H7.out ⟨#[97, 115, 115, 101, 114, 116]⟩ V4.out)
      go_wp2_with fail
      refine K8.out.mono ?_
      rintro e w8 ⟨rfl, x8⟩
      have H8 := Lib.hid (H7.out.later x8)
      have Z8 := Lib.hid (Z7.out.below x8 Z7.out.lt)
      have B8 : Hid (But G pb w w8) := Lib.hid (B7.out.trans (But.of_below (x8.mono (Nat.le_of_lt Z7.out.lt))))
      clear x8 H7 Z7 B7 K8
      have HQ := Lib.hid (HOP.out w8 H8.out)
      have HLT := Lib.hid Z8.out.lt
      have HLP := Lib.hid H8.out.row.lt
      clear HOP
      go_wp2_with fail
      refine HQ.out.mono ?_
      rintro e w9 ⟨cs, o9, c9, rfl, ix, bt, p9⟩
      have Z9 : Hid (Has w9 G exZ 28) := Lib.hid (Z8.out.but bt Z8.out.lt (by have := HPG.out; omega))
      have B9 : Hid (But G pb w w9) := Lib.hid (B8.out.trans (bt.mono (Nat.le_of_lt Z8.out.lt)))
      have IX := Lib.hid ix
      have H9 := Lib.hid p9
      obtain ⟨E, hE⟩ : ∃ E, E = cs.toArray := ⟨_, rfl⟩
      rw [← hE]
      have HE := Lib.hid hE
      have HEI : Hid ((Tryd.prog.info? 28).map (·.size) = some E.size) := Lib.hid (by rw [hE, List.size_toArray, ix.len]; exact info_ex)
      have HEO : Hid (E.all (·.oneCell') = true) := Lib.hid (by rw [hE]; exact ix.one)
      have HES : Hid (exZ.toArray.size = E.size) := Lib.hid (by rw [hE, List.size_toArray, List.size_toArray, ix.len]; rfl)
      clear ix bt p9 hE HQ H8 Z8 B8
      go_wp2_with (refine wpList_store_row rfl 28 _ _ rfl G E rfl rfl 28 _ Z9.out HEI.out HES.out HEO.out ?_)
      have hps : Ps (w9.setRow G E) pb g o9 c9 r (d + 1) rm := H9.out.laterB (below_setRow (Below.refl G w9) (Nat.le_refl _) _) HPG.out.1 HPG.out.2
      have hz6 : (w9.setRow G E).heap[G]? = some (.cells E 28 (0, 0)) := setRow_heap _ _ _ _ _ _ Z9.out
      refine door_x (p := 2) (Z := G) (C := E) Tryd.results14 _ _ rfl rfl hps (by omega) hz6 (by have := HPG.out; omega) HEI.out ?_
      refine ⟨cs, o9, c9, by rw [HE.out], ?_, ?_, hps.deeper d⟩
      · refine IsX.mono (B := w8.heap.size) ?_ (by rw [← HG.out]; exact Nat.le_of_lt HLT.out)
        refine IX.out.keep (by simp [World.setCell]) fun k h1 h2 => ?_
        rw [heap_setCell_other _ ⟨pb, 1, none⟩ k _ (by have := HLP.out; show k ≠ pb; omega)]
        exact setRow_other _ _ _ _ (by have := HLT.out; omega)
      · rw [← HG.out]; exact (B9.out.setRow (.inl (Nat.le_refl _)) _).setB 1 _
end Go.Proofs.YtnajafnbickiiaaDoor

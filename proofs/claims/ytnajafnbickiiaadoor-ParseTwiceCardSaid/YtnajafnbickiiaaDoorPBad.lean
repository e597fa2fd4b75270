/-
  A fault: what the parser's steps do where too many are open. Conditions: the parser's block.
-/
import Derived.Test.YtnajafnbickiiaaDoorPOpW
import Derived.Tactics
import Derived.Tactics2
import Derived.Defers
import Derived.Laws.Pointers
namespace Go.Proofs.YtnajafnbickiiaaDoor
open Go.RowKit
set_option linter.unusedVariables false

def fltV (p er : Nat) : Value := .iface 46 (.agg #[.int .i64 (p : Int), .int .i64 (er : Int)])
def flt (p er : Nat) : List PanicEntry := [{ v := fltV p er, recovered := false }]
/-- What a step tells that gives up at place p, with the error er. -/
def PB (pb g d : Nat) (rm : Int) (p er : Nat) (w : World) (e : Ending) (w' : World) : Prop :=
  e = .panicked (flt p er) ∧ But w.heap.size pb w w' ∧ ∃ off cap ts, Ps w' pb g off cap ts d rm

set_option maxRecDepth 100000 in
theorem giveup_any {w : World} {pb g off cap d : Nat} {t : Tk} {r : List Tk} {rm : Int} (h : Ps w pb g off cap (t :: r) d rm) (er : Nat) :
    Calls Tryd.prog 15 #[.pointer (some ⟨pb, 0, none⟩), .int .i64 (er : Int)] w fun e w' => e = .panicked (flt t.at_ er) ∧ w' = w := by
  have y0 : w.cell? ⟨pb, 0, none⟩ = some (.slice (some ⟨g, off, none⟩) (t :: r).length cap) := h.row.cellAt (i := 0) rfl
  have z2 : w.cell? ⟨g, off + 2, none⟩ = some (.int .i64 (t.at_ : Int)) := by have := (h.cell (i := 0) (t := t) rfl).2.2; simpa using this
  have hlen : (0 : Int) < ((t :: r).length : Int) := by rw [List.length_cons]; omega
  obtain ⟨nn, hnn⟩ : ∃ nn, nn = (t :: r).length := ⟨_, rfl⟩
  rw [← hnn] at y0 hlen
  clear h hnn
  go_enter Tryd.func15, Tryd.ntmps15
  go_wp2_with fail
  exact ⟨rfl, rfl, rfl⟩
set_option maxRecDepth 100000 in
theorem enter_bad {w : World} {pb g off cap : Nat} {t : Tk} {r : List Tk} {rm : Int} (h : Ps w pb g off cap (t :: r) 60 rm) :
    Calls Tryd.prog 23 #[.pointer (some ⟨pb, 0, none⟩)] w fun e w' => e = .panicked (flt t.at_ 5) ∧ w' = w := by
  have y1 : w.cell? ⟨pb, 1, none⟩ = some (.int .i64 60) := h.row.cellAt (i := 1) rfl
  have HG := Lib.hid (giveup_any h 5)
  clear h
  go_enter Tryd.func23, Tryd.ntmps23
  go_wp2_with fail
  refine HG.out.mono ?_
  rintro e w' ⟨rfl, rfl⟩
  first | exact ⟨rfl, rfl, rfl⟩ | (go_wp2_with fail; exact ⟨rfl, rfl, rfl⟩)

theorem door_bad {fn : Func} (R : Ending → World → Prop) (a : Act) {w : World} {pb g off cap d p er : Nat} {ts : List Tk} {rm : Int}
    (hd : a.defers = [{ target := Target.fn (Fn.func 24) #[], args := #[.pointer (some ⟨pb, 0, none⟩)] }])
    (h : Ps w pb g off cap ts (d + 1) rm) (hd60 : d ≤ 60) (hR : R (.panicked (flt p er)) (w.setCell ⟨pb, 1, none⟩ (.int .i64 (d : Int)))) : bodyPostD Tryd.prog fn R (Exit.panic (flt p er)) a w := by
  show Leaves Tryd.prog fn a.tmps R a.defers (.panicking (flt p er)) w
  rw [hd]
  refine leaves_cons (f := 24) (args := #[.pointer (some ⟨pb, 0, none⟩)]) (by simp) (by simp [go_sem]) ?_
  refine (leave_d (.panicking (flt p er)) h hd60).mono ?_
  rintro e u' w'' ⟨rfl, rfl, rfl⟩
  exact hR

set_option maxRecDepth 100000 in
set_option maxHeartbeats 4000000 in
theorem thing_bad {w : World} {pb g off cap d : Nat} {t : Tk} {r : List Tk} {rm : Int} (h : Ps w pb g off cap (t :: r) d rm) (hd : d < 60) (hk : t.kind = 4) (htx : t.text = [40]) (p er : Nat)
    (hex : ∀ (W : World) (o c : Nat), Ps W pb g o c r (d + 1) rm → Calls Tryd.prog 14 #[.pointer (some ⟨pb, 0, none⟩)] W (PB pb g (d + 1) rm p er W)) :
    Calls Tryd.prog 69 #[.pointer (some ⟨pb, 0, none⟩)] w (PB pb g d rm p er w) := by
  have HX := Lib.hid hex
  clear hex
  have HH := Lib.hid h
  have HL : Hid (pb < w.heap.size ∧ g < w.heap.size) := Lib.hid ⟨h.row.lt, h.lt⟩
  clear h
  go_enter_defers Tryd.func69, Tryd.ntmps69
  go_upto_region 1 with fail
  obtain ⟨G, hG⟩ : ∃ G, G = w.heap.size := ⟨_, rfl⟩
  rw [← hG]
  obtain ⟨x1, hx1⟩ : ∃ x, x = w.alloc (.cells #[.int .u8 0, .int .i64 0, .string ⟨#[]⟩, .slice none 0 0, .slice none 0 0, .bool false, .slice none 0 0, .int .i64 0] 28) := ⟨_, rfl⟩
  rw [← hx1]
  have e1 : x1.heap.size = G + 1 := by rw [hx1, hG]; simp
  have Z1 : Hid (Has x1 G exZ 28) := Lib.hid (by rw [hx1, hG]; exact Has.new w exZ _)
  have B1 : Hid (Below G w x1) := Lib.hid (by rw [hx1, hG]; exact (Below.refl _ _).alloc (Nat.le_refl _) _)
  have H1 := Lib.hid (HH.out.later (by rw [← hG]; exact B1.out))
  have HG := Lib.hid hG
  have HPG : Hid (pb < G ∧ g < G) := Lib.hid (by rw [hG]; exact HL.out)
  have HEN := Lib.hid (enter_ok H1.out hd)
  clear hx1 hG HH HL
  go_wp2_with fail
  refine HEN.out.mono ?_
  rintro e w2 ⟨rfl, h2⟩
  have H2 : Hid (Ps w2 pb g off cap (t :: r) (d + 1) rm) := Lib.hid (by rw [h2]; exact H1.out.deeper _)
  have Z2 : Hid (Has w2 G exZ 28) := Lib.hid (by rw [h2]; exact Z1.out.setOther (a := ⟨pb, 1, none⟩) (by have := HPG.out; show G ≠ pb; omega) _)
  have B2 : Hid (But G pb w w2) := Lib.hid (by rw [h2]; exact (But.of_below B1.out).setB 1 _)
  have HIS := Lib.hid (isthing_any H2.out)
  clear h2 H1 Z1 B1 HEN e1
  go_wp2_with fail
  refine HIS.out.mono ?_
  rw [show thingT (t :: r) = true by simp [thingT, stT, hk, htx]]
  rintro e w3 ⟨rfl, x3⟩
  have H3 := Lib.hid (H2.out.later x3)
  have Z3 := Lib.hid (Z2.out.below x3 Z2.out.lt)
  have B3 : Hid (But G pb w w3) := Lib.hid (B2.out.trans (But.of_below (x3.mono (Nat.le_of_lt Z2.out.lt))))
  have HT := Lib.hid (take_any H3.out (by omega))
  clear x3 H2 Z2 B2 HIS
  go_wp2_with fail
  refine HT.out.mono ?_
  rintro e w4 ⟨rfl, bt, p4⟩
  have H4 := Lib.hid p4
  have Z4 : Hid (Has w4 G exZ 28) := Lib.hid (Z3.out.but bt Z3.out.lt (by have := HPG.out; omega))
  have B4 : Hid (But G pb w w4) := Lib.hid (B3.out.trans (bt.mono (Nat.le_of_lt Z3.out.lt)))
  have NW : Hid (Has (w4.alloc (.cells #[.int .u8 0, .string ⟨#[]⟩, .int .i64 0] 50)) w4.heap.size [.int .u8 0, .string ⟨#[]⟩, .int .i64 0] 50) := Lib.hid (Has.new w4 [.int .u8 0, .string ⟨#[]⟩, .int .i64 0] _)
  obtain ⟨C, hC⟩ : ∃ C, C = (tokC t).toArray := ⟨_, rfl⟩
  rw [← hC]
  have HC := Lib.hid hC
  have HCI : Hid ((Tryd.prog.info? 50).map (·.size) = some C.size) := Lib.hid (by rw [hC, List.size_toArray]; exact info_tokp)
  have HCO : Hid (C.all (·.oneCell') = true) := Lib.hid (by rw [hC]; exact tok_one t)
  have HCS : Hid (([.int .u8 0, .string ⟨#[]⟩, .int .i64 0] : List Value).toArray.size = C.size) := Lib.hid (by rw [hC]; rfl)
  clear bt p4 hC HT H3 Z3 B3
  go_upto_region 6 with (refine wpList_store_row rfl 50 _ _ rfl w4.heap.size C rfl rfl 50 _ NW.out HCI.out HCS.out HCO.out ?_)
  obtain ⟨T, hT⟩ : ∃ T, T = w4.heap.size := ⟨_, rfl⟩
  obtain ⟨w5, hw5⟩ : ∃ x, x = (w4.alloc (.cells #[.int .u8 0, .string ⟨#[]⟩, .int .i64 0] 50)).setRow w4.heap.size C := ⟨_, rfl⟩
  rw [← hw5, ← hT]
  have T5 : Hid (Has w5 T (tokC t) 50) := Lib.hid (by rw [hw5, hT, HC.out]; exact NW.out.row _)
  have D5 : Hid (Below T w4 w5) := Lib.hid (by rw [hw5, hT]; exact below_setRow ((Below.refl _ _).alloc (Nat.le_refl _) _) (Nat.le_refl _) _)
  have H5 := Lib.hid (H4.out.later (by rw [← hT]; exact D5.out))
  have Z5 : Hid (Has w5 G exZ 28) := Lib.hid (Z4.out.below D5.out (by rw [hT]; exact Z4.out.lt))
  have B5 : Hid (But G pb w w5) := Lib.hid (B4.out.trans (But.of_below (D5.out.mono (by rw [hT]; exact Nat.le_of_lt Z4.out.lt))))
  have k0 : w5.cell? ⟨T, 0, none⟩ = some (.int .u8 4) := by have := T5.out.cellAt (i := 0) (v := .int .u8 (t.kind : Int)) rfl; rw [hk] at this; exact this
  have k1 : w5.cell? ⟨T, 1, none⟩ = some (.string ⟨#[40]⟩) := by have := T5.out.cellAt (i := 1) (v := .string ⟨t.text.toArray⟩) rfl; rw [htx] at this; exact this
  have k2 : w5.cell? ⟨T, 2, none⟩ = some (.int .i64 (t.at_ : Int)) := T5.out.cellAt (i := 2) rfl
  clear hw5 hT NW H4 Z4 B4 D5 HCS HCO HCI HC
  have HE := Lib.hid (HX.out w5 _ _ H5.out)
  clear HX
  go_wp2_with fail
  refine HE.out.mono ?_
  rintro e w6 ⟨rfl, bt, o6, c6, ts6, p6⟩
  have B6 : Hid (But G pb w w6) := Lib.hid (B5.out.trans (bt.mono (Nat.le_of_lt Z5.out.lt)))
  first | go_wp2_with fail | skip
  refine door_bad _ _ rfl p6 (by omega) ⟨rfl, ?_, _, _, _, p6.deeper d⟩
  rw [← HG.out]; exact B6.out.setB 1 _

set_option maxRecDepth 100000 in
set_option maxHeartbeats 4000000 in
theorem expr_bad {w : World} {pb g off cap d : Nat} {ts : List Tk} {rm : Int} (h : Ps w pb g off cap ts d rm) (hd : d < 60) (hn : (nmT ts 0 && stT ts 1 [58]) = false) (hb : stT ts 0 [123] = false) (hw : noWord ts = true) (p er : Nat)
    (hop : ∀ (W : World), Ps W pb g off cap ts (d + 1) rm → Calls Tryd.prog 33 #[.pointer (some ⟨pb, 0, none⟩), .int .i64 1] W (PB pb g (d + 1) rm p er W)) :
    Calls Tryd.prog 14 #[.pointer (some ⟨pb, 0, none⟩)] w (PB pb g d rm p er w) := by
  have HOP := Lib.hid hop
  have HH := Lib.hid h
  have HL : Hid (pb < w.heap.size ∧ g < w.heap.size) := Lib.hid ⟨h.row.lt, h.lt⟩
  have HNN := Lib.hid hn
  have HB := Lib.hid hb
  obtain ⟨⟨⟨v1, v2⟩, v3⟩, v4⟩ : ((stT ts 0 [108, 101, 116] = false ∧ stT ts 0 [105, 102] = false) ∧ stT ts 0 [119, 105, 116, 104] = false) ∧ stT ts 0 [97, 115, 115, 101, 114, 116] = false := by simpa [noWord] using hw
  have V1 := Lib.hid v1
  have V2 := Lib.hid v2
  have V3 := Lib.hid v3
  have V4 := Lib.hid v4
  obtain ⟨t, hts⟩ : ∃ t, ts[0]? = some t := ⟨_, List.getElem?_eq_getElem h.ends.pos⟩
  have HTS := Lib.hid hts
  clear h hop hn hb hw v1 v2 v3 v4 hts
  go_enter_defers Tryd.func14, Tryd.ntmps14
  go_upto_region 1 with fail
  obtain ⟨G, hG⟩ : ∃ G, G = w.heap.size := ⟨_, rfl⟩
  rw [← hG]
  obtain ⟨x1, hx1⟩ : ∃ x, x = w.alloc (.cells #[.int .u8 0, .int .i64 0, .string ⟨#[]⟩, .slice none 0 0, .slice none 0 0, .bool false, .slice none 0 0, .int .i64 0] 28) := ⟨_, rfl⟩
  rw [← hx1]
  have Z1 : Hid (Has x1 G exZ 28) := Lib.hid (by rw [hx1, hG]; exact Has.new w exZ _)
  have B1 : Hid (Below G w x1) := Lib.hid (by rw [hx1, hG]; exact (Below.refl _ _).alloc (Nat.le_refl _) _)
  have H1 := Lib.hid (HH.out.later (by rw [← hG]; exact B1.out))
  have HG := Lib.hid hG
  have HPG : Hid (pb < G ∧ g < G) := Lib.hid (by rw [hG]; exact HL.out)
  have HEN := Lib.hid (enter_ok H1.out hd)
  clear hx1 hG HH HL
  go_wp2_with fail
  refine HEN.out.mono ?_
  rintro e w2 ⟨rfl, h2⟩
  have H2 : Hid (Ps w2 pb g off cap ts (d + 1) rm) := Lib.hid (by rw [h2]; exact H1.out.deeper _)
  have Z2 : Hid (Has w2 G exZ 28) := Lib.hid (by rw [h2]; exact Z1.out.setOther (a := ⟨pb, 1, none⟩) (by have := HPG.out; show G ≠ pb; omega) _)
  have B2 : Hid (But G pb w w2) := Lib.hid (by rw [h2]; exact (But.of_below B1.out).setB 1 _)
  have y0 : w2.cell? ⟨pb, 0, none⟩ = some (.slice (some ⟨g, off, none⟩) ts.length cap) := H2.out.row.cellAt (i := 0) rfl
  have z2 : w2.cell? ⟨g, off + 2, none⟩ = some (.int .i64 (t.at_ : Int)) := by have := (H2.out.cell HTS.out).2.2; simpa using this
  have hlen : (0 : Int) < (ts.length : Int) := by have := H2.out.ends.pos; omega
  have HN0 := Lib.hid (named_any H2.out 0 H2.out.ends.pos)
  clear h2 H1 Z1 B1 HEN
  go_upto_region 4 with fail
  clear y0 z2 hlen
  go_wp2_with fail
  refine HN0.out.mono ?_
  rintro e w3 ⟨rfl, hx⟩
  subst hx
  clear HN0
  obtain ⟨b0, hb0⟩ : ∃ b, b = nmT ts 0 := ⟨_, rfl⟩
  rw [← hb0]
  cases b0 with
  | true =>
    as_aux_lemma =>
      have hl1 : 1 < ts.length := by
        cases ts with
        | nil => simp [nmT] at hb0
        | cons u q =>
          have hk : u.kind = 1 := by have := hb0.symm; unfold nmT at this; simpa using this
          have := (H2.out.ends.tail (by omega)).pos
          rw [List.length_cons]; omega
      have hs := stands_any H2.out 1 hl1 ⟨#[58]⟩
      rw [show stT ts 1 (⟨#[58]⟩ : ByteArray).data.toList = false by have := HNN.out; rw [← hb0, Bool.true_and] at this; exact this] at hs
      have HS := Lib.hid hs
      clear hs hl1 hb0
      go_wp2_with fail
      refine HS.out.mono ?_
      rintro e w3 ⟨rfl, x3⟩
      have H3 := Lib.hid (H2.out.later x3)
      have Z3 := Lib.hid (Z2.out.below x3 Z2.out.lt)
      have B3 : Hid (But G pb w w3) := Lib.hid (B2.out.trans (But.of_below (x3.mono (Nat.le_of_lt Z2.out.lt))))
      clear x3 H2 Z2 B2 HS
      have K4 := Lib.hid (ispat_no H3.out HB.out)
      go_wp2_with fail
      refine K4.out.mono ?_
      rintro e w4 ⟨rfl, x4⟩
      have H4 := Lib.hid (H3.out.later x4)
      have Z4 := Lib.hid (Z3.out.below x4 Z3.out.lt)
      have B4 : Hid (But G pb w w4) := Lib.hid (B3.out.trans (But.of_below (x4.mono (Nat.le_of_lt Z3.out.lt))))
      clear x4 H3 Z3 B3 K4
      have K5 := Lib.hid (skip_no H4.out ⟨#[108, 101, 116]⟩ V1.out)
      go_wp2_with fail
      refine K5.out.mono ?_
      rintro e w5 ⟨rfl, x5⟩
      have H5 := Lib.hid (H4.out.later x5)
      have Z5 := Lib.hid (Z4.out.below x5 Z4.out.lt)
      have B5 : Hid (But G pb w w5) := Lib.hid (B4.out.trans (But.of_below (x5.mono (Nat.le_of_lt Z4.out.lt))))
      clear x5 H4 Z4 B4 K5
      have K6 := Lib.hid (skip_no H5.out ⟨#[105, 102]⟩ V2.out)
      go_wp2_with fail
      refine K6.out.mono ?_
      rintro e w6 ⟨rfl, x6⟩
      have H6 := Lib.hid (H5.out.later x6)
      have Z6 := Lib.hid (Z5.out.below x6 Z5.out.lt)
      have B6 : Hid (But G pb w w6) := Lib.hid (B5.out.trans (But.of_below (x6.mono (Nat.le_of_lt Z5.out.lt))))
      clear x6 H5 Z5 B5 K6
      have K7 := Lib.hid (skip_no H6.out ⟨#[119, 105, 116, 104]⟩ V3.out)
      go_wp2_with fail
      refine K7.out.mono ?_
      rintro e w7 ⟨rfl, x7⟩
      have H7 := Lib.hid (H6.out.later x7)
      have Z7 := Lib.hid (Z6.out.below x7 Z6.out.lt)
      have B7 : Hid (But G pb w w7) := Lib.hid (B6.out.trans (But.of_below (x7.mono (Nat.le_of_lt Z6.out.lt))))
      clear x7 H6 Z6 B6 K7
      have K8 := Lib.hid (skip_no H7.out ⟨#[97, 115, 115, 101, 114, 116]⟩ V4.out)
      go_wp2_with fail
      refine K8.out.mono ?_
      rintro e w8 ⟨rfl, x8⟩
      have H8 := Lib.hid (H7.out.later x8)
      have Z8 := Lib.hid (Z7.out.below x8 Z7.out.lt)
      have B8 : Hid (But G pb w w8) := Lib.hid (B7.out.trans (But.of_below (x8.mono (Nat.le_of_lt Z7.out.lt))))
      clear x8 H7 Z7 B7 K8
      have HQ := Lib.hid (HOP.out w8 H8.out)
      have HLT := Lib.hid Z8.out.lt
      have HLP := Lib.hid H8.out.row.lt
      clear HOP
      go_wp2_with fail
      refine HQ.out.mono ?_
      rintro e w9 ⟨rfl, bt, o9, c9, ts9, p9⟩
      have B9 : Hid (But G pb w w9) := Lib.hid (B8.out.trans (bt.mono (Nat.le_of_lt Z8.out.lt)))
      first | go_wp2_with fail | skip
      refine door_bad _ _ rfl p9 (by omega) ⟨rfl, ?_, _, _, _, p9.deeper d⟩
      rw [← HG.out]; exact B9.out.setB 1 _
  | false =>
    as_aux_lemma =>
      clear hb0
      have K4 := Lib.hid (ispat_no H2.out HB.out)
      go_wp2_with fail
      refine K4.out.mono ?_
      rintro e w4 ⟨rfl, x4⟩
      have H4 := Lib.hid (H2.out.later x4)
      have Z4 := Lib.hid (Z2.out.below x4 Z2.out.lt)
      have B4 : Hid (But G pb w w4) := Lib.hid (B2.out.trans (But.of_below (x4.mono (Nat.le_of_lt Z2.out.lt))))
      clear x4 H2 Z2 B2 K4
      have K5 := Lib.hid (skip_no H4.out ⟨#[108, 101, 116]⟩ V1.out)
      go_wp2_with fail
      refine K5.out.mono ?_
      rintro e w5 ⟨rfl, x5⟩
      have H5 := Lib.hid (H4.out.later x5)
      have Z5 := Lib.hid (Z4.out.below x5 Z4.out.lt)
      have B5 : Hid (But G pb w w5) := Lib.hid (B4.out.trans (But.of_below (x5.mono (Nat.le_of_lt Z4.out.lt))))
      clear x5 H4 Z4 B4 K5
      have K6 := Lib.hid (skip_no H5.out ⟨#[105, 102]⟩ V2.out)
      go_wp2_with fail
      refine K6.out.mono ?_
      rintro e w6 ⟨rfl, x6⟩
      have H6 := Lib.hid (H5.out.later x6)
      have Z6 := Lib.hid (Z5.out.below x6 Z5.out.lt)
      have B6 : Hid (But G pb w w6) := Lib.hid (B5.out.trans (But.of_below (x6.mono (Nat.le_of_lt Z5.out.lt))))
      clear x6 H5 Z5 B5 K6
      have K7 := Lib.hid (skip_no H6.out ⟨#[119, 105, 116, 104]⟩ V3.out)
      go_wp2_with fail
      refine K7.out.mono ?_
      rintro e w7 ⟨rfl, x7⟩
      have H7 := Lib.hid (H6.out.later x7)
      have Z7 := Lib.hid (Z6.out.below x7 Z6.out.lt)
      have B7 : Hid (But G pb w w7) := Lib.hid (B6.out.trans (But.of_below (x7.mono (Nat.le_of_lt Z6.out.lt))))
      clear x7 H6 Z6 B6 K7
      have K8 := Lib.hid (skip_no H7.out ⟨#[97, 115, 115, 101, 114, 116]⟩ V4.out)
      go_wp2_with fail
      refine K8.out.mono ?_
      rintro e w8 ⟨rfl, x8⟩
      have H8 := Lib.hid (H7.out.later x8)
      have Z8 := Lib.hid (Z7.out.below x8 Z7.out.lt)
      have B8 : Hid (But G pb w w8) := Lib.hid (B7.out.trans (But.of_below (x8.mono (Nat.le_of_lt Z7.out.lt))))
      clear x8 H7 Z7 B7 K8
      have HQ := Lib.hid (HOP.out w8 H8.out)
      have HLT := Lib.hid Z8.out.lt
      have HLP := Lib.hid H8.out.row.lt
      clear HOP
      go_wp2_with fail
      refine HQ.out.mono ?_
      rintro e w9 ⟨rfl, bt, o9, c9, ts9, p9⟩
      have B9 : Hid (But G pb w w9) := Lib.hid (B8.out.trans (bt.mono (Nat.le_of_lt Z8.out.lt)))
      first | go_wp2_with fail | skip
      refine door_bad _ _ rfl p9 (by omega) ⟨rfl, ?_, _, _, _, p9.deeper d⟩
      rw [← HG.out]; exact B9.out.setB 1 _

set_option maxRecDepth 100000 in
set_option maxHeartbeats 4000000 in
theorem sel_bad {w : World} {pb g off cap d : Nat} {ts : List Tk} {rm : Int} (h : Ps w pb g off cap ts d rm) (p er : Nat)
    (hc : ∀ (W : World), Ps W pb g off cap ts d rm → Calls Tryd.prog 69 #[.pointer (some ⟨pb, 0, none⟩)] W (PB pb g d rm p er W)) :
    Calls Tryd.prog 58 #[.pointer (some ⟨pb, 0, none⟩)] w (PB pb g d rm p er w) := by
  have HC := Lib.hid hc
  have HH := Lib.hid h
  clear h hc
  go_enter Tryd.func58, Tryd.ntmps58
  go_upto_region 1 with fail
  obtain ⟨G, hG⟩ : ∃ G, G = w.heap.size := ⟨_, rfl⟩
  rw [← hG]
  obtain ⟨w1, hx1⟩ : ∃ x, x = w.alloc (.cells #[.int .u8 0, .int .i64 0, .string ⟨#[]⟩, .slice none 0 0, .slice none 0 0, .bool false, .slice none 0 0, .int .i64 0] 28) := ⟨_, rfl⟩
  rw [← hx1]
  have B1 : Hid (But G pb w w1) := Lib.hid (by rw [hx1, hG]; exact But.of_below ((Below.refl _ _).alloc (Nat.le_refl _) _))
  have H1 : Hid (Ps w1 pb g off cap ts d rm) := Lib.hid (HH.out.later (by rw [hx1]; exact (Below.refl _ _).alloc (Nat.le_refl _) _))
  have HS : Hid (G ≤ w1.heap.size) := Lib.hid (by rw [hx1, hG]; simp)
  have HG := Lib.hid hG
  clear hx1 hG HH
  have HQ := Lib.hid (HC.out w1 H1.out)
  go_wp2_with fail
  refine HQ.out.mono ?_
  rintro e w4 ⟨rfl, bt, o4, c4, ts4, p4⟩
  first | go_wp2_with fail | skip
  refine ⟨rfl, rfl, ?_, _, _, _, p4⟩
  rw [← HG.out]
  exact B1.out.trans (bt.mono HS.out)

set_option maxRecDepth 100000 in
set_option maxHeartbeats 4000000 in
theorem pre_bad {w : World} {pb g off cap d : Nat} {ts : List Tk} {rm : Int} (h : Ps w pb g off cap ts d rm) (p er : Nat) (hv1 : stT ts 0 [33] = false) (hv2 : stT ts 0 [45] = false)
    (hc : ∀ (W : World), Ps W pb g off cap ts d rm → Calls Tryd.prog 58 #[.pointer (some ⟨pb, 0, none⟩)] W (PB pb g d rm p er W)) :
    Calls Tryd.prog 46 #[.pointer (some ⟨pb, 0, none⟩)] w (PB pb g d rm p er w) := by
  have HC := Lib.hid hc
  have HH := Lib.hid h
  have V1 := Lib.hid hv1
  have V2 := Lib.hid hv2
  clear hv1 hv2
  clear h hc
  go_enter Tryd.func46, Tryd.ntmps46
  go_upto_region 1 with fail
  obtain ⟨G, hG⟩ : ∃ G, G = w.heap.size := ⟨_, rfl⟩
  rw [← hG]
  obtain ⟨w1, hx1⟩ : ∃ x, x = w.alloc (.cells #[.int .u8 0, .int .i64 0, .string ⟨#[]⟩, .slice none 0 0, .slice none 0 0, .bool false, .slice none 0 0, .int .i64 0] 28) := ⟨_, rfl⟩
  rw [← hx1]
  have B1 : Hid (But G pb w w1) := Lib.hid (by rw [hx1, hG]; exact But.of_below ((Below.refl _ _).alloc (Nat.le_refl _) _))
  have H1 : Hid (Ps w1 pb g off cap ts d rm) := Lib.hid (HH.out.later (by rw [hx1]; exact (Below.refl _ _).alloc (Nat.le_refl _) _))
  have HS : Hid (G ≤ w1.heap.size) := Lib.hid (by rw [hx1, hG]; simp)
  have HG := Lib.hid hG
  clear hx1 hG HH
  obtain ⟨t, hts⟩ : ∃ t, ts[0]? = some t := ⟨_, List.getElem?_eq_getElem H1.out.ends.pos⟩
  have y0 : w1.cell? ⟨pb, 0, none⟩ = some (.slice (some ⟨g, off, none⟩) ts.length cap) := H1.out.row.cellAt (i := 0) rfl
  have z2 : w1.cell? ⟨g, off + 2, none⟩ = some (.int .i64 (t.at_ : Int)) := by have := (H1.out.cell hts).2.2; simpa using this
  have hlen : (0 : Int) < (ts.length : Int) := by have := H1.out.ends.pos; omega
  clear hts
  go_upto_region 2 with fail
  clear y0 z2 hlen
  have K2 := Lib.hid (skip_no H1.out ⟨#[33]⟩ V1.out)
  go_wp2_with fail
  refine K2.out.mono ?_
  rintro e w2 ⟨rfl, x2⟩
  have H2 := Lib.hid (H1.out.later x2)
  have B2 : Hid (But G pb w w2) := Lib.hid (B1.out.trans (But.of_below (x2.mono HS.out)))
  have S2 : Hid (G ≤ w2.heap.size) := Lib.hid (Nat.le_trans HS.out x2.size)
  clear x2 H1 B1 K2
  have K3 := Lib.hid (skip_no H2.out ⟨#[45]⟩ V2.out)
  go_wp2_with fail
  refine K3.out.mono ?_
  rintro e w3 ⟨rfl, x3⟩
  have H3 := Lib.hid (H2.out.later x3)
  have B3 : Hid (But G pb w w3) := Lib.hid (B2.out.trans (But.of_below (x3.mono S2.out)))
  have S3 : Hid (G ≤ w3.heap.size) := Lib.hid (Nat.le_trans S2.out x3.size)
  clear x3 H2 B2 K3
  have HQ := Lib.hid (HC.out w3 H3.out)
  go_wp2_with fail
  refine HQ.out.mono ?_
  rintro e w4 ⟨rfl, bt, o4, c4, ts4, p4⟩
  first | go_wp2_with fail | skip
  refine ⟨rfl, rfl, ?_, _, _, _, p4⟩
  rw [← HG.out]
  exact B3.out.trans (bt.mono S3.out)

set_option maxRecDepth 100000 in
set_option maxHeartbeats 4000000 in
theorem op_bad {w : World} {pb g off cap d : Nat} {ts : List Tk} {rm : Int} (h : Ps w pb g off cap ts d rm) (p er : Nat) (s : Int)
    (hc : ∀ (W : World), Ps W pb g off cap ts d rm → Calls Tryd.prog 46 #[.pointer (some ⟨pb, 0, none⟩)] W (PB pb g d rm p er W)) :
    Calls Tryd.prog 33 #[.pointer (some ⟨pb, 0, none⟩), .int .i64 s] w (PB pb g d rm p er w) := by
  have HC := Lib.hid hc
  have HH := Lib.hid h
  clear h hc
  go_enter Tryd.func33, Tryd.ntmps33
  go_upto_region 1 with fail
  obtain ⟨G, hG⟩ : ∃ G, G = w.heap.size := ⟨_, rfl⟩
  rw [← hG]
  obtain ⟨w1, hx1⟩ : ∃ x, x = w.alloc (.cells #[.int .u8 0, .int .i64 0, .string ⟨#[]⟩, .slice none 0 0, .slice none 0 0, .bool false, .slice none 0 0, .int .i64 0] 28) := ⟨_, rfl⟩
  rw [← hx1]
  have B1 : Hid (But G pb w w1) := Lib.hid (by rw [hx1, hG]; exact But.of_below ((Below.refl _ _).alloc (Nat.le_refl _) _))
  have H1 : Hid (Ps w1 pb g off cap ts d rm) := Lib.hid (HH.out.later (by rw [hx1]; exact (Below.refl _ _).alloc (Nat.le_refl _) _))
  have HS : Hid (G ≤ w1.heap.size) := Lib.hid (by rw [hx1, hG]; simp)
  have HG := Lib.hid hG
  clear hx1 hG HH
  have HQ := Lib.hid (HC.out w1 H1.out)
  go_wp2_with fail
  refine HQ.out.mono ?_
  rintro e w4 ⟨rfl, bt, o4, c4, ts4, p4⟩
  first | go_wp2_with fail | skip
  refine ⟨rfl, rfl, ?_, _, _, _, p4⟩
  rw [← HG.out]
  exact B1.out.trans (bt.mono HS.out)

theorem door_none {fn : Func} (R : Ending → World → Prop) (a : Act) {w : World} {p er : Nat} (hd : a.defers = []) (hR : R (.panicked (flt p er)) w) : bodyPostD Tryd.prog fn R (Exit.panic (flt p er)) a w := by
  show Leaves Tryd.prog fn a.tmps R a.defers (.panicking (flt p er)) w
  rw [hd]
  exact hR

set_option maxRecDepth 100000 in
set_option maxHeartbeats 4000000 in
theorem expr_full {w : World} {pb g off cap : Nat} {t : Tk} {r : List Tk} {rm : Int} (h : Ps w pb g off cap (t :: r) 60 rm) :
    Calls Tryd.prog 14 #[.pointer (some ⟨pb, 0, none⟩)] w (PB pb g 60 rm t.at_ 5 w) := by
  have HH := Lib.hid h
  clear h
  go_enter_defers Tryd.func14, Tryd.ntmps14
  go_upto_region 1 with fail
  obtain ⟨G, hG⟩ : ∃ G, G = w.heap.size := ⟨_, rfl⟩
  rw [← hG]
  obtain ⟨w1, hx1⟩ : ∃ x, x = w.alloc (.cells #[.int .u8 0, .int .i64 0, .string ⟨#[]⟩, .slice none 0 0, .slice none 0 0, .bool false, .slice none 0 0, .int .i64 0] 28) := ⟨_, rfl⟩
  rw [← hx1]
  have B1 : Hid (But G pb w w1) := Lib.hid (by rw [hx1, hG]; exact But.of_below ((Below.refl _ _).alloc (Nat.le_refl _) _))
  have H1 : Hid (Ps w1 pb g off cap (t :: r) 60 rm) := Lib.hid (HH.out.later (by rw [hx1]; exact (Below.refl _ _).alloc (Nat.le_refl _) _))
  have HG := Lib.hid hG
  clear hx1 hG HH
  have HQ := Lib.hid (enter_bad H1.out)
  go_wp2_with fail
  refine HQ.out.mono ?_
  rintro e w4 ⟨rfl, rfl⟩
  first | go_wp2_with fail | skip
  refine door_none _ _ rfl ⟨rfl, ?_, _, _, _, H1.out⟩
  rw [← HG.out]
  exact B1.out

/-- As many brackets as may not be: the fault is at the first that is too deep. -/
theorem deep_bad (rm : Int) (pb g : Nat) : ∀ (j : Nat) (W : World) (o c : Nat) (ts : List Tk) (t : Tk) (d : Nat), j ≤ 30 → d + 2 * j = 60 → Ps W pb g o c ts d rm → (∀ i, i < j → ∃ u, ts[i]? = some u ∧ u.kind = 4 ∧ u.text = [40]) → ts[j]? = some t →
    Calls Tryd.prog 14 #[.pointer (some ⟨pb, 0, none⟩)] W (PB pb g d rm t.at_ 5 W)
  | 0, W, o, c, ts, t, d, hj, hd, h, hb, ht => by
    match ts, ht with
    | u :: r, ht =>
      simp only [List.getElem?_cons_zero, Option.some.injEq] at ht
      subst ht
      obtain rfl : d = 60 := by omega
      exact expr_full h
  | j + 1, W, o, c, ts, t, d, hj, hd, h, hb, ht => by
    obtain ⟨u, hu, hk, htx⟩ := hb 0 (by omega)
    match ts, hu, ht with
    | v :: r, hu, ht =>
      simp only [List.getElem?_cons_zero, Option.some.injEq] at hu
      subst hu
      have hst : ∀ s : List UInt8, s ≠ [40] → stT (v :: r) 0 s = false := fun s hs => by
        simp only [stT, List.getElem?_cons_zero, htx, Bool.and_eq_false_iff, beq_eq_false_iff_ne, ne_eq]
        exact .inl fun e => hs e.symm
      have hnm : nmT (v :: r) 0 = false := by simp [nmT, hk]
      refine expr_bad h (by omega) (by rw [hnm]; rfl) (hst _ (by decide)) (by simp [noWord, hst]) t.at_ 5 fun W2 h2 => ?_
      refine op_bad h2 t.at_ 5 1 fun W3 h3 => ?_
      refine pre_bad h3 t.at_ 5 (hst _ (by decide)) (hst _ (by decide)) fun W4 h4 => ?_
      refine sel_bad h4 t.at_ 5 fun W5 h5 => ?_
      refine thing_bad h5 (by omega) hk htx t.at_ 5 fun W6 o6 c6 h6 => ?_
      exact deep_bad rm pb g j W6 o6 c6 r t (d + 1 + 1) (by omega) (by omega) h6 (fun i hi => by
        obtain ⟨x, hx, h1, h2⟩ := hb (i + 1) (by omega)
        exact ⟨x, by simpa using hx, h1, h2⟩) (by simpa using ht)
end Go.Proofs.YtnajafnbickiiaaDoor

/-
  Names of an inherit and of a pattern, one of which comes twice. Conditions: the parser's block; the expression's block lies behind it.
-/
import Derived.Test.YtnajafnbickiiaaDoorPTwC
import Derived.Deep.LoopGhost
import Derived.Lib.SliceRun
namespace Go.Proofs.YtnajafnbickiiaaDoor
open Go.RowKit
set_option linter.unusedVariables false
set_option maxRecDepth 100000

/-- How many tokens the parser has ahead. -/
def lenAt (w : World) (pb : Nat) : Nat := match w.cell? ⟨pb, 0, none⟩ with
  | some (.slice _ n _) => n
  | _ => 0
theorem Ps.lenAt {w : World} {pb g o c d : Nat} {ts : List Tk} {rm : Int} (h : Ps w pb g o c ts d rm) : lenAt w pb = ts.length := by
  have : w.cell? ⟨pb, 0, none⟩ = some (.slice (some ⟨g, o, none⟩) ts.length c) := h.row.cellAt (i := 0) rfl
  unfold Go.Proofs.YtnajafnbickiiaaDoor.lenAt
  rw [this]
theorem stT_name {t : Tk} {r : List Tk} (h : t.kind = 1) (s : List UInt8) : stT (t :: r) 0 s = false := by simp [stT, h]
theorem nmT_name {t : Tk} {r : List Tk} (h : t.kind = 1) : nmT (t :: r) 0 = true := by simp [nmT, h]
theorem stT_other {ts : List Tk} {s u : List UInt8} (h : stT ts 0 s = true) (hu : s ≠ u) : stT ts 0 u = false := by
  cases ts with
  | nil => rfl
  | cons t r =>
    simp only [stT, List.getElem?_cons_zero, Bool.and_eq_true, beq_iff_eq] at h
    simp only [stT, List.getElem?_cons_zero, h.1, Bool.and_eq_false_iff, beq_eq_false_iff_ne, ne_eq]
    exact .inl hu

/-- One name to come that is there already, or a name ahead of it that is the same one. -/
def Two (X pb g d : Nat) (rm : Int) (t : Tk) (r A : List Tk) (w : World) : Prop :=
  (∃ o c, Ps w pb g o c (t :: r) d rm ∧ S1 w X ⟨t.text.toArray⟩) ∨ (∃ o c k a, Ps w pb g o c A d rm ∧ S0 w X k a)
theorem Two.below {X pb g d : Nat} {rm : Int} {t : Tk} {r A : List Tk} {w w' : World} (h : Two X pb g d rm t r A w) (hb : Below w.heap.size w w') : Two X pb g d rm t r A w' := by
  rcases h with ⟨o, c, hp, hs⟩ | ⟨o, c, k, a, hp, hs⟩
  · exact .inl ⟨o, c, hp.later hb, hs.below hb⟩
  · exact .inr ⟨o, c, k, a, hp.later hb, hs.below hb⟩

set_option maxHeartbeats 8000000 in
theorem inh_bad {w : World} {pb g off cap d X : Nat} {ts r : List Tk} {t u : Tk} {rm : Int} (h : Ps w pb g off cap ts d rm) (hnb : stT ts 0 [40] = false) (hk : t.kind = 1) (hku : u.kind = 1) (htu : u.text = t.text)
    (hst : ∀ w', Below w.heap.size w w' → Two X pb g d rm t r (u :: t :: r) w') (hxl : X < w.heap.size) (hpx : pb < X) (hgx : g < X) :
    Calls Tryd.prog 56 #[.pointer (some ⟨pb, 0, none⟩), .pointer (some ⟨X, 0, none⟩)] w (PBB X pb g d rm t.at_ 7 w) := by
  have HQ := Lib.hid (skip_no h ⟨#[40]⟩ hnb)
  have HST := Lib.hid hst
  have HK := Lib.hid hk
  have HKU := Lib.hid hku
  have HTU := Lib.hid htu
  have HXL := Lib.hid hxl
  have HPX := Lib.hid hpx
  have HGX := Lib.hid hgx
  clear h hnb hst hk hku htu hxl hpx hgx
  go_enter Tryd.func56, Tryd.ntmps56
  go_wp2_with fail
  refine HQ.out.mono ?_
  rintro e w0 ⟨rfl, b0⟩
  have TW0 := Lib.hid (HST.out w0 b0)
  have B0 : Hid (But X pb w w0) := Lib.hid (But.of_below (b0.mono (Nat.le_of_lt HXL.out)))
  clear b0 HQ HST HXL
  have heq : ∀ W : World, (binOp .eql 26 (.slice none 0 0) (.slice none 0 0)).run Tryd.prog W = .ok (.bool true) W := fun W => Lib.run_eql_slice_nil W _ 28 none 0 0 0 0 Tryd.underlying26
  go_wp2_with fail
  clear heq
  go_loopw [17] (fun _ wr => Hid (But X pb w wr) ∧ Hid (Two X pb g d rm t r (u :: t :: r) wr)) (fun _ wr => lenAt wr pb)
  case atStart => exact ⟨B0, TW0⟩
  case round =>
    clear B0 TW0
    obtain ⟨hb, hcase⟩ := hrel
    rcases hcase.out with ⟨o, c, hp, hs⟩ | ⟨o, c, k, a, hp, hs⟩
    · have hn := named_any hp 0 hp.ends.pos
      rw [nmT_name HK.out] at hn
      have HN := Lib.hid hn
      have HB := Lib.hid (new_bad hp HK.out hs HPX.out)
      have HSL := Lib.hid (Nat.le_of_lt hs.lt)
      clear hn hp hs hcase
      go_wp2_with fail
      refine HN.out.mono ?_
      rintro e w2 ⟨rfl, hw⟩
      subst hw
      clear HN
      go_wp2_with fail
      refine HB.out.mono ?_
      rintro e w3 ⟨rfl, b3, p3⟩
      first | go_wp2_with fail | skip
      exact ⟨rfl, rfl, hb.out.trans (b3.mono HSL.out), p3⟩
    · have hn := named_any hp 0 hp.ends.pos
      rw [nmT_name HKU.out] at hn
      have HN := Lib.hid hn
      have HL := Lib.hid hp.lenAt
      have HNW := Lib.hid (new_ok hp HKU.out hs HPX.out)
      have HX := Lib.hid hs
      clear hn hp hs hcase
      go_wp2_with fail
      refine HN.out.mono ?_
      rintro e w2 ⟨rfl, hw⟩
      subst hw
      clear HN
      go_wp2_with fail
      refine HNW.out.mono ?_
      rintro e w1 ⟨rfl, b1, p1⟩
      have P1 := Lib.hid p1
      have X1 := Lib.hid (HX.out.but b1 HPX.out)
      have B1 : Hid (But X pb w w1) := Lib.hid (hb.out.trans (b1.mono (Nat.le_of_lt HX.out.lt)))
      clear p1 b1 HNW HX hb
      have NW : Hid (Has (w1.alloc (.cells #[.int .u8 0, .string ⟨#[]⟩, .int .i64 0] 50)) w1.heap.size [.int .u8 0, .string ⟨#[]⟩, .int .i64 0] 50) := Lib.hid (Has.new w1 [.int .u8 0, .string ⟨#[]⟩, .int .i64 0] _)
      obtain ⟨C, hC⟩ : ∃ C, C = (tokC u).toArray := ⟨_, rfl⟩
      rw [← hC]
      have HC := Lib.hid hC
      have HCI : Hid ((Tryd.prog.info? 50).map (·.size) = some C.size) := Lib.hid (by rw [hC, List.size_toArray]; exact info_tokp)
      have HCO : Hid (C.all (·.oneCell') = true) := Lib.hid (by rw [hC]; exact tok_one u)
      have HCS : Hid (([.int .u8 0, .string ⟨#[]⟩, .int .i64 0] : List Value).toArray.size = C.size) := Lib.hid (by rw [hC]; rfl)
      clear hC
      go_upto_region 7 with (refine wpList_store_row rfl 50 _ _ rfl w1.heap.size C rfl rfl 50 _ NW.out HCI.out HCS.out HCO.out ?_)
      obtain ⟨T, hT⟩ : ∃ T, T = w1.heap.size := ⟨_, rfl⟩
      obtain ⟨w2, hw2⟩ : ∃ x, x = (w1.alloc (.cells #[.int .u8 0, .string ⟨#[]⟩, .int .i64 0] 50)).setRow w1.heap.size C := ⟨_, rfl⟩
      rw [← hw2, ← hT]
      have T2 : Hid (Has w2 T (tokC u) 50) := Lib.hid (by rw [hw2, hT, HC.out]; exact NW.out.row _)
      have D2 : Hid (Below T w1 w2) := Lib.hid (by rw [hw2, hT]; exact below_setRow ((Below.refl _ _).alloc (Nat.le_refl _) _) (Nat.le_refl _) _)
      have P2 := Lib.hid (P1.out.later (by rw [← hT]; exact D2.out))
      have X2 := Lib.hid (X1.out.below (by rw [← hT]; exact D2.out))
      have HXT : Hid (X < T ∧ pb < T) := Lib.hid (by rw [hT]; exact ⟨X1.out.lt, P1.out.row.lt⟩)
      have B2 : Hid (But X pb w w2) := Lib.hid (B1.out.trans (But.of_below (D2.out.mono (Nat.le_of_lt HXT.out.1))))
      clear hw2 hT NW P1 X1 B1 D2 HCS HCO HCI HC
      have k1 : w2.cell? ⟨T, 1, none⟩ = some (.string ⟨u.text.toArray⟩) := T2.out.cellAt (i := 1) rfl
      have k2 : w2.cell? ⟨T, 2, none⟩ = some (.int .i64 (u.at_ : Int)) := T2.out.cellAt (i := 2) rfl
      have HA := Lib.hid (add_nil X2.out ⟨u.text.toArray⟩ true (exC 3 0 u.text (.slice none 0 0) u.at_) rfl (IsX.leaf (w := w) (B := 0) 3 0 u.text u.at_).one)
      go_wp2_with fail
      refine HA.out.mono ?_
      rintro e w4 ⟨rfl, s4, b4⟩
      have S4 := Lib.hid s4
      have B4 : Hid (But X pb w w4) := Lib.hid (B2.out.trans (But.of_below b4))
      have P4 := Lib.hid (P2.out.laterB b4 HPX.out HGX.out)
      clear s4 b4 HA k1 k2 T2 X2 B2 P2
      go_wp2_with fail
      go_roundw
      case rel => exact ⟨B4, Lib.hid (.inl ⟨_, _, P4.out, by rw [← HTU.out]; exact S4.out⟩)⟩
      case measure => rw [P4.out.lenAt, HL.out]; simp

set_option maxHeartbeats 8000000 in
theorem args_bad {w : World} {pb g off cap d X k a : Nat} {r : List Tk} {t u c : Tk} {rm : Int} (h : Ps w pb g off cap (u :: c :: t :: r) d rm) (hk : t.kind = 1) (hku : u.kind = 1) (htu : u.text = t.text) (hc : stT (c :: t :: r) 0 [44] = true)
    (hx : S0 w X k a) (hpx : pb < X) (hgx : g < X) :
    Calls Tryd.prog 44 #[.pointer (some ⟨pb, 0, none⟩), .pointer (some ⟨X, 0, none⟩)] w (PBB X pb g d rm t.at_ 7 w) := by
  have TW0 : Hid (Two X pb g d rm t r (u :: c :: t :: r) w) := Lib.hid (.inr ⟨_, _, _, _, h, hx⟩)
  have HK := Lib.hid hk
  have HKU := Lib.hid hku
  have HTU := Lib.hid htu
  have HC := Lib.hid hc
  have HPX := Lib.hid hpx
  have HGX := Lib.hid hgx
  clear h hk hku htu hpx hgx hc hx
  go_enter Tryd.func44, Tryd.ntmps44
  go_wp2_with fail
  go_loopw [5] (fun _ wr => Hid (But X pb w wr) ∧ Hid (Two X pb g d rm t r (u :: c :: t :: r) wr)) (fun _ wr => lenAt wr pb)
  case atStart => exact ⟨Lib.hid (But.refl _ _ _), TW0⟩
  case round =>
    clear TW0
    obtain ⟨hb, hcase⟩ := hrel
    rcases hcase.out with ⟨o, q, hp, hs⟩ | ⟨o, q, k, a, hp, hs⟩
    · have HN := Lib.hid (skip_no hp ⟨#[46, 46, 46]⟩ (stT_name HK.out _))
      have HP := Lib.hid hp
      have HS := Lib.hid hs
      clear hp hs hcase
      go_wp2_with fail
      refine HN.out.mono ?_
      rintro e w2 ⟨rfl, b2⟩
      have HB := Lib.hid (arg_bad (HP.out.later b2) HK.out (HS.out.below b2) HPX.out)
      have B2 : Hid (But X pb w w2) := Lib.hid (hb.out.trans (But.of_below (b2.mono (Nat.le_of_lt HS.out.lt))))
      have HSL : Hid (X ≤ w2.heap.size) := Lib.hid (Nat.le_trans (Nat.le_of_lt HS.out.lt) b2.size)
      clear HN b2 HP HS hb
      go_wp2_with fail
      refine HB.out.mono ?_
      rintro e w3 ⟨rfl, b3, p3⟩
      first | go_wp2_with fail | skip
      exact ⟨rfl, rfl, B2.out.trans (b3.mono HSL.out), p3⟩
    · have HN := Lib.hid (skip_no hp ⟨#[46, 46, 46]⟩ (stT_name HKU.out _))
      have HL := Lib.hid hp.lenAt
      have HP := Lib.hid hp
      have HS := Lib.hid hs
      clear hp hs hcase
      go_wp2_with fail
      refine HN.out.mono ?_
      rintro e w2 ⟨rfl, b2⟩
      have HA := Lib.hid (arg_ok (HP.out.later b2) HKU.out (stT_other HC.out (by decide)) (HS.out.below b2) HPX.out HGX.out)
      have B2 : Hid (But X pb w w2) := Lib.hid (hb.out.trans (But.of_below (b2.mono (Nat.le_of_lt HS.out.lt))))
      clear HN b2 HP HS hb
      go_wp2_with fail
      refine HA.out.mono ?_
      rintro e w3 ⟨rfl, s3, b3, o3, q3, p3⟩
      have S3 := Lib.hid s3
      have B3 : Hid (But X pb w w3) := Lib.hid (B2.out.trans b3)
      have HQ := Lib.hid (skip_yes p3 ⟨#[44]⟩ HC.out)
      clear s3 b3 p3 HA B2
      go_wp2_with fail
      refine HQ.out.mono ?_
      rintro e w4 ⟨rfl, b4, p4⟩
      have S4 := Lib.hid (S3.out.but b4 HPX.out)
      have B4 : Hid (But X pb w w4) := Lib.hid (B3.out.trans (b4.mono (Nat.le_of_lt S3.out.lt)))
      have P4 := Lib.hid p4
      clear b4 p4 S3 B3 HQ
      go_wp2_with fail
      go_roundw
      case rel => exact ⟨B4, Lib.hid (.inl ⟨_, _, P4.out, by rw [← HTU.out]; exact S4.out⟩)⟩
      case measure => rw [P4.out.lenAt, HL.out]; simp
end Go.Proofs.YtnajafnbickiiaaDoor

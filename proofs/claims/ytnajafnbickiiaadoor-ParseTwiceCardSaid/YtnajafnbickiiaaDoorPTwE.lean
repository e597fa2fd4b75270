/-
  The binds of a set or a let up to a name that is there already; an inherit of one name out of brackets. Conditions: the parser's block; the expression's block lies behind it.
-/
import Derived.Test.YtnajafnbickiiaaDoorPTwD
import Derived.Great.BuildSlice
namespace Go.Proofs.YtnajafnbickiiaaDoor
open Go.RowKit
set_option linter.unusedVariables false
set_option maxRecDepth 100000

/-- What the next bind or inherit does that is read, and what one does that gives up. -/
def ItemOk (X pb g d : Nat) (rm : Int) (tsA tsB : List Tk) (SA SB : World → Prop) : Prop :=
  (nmT tsA 0 = true ∧ ∀ (W : World) (o c : Nat), Ps W pb g o c tsA d rm → SA W → Calls Tryd.prog 55 #[.pointer (some ⟨pb, 0, none⟩), .pointer (some ⟨X, 0, none⟩)] W (fun e W' => e = .returned (.tuple #[]) ∧ SB W' ∧ But X pb W W' ∧ ∃ o c, Ps W' pb g o c tsB d rm))
  ∨ (nmT tsA 0 = false ∧ ∃ ti r, tsA = ti :: r ∧ stT tsA 0 [105, 110, 104, 101, 114, 105, 116] = true ∧ ∀ (W : World) (o c : Nat), Ps W pb g o c r d rm → SA W → Calls Tryd.prog 56 #[.pointer (some ⟨pb, 0, none⟩), .pointer (some ⟨X, 0, none⟩)] W (fun e W' => e = .returned (.tuple #[]) ∧ SB W' ∧ But X pb W W' ∧ ∃ o c, Ps W' pb g o c tsB d rm))
def ItemBad (X pb g d : Nat) (rm : Int) (p er : Nat) (tsA : List Tk) (SA : World → Prop) : Prop :=
  (nmT tsA 0 = true ∧ ∀ (W : World) (o c : Nat), Ps W pb g o c tsA d rm → SA W → Calls Tryd.prog 55 #[.pointer (some ⟨pb, 0, none⟩), .pointer (some ⟨X, 0, none⟩)] W (PBB X pb g d rm p er W))
  ∨ (nmT tsA 0 = false ∧ ∃ ti r, tsA = ti :: r ∧ stT tsA 0 [105, 110, 104, 101, 114, 105, 116] = true ∧ ∀ (W : World) (o c : Nat), Ps W pb g o c r d rm → SA W → Calls Tryd.prog 56 #[.pointer (some ⟨pb, 0, none⟩), .pointer (some ⟨X, 0, none⟩)] W (PBB X pb g d rm p er W))

set_option maxHeartbeats 8000000 in
theorem binds_bad {w : World} {pb g d X p er : Nat} {rm : Int} {tsA tsB : List Tk} {SA SB : World → Prop} (kA : ∀ w w', SA w → But w.heap.size pb w w' → SA w') (kB : ∀ w w', SB w → But w.heap.size pb w w' → SB w')
    (lA : ∀ w, SA w → X < w.heap.size) (lB : ∀ w, SB w → X < w.heap.size) (hA : ItemOk X pb g d rm tsA tsB SA SB) (hB : ItemBad X pb g d rm p er tsB SB) (hlen : tsB.length < tsA.length)
    (hst : (∃ o c, Ps w pb g o c tsA d rm ∧ SA w) ∨ (∃ o c, Ps w pb g o c tsB d rm ∧ SB w)) :
    Calls Tryd.prog 45 #[.pointer (some ⟨pb, 0, none⟩), .pointer (some ⟨X, 0, none⟩)] w (PBB X pb g d rm p er w) := by
  have HST := Lib.hid hst
  have HA := Lib.hid hA
  have HB := Lib.hid hB
  have KA := Lib.hid kA
  have KB := Lib.hid kB
  have LA := Lib.hid lA
  have LB := Lib.hid lB
  have HLEN := Lib.hid hlen
  clear hst hA hB kA kB lA lB hlen
  go_enter Tryd.func45, Tryd.ntmps45
  go_wp2_with fail
  go_loopw [4] (fun _ wr => Hid (But X pb w wr) ∧ Hid ((∃ o c, Ps wr pb g o c tsA d rm ∧ SA wr) ∨ (∃ o c, Ps wr pb g o c tsB d rm ∧ SB wr))) (fun _ wr => lenAt wr pb)
  case atStart => exact ⟨Lib.hid (But.refl _ _ _), HST⟩
  case round =>
    clear HST
    obtain ⟨hb, hcase⟩ := hrel
    rcases hcase.out with ⟨o, c, hp, hs⟩ | ⟨o, c, hp, hs⟩
    · have HL := Lib.hid hp.lenAt
      have hn := named_any hp 0 hp.ends.pos
      rcases HA.out with ⟨h1, h2⟩ | ⟨h1, ti, r, h2, h3, h4⟩
      · rw [h1] at hn
        have HN := Lib.hid hn
        have HQ := Lib.hid (h2 wr o c hp hs)
        clear hn h1 h2 hp hs hcase
        go_wp2_with fail
        refine HN.out.mono ?_
        rintro e w2 ⟨rfl, hw⟩
        subst hw
        clear HN
        go_wp2_with fail
        refine HQ.out.mono ?_
        rintro e w3 ⟨rfl, s3, b3, o3, c3, p3⟩
        have S3 := Lib.hid s3
        have P3 := Lib.hid p3
        have B3 : Hid (But X pb w w3) := Lib.hid (hb.out.trans b3)
        clear s3 b3 p3 HQ hb
        go_wp2_with fail
        go_roundw
        case rel => exact ⟨B3, Lib.hid (.inr ⟨_, _, P3.out, S3.out⟩)⟩
        case measure => rw [P3.out.lenAt, HL.out]; exact HLEN.out
      · subst h2
        rw [h1] at hn
        have HN := Lib.hid hn
        have HK := Lib.hid (skip_yes hp ⟨#[105, 110, 104, 101, 114, 105, 116]⟩ h3)
        have HF := Lib.hid h4
        have HS := Lib.hid hs
        clear hn h1 h3 h4 hp hs hcase
        go_wp2_with fail
        refine HN.out.mono ?_
        rintro e w2 ⟨rfl, hw⟩
        subst hw
        clear HN
        go_wp2_with fail
        refine HK.out.mono ?_
        rintro e w2 ⟨rfl, b2, p2⟩
        have HQ := Lib.hid (HF.out w2 _ _ p2 (KA.out _ _ HS.out b2))
        have B2 : Hid (But X pb w w2) := Lib.hid (hb.out.trans (b2.mono (Nat.le_of_lt (LA.out _ HS.out))))
        clear b2 p2 HK HF HS hb
        go_wp2_with fail
        refine HQ.out.mono ?_
        rintro e w3 ⟨rfl, s3, b3, o3, c3, p3⟩
        have S3 := Lib.hid s3
        have P3 := Lib.hid p3
        have B3 : Hid (But X pb w w3) := Lib.hid (B2.out.trans b3)
        clear s3 b3 p3 HQ B2
        go_wp2_with fail
        go_roundw
        case rel => exact ⟨B3, Lib.hid (.inr ⟨_, _, P3.out, S3.out⟩)⟩
        case measure => rw [P3.out.lenAt, HL.out]; exact HLEN.out
    · have hn := named_any hp 0 hp.ends.pos
      rcases HB.out with ⟨h1, h2⟩ | ⟨h1, ti, r, h2, h3, h4⟩
      · rw [h1] at hn
        have HN := Lib.hid hn
        have HQ := Lib.hid (h2 wr o c hp hs)
        clear hn h1 h2 hp hs hcase
        go_wp2_with fail
        refine HN.out.mono ?_
        rintro e w2 ⟨rfl, hw⟩
        subst hw
        clear HN
        go_wp2_with fail
        refine HQ.out.mono ?_
        rintro e w3 ⟨rfl, b3, p3⟩
        first | go_wp2_with fail | skip
        exact ⟨rfl, rfl, hb.out.trans b3, p3⟩
      · subst h2
        rw [h1] at hn
        have HN := Lib.hid hn
        have HK := Lib.hid (skip_yes hp ⟨#[105, 110, 104, 101, 114, 105, 116]⟩ h3)
        have HF := Lib.hid h4
        have HS := Lib.hid hs
        clear hn h1 h3 h4 hp hs hcase
        go_wp2_with fail
        refine HN.out.mono ?_
        rintro e w2 ⟨rfl, hw⟩
        subst hw
        clear HN
        go_wp2_with fail
        refine HK.out.mono ?_
        rintro e w2 ⟨rfl, b2, p2⟩
        have HQ := Lib.hid (HF.out w2 _ _ p2 (KB.out _ _ HS.out b2))
        have B2 : Hid (But X pb w w2) := Lib.hid (hb.out.trans (b2.mono (Nat.le_of_lt (LB.out _ HS.out))))
        clear b2 p2 HK HF HS hb
        go_wp2_with fail
        refine HQ.out.mono ?_
        rintro e w3 ⟨rfl, b3, p3⟩
        first | go_wp2_with fail | skip
        exact ⟨rfl, rfl, B2.out.trans b3, p3⟩

set_option maxHeartbeats 8000000 in
theorem inh_ok {w : World} {pb g off cap d X k a : Nat} {q r : List Tk} {lp rp t sc : Tk} {rm : Int} (h : Ps w pb g off cap (lp :: q) d rm) (hlp : stT (lp :: q) 0 [40] = true) (x : Ex)
    (hex : ∀ (W : World) (o c : Nat), Ps W pb g o c q d rm → Calls Tryd.prog 14 #[.pointer (some ⟨pb, 0, none⟩)] W (PX pb g d rm W x (rp :: t :: sc :: r)))
    (hrp : stT (rp :: t :: sc :: r) 0 [41] = true) (hk : t.kind = 1) (hsc : stT (sc :: r) 0 [59] = true) (hns : sc.kind ≠ 1) (hx : S0 w X k a) (hpx : pb < X) (hgx : g < X) :
    Calls Tryd.prog 56 #[.pointer (some ⟨pb, 0, none⟩), .pointer (some ⟨X, 0, none⟩)] w (PN X pb g d rm ⟨t.text.toArray⟩ r w) := by
  obtain ⟨ie, hie, he0, he1, he2⟩ := info_exp
  have HE := Lib.hid hie
  have HE0 := Lib.hid he0
  have HE1 := Lib.hid he1
  have HQ := Lib.hid (skip_yes h ⟨#[40]⟩ hlp)
  have HEX := Lib.hid hex
  have HRP := Lib.hid hrp
  have HK := Lib.hid hk
  have HSC := Lib.hid hsc
  have HNS : Hid (nmT (sc :: r) 0 = false) := Lib.hid (by simp [nmT, hns])
  have HX := Lib.hid hx
  have HPX := Lib.hid hpx
  have HGX := Lib.hid hgx
  clear h hlp hex hrp hk hsc hns hx hpx hgx hie he0 he1 he2
  go_enter Tryd.func56, Tryd.ntmps56
  go_wp2_with fail
  refine HQ.out.mono ?_
  rintro e w1 ⟨rfl, b1, p1⟩
  have P1 := Lib.hid p1
  have X1 := Lib.hid (HX.out.but b1 HPX.out)
  have B1 : Hid (But X pb w w1) := Lib.hid (b1.mono (Nat.le_of_lt HX.out.lt))
  clear b1 p1 HQ HX
  have HQ := Lib.hid (HEX.out w1 _ _ P1.out)
  go_wp2_with fail
  refine HQ.out.mono ?_
  rintro e w2 ⟨cs, o2, c2, rfl, ix, b2, p2⟩
  have P2 := Lib.hid p2
  have X2 := Lib.hid (X1.out.but b2 HPX.out)
  have B2 : Hid (But X pb w w2) := Lib.hid (B1.out.trans (b2.mono (Nat.le_of_lt X1.out.lt)))
  have IX := Lib.hid ix
  obtain ⟨C, hC⟩ : ∃ C, C = cs.toArray := ⟨_, rfl⟩
  rw [← hC]
  have HC := Lib.hid hC
  clear b2 p2 ix hC HQ HEX P1 X1 B1
  go_upto_region 3 with (refine wpList_buildSlice rfl 26 28 1 _ rfl cs.toArray ie (.agg exZ.toArray) Tryd.underlying26 HE.out HE0.out (by rw [HE1.out]; decide) (by rw [HE1.out]; decide) (by rw [HE1.out]; have := fill_one (l := cs) IX.out.len; refine Eq.trans (congrArg _ ?_) this; simp [Act.eval, HC.out]) ?_)
  try go_upto_region 3 with fail
  obtain ⟨N, hN⟩ : ∃ N, N = w2.heap.size := ⟨_, rfl⟩
  obtain ⟨w3, hw3⟩ : ∃ y, y = w2.alloc (.cells cs.toArray 28) := ⟨_, rfl⟩
  rw [← hw3, ← hN]
  have hb3 : Below w2.heap.size w2 w3 := by rw [hw3]; exact (Below.refl _ _).alloc (Nat.le_refl _) _
  have P3 := Lib.hid (P2.out.later hb3)
  have X3 := Lib.hid (X2.out.below hb3)
  have B3 : Hid (But X pb w w3) := Lib.hid (B2.out.trans (But.of_below (hb3.mono (Nat.le_of_lt X2.out.lt))))
  clear hw3 hN hb3 P2 X2 B2 IX HC
  have HQ := Lib.hid (need_ok P3.out ⟨#[41]⟩ HRP.out)
  go_wp2_with fail
  refine HQ.out.mono ?_
  rintro e w4 ⟨rfl, b4, p4⟩
  have X4 := Lib.hid (X3.out.but b4 HPX.out)
  have B4 : Hid (But X pb w w4) := Lib.hid (B3.out.trans (b4.mono (Nat.le_of_lt X3.out.lt)))
  have TW0 : Hid ((∃ o c, Ps w4 pb g o c (t :: sc :: r) d rm ∧ S0 w4 X k a) ∨ (∃ o c, Ps w4 pb g o c (sc :: r) d rm ∧ S1 w4 X ⟨t.text.toArray⟩)) := Lib.hid (.inl ⟨_, _, p4, X4.out⟩)
  clear b4 p4 HQ P3 X3 B3 X4
  have heq : ∀ W : World, (binOp .eql 26 (.slice (some ⟨N, 0, none⟩) 1 1) (.slice none 0 0)).run Tryd.prog W = .ok (.bool false) W := fun W => Lib.run_eql_slice_nil W _ 28 (some ⟨N, 0, none⟩) 1 1 0 0 Tryd.underlying26
  go_wp2_with fail
  clear heq
  go_loopw [4] (fun v4 wr => v4 = .slice (some ⟨N, 0, none⟩) 1 1 ∧ Hid (But X pb w wr) ∧ Hid ((∃ o c, Ps wr pb g o c (t :: sc :: r) d rm ∧ S0 wr X k a) ∨ (∃ o c, Ps wr pb g o c (sc :: r) d rm ∧ S1 wr X ⟨t.text.toArray⟩))) (fun _ wr => lenAt wr pb)
  case atStart => exact ⟨rfl, B4, TW0⟩
  case round =>
    clear B4 TW0
    obtain ⟨rfl, hb, hcase⟩ := hrel
    rcases hcase.out with ⟨o, c, hp, hs⟩ | ⟨o, c, hp, hs⟩
    · have hn := named_any hp 0 hp.ends.pos
      rw [nmT_name HK.out] at hn
      have HN := Lib.hid hn
      have HL := Lib.hid hp.lenAt
      have HNW := Lib.hid (new_ok hp HK.out hs HPX.out)
      have HX := Lib.hid hs
      clear hn hp hs hcase
      go_wp2_with fail
      refine HN.out.mono ?_
      rintro e w2 ⟨rfl, hw⟩
      subst hw
      clear HN
      go_wp2_with fail
      refine HNW.out.mono ?_
      rintro e w1 ⟨rfl, b1, p1⟩
      have P1 := Lib.hid p1
      have X1 := Lib.hid (HX.out.but b1 HPX.out)
      have B1 : Hid (But X pb w w1) := Lib.hid (hb.out.trans (b1.mono (Nat.le_of_lt HX.out.lt)))
      clear p1 b1 HNW HX hb
      have NW : Hid (Has (w1.alloc (.cells #[.int .u8 0, .string ⟨#[]⟩, .int .i64 0] 50)) w1.heap.size [.int .u8 0, .string ⟨#[]⟩, .int .i64 0] 50) := Lib.hid (Has.new w1 [.int .u8 0, .string ⟨#[]⟩, .int .i64 0] _)
      obtain ⟨C, hC⟩ : ∃ C, C = (tokC t).toArray := ⟨_, rfl⟩
      rw [← hC]
      have HC := Lib.hid hC
      have HCI : Hid ((Tryd.prog.info? 50).map (·.size) = some C.size) := Lib.hid (by rw [hC, List.size_toArray]; exact info_tokp)
      have HCO : Hid (C.all (·.oneCell') = true) := Lib.hid (by rw [hC]; exact tok_one t)
      have HCS : Hid (([.int .u8 0, .string ⟨#[]⟩, .int .i64 0] : List Value).toArray.size = C.size) := Lib.hid (by rw [hC]; rfl)
      clear hC
      go_upto_region 7 with (refine wpList_store_row rfl 50 _ _ rfl w1.heap.size C rfl rfl 50 _ NW.out HCI.out HCS.out HCO.out ?_)
      obtain ⟨T, hT⟩ : ∃ T, T = w1.heap.size := ⟨_, rfl⟩
      obtain ⟨w2, hw2⟩ : ∃ x, x = (w1.alloc (.cells #[.int .u8 0, .string ⟨#[]⟩, .int .i64 0] 50)).setRow w1.heap.size C := ⟨_, rfl⟩
      rw [← hw2, ← hT]
      have T2 : Hid (Has w2 T (tokC t) 50) := Lib.hid (by rw [hw2, hT, HC.out]; exact NW.out.row _)
      have D2 : Hid (Below T w1 w2) := Lib.hid (by rw [hw2, hT]; exact below_setRow ((Below.refl _ _).alloc (Nat.le_refl _) _) (Nat.le_refl _) _)
      have P2 := Lib.hid (P1.out.later (by rw [← hT]; exact D2.out))
      have X2 := Lib.hid (X1.out.below (by rw [← hT]; exact D2.out))
      have HXT : Hid (X < T ∧ pb < T) := Lib.hid (by rw [hT]; exact ⟨X1.out.lt, P1.out.row.lt⟩)
      have B2 : Hid (But X pb w w2) := Lib.hid (B1.out.trans (But.of_below (D2.out.mono (Nat.le_of_lt HXT.out.1))))
      clear hw2 hT NW P1 X1 B1 D2 HCS HCO HCI HC
      have k1 : w2.cell? ⟨T, 1, none⟩ = some (.string ⟨t.text.toArray⟩) := T2.out.cellAt (i := 1) rfl
      have k2 : w2.cell? ⟨T, 2, none⟩ = some (.int .i64 (t.at_ : Int)) := T2.out.cellAt (i := 2) rfl
      have HA := Lib.hid (add_nil X2.out ⟨t.text.toArray⟩ false (exC 7 0 t.text (.slice (some ⟨N, 0, none⟩) 1 1) t.at_) rfl (all_oneCell_toArray (by intro v hv; simp [exC] at hv; rcases hv with rfl | rfl | rfl | rfl | rfl | rfl | rfl <;> rfl)))
      go_wp2_with fail
      refine HA.out.mono ?_
      rintro e w4 ⟨rfl, s4, b4⟩
      have S4 := Lib.hid s4
      have B4 : Hid (But X pb w w4) := Lib.hid (B2.out.trans (But.of_below b4))
      have P4 := Lib.hid (P2.out.laterB b4 HPX.out HGX.out)
      have hn := named_any P4.out 0 P4.out.ends.pos
      rw [HNS.out] at hn
      have HN := Lib.hid hn
      clear s4 b4 HA k1 k2 T2 X2 B2 P2 hn
      go_wp2_with fail
      refine HN.out.mono ?_
      rintro e w5 ⟨rfl, hw⟩
      subst hw
      clear HN
      go_wp2_with fail
      go_roundw
      case rel => exact ⟨rfl, B4, Lib.hid (.inr ⟨_, _, P4.out, S4.out⟩)⟩
      case measure => rw [P4.out.lenAt, HL.out]; simp
    · have hn := named_any hp 0 hp.ends.pos
      rw [HNS.out] at hn
      have HN := Lib.hid hn
      have HZ := Lib.hid (need_ok hp ⟨#[59]⟩ HSC.out)
      have HS := Lib.hid hs
      clear hn hp hs hcase
      go_wp2_with fail
      refine HN.out.mono ?_
      rintro e w2 ⟨rfl, hw⟩
      subst hw
      clear HN
      go_wp2_with fail
      refine HZ.out.mono ?_
      rintro e w3 ⟨rfl, b3, p3⟩
      have S3 := Lib.hid (HS.out.but b3 HPX.out)
      have B3 : Hid (But X pb w w3) := Lib.hid (hb.out.trans (b3.mono (Nat.le_of_lt HS.out.lt)))
      have P3 := Lib.hid p3
      clear b3 p3 HZ HS hb
      go_wp2_with fail
      first | go_end0 | (simp only [Exit.inBlock, Exit.then]; refine bodyPost_ret (results_none rfl _ _ _) rfl ?_) | refine bodyPost_ret (results_none rfl _ _ _) rfl ?_
      exact ⟨rfl, S3.out, B3.out, _, _, P3.out⟩
end Go.Proofs.YtnajafnbickiiaaDoor

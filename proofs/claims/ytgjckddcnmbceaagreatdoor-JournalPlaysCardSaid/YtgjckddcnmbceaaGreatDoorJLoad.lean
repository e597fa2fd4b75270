/-
  The contract of load: the journal that stands on a device. Conditions: one stands there; the digest's laid variables are those of the text.
-/
import Derived.Test.YtgjckddcnmbceaaGreatDoorJApp
namespace Go.Proofs.YtgjckddcnmbceaaGreatDoor
open Go.RowKit
set_option linter.unusedVariables false

/-- A journal stands in these bytes: half h counts, its sector's number is m. -/
structure On (n : Nat) (L : List UInt8) (h m : Nat) (base : List UInt8) (recs : List (List UInt8)) : Prop where
  hd : newL (sec L 0) (sec L 1) = (h, m, true)
  pos : 0 < m
  hh : h ≤ 1
  body : reg n L h = laidL m base recs ++ zer (256 * half n - (laidL m base recs).length)
  fits : (laidL m base recs).length ≤ 256 * half n

theorem laid_drop {n m : Nat} {L base : List UInt8} {recs : List (List UInt8)} {h : Nat} (hO : On n L h m base recs) (j : Nat) :
    (reg n L h).drop (laidL m base (recs.take j)).length = recsL (m + 2 + (recs.take j).length) (recs.drop j) ++ zer (256 * half n - (laidL m base recs).length) := by
  rw [hO.body, laid_split m base recs j, List.append_assoc, List.drop_left]
theorem laid_next (m : Nat) (base : List UInt8) (recs : List (List UInt8)) (j : Nat) (hj : j < recs.length) : (laidL m base (recs.take (j + 1))).length = (laidL m base (recs.take j)).length + (32 + (recs.getD j []).length) := by
  rw [List.take_succ_eq_append_getElem hj, laid_snoc, List.length_append, packL_length, List.getD_eq_getElem?_getD, List.getElem?_eq_getElem hj]; rfl
theorem laid_take_le {n m : Nat} {L base : List UInt8} {recs : List (List UInt8)} {h : Nat} (hO : On n L h m base recs) (j : Nat) : (laidL m base (recs.take j)).length ≤ 256 * half n := by
  have h1 := hO.fits
  rw [laid_split m base recs j, List.length_append] at h1
  omega
theorem drop_cons_getD {α : Type} (l : List α) (d : α) (j : Nat) (h : j < l.length) : l.drop j = l.getD j d :: l.drop (j + 1) := by
  rw [List.drop_eq_getElem_cons h, List.getD_eq_getElem?_getD, List.getElem?_eq_getElem h]; rfl
theorem unpack_at {n m : Nat} {L base : List UInt8} {recs : List (List UInt8)} {h : Nat} (hO : On n L h m base recs) (j : Nat) (hj : j < recs.length) (hb : 256 * half n < 2147483648) (hN : m + 2 + j < 18446744073709551616) :
    unpackL ((reg n L h).drop (laidL m base (recs.take j)).length) (m + 2 + j) = some (recs.getD j []) := by
  rw [laid_drop hO, drop_cons_getD recs [] j hj, recsL, List.append_assoc, List.length_take, Nat.min_eq_left (Nat.le_of_lt hj)]
  refine unpack_pack _ _ _ ?_ hN
  have h1 := recs_part recs (m + 2) j hj
  have h2 := hO.fits
  unfold laidL at h2
  rw [List.length_append] at h2
  omega
theorem unpack_end {n m : Nat} {L base : List UInt8} {recs : List (List UInt8)} {h : Nat} (hO : On n L h m base recs) (N : Nat) : unpackL ((reg n L h).drop (laidL m base recs).length) N = none := by
  rw [hO.body, List.drop_left]
  exact unpack_zer _ _
theorem rest_end {n m : Nat} {L base : List UInt8} {recs : List (List UInt8)} {h : Nat} (hO : On n L h m base recs) : (reg n L h).drop (laidL m base recs).length = zer (256 * half n - (laidL m base recs).length) := by
  rw [hO.body, List.drop_left]
theorem unpack_base {n m : Nat} {L base : List UInt8} {recs : List (List UInt8)} {h : Nat} (hO : On n L h m base recs) (hb : 256 * half n < 2147483648) (hN : m + 1 < 18446744073709551616) : unpackL (reg n L h) (m + 1) = some base := by
  rw [hO.body, laidL, List.append_assoc]
  refine unpack_pack _ _ _ ?_ hN
  have h1 := laid_base m base recs
  have h2 := hO.fits
  omega

theorem zer_isB {w : World} {a : Option Addr} {n c k : Nat} (h : IsB w a n c (zer k)) : IsB w a n c (zer n) := by
  have e : k = n := by have := h.length; rw [zer_length] at this; exact this
  rw [← e]; exact e ▸ h
theorem recs_set {w : World} {B b : Nat} {rV : Value} {recs : List (List UInt8)} {L : List Value} {t : TypeId} (h : Recs w B rV recs) (hx : Has w b L t) (h1 : tBy ≠ t) (h2 : 5 ≠ t) (i : Nat) (u : Value) : Recs (w.setCell ⟨b, i, none⟩ u) B rV recs := by
  obtain ⟨vs, h3, h4⟩ := h
  exact ⟨vs, owns_set h3 hx h1 i u, fun j hj => owns_set (h4 j hj) hx h2 i u⟩
def numOf (w : World) (pj : Nat) : Nat := match w.cell? ⟨pj, 2, none⟩ with
  | some (.int _ n) => n.toNat
  | _ => 0
theorem numOf_has {w : World} {pj pd h N used : Nat} {bV rV : Value} {st lost : Bool} (hj : Has w pj (jC pd h N bV rV used st lost) tJ) : numOf w pj = N := by
  unfold numOf; rw [hj.cellAt (i := 2) rfl]; simp

/-- Behind load, and behind Open. -/
def LoadP (pd n h m : Nat) (base : List UInt8) (recs : List (List UInt8)) (w : World) (e : Ending) (w' : World) : Prop :=
  ∃ pj bV rV, e = .returned (.tuple #[.pointer (some ⟨pj, 0, none⟩), .int .i64 0]) ∧ w.heap.size ≤ pj ∧ Has w' pj (jC pd h (m + 1 + recs.length) bV rV (laidL m base recs).length false false) tJ ∧
    w'.ownsRow w.heap.size 5 1 bV base.length (base.map bv) ∧ Recs w' w.heap.size rV recs ∧ Below w.heap.size w w'

set_option maxRecDepth 100000 in
set_option maxHeartbeats 4000000 in
theorem load_ok {w : World} {B pd n m k h mm : Nat} {L base : List UInt8} {recs : List (List UInt8)} (hd : Dv w B pd n L mm k) (hl : LaidW w) (hO : On n L h m base recs) (hn : 2 ≤ n) (hbig : 256 * half n ≤ 1000000) (hM : m + recs.length < 100000000000) (hrl : recs.length ≤ 1000000) :
    Calls Tryz.prog 35 #[.pointer (some ⟨pd, 0, none⟩)] w (LoadP pd n h m base recs w) := by
  obtain ⟨B0, hB0⟩ : ∃ B0, B0 = w.heap.size := ⟨_, rfl⟩
  have HNW := Lib.hid (newest_any hd hl hn)
  rw [hO.hd] at HNW
  have HWH : Hid (∀ x, Below w.heap.size w x → Calls Tryz.prog 45 #[.pointer (some ⟨pd, 0, none⟩), .int .i64 (h : Int)] x fun e w' => ∃ v, e = .returned (.tuple #[v, .int .i64 0]) ∧ w'.ownsRow x.heap.size 5 1 v (reg n L h).length ((reg n L h).map bv) ∧ Below x.heap.size x w') :=
    Lib.hid (fun x hx => whole_ok (hd.later hx) h hO.hh hn)
  have hrgl := reg_length hd.ll hO.hh hn
  have hlb := laid_base m base recs
  have hft := hO.fits
  obtain ⟨R, hR⟩ : ∃ R, R = reg n L h := ⟨_, rfl⟩
  obtain ⟨RM, hRM⟩ : ∃ RM, RM = 256 * half n := ⟨_, rfl⟩
  rw [← hR, ← hRM] at hrgl
  rw [← hR] at HWH
  have HUB : Hid (unpackL R (m + 1) = some base) := Lib.hid (by rw [hR]; exact unpack_base hO (by omega) (by omega))
  have HUA : Hid (∀ j, j < recs.length → unpackL (R.drop (laidL m base (recs.take j)).length) (m + 2 + j) = some (recs.getD j [])) := Lib.hid (fun j hj => by rw [hR]; exact unpack_at hO j hj (by omega) (by omega))
  have HUE : Hid (∀ N, unpackL (R.drop (laidL m base recs).length) N = none) := Lib.hid (fun N => by rw [hR]; exact unpack_end hO N)
  have HRE : Hid (R.drop (laidL m base recs).length = zer (RM - (laidL m base recs).length)) := Lib.hid (by rw [hR, hRM]; exact rest_end hO)
  have HTL : Hid (∀ j, (laidL m base (recs.take j)).length ≤ RM) := Lib.hid (fun j => by rw [hRM]; exact laid_take_le hO j)
  have hRMs : RM ≤ 1000000 := by omega
  have hbl : base.length ≤ 1000000 := by omega
  have k1 : m < 1000000000000 := by omega
  obtain ⟨M1, hM1⟩ : ∃ M1, M1 = m + 1 := ⟨_, rfl⟩
  obtain ⟨BL, hBL⟩ : ∃ BL, BL = base.length := ⟨_, rfl⟩
  obtain ⟨U0, hU0⟩ : ∃ U0, U0 = 32 + BL := ⟨_, rfl⟩
  have k2 : BL ≤ 1000000000 := by omega
  have HRMP : Hid (0 < RM) := Lib.hid (by omega)
  have HMM := Lib.hid hM
  have HM1 := Lib.hid hM1
  have HBL := Lib.hid hBL
  have HU0 := Lib.hid hU0
  have HRL := Lib.hid hrgl
  have HRR := Lib.hid hrl
  have HL := Lib.hid hl
  have HB0 := Lib.hid hB0
  have HRMS := Lib.hid hRMs
  have x1 := u64_one m k1
  have x2 := i64_head BL k2
  have x2' : wrap64 (32 + (BL : Int)) = ((32 + BL : Nat) : Int) := (IntWalk.i64_left _).symm.trans x2
  rw [← hM1] at x1
  rw [← hU0] at x2 x2'
  clear hd hl hO hn hbig hM hrl hB0 hrgl hlb hft hR hRM hbl k1 k2 hM1 hBL hU0 hRMs
  go_enter Tryz.func35, Tryz.ntmps35
  go_upto_region 6 with (go_at_call 40; refine HNW.out.mono ?_; rintro e w1 ⟨rfl, hb1⟩)
  have B1 := Lib.hid hb1
  have HW1 := Lib.hid (HWH.out w1 hb1)
  clear hb1 HNW HWH
  go_upto_region 9 with (go_at_call 45; refine HW1.out.mono ?_; rintro e w2 ⟨v2, rfl, ho2, hb2⟩)
  obtain ⟨g2, c2, hv2⟩ : ∃ g2 c2, v2 = .slice (some ⟨g2, 0, none⟩) RM c2 := by
    rcases ho2.2 with ⟨_, h0⟩ | ⟨g, cap, cur, e, _⟩
    · have := HRL.out; have := HRMP.out; omega
    · rw [HRL.out] at e; exact ⟨g, cap, e⟩
  subst hv2
  have B2 : Hid (Below w.heap.size w w2) := Lib.hid (B1.out.trans (hb2.mono B1.out.size))
  have O2 : Hid (w2.ownsRow B0 5 1 (.slice (some ⟨g2, 0, none⟩) RM c2) R.length (R.map bv)) := Lib.hid (owns_lower ho2 (by rw [HB0.out]; exact B1.out.size))
  clear ho2 hb2 HW1
  obtain ⟨I2, hI2⟩ : ∃ I2 : IsB w2 (some ⟨g2, 0, none⟩) RM c2 R, I2 = I2 := ⟨by
    obtain ⟨a, c, e, hi⟩ := isB_owned O2.out (by rw [HRL.out]; have := HRMS.out; omega)
    cases e
    rw [HRL.out] at hi; exact hi, rfl⟩
  have HU2 := Lib.hid (unpack_any (some ⟨g2, 0, none⟩) RM c2 R M1 w2 I2 (HL.out.below B2.out HL.out.two))
  rw [HM1.out, HUB.out, ← HM1.out] at HU2
  clear hI2
  go_upto_region 12 with (go_at_call 46; refine HU2.out.mono ?_; rintro e w3 ⟨hb3, b3, o3, c3, rfl, hi3⟩)
  have B3 : Hid (Below w.heap.size w w3) := Lib.hid (B2.out.trans (hb3.mono B2.out.size))
  have O3 := Lib.hid (own_later O2.out hb3)
  have HC3 := Lib.hid (clone_all (some ⟨b3, o3, none⟩) base.length c3 base w3 hi3)
  clear hi3 hb3 HU2 O2 I2
  rw [← HBL.out] at HC3 ⊢
  go_upto_region 13 with (go_at_call 31; refine HC3.out.mono ?_; rintro e w4 ⟨v4, rfl, ho4, hb4⟩; obtain ⟨va, vn, vc, rfl⟩ := row_slice ho4)
  obtain ⟨PJ, hPJ⟩ : ∃ PJ, PJ = w4.heap.size := ⟨_, rfl⟩
  rw [← hPJ]
  obtain ⟨w5, hw5⟩ : ∃ w5, w5 = w4.alloc (.cells (jC pd h M1 (.slice va vn vc) (.slice none 0 0) U0 false false).toArray tJ) := ⟨_, rfl⟩
  have J5 : Hid (Has w5 PJ (jC pd h M1 (.slice va vn vc) (.slice none 0 0) U0 false false) tJ) := Lib.hid (by rw [hw5, hPJ]; exact Has.new w4 _ _)
  have B4 : Hid (Below w.heap.size w w4) := Lib.hid (B3.out.trans (hb4.mono B3.out.size))
  have B5 : Hid (Below w.heap.size w w5) := Lib.hid (by rw [hw5]; exact B4.out.alloc B4.out.size _)
  have V5 : Hid (w5.ownsRow B0 5 1 (.slice (some ⟨g2, 0, none⟩) RM c2) R.length (R.map bv)) := Lib.hid (by rw [hw5]; exact (own_later O3.out hb4).alloc _)
  have O5 : Hid (w5.ownsRow B0 5 1 (.slice va vn vc) base.length (base.map bv)) := Lib.hid (by
    have hO4 : w4.ownsRow B0 5 1 (.slice va vn vc) BL (base.map bv) := owns_lower ho4 (show B0 ≤ w3.heap.size by rw [HB0.out]; exact B3.out.size)
    rw [hw5, ← HBL.out]; exact hO4.alloc _)
  have HPJ : Hid (B0 ≤ PJ) := Lib.hid (by rw [hPJ, HB0.out]; exact B4.out.size)
  have e5 : w4.alloc (.cells #[.pointer (some ⟨pd, 0, none⟩), .int .i64 (h : Int), .int .u64 (M1 : Int), .slice va vn vc, .slice none 0 0, .int .i64 (U0 : Int), .bool false, .bool false] tJ) = w5 := by rw [hw5]; rfl
  first | rw [e5] | skip
  clear e5 hw5 hPJ ho4 hb4 HC3 O3 B3 B2 B1 B4 x1 x2 x2'
  go_wp2_with fail
  go_loopw [13] (fun v wr => ∃ (j : Nat) (rV : Value), j ≤ recs.length ∧ Hid (Has wr PJ (jC pd h (m + 1 + j) (.slice va vn vc) rV (laidL m base (recs.take j)).length false false) tJ) ∧ Hid (Recs wr B0 rV (recs.take j)) ∧
    Hid (wr.ownsRow B0 5 1 (.slice (some ⟨g2, 0, none⟩) RM c2) R.length (R.map bv)) ∧ Hid (wr.ownsRow B0 5 1 (.slice va vn vc) base.length (base.map bv)) ∧ Hid (Below B0 w wr)) (fun _ wr => m + 1 + recs.length - numOf wr PJ)
  case atStart => exact ⟨0, _, Nat.zero_le _, Lib.hid (by
      have e : (laidL m base (recs.take 0)).length = U0 := by rw [List.take_zero, laid_zero, packL_length, HU0.out, HBL.out]
      rw [e, ← HM1.out]; exact J5.out), Lib.hid (by rw [List.take_zero]; exact Recs.nil _ _), V5, O5, Lib.hid (by rw [HB0.out]; exact B5.out)⟩
  case round =>
    clear J5 V5 O5 B5
    obtain ⟨j, rV, hj, J, RC, V, O, BB⟩ := hrel
    obtain ⟨U, hU⟩ : ∃ U, U = (laidL m base (recs.take j)).length := ⟨_, rfl⟩
    have hUR : U ≤ RM := by rw [hU]; exact HTL.out j
    obtain ⟨N0, hN0⟩ : ∃ N0, N0 = m + 1 + j := ⟨_, rfl⟩
    rw [← hU, ← hN0] at J
    obtain ⟨ca, cc, ec, hi5⟩ := isB_owned V.out (by rw [HRL.out]; have := HRMS.out; omega)
    simp only [Value.slice.injEq] at ec
    obtain ⟨rfl, ecl, rfl⟩ := ec
    clear ecl
    rw [HRL.out] at hi5
    have hrc := hi5.room
    have hI := isB_rest hi5 hUR
    rw [Nat.zero_add] at hI
    obtain ⟨A2, hA2⟩ : ∃ A2, A2 = (if c2 = U then some (⟨g2, 0, none⟩ : Addr) else some ⟨g2, U, none⟩) := ⟨_, rfl⟩
    rw [← hA2] at hI
    have HA2 := Lib.hid hA2
    clear hA2
    obtain ⟨N1, hN1⟩ : ∃ N1, N1 = N0 + 1 := ⟨_, rfl⟩
    have k1 : N0 < 1000000000000 := by have := HMM.out; omega
    have BBw : Hid (B0 ≤ wr.heap.size) := Lib.hid (by rw [HB0.out]; rw [HB0.out] at BB; exact BB.out.size)
    have LW : Hid (LaidW wr.drew) := Lib.hid ((HL.out.below BB.out (by rw [HB0.out]; exact HL.out.two)).below (Below.refl wr.heap.size wr).drew (Nat.lt_of_lt_of_le (by have := HL.out.two; rw [← HB0.out] at this; exact this) BBw.out))
    have HUN := Lib.hid (unpack_any _ _ _ _ N1 wr.drew (hI.later (Below.refl wr.heap.size wr).drew) LW.out)
    have JJ : Hid (∀ x, Below wr.heap.size wr x → Has x PJ (jC pd h N0 (.slice va vn vc) rV U false false) tJ) := Lib.hid (fun x hx => (hx.block PJ J.out.lt).trans J.out)
    have hc2m : c2 ≤ 9223372036854775807 := by have := hrc.2; unfold maxLen at this; omega
    have hRc : RM ≤ c2 := hrc.1
    have hUi : (U : Int) ≤ (RM : Int) := by omega
    have hUc : U ≤ c2 := by omega
    have hRci : (RM : Int) ≤ (c2 : Int) := by omega
    have KU : Hid (U ≤ 1000000) := Lib.hid (by have := HRMS.out; omega)
    have K1 := Lib.hid k1
    have HUU := Lib.hid hU
    have HNN := Lib.hid hN0
    have HN1 := Lib.hid hN1
    have x1 := u64_one N0 k1
    rw [← hN1] at x1
    have HX1 := Lib.hid x1
    have HI := Lib.hid hI
    clear hU hN0 hN1 k1 x1 hI hi5 hrc
    by_cases hlt : j < recs.length
    · have hun := HUA.out j hlt
      rw [← HUU.out, show m + 2 + j = N1 by rw [HN1.out, HNN.out]; omega] at hun
      rw [hun] at HUN
      obtain ⟨Q, hQ⟩ : ∃ Q, Q = recs.getD j [] := ⟨_, rfl⟩
      rw [← hQ] at HUN
      have HQ := Lib.hid hQ
      have HLT := Lib.hid hlt
      clear hun hQ hlt
      go_upto_region 13 with fail
      refine wp_region_held_drew (S := fun W => Has W PJ (jC pd h N0 (.slice va vn vc) rV U false false) tJ) (by kernel_rfl) (JJ.out _ (Below.refl _ _).drew) (fun hHeld => ?_)
      refine wpAnyH_take (i := 0) (oi := { dst := some 56, op := Op.move (Operand.tmp 8), type := 33, pos := "journal.go:97", after := #[], guard := none }) (v := .slice (some ⟨g2, 0, none⟩) RM c2) rfl (by kernel_rfl) (by kernel_rfl) (by kernel_rfl) (fun _ _ _ h => h)
        (Or.inl ⟨by rfl, by intro w hSw;  clear hSw; go_simp⟩) hHeld ?_
      try simp only [Act.put, List.setIfInBounds_toArray, List.set_cons_zero, List.set_cons_succ]
      refine wpAnyH_take (i := 1) (oi := { dst := some 57, op := Op.move (Operand.tmp 11), type := 25, pos := "journal.go:97", after := #[], guard := none }) (v := .pointer (some ⟨PJ, 0, none⟩)) rfl (by kernel_rfl) (by kernel_rfl) (by kernel_rfl) (fun _ _ _ h => h)
        (Or.inl ⟨by rfl, by intro w hSw;  clear hSw; go_simp⟩) hHeld ?_
      try simp only [Act.put, List.setIfInBounds_toArray, List.set_cons_zero, List.set_cons_succ]
      refine wpAnyH_take (i := 2) (oi := { dst := some 58, op := Op.nilCheck (Operand.tmp 57), type := 0, pos := "journal.go:97", after := #[{ on := 1, ground := Ground.data }], guard := none }) (v := .pointer (some ⟨PJ, 0, none⟩)) rfl (by kernel_rfl) (by kernel_rfl) (by kernel_rfl) (fun _ _ _ h => h)
        (Or.inl ⟨by rfl, by intro w hSw;  clear hSw; go_simp⟩) hHeld ?_
      try simp only [Act.put, List.setIfInBounds_toArray, List.set_cons_zero, List.set_cons_succ]
      refine wpAnyH_take (i := 3) (oi := { dst := some 59, op := Op.fieldAddr 62 (Operand.tmp 58) 5, type := 0, pos := "journal.go:97", after := #[{ on := 2, ground := Ground.data }], guard := none }) (v := .pointer (some ⟨PJ, 5, none⟩)) rfl (by kernel_rfl) (by kernel_rfl) (by kernel_rfl) (fun _ _ _ h => h)
        (Or.inl ⟨by rfl, by intro w hSw;  clear hSw; go_simp⟩) hHeld ?_
      try simp only [Act.put, List.setIfInBounds_toArray, List.set_cons_zero, List.set_cons_succ]
      refine wpAnyH_take (i := 4) (oi := { dst := some 60, op := Op.load 3 (Operand.tmp 59), type := 3, pos := "journal.go:97", after := #[{ on := 3, ground := Ground.data }], guard := none }) (v := .int .i64 (U : Int)) rfl (by kernel_rfl) (by kernel_rfl) (by kernel_rfl) (fun _ _ _ h => h)
        (Or.inl ⟨by rfl, by intro w hSw; have hq := hSw.cellAt (i := 5) rfl; clear hSw; go_simp⟩) hHeld ?_
      try simp only [Act.put, List.setIfInBounds_toArray, List.set_cons_zero, List.set_cons_succ]
      refine wpAnyH_take (i := 5) (oi := { dst := some 61, op := Op.slice 33 (Operand.tmp 56) (some (Operand.tmp 60)) none none, type := 33, pos := "journal.go:97", after := #[{ on := 0, ground := Ground.data }, { on := 4, ground := Ground.data }], guard := none }) (v := .slice A2 (RM - U) (c2 - U)) rfl (by kernel_rfl) (by kernel_rfl) (by kernel_rfl) (fun _ _ _ h => h)
        (Or.inl ⟨by rfl, by intro w hSw;  clear hSw; go_simp; first | rw [HA2.out] | skip⟩) hHeld ?_
      try simp only [Act.put, List.setIfInBounds_toArray, List.set_cons_zero, List.set_cons_succ]
      refine wpAnyH_take (i := 6) (oi := { dst := some 62, op := Op.move (Operand.tmp 11), type := 25, pos := "journal.go:97", after := #[], guard := none }) (v := .pointer (some ⟨PJ, 0, none⟩)) rfl (by kernel_rfl) (by kernel_rfl) (by kernel_rfl) (fun _ _ _ h => h)
        (Or.inl ⟨by rfl, by intro w hSw;  clear hSw; go_simp⟩) hHeld ?_
      try simp only [Act.put, List.setIfInBounds_toArray, List.set_cons_zero, List.set_cons_succ]
      refine wpAnyH_take (i := 7) (oi := { dst := some 63, op := Op.nilCheck (Operand.tmp 62), type := 0, pos := "journal.go:97", after := #[{ on := 6, ground := Ground.data }], guard := none }) (v := .pointer (some ⟨PJ, 0, none⟩)) rfl (by kernel_rfl) (by kernel_rfl) (by kernel_rfl) (fun _ _ _ h => h)
        (Or.inl ⟨by rfl, by intro w hSw;  clear hSw; go_simp⟩) hHeld ?_
      try simp only [Act.put, List.setIfInBounds_toArray, List.set_cons_zero, List.set_cons_succ]
      refine wpAnyH_take (i := 8) (oi := { dst := some 64, op := Op.fieldAddr 62 (Operand.tmp 63) 2, type := 0, pos := "journal.go:97", after := #[{ on := 7, ground := Ground.data }], guard := none }) (v := .pointer (some ⟨PJ, 2, none⟩)) rfl (by kernel_rfl) (by kernel_rfl) (by kernel_rfl) (fun _ _ _ h => h)
        (Or.inl ⟨by rfl, by intro w hSw;  clear hSw; go_simp⟩) hHeld ?_
      try simp only [Act.put, List.setIfInBounds_toArray, List.set_cons_zero, List.set_cons_succ]
      refine wpAnyH_take (i := 9) (oi := { dst := some 65, op := Op.load 60 (Operand.tmp 64), type := 60, pos := "journal.go:97", after := #[{ on := 8, ground := Ground.data }], guard := none }) (v := .int .u64 (N0 : Int)) rfl (by kernel_rfl) (by kernel_rfl) (by kernel_rfl) (fun _ _ _ h => h)
        (Or.inl ⟨by rfl, by intro w hSw; have hq := hSw.cellAt (i := 2) rfl; clear hSw; go_simp⟩) hHeld ?_
      try simp only [Act.put, List.setIfInBounds_toArray, List.set_cons_zero, List.set_cons_succ]
      refine wpAnyH_take (i := 10) (oi := { dst := some 66, op := Op.binOp BinOp.add 60 (Operand.tmp 65) (Operand.const (Value.int IntKind.u64 1)) 60, type := 60, pos := "journal.go:97", after := #[{ on := 9, ground := Ground.data }], guard := none }) (v := .int .u64 (N1 : Int)) rfl (by kernel_rfl) (by kernel_rfl) (by kernel_rfl) (fun _ _ _ h => h)
        (Or.inl ⟨by rfl, by intro w hSw;  clear hSw; go_simp; first | exact HX1.out | rw [HX1.out] | skip⟩) hHeld ?_
      try simp only [Act.put, List.setIfInBounds_toArray, List.set_cons_zero, List.set_cons_succ]
      refine wpAnyH_ready (rs := [11]) (by kernel_rfl) (by simp) ?_
      refine AllReadyH.cons (o := { dst := some 67, op := Op.call { callee := Callee.value (Operand.func 46), args := #[Operand.tmp 61, Operand.tmp 66], argTypes := #[33, 60] }, type := 87, pos := "journal.go:97", after := #[{ on := 5, ground := Ground.data }, { on := 10, ground := Ground.data }], guard := none }) rfl (fun K hK => ?_) AllReadyH.nil
      go_simp
      refine HUN.out.mono ?_
      rintro e w6 ⟨hb6, b6, o6, c6, rfl, hi6⟩
      have B6 : Hid (Below wr.heap.size wr w6) := Lib.hid ((Below.refl wr.heap.size wr).drew.trans hb6)
      have I6 := Lib.hid hi6
      clear hb6 hi6
      go_wp2_with fail
      refine hK.out _ _ (JJ.out w6 B6.out) (fun hHw1 => ?_)
      clear hK K hHeld
      try simp only [Act.put, List.setIfInBounds_toArray, List.set_cons_zero, List.set_cons_succ]
      refine wpAnyH_take (i := 12) (oi := { dst := some 55, op := Op.move (Operand.tmp 67), type := 87, pos := "journal.go:97", after := #[{ on := 11, ground := Ground.data }], guard := none }) (v := .tuple #[.slice (some ⟨b6, o6, none⟩) Q.length c6, .bool true]) rfl (by kernel_rfl) (by kernel_rfl) (by kernel_rfl) (fun _ _ _ h => h)
        (Or.inl ⟨by rfl, by intro w hSw;  clear hSw; go_simp⟩) hHw1 ?_
      try simp only [Act.put, List.setIfInBounds_toArray, List.set_cons_zero, List.set_cons_succ]
      refine wpAnyH_take (i := 13) (oi := { dst := some 68, op := Op.extract (Operand.tmp 55) 0, type := 33, pos := "journal.go:97", after := #[{ on := 12, ground := Ground.data }], guard := none }) (v := .slice (some ⟨b6, o6, none⟩) Q.length c6) rfl (by kernel_rfl) (by kernel_rfl) (by kernel_rfl) (fun _ _ _ h => h)
        (Or.inl ⟨by rfl, by intro w hSw;  clear hSw; go_simp⟩) hHw1 ?_
      try simp only [Act.put, List.setIfInBounds_toArray, List.set_cons_zero, List.set_cons_succ]
      refine wpAnyH_take (i := 14) (oi := { dst := some 69, op := Op.extract (Operand.tmp 55) 1, type := 4, pos := "journal.go:97", after := #[{ on := 12, ground := Ground.data }, { on := 15, ground := Ground.gcOnly Departure.lateStores }], guard := none }) (v := .bool true) rfl (by kernel_rfl) (by kernel_rfl) (by kernel_rfl) (fun _ _ _ h => h)
        (Or.inl ⟨by rfl, by intro w hSw;  clear hSw; go_simp⟩) hHw1 ?_
      try simp only [Act.put, List.setIfInBounds_toArray, List.set_cons_zero, List.set_cons_succ]
      refine wpAnyH_take (i := 15) (oi := { dst := some 12, op := Op.assign (Operand.tmp 68), type := 33, pos := "journal.go:97", after := #[{ on := 13, ground := Ground.data }, { on := 11, ground := Ground.chain }, { on := 0, ground := Ground.phase }, { on := 1, ground := Ground.phase }, { on := 2, ground := Ground.phase }, { on := 3, ground := Ground.phase }, { on := 4, ground := Ground.phase }, { on := 5, ground := Ground.phase }, { on := 6, ground := Ground.phase }, { on := 7, ground := Ground.phase }, { on := 8, ground := Ground.phase }, { on := 9, ground := Ground.phase }, { on := 10, ground := Ground.phase }, { on := 11, ground := Ground.phase }, { on := 12, ground := Ground.phase }, { on := 13, ground := Ground.phase }, { on := 14, ground := Ground.textOnly Departure.lateStores }], guard := none }) (v := .slice (some ⟨b6, o6, none⟩) Q.length c6) rfl (by kernel_rfl) (by kernel_rfl) (by kernel_rfl) (fun _ _ _ h => h)
        (Or.inl ⟨by rfl, by intro w hSw;  clear hSw; go_simp⟩) hHw1 ?_
      try simp only [Act.put, List.setIfInBounds_toArray, List.set_cons_zero, List.set_cons_succ]
      refine wpAnyH_take (i := 16) (oi := { dst := some 13, op := Op.assign (Operand.tmp 69), type := 4, pos := "journal.go:97", after := #[{ on := 14, ground := Ground.data }, { on := 15, ground := Ground.chain }, { on := 0, ground := Ground.phase }, { on := 1, ground := Ground.phase }, { on := 2, ground := Ground.phase }, { on := 3, ground := Ground.phase }, { on := 4, ground := Ground.phase }, { on := 5, ground := Ground.phase }, { on := 6, ground := Ground.phase }, { on := 7, ground := Ground.phase }, { on := 8, ground := Ground.phase }, { on := 9, ground := Ground.phase }, { on := 10, ground := Ground.phase }, { on := 11, ground := Ground.phase }, { on := 12, ground := Ground.phase }, { on := 13, ground := Ground.phase }, { on := 14, ground := Ground.phase }, { on := 15, ground := Ground.phase }], guard := none }) (v := .bool true) rfl (by kernel_rfl) (by kernel_rfl) (by kernel_rfl) (fun _ _ _ h => h)
        (Or.inl ⟨by rfl, by intro w hSw;  clear hSw; go_simp⟩) hHw1 ?_
      try simp only [Act.put, List.setIfInBounds_toArray, List.set_cons_zero, List.set_cons_succ]
      refine wpAnyH_done (by kernel_rfl) ?_ _
      clear hHw1
      have J6 := Lib.hid (JJ.out w6 B6.out)
      obtain ⟨TJ, hTJ⟩ : ∃ TJ, TJ = recs.take j := ⟨_, rfl⟩
      have HTJ := Lib.hid hTJ
      have HAD : Hid (Calls Tryz.prog 30 #[.pointer (some ⟨PJ, 0, none⟩), .slice (some ⟨b6, o6, none⟩) Q.length c6] w6 (AddP PJ pd h N0 (.slice va vn vc) B0 B0 base TJ Q U false false w6)) := Lib.hid (by
        rw [hTJ]
        exact add_ok J6.out (own_later O.out B6.out) (RC.out.later B6.out) (some ⟨b6, o6, none⟩) Q.length c6 Q I6.out K1.out (by have := KU.out; have := I6.out.length; have hq := HTL.out (j + 1); rw [laid_next m base recs j HLT.out, ← HUU.out, ← HQ.out] at hq; have := HRMS.out; omega) (by rw [List.length_take]; have := HRR.out; omega) (Nat.le_trans BBw.out B6.out.size) (Nat.le_refl _) HPJ.out)
      clear HUN JJ hTJ
      go_wp2_with (go_at_call 30; refine HAD.out.mono ?_; rintro e w7 ⟨rfl, hk7, rV7, hj7, hr7, ho7⟩)
      have hb7 : Below B0 w w7 := (BB.out.trans (B6.out.mono BBw.out)).trans (hk7.below (Nat.le_trans BBw.out B6.out.size))
      have V7 := Lib.hid (ownsRow_kp (own_later V.out B6.out) hk7 (by decide))
      have eU : U + (32 + Q.length) = (laidL m base (recs.take (j + 1))).length := by rw [laid_next m base recs j HLT.out, ← HUU.out, ← HQ.out]
      have eN : N0 + 1 = m + 1 + (j + 1) := by rw [HNN.out]; omega
      have eT : recs.take j ++ [Q] = recs.take (j + 1) := by rw [List.take_succ_eq_append_getElem HLT.out, HQ.out, List.getD_eq_getElem?_getD, List.getElem?_eq_getElem HLT.out]; rfl
      have hM7 : numOf w7 PJ = N0 + 1 := numOf_has hj7
      have hM0 : numOf wr PJ = N0 := numOf_has J.out
      rw [eU, eN] at hj7
      rw [HTJ.out, eT] at hr7
      have J7 := Lib.hid hj7
      have R7 := Lib.hid hr7
      have O7 := Lib.hid ho7
      have B7 := Lib.hid hb7
      have HM7 := Lib.hid hM7
      have HM0 := Lib.hid hM0
      clear hj7 hr7 ho7 hb7 hk7 eU eN eT hM7 hM0
      go_roundw
      case rel => exact ⟨j + 1, rV7, HLT.out, J7, R7, V7, O7, B7⟩
      case measure => rw [HM7.out, HM0.out]; have := HNN.out; have := HLT.out; omega
    · have he : j = recs.length := by omega
      have hun := HUE.out N1
      have hre := HRE.out
      rw [← List.take_length (l := recs), ← he, ← HUU.out] at hun hre
      rw [hun] at HUN
      have HE := Lib.hid he
      have HZR := Lib.hid hre
      clear hun hre he hlt
      go_upto_region 13 with fail
      refine wp_region_held_drew (S := fun W => Has W PJ (jC pd h N0 (.slice va vn vc) rV U false false) tJ) (by kernel_rfl) (JJ.out _ (Below.refl _ _).drew) (fun hHeld => ?_)
      refine wpAnyH_take (i := 0) (oi := { dst := some 56, op := Op.move (Operand.tmp 8), type := 33, pos := "journal.go:97", after := #[], guard := none }) (v := .slice (some ⟨g2, 0, none⟩) RM c2) rfl (by kernel_rfl) (by kernel_rfl) (by kernel_rfl) (fun _ _ _ h => h)
        (Or.inl ⟨by rfl, by intro w hSw;  clear hSw; go_simp⟩) hHeld ?_
      try simp only [Act.put, List.setIfInBounds_toArray, List.set_cons_zero, List.set_cons_succ]
      refine wpAnyH_take (i := 1) (oi := { dst := some 57, op := Op.move (Operand.tmp 11), type := 25, pos := "journal.go:97", after := #[], guard := none }) (v := .pointer (some ⟨PJ, 0, none⟩)) rfl (by kernel_rfl) (by kernel_rfl) (by kernel_rfl) (fun _ _ _ h => h)
        (Or.inl ⟨by rfl, by intro w hSw;  clear hSw; go_simp⟩) hHeld ?_
      try simp only [Act.put, List.setIfInBounds_toArray, List.set_cons_zero, List.set_cons_succ]
      refine wpAnyH_take (i := 2) (oi := { dst := some 58, op := Op.nilCheck (Operand.tmp 57), type := 0, pos := "journal.go:97", after := #[{ on := 1, ground := Ground.data }], guard := none }) (v := .pointer (some ⟨PJ, 0, none⟩)) rfl (by kernel_rfl) (by kernel_rfl) (by kernel_rfl) (fun _ _ _ h => h)
        (Or.inl ⟨by rfl, by intro w hSw;  clear hSw; go_simp⟩) hHeld ?_
      try simp only [Act.put, List.setIfInBounds_toArray, List.set_cons_zero, List.set_cons_succ]
      refine wpAnyH_take (i := 3) (oi := { dst := some 59, op := Op.fieldAddr 62 (Operand.tmp 58) 5, type := 0, pos := "journal.go:97", after := #[{ on := 2, ground := Ground.data }], guard := none }) (v := .pointer (some ⟨PJ, 5, none⟩)) rfl (by kernel_rfl) (by kernel_rfl) (by kernel_rfl) (fun _ _ _ h => h)
        (Or.inl ⟨by rfl, by intro w hSw;  clear hSw; go_simp⟩) hHeld ?_
      try simp only [Act.put, List.setIfInBounds_toArray, List.set_cons_zero, List.set_cons_succ]
      refine wpAnyH_take (i := 4) (oi := { dst := some 60, op := Op.load 3 (Operand.tmp 59), type := 3, pos := "journal.go:97", after := #[{ on := 3, ground := Ground.data }], guard := none }) (v := .int .i64 (U : Int)) rfl (by kernel_rfl) (by kernel_rfl) (by kernel_rfl) (fun _ _ _ h => h)
        (Or.inl ⟨by rfl, by intro w hSw; have hq := hSw.cellAt (i := 5) rfl; clear hSw; go_simp⟩) hHeld ?_
      try simp only [Act.put, List.setIfInBounds_toArray, List.set_cons_zero, List.set_cons_succ]
      refine wpAnyH_take (i := 5) (oi := { dst := some 61, op := Op.slice 33 (Operand.tmp 56) (some (Operand.tmp 60)) none none, type := 33, pos := "journal.go:97", after := #[{ on := 0, ground := Ground.data }, { on := 4, ground := Ground.data }], guard := none }) (v := .slice A2 (RM - U) (c2 - U)) rfl (by kernel_rfl) (by kernel_rfl) (by kernel_rfl) (fun _ _ _ h => h)
        (Or.inl ⟨by rfl, by intro w hSw;  clear hSw; go_simp; first | rw [HA2.out] | skip⟩) hHeld ?_
      try simp only [Act.put, List.setIfInBounds_toArray, List.set_cons_zero, List.set_cons_succ]
      refine wpAnyH_take (i := 6) (oi := { dst := some 62, op := Op.move (Operand.tmp 11), type := 25, pos := "journal.go:97", after := #[], guard := none }) (v := .pointer (some ⟨PJ, 0, none⟩)) rfl (by kernel_rfl) (by kernel_rfl) (by kernel_rfl) (fun _ _ _ h => h)
        (Or.inl ⟨by rfl, by intro w hSw;  clear hSw; go_simp⟩) hHeld ?_
      try simp only [Act.put, List.setIfInBounds_toArray, List.set_cons_zero, List.set_cons_succ]
      refine wpAnyH_take (i := 7) (oi := { dst := some 63, op := Op.nilCheck (Operand.tmp 62), type := 0, pos := "journal.go:97", after := #[{ on := 6, ground := Ground.data }], guard := none }) (v := .pointer (some ⟨PJ, 0, none⟩)) rfl (by kernel_rfl) (by kernel_rfl) (by kernel_rfl) (fun _ _ _ h => h)
        (Or.inl ⟨by rfl, by intro w hSw;  clear hSw; go_simp⟩) hHeld ?_
      try simp only [Act.put, List.setIfInBounds_toArray, List.set_cons_zero, List.set_cons_succ]
      refine wpAnyH_take (i := 8) (oi := { dst := some 64, op := Op.fieldAddr 62 (Operand.tmp 63) 2, type := 0, pos := "journal.go:97", after := #[{ on := 7, ground := Ground.data }], guard := none }) (v := .pointer (some ⟨PJ, 2, none⟩)) rfl (by kernel_rfl) (by kernel_rfl) (by kernel_rfl) (fun _ _ _ h => h)
        (Or.inl ⟨by rfl, by intro w hSw;  clear hSw; go_simp⟩) hHeld ?_
      try simp only [Act.put, List.setIfInBounds_toArray, List.set_cons_zero, List.set_cons_succ]
      refine wpAnyH_take (i := 9) (oi := { dst := some 65, op := Op.load 60 (Operand.tmp 64), type := 60, pos := "journal.go:97", after := #[{ on := 8, ground := Ground.data }], guard := none }) (v := .int .u64 (N0 : Int)) rfl (by kernel_rfl) (by kernel_rfl) (by kernel_rfl) (fun _ _ _ h => h)
        (Or.inl ⟨by rfl, by intro w hSw; have hq := hSw.cellAt (i := 2) rfl; clear hSw; go_simp⟩) hHeld ?_
      try simp only [Act.put, List.setIfInBounds_toArray, List.set_cons_zero, List.set_cons_succ]
      refine wpAnyH_take (i := 10) (oi := { dst := some 66, op := Op.binOp BinOp.add 60 (Operand.tmp 65) (Operand.const (Value.int IntKind.u64 1)) 60, type := 60, pos := "journal.go:97", after := #[{ on := 9, ground := Ground.data }], guard := none }) (v := .int .u64 (N1 : Int)) rfl (by kernel_rfl) (by kernel_rfl) (by kernel_rfl) (fun _ _ _ h => h)
        (Or.inl ⟨by rfl, by intro w hSw;  clear hSw; go_simp; first | exact HX1.out | rw [HX1.out] | skip⟩) hHeld ?_
      try simp only [Act.put, List.setIfInBounds_toArray, List.set_cons_zero, List.set_cons_succ]
      refine wpAnyH_ready (rs := [11]) (by kernel_rfl) (by simp) ?_
      refine AllReadyH.cons (o := { dst := some 67, op := Op.call { callee := Callee.value (Operand.func 46), args := #[Operand.tmp 61, Operand.tmp 66], argTypes := #[33, 60] }, type := 87, pos := "journal.go:97", after := #[{ on := 5, ground := Ground.data }, { on := 10, ground := Ground.data }], guard := none }) rfl (fun K hK => ?_) AllReadyH.nil
      go_simp
      refine HUN.out.mono ?_
      rintro e w6 ⟨hb6, rfl⟩
      have B6 : Hid (Below wr.heap.size wr w6) := Lib.hid ((Below.refl wr.heap.size wr).drew.trans hb6)
      clear hb6
      go_wp2_with fail
      refine hK.out _ _ (JJ.out w6 B6.out) (fun hHw1 => ?_)
      clear hK K hHeld
      try simp only [Act.put, List.setIfInBounds_toArray, List.set_cons_zero, List.set_cons_succ]
      refine wpAnyH_take (i := 12) (oi := { dst := some 55, op := Op.move (Operand.tmp 67), type := 87, pos := "journal.go:97", after := #[{ on := 11, ground := Ground.data }], guard := none }) (v := .tuple #[.slice none 0 0, .bool false]) rfl (by kernel_rfl) (by kernel_rfl) (by kernel_rfl) (fun _ _ _ h => h)
        (Or.inl ⟨by rfl, by intro w hSw;  clear hSw; go_simp⟩) hHw1 ?_
      try simp only [Act.put, List.setIfInBounds_toArray, List.set_cons_zero, List.set_cons_succ]
      refine wpAnyH_take (i := 13) (oi := { dst := some 68, op := Op.extract (Operand.tmp 55) 0, type := 33, pos := "journal.go:97", after := #[{ on := 12, ground := Ground.data }], guard := none }) (v := .slice none 0 0) rfl (by kernel_rfl) (by kernel_rfl) (by kernel_rfl) (fun _ _ _ h => h)
        (Or.inl ⟨by rfl, by intro w hSw;  clear hSw; go_simp⟩) hHw1 ?_
      try simp only [Act.put, List.setIfInBounds_toArray, List.set_cons_zero, List.set_cons_succ]
      refine wpAnyH_take (i := 14) (oi := { dst := some 69, op := Op.extract (Operand.tmp 55) 1, type := 4, pos := "journal.go:97", after := #[{ on := 12, ground := Ground.data }, { on := 15, ground := Ground.gcOnly Departure.lateStores }], guard := none }) (v := .bool false) rfl (by kernel_rfl) (by kernel_rfl) (by kernel_rfl) (fun _ _ _ h => h)
        (Or.inl ⟨by rfl, by intro w hSw;  clear hSw; go_simp⟩) hHw1 ?_
      try simp only [Act.put, List.setIfInBounds_toArray, List.set_cons_zero, List.set_cons_succ]
      refine wpAnyH_take (i := 15) (oi := { dst := some 12, op := Op.assign (Operand.tmp 68), type := 33, pos := "journal.go:97", after := #[{ on := 13, ground := Ground.data }, { on := 11, ground := Ground.chain }, { on := 0, ground := Ground.phase }, { on := 1, ground := Ground.phase }, { on := 2, ground := Ground.phase }, { on := 3, ground := Ground.phase }, { on := 4, ground := Ground.phase }, { on := 5, ground := Ground.phase }, { on := 6, ground := Ground.phase }, { on := 7, ground := Ground.phase }, { on := 8, ground := Ground.phase }, { on := 9, ground := Ground.phase }, { on := 10, ground := Ground.phase }, { on := 11, ground := Ground.phase }, { on := 12, ground := Ground.phase }, { on := 13, ground := Ground.phase }, { on := 14, ground := Ground.textOnly Departure.lateStores }], guard := none }) (v := .slice none 0 0) rfl (by kernel_rfl) (by kernel_rfl) (by kernel_rfl) (fun _ _ _ h => h)
        (Or.inl ⟨by rfl, by intro w hSw;  clear hSw; go_simp⟩) hHw1 ?_
      try simp only [Act.put, List.setIfInBounds_toArray, List.set_cons_zero, List.set_cons_succ]
      refine wpAnyH_take (i := 16) (oi := { dst := some 13, op := Op.assign (Operand.tmp 69), type := 4, pos := "journal.go:97", after := #[{ on := 14, ground := Ground.data }, { on := 15, ground := Ground.chain }, { on := 0, ground := Ground.phase }, { on := 1, ground := Ground.phase }, { on := 2, ground := Ground.phase }, { on := 3, ground := Ground.phase }, { on := 4, ground := Ground.phase }, { on := 5, ground := Ground.phase }, { on := 6, ground := Ground.phase }, { on := 7, ground := Ground.phase }, { on := 8, ground := Ground.phase }, { on := 9, ground := Ground.phase }, { on := 10, ground := Ground.phase }, { on := 11, ground := Ground.phase }, { on := 12, ground := Ground.phase }, { on := 13, ground := Ground.phase }, { on := 14, ground := Ground.phase }, { on := 15, ground := Ground.phase }], guard := none }) (v := .bool false) rfl (by kernel_rfl) (by kernel_rfl) (by kernel_rfl) (fun _ _ _ h => h)
        (Or.inl ⟨by rfl, by intro w hSw;  clear hSw; go_simp⟩) hHw1 ?_
      try simp only [Act.put, List.setIfInBounds_toArray, List.set_cons_zero, List.set_cons_succ]
      refine wpAnyH_done (by kernel_rfl) ?_ _
      clear hHw1
      have J6 := Lib.hid (JJ.out w6 B6.out)
      have q5 := J6.out.cellAt (i := 5) rfl
      have q6 := J6.out.cellAt (i := 6) rfl
      have f6 := J6.out.frozen 6
      have HTR : Hid (Calls Tryz.prog 47 #[.slice (if c2 = U then some (⟨g2, 0, none⟩ : Addr) else some ⟨g2, U, none⟩) (RM - U) (c2 - U), .string ⟨#[0]⟩] w6 fun e w' => (∃ a' c', e = .returned (.slice a' 0 c')) ∧ Below w6.heap.size w6 w') := Lib.hid (by
        have h := trim_any A2 (RM - U) (c2 - U) w6 (by have h := HI.out.later B6.out; rw [HZR.out] at h; exact zer_isB h)
        rw [HA2.out] at h; exact h)
      have JK : Hid (∀ x, Below w6.heap.size w6 x → Has x PJ (jC pd h N0 (.slice va vn vc) rV U false false) tJ ∧ x.cell? ⟨PJ, 6, none⟩ = some (.bool false) ∧ x.frozen? ⟨PJ, 6, none⟩ = false) := Lib.hid (fun x hx => by
        have h := (hx.block PJ J6.out.lt).trans J6.out
        exact ⟨h, Has.cellAt (i := 6) h rfl, Has.frozen h 6⟩)
      clear q6 f6 JJ HUN
      go_wp2_with (go_at_call 47; refine HTR.out.mono ?_; rintro e w8 ⟨⟨a8, c8, rfl⟩, hb8⟩; obtain ⟨j8, q8, f8⟩ := JK.out w8 hb8; have J8 := Lib.hid j8; have B8 := Lib.hid hb8; clear j8 hb8)
      all_goals
        go_ret2
        have eU : U = (laidL m base recs).length := by rw [HUU.out, HE.out, List.take_length]
        have eN : N0 = m + 1 + recs.length := by rw [HNN.out, HE.out]
        have hb9 : Below B0 w w8 := (BB.out.trans (B6.out.mono BBw.out)).trans (B8.out.mono (Nat.le_trans BBw.out B6.out.size))
        have o9 := own_later (own_later O.out B6.out) B8.out
        have r9 := (RC.out.later B6.out).later B8.out
        rw [HE.out, List.take_length] at r9
        refine ⟨PJ, .slice va vn vc, rV, rfl, by rw [← HB0.out]; exact HPJ.out, ?_, ?_, ?_, ?_⟩
        · rw [← eN, ← eU]; exact J8.out.set 6 _
        · rw [← HB0.out]; exact owns_set o9 J8.out (by decide) 6 _
        · rw [← HB0.out]; exact recs_set r9 J8.out (by decide) (by decide) 6 _
        · rw [← HB0.out]; exact hb9.setCell (p := ⟨PJ, 6, none⟩) HPJ.out _

end Go.Proofs.YtgjckddcnmbceaaGreatDoor

/-
  The law JournalKeeps holds at any texts. Conditions: what is laid; the texts.
-/
import Derived.Test.YtgjckddcnmbceaaGreatDoorJTurn
namespace Go.Proofs.YtgjckddcnmbceaaGreatDoor
open Go.RowKit
set_option linter.unusedVariables false

theorem infoU8 : ∃ i, Tryz.prog.info? 5 = some i ∧ i.zero = some (.int .u8 0) ∧ i.size = 1 ∧ i.bytes = 1 := by
  have h : (Tryz.prog.info? 5).map (fun i => (i.zero, i.size, i.bytes)) = some (some (.int .u8 0), 1, 1) := by kernel_rfl
  obtain ⟨i, hi, hx⟩ := Option.map_eq_some_iff.1 h
  simp only [Prod.mk.injEq] at hx
  exact ⟨i, hi, hx.1, hx.2.1, hx.2.2⟩

theorem Apt.but {w w' : World} {lo M n g : Nat} {v : Value} (h : Apt w lo M v n) (hb : But w.heap.size g w w') (hg : g < lo) : Apt w' lo M v n := by
  rcases h with h | ⟨g', c, e, a1, a2, ⟨X, hX, r⟩, r2⟩
  · exact .inl h
  · exact .inr ⟨g', c, e, a1, a2, ⟨X, hX.but hb hX.lt (by omega), r⟩, r2⟩
theorem isB_own {w : World} {B n : Nat} {v : Value} {l : List UInt8} (h : w.ownsRow B 5 1 v n (l.map bv)) (hl : l.length = n) (hn : n ≤ 140737488355328) : ∃ a c, v = .slice a n c ∧ IsB w a n c l := by
  subst hl; exact isB_owned h hn
theorem Jn.base_ {w : World} {B Bo pd pj n k h m : Nat} {L base : List UInt8} {recs : List (List UInt8)} (j : Jn w B Bo pd pj n k h m L base recs) (hb : base.length ≤ 1000000) :
    Calls Tryz.prog 25 #[.pointer (some ⟨pj, 0, none⟩)] w fun e w' => ∃ v, e = .returned v ∧ w'.ownsRow w.heap.size 5 1 v base.length (base.map bv) ∧ Below w.heap.size w w' := by
  obtain ⟨bV, rV, h3, h4, h5⟩ := j.own
  exact base_any h3 h4 (by omega)
theorem isB_slice {w : World} {B n c : Nat} {a : Option Addr} {l : List UInt8} (h : w.ownsRow B 5 1 (.slice a n c) n (l.map bv)) (hl : l.length = n) (hn : n ≤ 140737488355328) : IsB w a n c l := by
  obtain ⟨a', c', e, hi⟩ := isB_own h hl hn
  cases e; exact hi
theorem Jn.record1 {w : World} {B Bo pd pj n k h m : Nat} {L base D : List UInt8} (j : Jn w B Bo pd pj n k h m L base [D]) (hB : Bo ≤ w.heap.size) (hD : D.length ≤ 1000000) :
    Calls Tryz.prog 23 #[.pointer (some ⟨pj, 0, none⟩)] w fun e w' => ∃ g c v, e = .returned (.slice (some ⟨g, 0, none⟩) 1 c) ∧ 1 ≤ c ∧ c ≤ maxLen ∧ w'.cell? ⟨g, 0, none⟩ = some v ∧ w'.ownsRow w.heap.size 5 1 v D.length (D.map bv) ∧ Below w.heap.size w w' := by
  obtain ⟨bV, rV, h3, h4, h5⟩ := j.own
  refine (records_any h3 h5 hB (by intro i hi; obtain rfl : i = 0 := (by have h9 : i < 1 := hi; omega); exact hD) (by simp)).mono ?_
  rintro e w1 ⟨v1, rfl, hr1, hb1⟩
  obtain ⟨vs, hrv, hrs⟩ := hr1
  have hv0 := hrs 0 (by simp)
  rcases hrv.2 with ⟨rfl, h0⟩ | ⟨g, cap, cur, rfl, hg, hgg, hle, hmx, hsz, htk⟩
  · simp at h0
  · have hcc := World.ownsRow.cellAt hrv 0 (by simp)
    have hvl : vs.length = 1 := by have := hrv.1; simpa using this
    refine ⟨g, cap, vs.getD 0 undef, rfl, hle, hmx, ?_, hv0, hb1⟩
    rw [hcc, List.getD_eq_getElem?_getD, List.getElem?_eq_getElem (by omega)]; rfl
theorem same_one {w : World} {B Bo pd pj n k h m : Nat} {L A D : List UInt8} (j : Jn w B Bo pd pj n k h m L A [D]) (hB : Bo ≤ w.heap.size) (hA : A.length ≤ 1000000) (hD : D.length ≤ 1000000) :
    Calls Tryz.prog 16 #[.pointer (some ⟨pj, 0, none⟩), .string ⟨A.toArray⟩, .slice (some ⟨w.heap.size, 0, none⟩) 1 1] (w.alloc (.cells #[.string ⟨D.toArray⟩] 9)) fun e w' => e = .returned (.bool true) ∧ Below w.heap.size w w' := by
  obtain ⟨C, hC⟩ : ∃ C : Array Value, C = #[.string ⟨D.toArray⟩] := ⟨_, rfl⟩
  rw [← hC]
  have hr : (w.alloc (.cells C 9)).heap[w.heap.size]? = some (.cells C 9) := by show (w.heap.push _)[w.heap.size]? = _; simp
  have hs6 : (w.alloc (.cells C 9)).heap.size = w.heap.size + 1 := by simp
  have hb := below_row w C 9 (0, 0)
  refine (same_any (j.later hb) (by omega) hA (by intro i hi; obtain rfl : i = 0 := (by have h9 : i < 1 := hi; omega); exact hD) (by simp) (some ⟨w.heap.size, 0, none⟩) 1
    (fun i hi => by
      refine ⟨_, 0, rfl, by omega, ?_⟩
      rw [Joins.cell_of_block hr, hC]
      obtain rfl : i = 0 := by have h9 : i < 1 := hi; omega
      rfl) ⟨by simp, by unfold maxLen; omega⟩).mono ?_
  rintro e w' ⟨he, hx⟩
  exact ⟨he, hb.trans (hx.mono (by omega))⟩
set_option maxRecDepth 100000 in
set_option maxHeartbeats 4000000 in
theorem keeps_any {w : World} (hl : LaidW w) (a : Option Addr) (la ca : Nat) (A : List UInt8) (ha : IsB w a la ca A) (b : Option Addr) (lb cb : Nat) (D : List UInt8) (hd : IsB w b lb cb D) :
    Calls Tryz.prog 7 #[.slice a la ca, .slice b lb cb] w fun e w' => e = .returned (.bool true) ∧ Below w.heap.size w w' := by
  have HAW : Hid (∀ x, Below w.heap.size w x → Calls Tryz.prog 8 #[] x fun e w' => e = .returned (.bool true) ∧ Below x.heap.size x w') := Lib.hid (fun x hx => awake_any x (hl.below hx hl.two))
  have HFR : Hid (∀ x, Below w.heap.size w x → Calls Tryz.prog 9 #[.int .i64 60] x (FreshP 60 x)) := Lib.hid (fun x hx => fresh_any 60 x (hl.below hx hl.two) (by decide) (by decide))
  have HLW := Lib.hid hl
  have HA := Lib.hid ha
  have HD := Lib.hid hd
  have m1 := ha.most
  have m2 := hd.most
  have e1 : wrap64 ((la : Int) + (lb : Int)) = (la : Int) + (lb : Int) := by unfold wrap64; omega
  obtain ⟨i0, hi, hz0, hz1, hz2⟩ := infoU8
  have HI := Lib.hid hi
  have HZ0 := Lib.hid hz0
  have HZ1 := Lib.hid hz1
  have HZ2 := Lib.hid hz2
  clear hl ha hd hi hz0 hz1 hz2
  by_cases hbig : 2000 < la + lb
  · have hi1 : (2000 : Int) < (la : Int) + (lb : Int) := by omega
    have W0 := Lib.hid (HAW.out w (Below.refl _ _))
    go_enter Tryz.func7, Tryz.ntmps7
    go_wp2_with (first | (go_at_call 8; refine W0.out.mono ?_; rintro e w1 ⟨rfl, hb1⟩; have W1 := Lib.hid (HAW.out w1 hb1); have B1 := Lib.hid hb1; clear hb1 W0) | (go_at_call 8; refine W1.out.mono ?_; rintro e w2 ⟨rfl, hb2⟩))
    go_ret
    exact ⟨rfl, B1.out.trans (hb2.mono B1.out.size)⟩
  · have hi1 : ¬ (2000 : Int) < (la : Int) + (lb : Int) := by omega
    have W0 := Lib.hid (HAW.out w (Below.refl _ _))
    go_enter Tryz.func7, Tryz.ntmps7
    go_wp2_with (first
      | (go_at_call 8; refine W0.out.mono ?_; rintro e w1 ⟨rfl, hb1⟩; have B1 := Lib.hid hb1; have HF := Lib.hid (HFR.out w1 hb1); clear hb1 W0)
      | (go_at_call 9; refine HF.out.mono ?_; rintro e w2 ⟨pd, pj, L, rfl, hj, hb2⟩; have B2 := Lib.hid (B1.out.trans (hb2.mono B1.out.size)); have IA := Lib.hid (HA.out.later B2.out); have J2 := Lib.hid hj; clear hj HF)
      | (at_builtin; go_must (refine app_bytes rfl (.const (.slice none 0 0)) _ 33 rfl w2.heap.size 5 i0 Tryz.underlying33 HI.out HZ0.out HZ1.out HZ2.out _ 0 [] rfl (World.ownsRow_nil _ _ _ _) a la ca A rfl IA.out (by omega) (Nat.le_refl _) ?_)))
    intro vp w3 hop hgp
    have B23 : Below w2.heap.size w2 w3 := row_below (Below.refl _ _) (Nat.le_refl _) (World.ownsRow_nil w2 w2.heap.size 5 1) hgp
    have B3 := Lib.hid (B2.out.trans (B23.mono B2.out.size))
    have J3 := Lib.hid (J2.out.later B23)
    have S23 := Lib.hid B23.size
    have hop' : w3.ownsRow w2.heap.size 5 1 vp la (A.map bv) := by simpa using hop
    have OP := Lib.hid hop'
    have ID := Lib.hid (HD.out.later B3.out)
    clear hop hgp B23 hop'
    go_wp2_with (at_builtin; go_must (refine app_bytes rfl (.const (.slice none 0 0)) _ 33 rfl w3.heap.size 5 i0 Tryz.underlying33 HI.out HZ0.out HZ1.out HZ2.out _ 0 [] rfl (World.ownsRow_nil _ _ _ _) b lb cb D rfl ID.out (by omega) (Nat.le_refl _) ?_))
    intro vq w4 hoq hgq
    have B34 : Below w3.heap.size w3 w4 := row_below (Below.refl _ _) (Nat.le_refl _) (World.ownsRow_nil w3 w3.heap.size 5 1) hgq
    have hoq' : w4.ownsRow w3.heap.size 5 1 vq lb (D.map bv) := by simpa using hoq
    have B4 := Lib.hid (B3.out.trans (B34.mono B3.out.size))
    have J4 := Lib.hid (J3.out.later B34)
    have AP4 : Hid (Apt w4 w1.heap.size w3.heap.size vp la) := Lib.hid (by
      have h := apt_owned OP.out
      rcases h with h | ⟨g, c, e, a1, a2, ⟨X, hX, r⟩, r2⟩
      · exact .inl h
      · exact .inr ⟨g, c, e, Nat.le_trans (by have := J2.out.dev.lo; omega) a1, a2, ⟨X, hX.below B34 hX.lt, r⟩, r2⟩)
    have OP4 := Lib.hid (own_later OP.out B34)
    have S34 := Lib.hid B34.size
    have OQ4 := Lib.hid hoq'
    have AQ4 := Lib.hid (apt_owned hoq')
    have HLA := Lib.hid HA.out.length
    have HLD := Lib.hid HD.out.length
    obtain ⟨pa, pc, rfl, hip⟩ := isB_own OP4.out HLA.out m1
    obtain ⟨qa, qc, rfl, hiq⟩ := isB_own OQ4.out HLD.out m2
    have RS := Lib.hid (J4.out.reset (HLW.out.below B4.out HLW.out.two) (Nat.lt_of_lt_of_le HLW.out.two B1.out.size) (Nat.le_trans (by have := J2.out.dev.lo; omega) (Nat.le_trans S23.out S34.out)) pa la pc A hip (by decide) (by rw [HLA.out, show 256 * half 60 = 7424 from rfl]; omega) (by decide) (by decide) (by decide))
    clear hoq hgq hoq' hip hiq B34
    have LT : Hid (w1.heap.size < w2.heap.size) := Lib.hid (by have := J2.out.dev.lo; omega)
    have ma : la ≤ 1000000 := by omega
    have mb : lb ≤ 1000000 := by omega
    have MA := Lib.hid ma
    have MB := Lib.hid mb
    clear ma mb
    go_wp2_with (first
      | (go_at_call 13; refine RS.out.mono ?_; rintro e w5 ⟨rfl, ⟨L5, hj5⟩, hk5⟩;
         have B5 := Lib.hid (B4.out.trans ((hk5.below (Nat.le_trans (Nat.le_of_lt LT.out) (Nat.le_trans S23.out S34.out))).mono B1.out.size));
         have OQ5 := Lib.hid (ownsRow_kp OQ4.out hk5 (by decide));
         have AP5 := Lib.hid (AP4.out.kp hk5 (by decide));
         have AQ5 := Lib.hid (AQ4.out.kp hk5 (by decide));
         have S45 := Lib.hid hk5.size;
         have RA := Lib.hid (hj5.app (HLW.out.below B5.out HLW.out.two) (Nat.lt_of_lt_of_le HLW.out.two B1.out.size) (Nat.le_trans (Nat.le_of_lt LT.out) (Nat.le_trans S23.out S34.out)) hk5.size qa lb qc D (isB_slice OQ5.out HLD.out m2) (fun b off e h0 => (safe_owned OQ5.out h0 e).soft) (by decide) (by rw [laid_first, HLA.out, HLD.out, show 256 * half 60 = 7424 from rfl]; omega) (by decide) (by decide) (by decide));
         clear hj5 hk5 RS)
      | (go_at_call 11; refine RA.out.mono ?_; rintro e w6 ⟨rfl, ⟨L6, hj6⟩, hk6⟩;
         rw [List.nil_append] at hj6;
         have S46 := Lib.hid (Nat.le_trans S45.out hk6.size);
         have B6 := Lib.hid (B5.out.trans ((hk6.below (Nat.le_trans (Nat.le_of_lt LT.out) (Nat.le_trans S23.out (Nat.le_trans S34.out S45.out)))).mono B1.out.size));
         have J6 := Lib.hid hj6;
         have AQ6 := Lib.hid (AQ5.out.kp hk6 (by decide));
         have TP := Lib.hid (turn_apt (AP5.out.kp hk6 (by decide)) MA.out (Nat.lt_of_lt_of_le LT.out S23.out));
         clear hj6 hk6 RA)
      | (go_at_call 24; refine TP.out.mono ?_; rintro e w7 ⟨rfl, hk7, g7, hg7, hb7⟩;
         have S47 := Lib.hid (Nat.le_trans S46.out hk7.size);
         have B7 := Lib.hid (B6.out.trans ((hk7.below (Nat.le_trans (Nat.le_of_lt LT.out) (Nat.le_trans S23.out (Nat.le_trans S34.out S46.out)))).mono B1.out.size));
         have J7 := Lib.hid (J6.out.turned hk7 hb7 (Nat.lt_of_lt_of_le hg7 S34.out));
         have TQ := Lib.hid (turn_apt ((AQ6.out.but hb7 hg7).mono (lo' := w1.heap.size) (Nat.le_trans (Nat.le_of_lt LT.out) S23.out) (Nat.le_refl _)) MB.out (Nat.lt_of_lt_of_le LT.out (Nat.le_trans S23.out S34.out)));
         clear hk7 hg7 hb7 TP)
      | (go_at_call 24; refine TQ.out.mono ?_; rintro e w8 ⟨rfl, hk8, g8, hg8, hb8⟩;
         have S48 := Lib.hid (Nat.le_trans S47.out hk8.size);
         have B8 := Lib.hid (B7.out.trans ((hk8.below (Nat.le_trans (Nat.le_of_lt LT.out) (Nat.le_trans S23.out (Nat.le_trans S34.out S47.out)))).mono B1.out.size));
         have J8 := Lib.hid (J7.out.turned hk8 hb8 hg8);
         have RB := Lib.hid (J8.out.base_ (by rw [HLA.out]; exact MA.out));
         clear hk8 hg8 hb8 TQ)
      | (go_at_call 25; refine RB.out.mono ?_; rintro e w9 ⟨v9, rfl, ho9, hb9⟩;
         have S89 := Lib.hid hb9.size;
         have B89 := Lib.hid hb9;
         have TB := Lib.hid (turn_apt (((apt_owned ho9)).mono (Nat.le_refl _) (Nat.le_succ _)) (by rw [HLA.out]; exact MA.out) (Nat.lt_succ_of_le hb9.size));
         clear ho9 hb9 RB)
      | (go_at_call 24; refine TB.out.mono ?_; rintro e w10 ⟨rfl, hk10, _⟩;
         have B810 : Hid (Below w8.heap.size w8 w10) := Lib.hid (B89.out.trans (hk10.below S89.out));
         have B10 := Lib.hid (B8.out.trans (B810.out.mono B8.out.size));
         have J10 := Lib.hid (J8.out.later B810.out);
         have S410 := Lib.hid (Nat.le_trans S48.out B810.out.size);
         have RR := Lib.hid (J10.out.record1 S410.out (by rw [HLD.out]; exact MB.out));
         clear hk10 TB)
      | (go_at_call 23; refine RR.out.mono ?_; rintro e w11 ⟨g11, c11, v11, rfl, l11, x11, cl11, ho11, hb11⟩;
         have c11m : c11 ≤ 9223372036854775807 := by (unfold maxLen at x11; omega);
         have S1011 := Lib.hid hb11.size;
         have B1011 := Lib.hid hb11;
         have TR := Lib.hid (turn_apt (((apt_owned ho11)).mono (Nat.le_refl _) (Nat.le_succ _)) (by rw [HLD.out]; exact MB.out) (Nat.lt_succ_of_le hb11.size));
         clear x11 ho11 hb11 RR)
      | (go_at_call 24; refine TR.out.mono ?_; rintro e w12 ⟨rfl, hk12, _⟩;
         have B1012 : Hid (Below w10.heap.size w10 w12) := Lib.hid (B1011.out.trans (hk12.below S1011.out));
         have B12 := Lib.hid (B10.out.trans (B1012.out.mono B10.out.size));
         have J12 := Lib.hid (J10.out.later B1012.out);
         have S412 := Lib.hid (Nat.le_trans S410.out B1012.out.size);
         have IA12 := HA.out.later B12.out;
         have ID12 := HD.out.later B12.out;
         have cA := conv_isB IA12;
         have cD := conv_isB ID12;
         have RM := Lib.hid (same_one J12.out S412.out (by rw [HLA.out]; exact MA.out) (by rw [HLD.out]; exact MB.out));
         clear IA12 ID12 hk12 TR)
      | (go_at_call 16; refine RM.out.mono ?_; rintro e w13 ⟨rfl, hb13⟩;
         have J13 := Lib.hid (J12.out.later hb13);
         have B13 := Lib.hid (B12.out.trans (hb13.mono B12.out.size));
         have S13 := Lib.hid (Nat.le_trans B12.out.size hb13.size);
         have S113 := Lib.hid (Nat.le_trans (Nat.le_trans (Nat.le_of_lt LT.out) (Nat.le_trans S23.out (Nat.le_trans S34.out S412.out))) hb13.size);
         have RT := Lib.hid J13.out.restart;
         clear hb13 RM cA cD)
      | (go_at_call 14; refine RT.out.mono ?_; rintro e w14 ⟨rfl, hd14, hk14⟩;
         have B14 := Lib.hid (B13.out.trans ((hk14.below S113.out).mono B1.out.size));
         have RO := Lib.hid (open_jn hd14 J13.out.on_ (HLW.out.below B14.out HLW.out.two) (Nat.le_trans S113.out hk14.size) (by decide) (by decide) (by decide));
         clear hd14 hk14 RT)
      | (go_at_call 15; refine RO.out.mono ?_; rintro e w15 ⟨p15, rfl, hj15, hb15⟩;
         have B15 := Lib.hid (B14.out.trans (hb15.mono B14.out.size));
         have IA15 := HA.out.later B15.out;
         have ID15 := HD.out.later B15.out;
         have cA := conv_isB IA15;
         have cD := conv_isB ID15;
         have RN := Lib.hid (same_one hj15 hb15.size (by rw [HLA.out]; exact MA.out) (by rw [HLD.out]; exact MB.out));
         clear IA15 ID15 hj15 hb15 RO)
      | (go_at_call 16; refine RN.out.mono ?_; rintro e w16 ⟨rfl, hb16⟩))
    go_ret
    exact ⟨rfl, B15.out.trans (hb16.mono B15.out.size)⟩
end Go.Proofs.YtgjckddcnmbceaaGreatDoor

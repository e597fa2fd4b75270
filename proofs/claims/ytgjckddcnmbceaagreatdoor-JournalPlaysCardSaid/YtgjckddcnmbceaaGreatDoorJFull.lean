/-
  The journal's steps where there is no room (Reset), and Free and Room at the journal as a whole; what JournalFull needs besides. Conditions: the journal's block.
-/
import Derived.Test.YtgjckddcnmbceaaGreatDoorJKeeps
namespace Go.Proofs.YtgjckddcnmbceaaGreatDoor
open Go.RowKit
set_option linter.unusedVariables false

set_option maxRecDepth 100000 in
set_option maxHeartbeats 2000000 in
theorem reset_full {w : World} {B pd pj n m k h N used : Nat} {L : List UInt8} {bV rV : Value} {st : Bool} (hj : Has w pj (jC pd h N bV rV used st false) tJ) (a : Option Addr) (len cap : Nat)
    (hd : Dv w B pd n L m k) (hr : 256 * half n ≤ 1000000000) (hfull : 256 * half n < 32 + len) :
    Calls Tryz.prog 13 #[.pointer (some ⟨pj, 0, none⟩), .slice a len cap] w fun e w' => e = .returned (.int .i64 15) ∧ Below w.heap.size w w' := by
  have HRN := Lib.hid (renew_any hj)
  have HR := Lib.hid (room_any hj hd)
  obtain ⟨RM, hRM⟩ : ∃ RM, RM = 256 * half n := ⟨_, rfl⟩
  rw [← hRM] at HR hr hfull
  have hi1 : (RM : Int) - 32 < (len : Int) := by omega
  have e1 : wrap64 ((RM : Int) - 32) = (RM : Int) - 32 := by unfold wrap64; omega
  clear hj hd hRM hr hfull
  go_enter Tryz.func13, Tryz.ntmps13
  go_wp2_with (first | (go_at_call 28; refine HRN.out.mono ?_; rintro e w0 ⟨rfl, rfl⟩) | (go_at_call 19; refine HR.out.mono ?_; rintro e w0 ⟨rfl, rfl⟩))
  go_ret
  exact ⟨rfl, Below.refl _ _⟩

section
variable {w : World} {B Bo pd pj n k h m : Nat} {L base : List UInt8} {recs : List (List UInt8)}
theorem Jn.more {k' : Nat} (j : Jn w B Bo pd pj n k h m L base recs) (hk : k ≤ k') : Jn w B Bo pd pj n k' h m L base recs :=
  ⟨j.dev.more (Nat.le_refl _) hk, j.on_, j.own, j.pjB⟩
theorem Jn.free (j : Jn w B Bo pd pj n k h m L base recs) (hb : 256 * half n ≤ 90000) :
    Calls Tryz.prog 17 #[.pointer (some ⟨pj, 0, none⟩)] w fun e w' => e = .returned (.int .i64 ((256 * half n - (laidL m base recs).length - 32 : Nat) : Int)) ∧ Below w.heap.size w w' := by
  obtain ⟨bV, rV, h3, h4, h5⟩ := j.own
  exact free_any h3 j.dev (by omega) (by have := j.on_.fits; omega)
theorem Jn.room (j : Jn w B Bo pd pj n k h m L base recs) :
    Calls Tryz.prog 19 #[.pointer (some ⟨pj, 0, none⟩)] w fun e w' => e = .returned (.int .i64 ((256 * half n : Nat) : Int)) ∧ w = w' := by
  obtain ⟨bV, rV, h3, h4, h5⟩ := j.own
  exact room_any h3 j.dev
theorem Jn.resetfull (j : Jn w B Bo pd pj n k h m L base recs) (a : Option Addr) (len cap : Nat) (hb : 256 * half n ≤ 90000) (hfull : 256 * half n < 32 + len) :
    Calls Tryz.prog 13 #[.pointer (some ⟨pj, 0, none⟩), .slice a len cap] w fun e w' => e = .returned (.int .i64 15) ∧ Below w.heap.size w w' := by
  obtain ⟨bV, rV, h3, h4, h5⟩ := j.own
  exact reset_full h3 a len cap j.dev (by omega) hfull
theorem same_none (j : Jn w B Bo pd pj n k h m L base []) (hB : Bo ≤ w.heap.size) (hb : base.length ≤ 1000000) :
    Calls Tryz.prog 16 #[.pointer (some ⟨pj, 0, none⟩), .string ⟨base.toArray⟩, .slice none 0 0] w fun e w' => e = .returned (.bool true) ∧ Below w.heap.size w w' :=
  same_any j hB hb (by intro i hi; simp at hi) (by simp) none 0 (by intro i hi; simp at hi) ⟨by simp, by unfold maxLen; omega⟩
end
theorem isB_zer {w : World} {b k : Nat} (h : Has w b ((zer k).map bv) 5) (hk : k ≤ 1000000) : IsB w (some ⟨b, 0, none⟩) k k (zer k) := by
  have h2 := isB_at h (by rw [zer_length]; omega)
  rw [zer_length] at h2; exact h2
theorem soft_has {w : World} {B b : Nat} {X : List Value} (h : Has w b X 5) : Soft w B b := ⟨h.lt, .inr ⟨_, _, h⟩⟩
theorem laid_rep (m S : Nat) : ∀ j, (laidL m [] (List.replicate j (zer S))).length = 32 + j * (32 + S)
  | 0 => by rw [List.replicate_zero, laid_zero, packL_length]; simp
  | j + 1 => by
    rw [List.replicate_succ', laid_len, laid_rep m S j, zer_length, Nat.succ_mul]; omega

theorem tmod_nat (a b : Nat) : ((a : Nat) : Int).tmod (b : Int) = ((a % b : Nat) : Int) := by
  rw [Int.tmod_eq_emod_of_nonneg (by omega)]; rfl
theorem wrap_u8 (x : UInt8) : IntKind.i64.wrap ((x.toNat : Nat) : Int) = ((x.toNat : Nat) : Int) := by
  have := x.toNat_lt
  rw [IntKind.wrap_i64]; omega
theorem wrap_u16 (n : Nat) (h : n < 65536) : IntKind.i64.wrap (n : Int) = (n : Int) := by rw [IntKind.wrap_i64]; omega
theorem wrap_six (x : UInt8) : wrap64 (6 + ((x.toNat % 30 : Nat) : Int)) = ((6 + x.toNat % 30 : Nat) : Int) := by unfold wrap64; omega
theorem mk_small (k : Nat) (hk : k ≤ 1000000) (w : World) : (Instr.makeSlice 33 (.int .i64 (k : Int)) (.int .i64 (k : Int))).run Tryz.prog w = .ok (.slice (some ⟨w.heap.size, 0, none⟩) k k) (w.alloc (.cells ((zer k).map bv).toArray 5)) := mk_full k (by omega) w

set_option maxRecDepth 100000 in
set_option maxHeartbeats 8000000 in
theorem full_any {w : World} (hl : LaidW w) (x : UInt8) (size base : Nat) (hs : size < 65536) (hb : base < 65536) :
    Calls Tryz.prog 6 #[.int .u8 (x.toNat : Int), .int .u16 (size : Int), .int .u16 (base : Int)] w fun e w' => e = .returned (.bool true) ∧ Below w.heap.size w w' := by
  have HAW := Lib.hid (awake_any w hl)
  have HLW := Lib.hid hl
  obtain ⟨n, hn, n6, n35⟩ : ∃ n, n = 6 + x.toNat % 30 ∧ 6 ≤ n ∧ n ≤ 35 := ⟨_, rfl, by omega, by omega⟩
  have HFR : Hid (∀ v, Below w.heap.size w v → Calls Tryz.prog 9 #[.int .i64 (n : Int)] v (FreshP n v)) := Lib.hid (fun v hv => fresh_any n v (hl.below hv hl.two) n6 (by omega))
  obtain ⟨RM, hRM, hh2, r1, r2⟩ : ∃ RM, RM = 256 * half n ∧ 2 ≤ half n ∧ 512 ≤ RM ∧ RM ≤ 4096 := ⟨_, rfl, by unfold half; omega, by unfold half; omega, by unfold half; omega⟩
  obtain ⟨S, hS, S6⟩ : ∃ S, S = size % 600 ∧ S < 600 := ⟨_, rfl, by omega⟩
  obtain ⟨R1, hR1, e3⟩ : ∃ R1, R1 = RM - 31 ∧ wrap64 ((RM : Int) - 31) = (R1 : Int) := ⟨_, rfl, by unfold wrap64; omega⟩
  obtain ⟨Q, hQ, hQ1⟩ : ∃ Q, Q = base % R1 ∧ Q < R1 := ⟨_, rfl, Nat.mod_lt _ (by omega)⟩
  have c1 := wrap_u8 x
  have c2 := wrap_u16 size hs
  have c3 := wrap_u16 base hb
  have e1 : wrap64 (6 + ((x.toNat % 30 : Nat) : Int)) = (n : Int) := by rw [hn]; exact wrap_six x
  have e0 : ((x.toNat : Nat) : Int).tmod 30 = ((x.toNat % 30 : Nat) : Int) := tmod_nat x.toNat 30
  obtain ⟨r, hr⟩ : ∃ r, r = x.toNat % 30 := ⟨_, rfl⟩
  rw [← hr] at e0 e1
  clear hr
  have e2 : ((size : Nat) : Int).tmod 600 = ((size % 600 : Nat) : Int) := tmod_nat size 600
  rw [← hS] at e2
  have e4 := tmod_nat base R1
  rw [← hQ] at e4
  have z4 : ¬ (R1 : Int) = 0 := by clear c1 c2 c3 e0 e1 e2 e3 e4; omega
  have HRM := Lib.hid hRM
  have HR1 := Lib.hid hR1
  have HQ1 := Lib.hid hQ1
  have K1 := Lib.hid n6
  have K2 := Lib.hid n35
  have K3 := Lib.hid S6
  have K4 := Lib.hid r1
  have K5 := Lib.hid r2
  have K6 := Lib.hid hh2
  have MKS := Lib.hid (mk_small S (by have := K3.out; clear c1 c2 c3 e0 e1 e2 e3 e4; omega))
  have MKQ := Lib.hid (mk_small Q (by clear c1 c2 c3 e0 e1 e2 e3 e4; omega))
  have MKR := Lib.hid (mk_small R1 (by clear c1 c2 c3 e0 e1 e2 e3 e4; omega))
  clear hl hn n6 n35 hS S6 hRM hh2 r1 r2 hR1 hQ hQ1 hs hb
  go_enter Tryz.func6, Tryz.ntmps6
  go_upto_region 7 with (first
    | (go_at_call 8; refine HAW.out.mono ?_; rintro e w1 ⟨rfl, hb1⟩; have B1 := Lib.hid hb1; have HF := Lib.hid (HFR.out w1 hb1); clear hb1 HAW HFR)
    | (go_at_call 9; refine HF.out.mono ?_; rintro e w2 ⟨pd, pj, L, rfl, hj, hb2⟩; have B2 := Lib.hid (B1.out.trans (hb2.mono B1.out.size)); have J2 := Lib.hid hj; have S12 := Lib.hid hb2.size; clear hj hb2 HF))
  have hmk := MKS.out w2
  obtain ⟨A, hA⟩ : ∃ A, A = w2.heap.size := ⟨_, rfl⟩
  obtain ⟨w3, hw3⟩ : ∃ w3, w3 = w2.alloc (.cells ((zer S).map bv).toArray 5) := ⟨_, rfl⟩
  rw [← hA, ← hw3] at hmk
  have G3 : Hid (Has w3 A ((zer S).map bv) 5) := Lib.hid (by rw [hw3, hA]; exact Has.new w2 _ _)
  have B23 : Hid (Below w2.heap.size w2 w3) := Lib.hid (by rw [hw3]; exact (Below.refl _ _).alloc (Nat.le_refl _) _)
  have J3 := Lib.hid (J2.out.later B23.out)
  have B3 := Lib.hid (B2.out.trans (B23.out.mono B2.out.size))
  have S13 := Lib.hid (Nat.le_trans S12.out B23.out.size)
  have HAA : Hid (w1.heap.size ≤ A) := Lib.hid (by rw [hA]; exact S12.out)
  clear hw3 hA
  go_upto_region 9 with fail
  clear hmk MKS J2 B2
  go_loopw [11] (fun ii wr => ∃ (j : Nat) (L' : List UInt8), ii = .int .i64 j ∧ Hid (Jn wr w1.heap.size w1.heap.size pd pj n (20000 + 1000 * j) 1 1 L' [] (List.replicate j (zer S))) ∧ Hid (Has wr A ((zer S).map bv) 5) ∧ Hid (Below w.heap.size w wr) ∧ Hid (w1.heap.size ≤ wr.heap.size)) (fun ii _ => 2000 - (intOf ii).toNat)
  case atStart => exact ⟨0, L, rfl, J3, G3, B3, S13⟩
  case round =>
    clear J3 G3 B3 S13 B23
    obtain ⟨j, L', rfl, J, G, B4, S4⟩ := hrel
    have HF : Hid (32 + j * (32 + S) ≤ RM) := Lib.hid (by have := J.out.on_.fits; rw [laid_rep] at this; rw [HRM.out]; exact this)
    have hj : j ≤ 127 := by
      have h1 := HF.out
      have h2 := K5.out
      have h3 : j * 32 ≤ j * (32 + S) := Nat.mul_le_mul_left j (by omega)
      omega
    have IZ := Lib.hid (isB_zer G.out (by have := K3.out; omega))
    by_cases hf : 32 + j * (32 + S) + (32 + S) ≤ RM
    · have hji : ¬ (1000 : Int) < (j : Int) := by omega
      have HFF := Lib.hid hf
      have HJ := Lib.hid hj
      have RA := Lib.hid (J.out.app (HLW.out.below B4.out HLW.out.two) (Nat.lt_of_lt_of_le HLW.out.two B1.out.size) (Nat.le_refl _) S4.out _ S S (zer S) IZ.out (fun b off e _ => by cases e; exact soft_has G.out) (by have := K1.out; omega) (by rw [laid_rep, zer_length, ← HRM.out]; exact HFF.out) (by omega) (by omega) (by rw [← HRM.out]; have := K5.out; omega))
      clear hf hj
      go_wp2_with (go_at_call 11; refine RA.out.mono ?_; rintro e w5 ⟨rfl, ⟨L5, hj5⟩, hk5⟩; have J5 := Lib.hid hj5; have K5w := Lib.hid hk5; clear hj5 hk5)
      go_roundw
      case rel =>
        refine ⟨j + 1, L5, by go_num, Lib.hid ?_, Lib.hid (G.out.kp K5w.out (by decide)), Lib.hid (B4.out.trans ((K5w.out.below S4.out).mono B1.out.size)), Lib.hid (Nat.le_trans S4.out K5w.out.size)⟩
        rw [List.replicate_succ']
        exact J5.out.more (by have := K3.out; omega)
      case measure => have := HJ.out; simp [intOf]; omega
    · have RA := Lib.hid (J.out.full _ S S (zer S) IZ.out (by rw [laid_rep, zer_length, ← HRM.out]; omega) (by rw [← HRM.out]; have := K5.out; omega))
      obtain ⟨U, hU⟩ : ∃ U, U = 32 + j * (32 + S) := ⟨_, rfl⟩
      rw [← hU] at HF hf
      have HU := Lib.hid hU
      have hFi : Hid (RM < U + (32 + S)) := Lib.hid (by omega)
      have HJ := Lib.hid hj
      clear hU hf hj IZ
      go_upto_region 13 with (go_at_call 11; refine RA.out.mono ?_; rintro e w5 ⟨rfl, hb5⟩; have J5 := Lib.hid (J.out.later hb5); have B5 := Lib.hid (B4.out.trans (hb5.mono B4.out.size)); have S5 := Lib.hid (Nat.le_trans S4.out hb5.size); clear hb5)
      have FR := Lib.hid (J5.out.free (by rw [← HRM.out]; have := K5.out; omega))
      rw [laid_rep, ← HU.out, ← HRM.out] at FR
      obtain ⟨F, hF⟩ : ∃ F, F = RM - U - 32 := ⟨_, rfl⟩
      rw [← hF] at FR
      have MKF := Lib.hid (mk_small F (by have := K5.out; clear c1 c2 c3 e0 e1 e2 e3 e4; omega))
      have HFH := Lib.hid hF
      clear hF J B4 S4 G RA
      by_cases hUR : U + 32 ≤ RM
      · have HUR := Lib.hid hUR
        clear hUR
        go_upto_region 15 with (first
          | (go_at_call 17; refine FR.out.mono ?_; rintro e w6 ⟨rfl, hb6⟩; have hmk := MKF.out w6; obtain ⟨w6a, hw6a⟩ : ∃ w6a, w6a = w6.alloc (.cells ((zer F).map bv).toArray 5) := ⟨_, rfl⟩; rw [← hw6a] at hmk;
             have b6a : Hid (Below w6.heap.size w6 w6a) := Lib.hid (by rw [hw6a]; exact (Below.refl _ _).alloc (Nat.le_refl _) _); have G6 : Hid (Has w6a w6.heap.size ((zer F).map bv) 5) := Lib.hid (by rw [hw6a]; exact Has.new w6 _ _);
             have J6 := Lib.hid ((J5.out.later hb6).later b6a.out); have B6 := Lib.hid (B5.out.trans ((hb6.trans (b6a.out.mono hb6.size)).mono B5.out.size)); have S6 := Lib.hid (Nat.le_trans S5.out (Nat.le_trans hb6.size b6a.out.size));
             have IZ := Lib.hid (isB_zer G6.out (by have := HFH.out; have := K5.out; omega));
             have RA := Lib.hid (J6.out.app (HLW.out.below B6.out HLW.out.two) (Nat.lt_of_lt_of_le HLW.out.two B1.out.size) (Nat.le_refl _) S6.out _ F F (zer F) IZ.out (fun b off e _ => by cases e; exact soft_has G6.out) (by have := K1.out; omega) (by rw [laid_rep, zer_length, ← HRM.out, ← HU.out]; have := HUR.out; have := HFH.out; omega) (by omega) (by have := HJ.out; omega) (by rw [← HRM.out]; have := K5.out; omega));
             clear hb6 hw6a FR)
          | (go_at_call 11; refine RA.out.mono ?_; rintro e w7 ⟨rfl, ⟨L7, hj7⟩, hk7⟩;
             have B7 := Lib.hid (B6.out.trans ((hk7.below S6.out).mono B1.out.size)); have S7 := Lib.hid (Nat.le_trans S6.out hk7.size);
             obtain ⟨r7, hr7⟩ : ∃ r7, r7 = List.replicate j (zer S) ++ [zer F] := ⟨_, rfl⟩;
             have F7 := Lib.hid (hj7.free (by rw [← HRM.out]; have := K5.out; omega));
             rw [laid_len, laid_rep, zer_length, ← HRM.out, ← HU.out, show RM - (U + (32 + F)) - 32 = 0 by have := HUR.out; have := HFH.out; omega] at F7;
             rw [← hr7] at hj7;
             have HR7 : Hid (r7.length ≤ 1000) := Lib.hid (by rw [hr7]; simp; have := HJ.out; omega);
             have J7 : Hid (Jn w7 w1.heap.size w1.heap.size pd pj n 300000 1 1 L7 [] r7) := Lib.hid (hj7.more (by have := HJ.out; have := HFH.out; have := K5.out; omega));
             clear hj7 hk7 hmk RA J6 B6 S6 G6 IZ b6a hr7)
          | (go_at_call 17; refine F7.out.mono ?_; rintro e w8 ⟨rfl, hb8⟩; have J8 := Lib.hid (J7.out.later hb8); have B8 := Lib.hid (B7.out.trans (hb8.mono B7.out.size)); have S8 := Lib.hid (Nat.le_trans S7.out hb8.size); clear hb8 F7))
        have RR := Lib.hid J8.out.room
        rw [← HRM.out] at RR
        have hmk := MKQ.out w8
        obtain ⟨C, hC⟩ : ∃ C, C = w8.heap.size := ⟨_, rfl⟩
        obtain ⟨w9, hw9⟩ : ∃ w9, w9 = w8.alloc (.cells ((zer Q).map bv).toArray 5) := ⟨_, rfl⟩
        rw [← hC, ← hw9] at hmk
        have G9 : Hid (Has w9 C ((zer Q).map bv) 5) := Lib.hid (by rw [hw9, hC]; exact Has.new w8 _ _)
        have b9 : Hid (Below w8.heap.size w8 w9) := Lib.hid (by rw [hw9]; exact (Below.refl _ _).alloc (Nat.le_refl _) _)
        have J9 := Lib.hid (J8.out.later b9.out)
        have B9 := Lib.hid (B8.out.trans (b9.out.mono B8.out.size))
        have S9 := Lib.hid (Nat.le_trans S8.out b9.out.size)
        clear hw9 hC J7 B7 S7
        go_upto_region 16 with (go_at_call 19; refine RR.out.mono ?_; rintro e w8b ⟨rfl, rfl⟩)
        clear hmk MKQ
        have IQ := Lib.hid (isB_zer G9.out (by have := HQ1.out; have := HR1.out; have := K5.out; omega))
        have HQF : Hid (32 + (zer Q).length ≤ 256 * half n) := Lib.hid (by rw [zer_length, ← HRM.out]; have := HQ1.out; have := HR1.out; have := K4.out; omega)
        have RS := Lib.hid (J9.out.reset (HLW.out.below B9.out HLW.out.two) (Nat.lt_of_lt_of_le HLW.out.two B1.out.size) S9.out _ Q Q (zer Q) IQ.out (by have := K1.out; omega) HQF.out (by omega) (by omega) (by rw [← HRM.out]; have := K5.out; omega))
        go_wp2_with (first
          | (go_at_call 13; refine RS.out.mono ?_; rintro e w10 ⟨rfl, ⟨L10, hj10⟩, hk10⟩;
             have J10 := Lib.hid hj10; have B10 := Lib.hid (B9.out.trans ((hk10.below S9.out).mono B1.out.size)); have S10 := Lib.hid (Nat.le_trans S9.out hk10.size); have G10 := Lib.hid (G9.out.kp hk10 (by decide)); have O10 := Lib.hid hk10.size;
             have RR2 := Lib.hid J10.out.room; rw [← HRM.out] at RR2; have hmk := MKR.out w10;
             clear hj10 hk10 RS)
          | (go_at_call 19; refine RR2.out.mono ?_; rintro e w10b ⟨rfl, rfl⟩)
          | (go_at_call 13; refine ((J10.out.later ((Below.refl _ _).alloc (Nat.le_refl _) _)).resetfull _ R1 R1 (by rw [← HRM.out]; have := K5.out; omega) (by rw [← HRM.out]; have := HR1.out; have := K4.out; omega)).mono ?_; rintro e w11 ⟨rfl, hb11⟩;
             have b11 : Hid (Below w10.heap.size w10 w11) := Lib.hid (((Below.refl w10.heap.size w10).alloc (Nat.le_refl _) _).trans (hb11.mono (by simp)));
             have J11 := Lib.hid (J10.out.later b11.out); have B11 := Lib.hid (B10.out.trans (b11.out.mono B10.out.size)); have S11 := Lib.hid (Nat.le_trans S10.out b11.out.size); have G11 := Lib.hid (G10.out.below b11.out G10.out.lt); have O11 := Lib.hid (Nat.le_trans O10.out b11.out.size);
             have RT := Lib.hid J11.out.restart;
             clear hb11 hmk RR2)
          | (go_at_call 14; refine RT.out.mono ?_; rintro e w12 ⟨rfl, hd12, hk12⟩;
             have B12 := Lib.hid (B11.out.trans ((hk12.below S11.out).mono B1.out.size)); have S12b := Lib.hid (Nat.le_trans S11.out hk12.size); have G12 := Lib.hid (G11.out.kp hk12 (by decide));
             have RO := Lib.hid (open_jn hd12 J11.out.on_ (HLW.out.below B12.out HLW.out.two) (Nat.le_trans S11.out hk12.size) K6.out (by rw [← HRM.out]; have := K5.out; omega) (by have := HR7.out; omega));
             clear hd12 hk12 RT)
          | (go_at_call 15; refine RO.out.mono ?_; rintro e w13 ⟨p13, rfl, hj13, hb13⟩;
             have B13 := Lib.hid (B12.out.trans (hb13.mono B12.out.size)); have G13 := G12.out.below hb13 G12.out.lt;
             have cQ := conv_isB (isB_zer G13 (by have := HQ1.out; have := HR1.out; have := K5.out; omega));
             have RN := Lib.hid (same_none hj13 hb13.size (by rw [zer_length]; have := HQ1.out; have := HR1.out; have := K5.out; omega));
             clear G13 hj13 hb13 RO)
          | (go_at_call 16; refine RN.out.mono ?_; rintro e w14 ⟨rfl, hb14⟩))
        go_ret
        exact ⟨rfl, B13.out.trans (hb14.mono B13.out.size)⟩
      · have HF0 : Hid (F = 0) := Lib.hid (by have := HFH.out; omega)
        have HUR := Lib.hid hUR
        clear hUR
        go_upto_region 15 with (first
          | (go_at_call 17; refine FR.out.mono ?_; rintro e w6 ⟨rfl, hb6⟩; have hmk := MKF.out w6; obtain ⟨w6a, hw6a⟩ : ∃ w6a, w6a = w6.alloc (.cells ((zer F).map bv).toArray 5) := ⟨_, rfl⟩; rw [← hw6a] at hmk;
             have b6a : Hid (Below w6.heap.size w6 w6a) := Lib.hid (by rw [hw6a]; exact (Below.refl _ _).alloc (Nat.le_refl _) _); have G6 : Hid (Has w6a w6.heap.size ((zer F).map bv) 5) := Lib.hid (by rw [hw6a]; exact Has.new w6 _ _);
             have J6 := Lib.hid ((J5.out.later hb6).later b6a.out); have B6 := Lib.hid (B5.out.trans ((hb6.trans (b6a.out.mono hb6.size)).mono B5.out.size)); have S6 := Lib.hid (Nat.le_trans S5.out (Nat.le_trans hb6.size b6a.out.size));
             have IZ := Lib.hid (isB_zer G6.out (by have := HFH.out; have := K5.out; omega));
             have RA := Lib.hid (J6.out.full _ F F (zer F) IZ.out (by rw [laid_rep, zer_length, ← HRM.out, ← HU.out]; have := HUR.out; omega) (by rw [← HRM.out]; have := K5.out; omega));
             clear hb6 hw6a FR)
          | (go_at_call 11; refine RA.out.mono ?_; rintro e w6b ⟨rfl, hb6b⟩;
             have J6b := Lib.hid (J6.out.later hb6b); have B6b := Lib.hid (B6.out.trans (hb6b.mono B6.out.size)); have S6b := Lib.hid (Nat.le_trans S6.out hb6b.size);
             have F6 := Lib.hid (J6b.out.free (by rw [← HRM.out]; have := K5.out; omega));
             rw [laid_rep, ← HRM.out, ← HU.out, ← HFH.out, HF0.out] at F6;
             clear hb6b hmk RA J6 B6 S6 G6 IZ b6a)
          | (go_at_call 17; refine F6.out.mono ?_; rintro e w7 ⟨rfl, hb7⟩;
             have hj7 := J6b.out.later hb7;
             have B7 := Lib.hid (B6b.out.trans (hb7.mono B6b.out.size)); have S7 := Lib.hid (Nat.le_trans S6b.out hb7.size);
             obtain ⟨r7, hr7⟩ : ∃ r7, r7 = List.replicate j (zer S) := ⟨_, rfl⟩;
             have F7 := Lib.hid (hj7.free (by rw [← HRM.out]; have := K5.out; omega));
             rw [laid_rep, ← HRM.out, ← HU.out, ← HFH.out, HF0.out] at F7;
             rw [← hr7] at hj7;
             have HR7 : Hid (r7.length ≤ 1000) := Lib.hid (by rw [hr7]; simp; have := HJ.out; omega);
             have J7 : Hid (Jn w7 w1.heap.size w1.heap.size pd pj n 300000 1 1 L' [] r7) := Lib.hid (hj7.more (by have := HJ.out; omega));
             clear hj7 hb7 J6b B6b S6b F6 hr7)
          | (go_at_call 17; refine F7.out.mono ?_; rintro e w8 ⟨rfl, hb8⟩; have J8 := Lib.hid (J7.out.later hb8); have B8 := Lib.hid (B7.out.trans (hb8.mono B7.out.size)); have S8 := Lib.hid (Nat.le_trans S7.out hb8.size); clear hb8 F7))
        have RR := Lib.hid J8.out.room
        rw [← HRM.out] at RR
        have hmk := MKQ.out w8
        obtain ⟨C, hC⟩ : ∃ C, C = w8.heap.size := ⟨_, rfl⟩
        obtain ⟨w9, hw9⟩ : ∃ w9, w9 = w8.alloc (.cells ((zer Q).map bv).toArray 5) := ⟨_, rfl⟩
        rw [← hC, ← hw9] at hmk
        have G9 : Hid (Has w9 C ((zer Q).map bv) 5) := Lib.hid (by rw [hw9, hC]; exact Has.new w8 _ _)
        have b9 : Hid (Below w8.heap.size w8 w9) := Lib.hid (by rw [hw9]; exact (Below.refl _ _).alloc (Nat.le_refl _) _)
        have J9 := Lib.hid (J8.out.later b9.out)
        have B9 := Lib.hid (B8.out.trans (b9.out.mono B8.out.size))
        have S9 := Lib.hid (Nat.le_trans S8.out b9.out.size)
        clear hw9 hC J7 B7 S7
        go_upto_region 16 with (go_at_call 19; refine RR.out.mono ?_; rintro e w8b ⟨rfl, rfl⟩)
        clear hmk MKQ
        have IQ := Lib.hid (isB_zer G9.out (by have := HQ1.out; have := HR1.out; have := K5.out; omega))
        have HQF : Hid (32 + (zer Q).length ≤ 256 * half n) := Lib.hid (by rw [zer_length, ← HRM.out]; have := HQ1.out; have := HR1.out; have := K4.out; omega)
        have RS := Lib.hid (J9.out.reset (HLW.out.below B9.out HLW.out.two) (Nat.lt_of_lt_of_le HLW.out.two B1.out.size) S9.out _ Q Q (zer Q) IQ.out (by have := K1.out; omega) HQF.out (by omega) (by omega) (by rw [← HRM.out]; have := K5.out; omega))
        go_wp2_with (first
          | (go_at_call 13; refine RS.out.mono ?_; rintro e w10 ⟨rfl, ⟨L10, hj10⟩, hk10⟩;
             have J10 := Lib.hid hj10; have B10 := Lib.hid (B9.out.trans ((hk10.below S9.out).mono B1.out.size)); have S10 := Lib.hid (Nat.le_trans S9.out hk10.size); have G10 := Lib.hid (G9.out.kp hk10 (by decide)); have O10 := Lib.hid hk10.size;
             have RR2 := Lib.hid J10.out.room; rw [← HRM.out] at RR2; have hmk := MKR.out w10;
             clear hj10 hk10 RS)
          | (go_at_call 19; refine RR2.out.mono ?_; rintro e w10b ⟨rfl, rfl⟩)
          | (go_at_call 13; refine ((J10.out.later ((Below.refl _ _).alloc (Nat.le_refl _) _)).resetfull _ R1 R1 (by rw [← HRM.out]; have := K5.out; omega) (by rw [← HRM.out]; have := HR1.out; have := K4.out; omega)).mono ?_; rintro e w11 ⟨rfl, hb11⟩;
             have b11 : Hid (Below w10.heap.size w10 w11) := Lib.hid (((Below.refl w10.heap.size w10).alloc (Nat.le_refl _) _).trans (hb11.mono (by simp)));
             have J11 := Lib.hid (J10.out.later b11.out); have B11 := Lib.hid (B10.out.trans (b11.out.mono B10.out.size)); have S11 := Lib.hid (Nat.le_trans S10.out b11.out.size); have G11 := Lib.hid (G10.out.below b11.out G10.out.lt); have O11 := Lib.hid (Nat.le_trans O10.out b11.out.size);
             have RT := Lib.hid J11.out.restart;
             clear hb11 hmk RR2)
          | (go_at_call 14; refine RT.out.mono ?_; rintro e w12 ⟨rfl, hd12, hk12⟩;
             have B12 := Lib.hid (B11.out.trans ((hk12.below S11.out).mono B1.out.size)); have S12b := Lib.hid (Nat.le_trans S11.out hk12.size); have G12 := Lib.hid (G11.out.kp hk12 (by decide));
             have RO := Lib.hid (open_jn hd12 J11.out.on_ (HLW.out.below B12.out HLW.out.two) (Nat.le_trans S11.out hk12.size) K6.out (by rw [← HRM.out]; have := K5.out; omega) (by have := HR7.out; omega));
             clear hd12 hk12 RT)
          | (go_at_call 15; refine RO.out.mono ?_; rintro e w13 ⟨p13, rfl, hj13, hb13⟩;
             have B13 := Lib.hid (B12.out.trans (hb13.mono B12.out.size)); have G13 := G12.out.below hb13 G12.out.lt;
             have cQ := conv_isB (isB_zer G13 (by have := HQ1.out; have := HR1.out; have := K5.out; omega));
             have RN := Lib.hid (same_none hj13 hb13.size (by rw [zer_length]; have := HQ1.out; have := HR1.out; have := K5.out; omega));
             clear G13 hj13 hb13 RO)
          | (go_at_call 16; refine RN.out.mono ?_; rintro e w14 ⟨rfl, hb14⟩))
        go_ret
        exact ⟨rfl, B13.out.trans (hb14.mono B13.out.size)⟩

end Go.Proofs.YtgjckddcnmbceaaGreatDoor

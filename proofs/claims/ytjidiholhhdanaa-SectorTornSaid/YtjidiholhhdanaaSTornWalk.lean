/-
  The walk of the law SectorTorn. Conditions: the bytes lie in old memory.
-/
import Derived.Test.YtjidiholhhdanaaSKeepsWalk
import Derived.Test.YtjidiholhhdanaaSTornMath
namespace Go.Proofs.Ytjidiholhhdanaa
open Go.RowKit
set_option linter.unusedVariables false
set_option maxRecDepth 100000

set_option maxHeartbeats 8000000 in
theorem torn_t (t : Nat) (ht : t < 2) (tb : Bool) (W : World) (a0 : Option Addr) (len0 cap0 : Nat) (l0 : List UInt8) (hp0 : IsB W a0 len0 cap0 l0) (a1 : Option Addr) (len1 cap1 : Nat) (l1 : List UInt8) (hp1 : IsB W a1 len1 cap1 l1) (cut : Int) :
    (t = if tb then 1 else 0) → Calls Try.prog 4 #[.slice a0 len0 cap0, .slice a1 len1 cap1, .int .i64 cut, .bool tb] W fun e w' => e = .returned (.bool true) ∧ Below W.heap.size W w' := by
  intro htt
  have HP0 := Lib.hid hp0
  have HP1 := Lib.hid hp1
  have HT := Lib.hid ht
  have HTT := Lib.hid htt
  clear hp0 hp1 ht htt
  obtain ⟨a, ha⟩ : ∃ a, a = wholeL l0 := ⟨_, rfl⟩
  obtain ⟨b, hb⟩ : ∃ b, b = wholeL l1 := ⟨_, rfl⟩
  have HA := Lib.hid ha
  have HB := Lib.hid hb
  have HAL : Hid (a.length = 256) := Lib.hid (by rw [ha]; exact wholeL_length l0)
  have HBL : Hid (b.length = 256) := Lib.hid (by rw [hb]; exact wholeL_length l1)
  clear ha hb
  go_enter Try.func4, Try.ntmps4
  go_wp2_with fail
  refine (awake_any _).mono ?_
  rintro e w1 ⟨rfl, b1⟩
  have B1 := Lib.hid b1
  clear b1
  go_wp2_with fail
  refine (new_any 2 w1 (by omega) (by omega)).mono ?_
  rintro e w2 ⟨pb, bd, bl, rfl, hd, hb⟩
  have D2 := Lib.hid hd
  have B2 : Hid (Below W.heap.size W w2) := Lib.hid (B1.out.trans (hb.mono B1.out.size))
  have S2 := Lib.hid hb.size
  clear hd hb
  have HWH := Lib.hid (whole_any a0 len0 cap0 l0 w2 (HP0.out.later B2.out))
  go_wp2_with fail
  refine HWH.out.mono ?_
  rintro e w3 ⟨ba, rfl, hx, hlo, hb⟩
  have D3 := Lib.hid (D2.out.kp (ts := []) (B' := 0) (Kp.of_below hb) (by simp) (by simp) (by simp))
  have A3 : Hid (Has w3 ba (a.map bv) 5) := Lib.hid (by rw [HA.out]; exact hx)
  have B3 : Hid (Below W.heap.size W w3) := Lib.hid (B2.out.trans (hb.mono B2.out.size))
  have S3 := Lib.hid (Nat.le_trans S2.out hb.size)
  clear hx hlo hb HWH D2
  have HWH := Lib.hid (whole_any a1 len1 cap1 l1 w3 (HP1.out.later B3.out))
  go_wp2_with fail
  refine HWH.out.mono ?_
  rintro e w4 ⟨bb, rfl, hx, hlo, hb⟩
  have D4 := Lib.hid (D3.out.kp (ts := []) (B' := 0) (Kp.of_below hb) (by simp) (by simp) (by simp))
  have A4 : Hid (Has w4 ba (a.map bv) 5) := Lib.hid (A3.out.below hb A3.out.lt)
  have N4 : Hid (Has w4 bb (b.map bv) 5) := Lib.hid (by rw [HB.out]; exact hx)
  have B4 : Hid (Below W.heap.size W w4) := Lib.hid (B3.out.trans (hb.mono B3.out.size))
  have S4 := Lib.hid (Nat.le_trans S3.out hb.size)
  clear hx hlo hb HWH D3 A3
  have HW := Lib.hid (write_ok D4.out 0 (by omega) ba 0 256 a HAL.out (cells_of A4.out HAL.out) ⟨A4.out.lt, .inr ⟨_, A4.out⟩⟩ (by omega) (by simp) S4.out)
  go_wp2_with fail
  refine HW.out.mono ?_
  rintro e w5 ⟨v5, rfl, hd, hk⟩
  have D5 : Hid (Dev w5 w1.heap.size pb bd bl v5 2 (zer (256 * 2)) (splice (zer (256 * 2)) (256 * 0) a) [(0, a)] 1 0 false) := Lib.hid hd
  have A5 := Lib.hid (A4.out.kp hk (by decide))
  have N5 := Lib.hid (N4.out.kp hk (by decide))
  have B5 : Hid (Below W.heap.size W w5) := Lib.hid (B4.out.trans ((hk.below S4.out).mono B1.out.size))
  have S5 : Hid (w1.heap.size ≤ w5.heap.size) := Lib.hid (Nat.le_trans S4.out hk.size)
  clear hd hk HW D4 A4 N4
  rw [if_neg (by decide)]
  have HW := Lib.hid (write_ok D5.out 1 (by omega) ba 0 256 a HAL.out (cells_of A5.out HAL.out) ⟨A5.out.lt, .inr ⟨_, A5.out⟩⟩ (by omega) (by simp) S5.out)
  go_wp2_with fail
  refine HW.out.mono ?_
  rintro e w6 ⟨v6, rfl, hd, hk⟩
  have D6 : Hid (Dev w6 w1.heap.size pb bd bl v6 2 (zer (256 * 2)) (splice (splice (zer (256 * 2)) (256 * 0) a) (256 * 1) a) [(0, a), (1, a)] 2 0 false) := Lib.hid hd
  have A6 := Lib.hid (A5.out.kp hk (by decide))
  have N6 := Lib.hid (N5.out.kp hk (by decide))
  have B6 : Hid (Below W.heap.size W w6) := Lib.hid (B5.out.trans ((hk.below S5.out).mono B1.out.size))
  have S6 : Hid (w1.heap.size ≤ w6.heap.size) := Lib.hid (Nat.le_trans S5.out hk.size)
  clear hd hk HW D5 A5 N5
  rw [if_neg (by decide)]
  have HSY := Lib.hid (sync_ok D6.out (by omega) (by omega) (by simp))
  go_wp2_with fail
  refine HSY.out.mono ?_
  rintro e w7 ⟨rfl, hd, hk⟩
  have D7 : Hid (Dev w7 w1.heap.size pb bd bl (.slice none 0 0) 2 (syncK [(0, a), (1, a)] (zer (256 * 2)) 2) (splice (splice (zer (256 * 2)) (256 * 0) a) (256 * 1) a) [] 3 0 false) := Lib.hid hd
  have A7 := Lib.hid (A6.out.kp hk (by decide))
  have N7 := Lib.hid (N6.out.kp hk (by decide))
  have B7 : Hid (Below W.heap.size W w7) := Lib.hid (B6.out.trans ((hk.below S6.out).mono B1.out.size))
  have S7 : Hid (w1.heap.size ≤ w7.heap.size) := Lib.hid (Nat.le_trans S6.out hk.size)
  clear hd hk HSY D6 A6 N6
  have HW := Lib.hid (write_ok D7.out 0 (by omega) bb 0 256 b HBL.out (cells_of N7.out HBL.out) ⟨N7.out.lt, .inr ⟨_, N7.out⟩⟩ (by omega) (by simp) S7.out)
  go_wp2_with fail
  refine HW.out.mono ?_
  rintro e w8 ⟨v8, rfl, hd, hk⟩
  have D8 : Hid (Dev w8 w1.heap.size pb bd bl v8 2 (syncK [(0, a), (1, a)] (zer (256 * 2)) 2) (splice (splice (splice (zer (256 * 2)) (256 * 0) a) (256 * 1) a) (256 * 0) b) [(0, b)] 4 0 false) := Lib.hid hd
  have A8 := Lib.hid (A7.out.kp hk (by decide))
  have N8 := Lib.hid (N7.out.kp hk (by decide))
  have B8 : Hid (Below W.heap.size W w8) := Lib.hid (B7.out.trans ((hk.below S7.out).mono B1.out.size))
  have S8 : Hid (w1.heap.size ≤ w8.heap.size) := Lib.hid (Nat.le_trans S7.out hk.size)
  clear hd hk HW D7 A7 N7
  rw [if_neg (by decide)]
  have HW := Lib.hid (write_ok D8.out 1 (by omega) bb 0 256 b HBL.out (cells_of N8.out HBL.out) ⟨N8.out.lt, .inr ⟨_, N8.out⟩⟩ (by omega) (by simp) S8.out)
  go_wp2_with fail
  refine HW.out.mono ?_
  rintro e w9 ⟨v9, rfl, hd, hk⟩
  have D9 : Hid (Dev w9 w1.heap.size pb bd bl v9 2 (syncK [(0, a), (1, a)] (zer (256 * 2)) 2) (splice (splice (splice (splice (zer (256 * 2)) (256 * 0) a) (256 * 1) a) (256 * 0) b) (256 * 1) b) [(0, b), (1, b)] 5 0 false) := Lib.hid hd
  have A9 := Lib.hid (A8.out.kp hk (by decide))
  have N9 := Lib.hid (N8.out.kp hk (by decide))
  have B9 : Hid (Below W.heap.size W w9) := Lib.hid (B8.out.trans ((hk.below S8.out).mono B1.out.size))
  have S9 : Hid (w1.heap.size ≤ w9.heap.size) := Lib.hid (Nat.le_trans S8.out hk.size)
  clear hd hk HW D8 A8 N8
  rw [if_neg (by decide)]
  obtain ⟨c, hc⟩ : ∃ c, c = clampN cut := ⟨_, rfl⟩
  obtain ⟨L9, hL9⟩ : ∃ L9, L9 = (splice (splice (splice (splice (zer (256 * 2)) (256 * 0) a) (256 * 1) a) (256 * 0) b) (256 * 1) b) := ⟨_, rfl⟩
  obtain ⟨D9', hD9⟩ : ∃ D9', D9' = syncK [(0, a), (1, a)] (zer (256 * 2)) 2 := ⟨_, rfl⟩
  rw [← hL9, ← hD9] at D9
  have HCC : Hid (c ≤ 256) := Lib.hid (by rw [hc]; exact clampN_le _)
  have HCE : Hid ((c : Int) = min (max cut 0) 256) := Lib.hid (by rw [hc]; exact clampN_eq _)
  have HGET := Lib.hid (torn_get (Z := (zer (256 * 2))) (by simp [zer]) HAL.out HBL.out t HT.out c HCC.out)
  rw [← hL9, ← hD9] at HGET
  have HC := Lib.hid hc
  clear hL9 hD9 hc
  obtain ⟨w10, hw10⟩ : ∃ x, x = w9.alloc (.cells #[.bool true, .bool true] 4) := ⟨_, rfl⟩
  have k10 : Below w9.heap.size w9 w10 := by rw [hw10]; exact (Below.refl _ _).alloc (Nat.le_refl _) _
  have D10 := Lib.hid (D9.out.kp (ts := []) (B' := 0) (Kp.of_below k10) (by simp) (by simp) (by simp))
  have A10 := Lib.hid (A9.out.below k10 A9.out.lt)
  have N10 := Lib.hid (N9.out.below k10 N9.out.lt)
  have B10 : Hid (Below W.heap.size W w10) := Lib.hid (B9.out.trans (k10.mono B9.out.size))
  have S10 : Hid (w1.heap.size ≤ w10.heap.size) := Lib.hid (Nat.le_trans S9.out k10.size)
  have hO : IsO w10 w1.heap.size (some ⟨w9.heap.size, 0, none⟩) 2 2 [true, true] := by
    have hh : Has w10 w9.heap.size [.bool true, .bool true] 4 := by rw [hw10]; exact Has.new w9 _ _
    refine ⟨rfl, .inr ⟨_, 0, rfl, hh.lt, .inr ⟨_, hh⟩, fun i hi => ?_⟩, by unfold maxLen; omega⟩
    rw [Nat.zero_add]
    match i, hi with
    | 0, _ => exact hh.cellAt rfl
    | 1, _ => exact hh.cellAt rfl
  have HR := Lib.hid (restart_any D10.out (by simp) _ 2 2 _ hO (t : Int) cut)
  rw [← HC.out] at HR
  have HW10 := Lib.hid hw10
  clear k10 hO hw10 D9 A9 N9
  cases tb with
  | false =>
    obtain rfl : t = 0 := by have := HTT.out; simpa using this
    go_upto_region 11 with fail
    go_wp2_with fail
    rw [← HW10.out]
    refine HR.out.mono ?_
    rintro e w11 ⟨rfl, hd, hk⟩
    have D11 := Lib.hid hd
    have A11 := Lib.hid (A10.out.kp hk (by decide))
    have N11 := Lib.hid (N10.out.kp hk (by decide))
    have B11 : Hid (Below W.heap.size W w11) := Lib.hid (B10.out.trans ((hk.below S10.out).mono B1.out.size))
    have S11 : Hid (w1.heap.size ≤ w11.heap.size) := Lib.hid (Nat.le_trans S10.out hk.size)
    clear hd hk HR D10 A10 N10
    have HRD := Lib.hid (read_ok D11.out 0 (by omega))
    go_wp2_with fail
    refine HRD.out.mono ?_
    rintro e w12 ⟨bp, rfl, hx, hlo, hb⟩
    have D12 := Lib.hid (D11.out.kp (ts := []) (B' := 0) (Kp.of_below hb) (by simp) (by simp) (by simp))
    have A12 := Lib.hid (A11.out.below hb A11.out.lt)
    have N12 := Lib.hid (N11.out.below hb N11.out.lt)
    have P12 : Hid (Has w12 bp ((b.take c ++ a.drop c).map bv) 5) := Lib.hid (by
      have h := HGET.out.1
      rw [← h]; exact hx)
    have B12 : Hid (Below W.heap.size W w12) := Lib.hid (B11.out.trans (hb.mono B11.out.size))
    clear hx hlo hb HRD D11 A11 N11
    have HRD := Lib.hid (read_ok D12.out 1 (by omega))
    go_wp2_with fail
    refine HRD.out.mono ?_
    rintro e w13 ⟨bq, rfl, hx, hlo, hb⟩
    have A13 := Lib.hid (A12.out.below hb A12.out.lt)
    have N13 := Lib.hid (N12.out.below hb N12.out.lt)
    have P13 := Lib.hid (P12.out.below hb P12.out.lt)
    have Q13 : Hid (Has w13 bq (b.map bv) 5) := Lib.hid (by
      have h := HGET.out.2
      rw [show 1 - 0 = 1 from rfl] at h
      rw [← h]; exact hx)
    have B13 : Hid (Below W.heap.size W w13) := Lib.hid (B12.out.trans (hb.mono B12.out.size))
    clear hx hlo hb HRD D12 A12 N12 P12
    obtain ⟨Q, hQ⟩ : ∃ Q : ByteArray, Q = ⟨b.toArray⟩ := ⟨_, rfl⟩
    have cv1 : (convert 31 9 (.slice (some ⟨bq, 0, none⟩) 256 256)).run Try.prog w13 = .ok (.string Q) w13 := by rw [hQ]; exact conv_str Q13.out 256 256 HBL.out
    have cv2 : (convert 31 9 (.slice (some ⟨bb, 0, none⟩) 256 256)).run Try.prog w13 = .ok (.string Q) w13 := by rw [hQ]; exact conv_str N13.out 256 256 HBL.out
    clear hQ
    go_wp2_with fail
    clear cv1 cv2
    go_loop [18] (fun ii => ∃ k : Nat, k ≤ 256 ∧ ii = .int .i64 k) (fun ii => 256 - (intOf ii).toNat)
    case atStart => exact ⟨0, Nat.zero_le _, rfl⟩
    case round =>
      obtain ⟨k, hk, rfl⟩ := hrel
      by_cases hlt : k < 256
      · have hki : (k : Int) < 256 := by omega
        have ca := A13.out.cellAt (map_bv_get a k (by rw [HAL.out]; exact hlt))
        have cb := N13.out.cellAt (map_bv_get b k (by rw [HBL.out]; exact hlt))
        have hpl : (b.take c ++ a.drop c).length = 256 := by have h1 := HAL.out; have h2 := HBL.out; have h3 := HCC.out; simp; omega
        have cp := P13.out.cellAt (map_bv_get (b.take c ++ a.drop c) k (by rw [hpl]; exact hlt))
        by_cases hkc : k < c
        · have hcut : (k : Int) < cut := by have := HCE.out; omega
          have hg : (b.take c ++ a.drop c).getD k 0 = b.getD k 0 := by
            have h2 := HBL.out
            rw [List.getD_eq_getElem?_getD, List.getElem?_append_left (by simp; omega), List.getElem?_take_of_lt hkc, List.getD_eq_getElem?_getD]
          rw [hg] at cp
          obtain ⟨x, hx⟩ : ∃ x : Int, x = ((b.getD k 0).toNat : Int) := ⟨_, rfl⟩
          unfold bv at ca cb cp
          rw [← hx] at cb cp
          clear hx hg hpl hkc
          go_wp2_with fail
          go_round
          case rel => exact ⟨k + 1, by omega, by go_num⟩
          case measure => simp [intOf]; omega
        · have hcut : ¬ (k : Int) < cut := by have := HCE.out; omega
          have hg : (b.take c ++ a.drop c).getD k 0 = a.getD k 0 := by
            have h2 := HBL.out
            have h3 := HCC.out
            have hl : (b.take c).length = c := by simp; omega
            rw [List.getD_eq_getElem?_getD, List.getElem?_append_right (by omega), hl, List.getElem?_drop, show c + (k - c) = k by omega, List.getD_eq_getElem?_getD]
          rw [hg] at cp
          obtain ⟨x, hx⟩ : ∃ x : Int, x = ((a.getD k 0).toNat : Int) := ⟨_, rfl⟩
          unfold bv at ca cb cp
          rw [← hx] at ca cp
          clear hx hg hpl hkc
          go_wp2_with fail
          go_round
          case rel => exact ⟨k + 1, by omega, by go_num⟩
          case measure => simp [intOf]; omega
      · obtain rfl : k = 256 := by omega
        go_wp2_with fail
        go_ret
        exact ⟨rfl, B13.out⟩
  
  | true =>
    obtain rfl : t = 1 := by have := HTT.out; simpa using this
    go_upto_region 11 with fail
    go_wp2_with fail
    rw [← HW10.out]
    refine HR.out.mono ?_
    rintro e w11 ⟨rfl, hd, hk⟩
    have D11 := Lib.hid hd
    have A11 := Lib.hid (A10.out.kp hk (by decide))
    have N11 := Lib.hid (N10.out.kp hk (by decide))
    have B11 : Hid (Below W.heap.size W w11) := Lib.hid (B10.out.trans ((hk.below S10.out).mono B1.out.size))
    have S11 : Hid (w1.heap.size ≤ w11.heap.size) := Lib.hid (Nat.le_trans S10.out hk.size)
    clear hd hk HR D10 A10 N10
    have HRD := Lib.hid (read_ok D11.out 1 (by omega))
    go_wp2_with fail
    refine HRD.out.mono ?_
    rintro e w12 ⟨bp, rfl, hx, hlo, hb⟩
    have D12 := Lib.hid (D11.out.kp (ts := []) (B' := 0) (Kp.of_below hb) (by simp) (by simp) (by simp))
    have A12 := Lib.hid (A11.out.below hb A11.out.lt)
    have N12 := Lib.hid (N11.out.below hb N11.out.lt)
    have P12 : Hid (Has w12 bp ((b.take c ++ a.drop c).map bv) 5) := Lib.hid (by
      have h := HGET.out.1
      rw [← h]; exact hx)
    have B12 : Hid (Below W.heap.size W w12) := Lib.hid (B11.out.trans (hb.mono B11.out.size))
    clear hx hlo hb HRD D11 A11 N11
    have HRD := Lib.hid (read_ok D12.out 0 (by omega))
    go_wp2_with fail
    refine HRD.out.mono ?_
    rintro e w13 ⟨bq, rfl, hx, hlo, hb⟩
    have A13 := Lib.hid (A12.out.below hb A12.out.lt)
    have N13 := Lib.hid (N12.out.below hb N12.out.lt)
    have P13 := Lib.hid (P12.out.below hb P12.out.lt)
    have Q13 : Hid (Has w13 bq (b.map bv) 5) := Lib.hid (by
      have h := HGET.out.2
      rw [show 1 - 1 = 0 from rfl] at h
      rw [← h]; exact hx)
    have B13 : Hid (Below W.heap.size W w13) := Lib.hid (B12.out.trans (hb.mono B12.out.size))
    clear hx hlo hb HRD D12 A12 N12 P12
    obtain ⟨Q, hQ⟩ : ∃ Q : ByteArray, Q = ⟨b.toArray⟩ := ⟨_, rfl⟩
    have cv1 : (convert 31 9 (.slice (some ⟨bq, 0, none⟩) 256 256)).run Try.prog w13 = .ok (.string Q) w13 := by rw [hQ]; exact conv_str Q13.out 256 256 HBL.out
    have cv2 : (convert 31 9 (.slice (some ⟨bb, 0, none⟩) 256 256)).run Try.prog w13 = .ok (.string Q) w13 := by rw [hQ]; exact conv_str N13.out 256 256 HBL.out
    clear hQ
    go_wp2_with fail
    clear cv1 cv2
    go_loop [18] (fun ii => ∃ k : Nat, k ≤ 256 ∧ ii = .int .i64 k) (fun ii => 256 - (intOf ii).toNat)
    case atStart => exact ⟨0, Nat.zero_le _, rfl⟩
    case round =>
      obtain ⟨k, hk, rfl⟩ := hrel
      by_cases hlt : k < 256
      · have hki : (k : Int) < 256 := by omega
        have ca := A13.out.cellAt (map_bv_get a k (by rw [HAL.out]; exact hlt))
        have cb := N13.out.cellAt (map_bv_get b k (by rw [HBL.out]; exact hlt))
        have hpl : (b.take c ++ a.drop c).length = 256 := by have h1 := HAL.out; have h2 := HBL.out; have h3 := HCC.out; simp; omega
        have cp := P13.out.cellAt (map_bv_get (b.take c ++ a.drop c) k (by rw [hpl]; exact hlt))
        by_cases hkc : k < c
        · have hcut : (k : Int) < cut := by have := HCE.out; omega
          have hg : (b.take c ++ a.drop c).getD k 0 = b.getD k 0 := by
            have h2 := HBL.out
            rw [List.getD_eq_getElem?_getD, List.getElem?_append_left (by simp; omega), List.getElem?_take_of_lt hkc, List.getD_eq_getElem?_getD]
          rw [hg] at cp
          obtain ⟨x, hx⟩ : ∃ x : Int, x = ((b.getD k 0).toNat : Int) := ⟨_, rfl⟩
          unfold bv at ca cb cp
          rw [← hx] at cb cp
          clear hx hg hpl hkc
          go_wp2_with fail
          go_round
          case rel => exact ⟨k + 1, by omega, by go_num⟩
          case measure => simp [intOf]; omega
        · have hcut : ¬ (k : Int) < cut := by have := HCE.out; omega
          have hg : (b.take c ++ a.drop c).getD k 0 = a.getD k 0 := by
            have h2 := HBL.out
            have h3 := HCC.out
            have hl : (b.take c).length = c := by simp; omega
            rw [List.getD_eq_getElem?_getD, List.getElem?_append_right (by omega), hl, List.getElem?_drop, show c + (k - c) = k by omega, List.getD_eq_getElem?_getD]
          rw [hg] at cp
          obtain ⟨x, hx⟩ : ∃ x : Int, x = ((a.getD k 0).toNat : Int) := ⟨_, rfl⟩
          unfold bv at ca cb cp
          rw [← hx] at ca cp
          clear hx hg hpl hkc
          go_wp2_with fail
          go_round
          case rel => exact ⟨k + 1, by omega, by go_num⟩
          case measure => simp [intOf]; omega
      · obtain rfl : k = 256 := by omega
        go_wp2_with fail
        go_ret
        exact ⟨rfl, B13.out⟩

theorem walk_SectorTorn (W : World) (a0 : Option Addr) (len0 cap0 : Nat) (l0 : List UInt8) (hp0 : IsB W a0 len0 cap0 l0) (a1 : Option Addr) (len1 cap1 : Nat) (l1 : List UInt8) (hp1 : IsB W a1 len1 cap1 l1) (cut : Int) (hcut : (Lit.int .i64 cut).wf = true) (tb : Bool) :
    Calls Try.prog 4 #[.slice a0 len0 cap0, .slice a1 len1 cap1, .int .i64 cut, .bool tb] W fun e w' => e = .returned (.bool true) ∧ Below W.heap.size W w' :=
  torn_t (if tb then 1 else 0) (by cases tb <;> decide) tb W a0 len0 cap0 l0 hp0 a1 len1 cap1 l1 hp1 cut rfl

end Go.Proofs.Ytjidiholhhdanaa

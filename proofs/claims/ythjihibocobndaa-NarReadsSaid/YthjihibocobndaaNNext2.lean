/-
  The contract of the reader's next: the next string. No condition but that the reader is one.
-/
import Derived.Test.YthjihibocobndaaNTaken
import Derived.Laws.BitsAllLaws
namespace Go.Proofs.Ythjihibocobndaa
open Go.RowKit
set_option linter.unusedVariables false

theorem num_step {R : List UInt8} {i m : Nat} {z : UInt8} (hi : i < 8) (h8 : 8 ≤ R.length) (hm : m = num8 (R.take i)) (hz : z = R.getD i 0) :
    bits .or .u64 (m : Int) (IntKind.u64.wrap ((z.toNat : Int) * 2 ^ (8 * i))) = ((num8 (R.take (i + 1)) : Nat) : Int) := by
  have e1 : R.take (i + 1) = R.take i ++ [z] := by
    rw [List.take_succ_eq_append_getElem (by omega), hz, List.getD_eq_getElem?_getD, List.getElem?_eq_getElem (by omega)]; rfl
  have e2 : (R.take i).length = i := by rw [List.length_take]; omega
  have hzl := UInt8.toNat_lt z
  have hml : m < 256 ^ i := by rw [hm]; have := num8_lt (R.take i); rwa [e2] at this
  have hp : (2 : Nat) ^ (8 * i) = 256 ^ i := by rw [Nat.pow_mul]
  have hpi : (2 : Int) ^ (8 * i) = ((256 ^ i : Nat) : Int) := by rw [← hp]; exact (Int.natCast_pow 2 (8 * i)).symm
  have hb : z.toNat * 256 ^ i < 18446744073709551616 := by
    have h1 : z.toNat * 256 ^ i < 256 * 256 ^ i := Nat.mul_lt_mul_of_pos_right (by omega) (Nat.pow_pos (by omega))
    have h2 : 256 * 256 ^ i = 256 ^ (i + 1) := by rw [Nat.pow_succ, Nat.mul_comm]
    have h3 : 256 ^ (i + 1) ≤ 256 ^ 8 := Nat.pow_le_pow_right (by omega) (by omega)
    have h4 : (256 : Nat) ^ 8 = 18446744073709551616 := by decide
    omega
  have hmb : m < 18446744073709551616 := by
    have h3 : 256 ^ i ≤ 256 ^ 8 := Nat.pow_le_pow_right (by omega) (by omega)
    have h4 : (256 : Nat) ^ 8 = 18446744073709551616 := by decide
    omega
  have hw : IntKind.u64.wrap ((z.toNat : Int) * 2 ^ (8 * i)) = ((z.toNat * 256 ^ i : Nat) : Int) := by
    rw [hpi, show (z.toNat : Int) * ((256 ^ i : Nat) : Int) = ((z.toNat * 256 ^ i : Nat) : Int) from (Int.natCast_mul _ _).symm]
    simp only [IntKind.wrap, IntKind.bits, IntKind.signed]
    generalize z.toNat * 256 ^ i = x at hb
    simp; omega
  rw [hw, u64_or_nat _ _ hmb hb, e1, num8_append, e2, ← hm]
  congr 1
  rw [Nat.or_comm]
  have := Nat.shiftLeft_add_eq_or_of_lt (by rw [hp]; exact hml) z.toNat
  rw [Nat.shiftLeft_eq, hp] at this
  omega

set_option maxRecDepth 100000 in
set_option maxHeartbeats 8000000 in
theorem next_any (rb : Nat) (w0 : World) (R : List UInt8) (w : World) (hrd : Rd rb w0 R w) :
    Calls Try.prog 34 #[.pointer (some ⟨rb, 0, none⟩)] w (RP rb w0 w (nextL R) (bytesV w0)) := by
  obtain ⟨a, len, cap, hx, hB, hbel, h0, hR⟩ := hrd
  have hlen := hB.length
  by_cases h8 : len < 8
  · have hl8 : (len : Int) < 8 := by omega
    have HG : Hid (nextL R = none) := Lib.hid (by unfold nextL; rw [if_pos (by omega)])
    have hc0 := hx.cellAt (i := 0) rfl
    clear hx hB hbel hlen hR h0
    go_enter Try.func34, Try.ntmps34
    go_wp2_with fail
    refine (giveUp_any w).mono ?_
    rintro e w1 ⟨rfl, rfl⟩
    go_wp2_with fail
    exact ⟨rfl, But.refl _ _ _, by rw [HG.out]⟩
  obtain ⟨k, rfl⟩ : ∃ k, len = k + 8 := ⟨len - 8, by omega⟩
  rcases hB.at_ with h | ⟨b, off, rfl, hlt, hc⟩
  · omega
  have hroom := hB.room
  unfold maxLen at hroom
  have hr1 := hroom.1
  have hr2 := hroom.2
  have HX := Lib.hid hx
  have HB := Lib.hid hB
  have HBEL := Lib.hid hbel
  have HLEN := Lib.hid hlen
  have HR := Lib.hid hR
  have h9 : k + 8 ≤ 1000000000 := by omega
  have HCELL : Hid (∀ i, i < 8 → w.cell? ⟨b, off + i, none⟩ = some (.int .u8 ((R.getD i 0).toNat : Int))) := Lib.hid (fun i hi => by
    rw [HBEL.out.cell (p := ⟨b, off + i, none⟩) (by show b < rb; omega), hc i (by omega)])
  have hl8 : ¬ (k : Int) + 8 < 8 := by omega
  clear hroom hx hB hbel hlen hR hc
  have hc0 := HX.out.cellAt (i := 0) rfl
  go_enter Try.func34, Try.ntmps34
  go_wp2_with fail
  go_loop [3, 12] (fun ln ii => ∃ i : Nat, i ≤ 8 ∧ ii = .int .i64 i ∧ ln = .int .u64 (num8 (R.take i) : Nat)) (fun _ ii => 8 - (intOf ii).toNat)
  case atStart => exact ⟨0, Nat.zero_le _, rfl, rfl⟩
  case round =>
    obtain ⟨i, hi, rfl, rfl⟩ := hrel
    by_cases hlp : i < 8
    · have hpi : (i : Int) < 8 := by omega
      have hil : (i : Int) < (k : Int) + 8 := by omega
      obtain ⟨z, hzz⟩ : ∃ z, z = R.getD i 0 := ⟨_, rfl⟩
      have hci := HCELL.out i hlp
      rw [← hzz] at hci
      have HZZ := Lib.hid hzz
      clear hzz
      obtain ⟨m, hm⟩ : ∃ m, m = num8 (R.take i) := ⟨_, rfl⟩
      rw [← hm]
      have HM := Lib.hid hm
      clear hm
      have hzlt := UInt8.toNat_lt z
      have hz1 : (0 : Int) ≤ (z.toNat : Int) := by omega
      have hz2 : (z.toNat : Int) < 256 := by omega
      have h8i : ((8 : Int) * (i : Int)).toNat = 8 * i := by omega
      go_wp2_with fail
      go_round
      case rel => exact ⟨i + 1, by omega, by go_num, by rw [num_step hlp (by have := HLEN.out; omega) HM.out HZZ.out]⟩
      case measure => simp [intOf]; omega
    · obtain rfl : i = 8 := by omega
      obtain ⟨N, hN⟩ : ∃ N, N = num8 (R.take 8) := ⟨_, rfl⟩
      rw [← hN]
      have hdl : (R.drop 8).length = k := by have := HLEN.out; rw [List.length_drop]; omega
      have HE : Hid (nextL R = if k < N then none else takenL N (R.drop 8)) := Lib.hid (by
        unfold nextL; rw [if_neg (by have := HLEN.out; omega), hdl, ← hN])
      have HDL := Lib.hid hdl
      clear hN hdl
      have hf0 := HX.out.frozen 0
      have hsub : k + 8 - 8 = k := by omega
      have hle8 : (8 : Int) ≤ (k : Int) + 8 := by omega
      by_cases hN : k < N
      · have hNi : (k : Int) < (N : Int) := by omega
        have HE2 : Hid (nextL R = none) := Lib.hid (by rw [HE.out, if_pos hN])
        by_cases hc8 : cap = 8
        · subst hc8
          obtain rfl : k = 0 := by omega
          go_wp2_with fail
          refine (giveUp_any _).mono ?_
          rintro e w1 ⟨rfl, rfl⟩
          go_wp2_with fail
          exact ⟨rfl, (But.refl _ _ _).setB 0 _, by rw [HE2.out]⟩
        · go_wp2_with fail
          refine (giveUp_any _).mono ?_
          rintro e w1 ⟨rfl, rfl⟩
          go_wp2_with fail
          exact ⟨rfl, (But.refl _ _ _).setB 0 _, by rw [HE2.out]⟩
      · have hNi : ¬ (k : Int) < (N : Int) := by omega
        have hNk : (N : Int) ≤ (k : Int) := by omega
        have HE2 : Hid (nextL R = takenL N (R.drop 8)) := Lib.hid (by rw [HE.out, if_neg hN])
        by_cases hc8 : cap = 8
        · subst hc8
          obtain rfl : k = 0 := by omega
          go_wp2_with fail
          obtain ⟨w2, hw2⟩ : ∃ w2, w2 = w.setCell ⟨rb, 0, none⟩ (.slice (some ⟨b, off, none⟩) 0 0) := ⟨_, rfl⟩
          have HX2 : Hid (Has w2 rb [.slice (some ⟨b, off, none⟩) 0 0] 50) := Lib.hid (by rw [hw2]; exact HX.out.set 0 _)
          have HB2 : Hid (Below rb w0 w2) := Lib.hid (by rw [hw2]; exact HBEL.out.setCell (p := ⟨rb, 0, none⟩) (Nat.le_refl _) _)
          have HU2 : Hid (But w.heap.size rb w w2) := Lib.hid (by rw [hw2]; exact (But.refl _ _ _).setB 0 _)
          have HC2 : Hid (IsB w0 (some ⟨b, off, none⟩) 0 0 (R.drop 8)) := Lib.hid (by have := HB.out.cut 8 (by omega); simpa using this)
          rw [← hw2]
          clear hw2 hf0 hc0
          refine (taken_any rb w0 b (off) 0 0 (R.drop 8) w2 HX2.out HC2.out HB2.out h0 (by rw [HDL.out]; omega) N (by omega)).mono ?_
          rintro e w3 ⟨hbut, hm⟩
          have HBUT : Hid (But w.heap.size rb w w3) := Lib.hid (HU2.out.trans (hbut.mono HU2.out.size))
          have HMM := Lib.hid hm
          clear hbut hm HX2 HB2 HU2
          cases ht : takenL N (R.drop 8) with
          | none =>
            have := HMM.out
            rw [ht] at this
            subst this
            have HF : Hid (nextL R = none) := Lib.hid (by rw [HE2.out, ht])
            clear ht HMM
            go_wp2_with fail
            exact ⟨rfl, HBUT.out, by rw [HF.out]⟩
          | some q =>
            have := HMM.out
            rw [ht] at this
            obtain ⟨v, rfl, hv, hr⟩ := this
            obtain ⟨a3, n3, c3, rfl, hv3⟩ := hv
            have HF : Hid (nextL R = some q) := Lib.hid (by rw [HE2.out, ht])
            have HV3 := Lib.hid hv3
            have HRD := Lib.hid hr
            clear ht HMM hv3 hr
            go_wp2_with fail
            go_ret
            refine ⟨HBUT.out, ?_⟩
            rw [HF.out]
            exact ⟨_, rfl, ⟨_, _, _, rfl, HV3.out⟩, HRD.out⟩
        · go_wp2_with fail
          obtain ⟨w2, hw2⟩ : ∃ w2, w2 = w.setCell ⟨rb, 0, none⟩ (.slice (some ⟨b, off + 8, none⟩) k (cap - 8)) := ⟨_, rfl⟩
          have HX2 : Hid (Has w2 rb [.slice (some ⟨b, off + 8, none⟩) k (cap - 8)] 50) := Lib.hid (by rw [hw2]; exact HX.out.set 0 _)
          have HB2 : Hid (Below rb w0 w2) := Lib.hid (by rw [hw2]; exact HBEL.out.setCell (p := ⟨rb, 0, none⟩) (Nat.le_refl _) _)
          have HU2 : Hid (But w.heap.size rb w w2) := Lib.hid (by rw [hw2]; exact (But.refl _ _ _).setB 0 _)
          have HC2 : Hid (IsB w0 (some ⟨b, off + 8, none⟩) k (cap - 8) (R.drop 8)) := Lib.hid (by have := HB.out.cut 8 (by omega); simpa [hc8] using this)
          rw [← hw2]
          clear hw2 hf0 hc0
          refine (taken_any rb w0 b (off + 8) k (cap - 8) (R.drop 8) w2 HX2.out HC2.out HB2.out h0 (by rw [HDL.out]; omega) N (by omega)).mono ?_
          rintro e w3 ⟨hbut, hm⟩
          have HBUT : Hid (But w.heap.size rb w w3) := Lib.hid (HU2.out.trans (hbut.mono HU2.out.size))
          have HMM := Lib.hid hm
          clear hbut hm HX2 HB2 HU2
          cases ht : takenL N (R.drop 8) with
          | none =>
            have := HMM.out
            rw [ht] at this
            subst this
            have HF : Hid (nextL R = none) := Lib.hid (by rw [HE2.out, ht])
            clear ht HMM
            go_wp2_with fail
            exact ⟨rfl, HBUT.out, by rw [HF.out]⟩
          | some q =>
            have := HMM.out
            rw [ht] at this
            obtain ⟨v, rfl, hv, hr⟩ := this
            obtain ⟨a3, n3, c3, rfl, hv3⟩ := hv
            have HF : Hid (nextL R = some q) := Lib.hid (by rw [HE2.out, ht])
            have HV3 := Lib.hid hv3
            have HRD := Lib.hid hr
            clear ht HMM hv3 hr
            go_wp2_with fail
            go_ret
            refine ⟨HBUT.out, ?_⟩
            rw [HF.out]
            exact ⟨_, rfl, ⟨_, _, _, rfl, HV3.out⟩, HRD.out⟩

end Go.Proofs.Ythjihibocobndaa

/-
  The contract of whole. Conditions: the device is as Dv says.
-/
import Derived.Test.YtgjckddcnmbceaaGreatDoorJDev
namespace Go.Proofs.YtgjckddcnmbceaaGreatDoor
open Go.RowKit
set_option linter.unusedVariables false

/-- The bytes of a half. -/
def reg (n : Nat) (L : List UInt8) (h : Nat) : List UInt8 := (L.drop (256 * fst n h)).take (256 * half n)
theorem reg_step (L : List UInt8) (f k : Nat) : (L.drop (256 * f)).take (256 * k) ++ sec L (f + k) = (L.drop (256 * f)).take (256 * (k + 1)) := by
  unfold sec
  rw [show 256 * (k + 1) = 256 * k + 256 by omega, List.take_add, List.drop_drop, show 256 * f + 256 * k = 256 * (f + k) by omega]
theorem fst_end {n h : Nat} (hh : h ≤ 1) : fst n h + half n ≤ max n 2 := by
  unfold fst half
  rcases (show h = 0 ∨ h = 1 by omega) with rfl | rfl <;> omega
theorem reg_length {n h : Nat} {L : List UInt8} (hL : L.length = 256 * n) (hh : h ≤ 1) (hn : 2 ≤ n) : (reg n L h).length = 256 * half n := by
  have := fst_end (n := n) hh
  unfold reg
  rw [List.length_take, List.length_drop]
  omega

set_option maxRecDepth 100000 in
set_option maxHeartbeats 2000000 in
theorem whole_ok {w : World} {B pd n m k : Nat} {L : List UInt8} (hd : Dv w B pd n L m k) (h : Nat) (hh : h ≤ 1) (hn : 2 ≤ n) :
    Calls Tryz.prog 45 #[.pointer (some ⟨pd, 0, none⟩), .int .i64 (h : Int)] w fun e w' => ∃ v, e = .returned (.tuple #[v, .int .i64 0]) ∧ w'.ownsRow w.heap.size 5 1 v (reg n L h).length ((reg n L h).map bv) ∧ Below w.heap.size w w' := by
  obtain ⟨i0, hi, hz0, hz1, hz2⟩ := info_u8_parts
  have HI := Lib.hid hi
  have HZ0 := Lib.hid hz0
  have HZ1 := Lib.hid hz1
  have HZ2 := Lib.hid hz2
  have HD := Lib.hid hd
  have hfe := fst_end (n := n) hh
  have hr := hd.room
  obtain ⟨B0, hB0⟩ : ∃ B0, B0 = w.heap.size := ⟨_, rfl⟩
  rw [← hB0]
  have HB0 := Lib.hid hB0
  obtain ⟨H, hH⟩ : ∃ H, H = half n := ⟨_, rfl⟩
  obtain ⟨f, hf⟩ : ∃ f, f = fst n h := ⟨_, rfl⟩
  have HHalf := Lib.hid (fun w => half_any n w hr)
  have HF : Hid (∀ w', Dv w' B pd n L m k → Calls Tryz.prog 53 #[.pointer (some ⟨pd, 0, none⟩), .int .i64 (h : Int)] w' fun e w2 => e = .returned (.int .i64 (f : Int)) ∧ w' = w2) := Lib.hid (fun w' h' => by rw [hf]; exact first_any h' h hh)
  have HREG : Hid (reg n L h = (L.drop (256 * f)).take (256 * H)) := Lib.hid (by rw [hf, hH]; rfl)
  have HRL : Hid ((reg n L h).length = 256 * H) := Lib.hid (by rw [hH]; exact reg_length hd.ll hh hn)
  rw [← hH, ← hf] at hfe
  rw [← hH] at HHalf
  have HMX : Hid (f + H ≤ n) := Lib.hid (by omega)
  have HLL := Lib.hid hd.ll
  have hHs : H ≤ 8192 := by omega
  have hfs : f ≤ 8192 := by omega
  obtain ⟨R, hR⟩ : ∃ R, R = reg n L h := ⟨_, rfl⟩
  rw [← hR] at HREG HRL ⊢
  have HFE := Lib.hid hfe
  clear hi hz0 hz1 hz2 hd hB0 hH hf hR hfe
  have HLen := Lib.hid (dlen HD.out)
  go_enter Tryz.func45, Tryz.ntmps45
  go_wp2_with (first | (go_at_call 38; refine HLen.out.mono ?_; rintro e w1 ⟨rfl, rfl⟩) | (go_at_call 10; refine (HHalf.out _).mono ?_; rintro e w1 ⟨rfl, rfl⟩))
  go_loopw [6, 13] (fun v ii wr => ∃ (j : Nat), j ≤ H ∧ ii = .int .i64 j ∧ Hid (wr.ownsRow B0 5 1 v (256 * j) (((L.drop (256 * f)).take (256 * j)).map bv)) ∧ Hid (Below B0 w wr)) (fun _ ii _ => H - (intOf ii).toNat)
  case atStart => exact ⟨0, by omega, rfl, Lib.hid (by simpa using World.ownsRow_nil _ _ _ _), Lib.hid (Below.refl _ _)⟩
  case round =>
    obtain ⟨j, hj, rfl, ho, hb⟩ := hrel
    by_cases hlt : j < H
    · have hji : (j : Int) < (H : Int) := by omega
      have Dr : Hid (Dv _ B pd n L m k) := Lib.hid (HD.out.later (by rw [← HB0.out]; exact hb.out))
      have HFr := Lib.hid (HF.out _ Dr.out)
      have HR := Lib.hid (dread Dr.out (f + j) (by have := HMX.out; omega))
      have HLEN : Hid ((sec L (f + j)).length = 256) := Lib.hid (sec_length HLL.out (by have := HMX.out; omega))
      have HSTEP := Lib.hid (reg_step L f j)
      obtain ⟨P, hP⟩ : ∃ P, P = sec L (f + j) := ⟨_, rfl⟩
      rw [← hP] at HR HLEN HSTEP
      obtain ⟨X, hX⟩ : ∃ X, X = (L.drop (256 * f)).take (256 * j) := ⟨_, rfl⟩
      rw [← hX] at ho HSTEP
      obtain ⟨F, hF⟩ : ∃ F, F = f + j := ⟨_, rfl⟩
      have hFi : (f : Int) + (j : Int) = (F : Int) := by omega
      have hFs : F ≤ 16384 := by omega
      rw [← hF] at HR
      clear hP hX hF
      go_upto_region 6 with (first | (go_at_call 53; refine HFr.out.mono ?_; rintro e w1 ⟨rfl, rfl⟩) | (go_at_call 50; refine HR.out.mono ?_; rintro e w2 ⟨b2, rfl, hh2, hlo2, hb2⟩))
      have I2 := Lib.hid (isB_has hh2 (by rw [HLEN.out]; omega))
      rw [HLEN.out] at I2
      have B2 : Hid (Below B0 w w2) := Lib.hid (hb.out.trans (hb2.mono (by rw [HB0.out]; exact hb.out.size)))
      have O2 := Lib.hid (own_later ho.out hb2)
      have S2 : Hid (B0 ≤ w2.heap.size) := Lib.hid (by rw [HB0.out]; exact B2.out.size)
      clear hh2 hlo2 hb2 hb ho HR HFr Dr
      go_wp2_with (at_builtin; go_must (refine app_bytes rfl (.tmp 29) (.tmp 30) 33 rfl B0 5 i0 Tryz.underlying33 HI.out HZ0.out HZ1.out HZ2.out _ (256 * j) X rfl O2.out (some ⟨b2, 0, none⟩) 256 256 P rfl I2.out (by omega) S2.out ?_))
      intro v5 w5 ho5 hg5
      have O5 : Hid (w5.ownsRow B0 5 1 v5 (256 * (j + 1)) (((L.drop (256 * f)).take (256 * (j + 1))).map bv)) := Lib.hid (by rw [← HSTEP.out, List.map_append, show 256 * (j + 1) = 256 * j + 256 by omega]; exact ho5)
      have B5 : Hid (Below B0 w w5) := Lib.hid (row_below B2.out S2.out O2.out hg5)
      clear ho5 hg5 O2 I2
      go_wp2_with fail
      go_roundw
      case rel => exact ⟨j + 1, by omega, by go_num, O5, B5⟩
      case measure => simp [intOf]; omega
    · have hji : ¬ (j : Int) < (H : Int) := by omega
      obtain rfl : j = H := by omega
      rw [← HREG.out, ← HRL.out] at ho
      go_wp2_with fail
      go_ret2
      exact ⟨_, rfl, ho.out, hb.out⟩

end Go.Proofs.YtgjckddcnmbceaaGreatDoor

/-
  The contract of newest. Conditions: the device is as Dv says, with two sectors at least; the digest's laid variables are those of the text.
-/
import Derived.Test.YtepejpapkpjjgaaGreatDoorJDev
import Derived.OwnWalk
namespace Go.Proofs.YtepejpapkpjjgaaGreatDoor
open Go.RowKit
set_option linter.unusedVariables false

def newK (a b : List UInt8) : Nat → Nat × Nat
  | 0 => (1, 0)
  | 1 => if 0 < valL a then (0, valL a) else (1, 0)
  | _ => newL a b
theorem newK_step (L : List UInt8) (k : Nat) (hk : k < 2) : newK (sec L 0) (sec L 1) (k + 1) = if (newK (sec L 0) (sec L 1) k).2 < valL (sec L k) then (k, valL (sec L k)) else newK (sec L 0) (sec L 1) k := by
  rcases (show k = 0 ∨ k = 1 by omega) with rfl | rfl
  · rfl
  · rfl

set_option maxRecDepth 100000 in
set_option maxHeartbeats 2000000 in
theorem newest_any {w : World} {B pd n m k : Nat} {L : List UInt8} (hd : Dv w B pd n L m k) (hl : LaidW w) (hn : 2 ≤ n) :
    Calls Tryz.prog 40 #[.pointer (some ⟨pd, 0, none⟩)] w fun e w' => e = .returned (.tuple #[.int .i64 (((newL (sec L 0) (sec L 1)).1 : Nat) : Int), .int .u64 (((newL (sec L 0) (sec L 1)).2 : Nat) : Int), .int .i64 0]) ∧ Below w.heap.size w w' := by
  have HD := Lib.hid hd
  have HL := Lib.hid hl
  obtain ⟨x, hx⟩ : ∃ x, x = newL (sec L 0) (sec L 1) := ⟨_, rfl⟩
  rw [← hx]
  have HX := Lib.hid hx
  clear hd hl hx
  go_enter Tryz.func40, Tryz.ntmps40
  go_wp2_with fail
  go_loopw [5, 6, 13] (fun h u ii wr => ∃ (j : Nat) (y : Nat × Nat), j ≤ 2 ∧ ii = .int .i64 j ∧ h = .int .i64 (y.1 : Int) ∧ u = .int .u64 (y.2 : Int) ∧ Hid (y = newK (sec L 0) (sec L 1) j) ∧ Hid (Below w.heap.size w wr)) (fun _ _ ii _ => 2 - (intOf ii).toNat)
  case atStart => exact ⟨0, (1, 0), by omega, rfl, rfl, rfl, Lib.hid rfl, Lib.hid (Below.refl _ _)⟩
  case round =>
    obtain ⟨j, y, hj, rfl, rfl, rfl, hy, hb⟩ := hrel
    by_cases hlt : j < 2
    · have hji : (j : Int) < 2 := by omega
      have HR := Lib.hid (dread (HD.out.later hb.out) j (by omega))
      have HLEN : Hid ((sec L j).length = 256) := Lib.hid (sec_length HD.out.ll (by omega))
      have HST := Lib.hid (newK_step L j hlt)
      obtain ⟨P, hP⟩ : ∃ P, P = sec L j := ⟨_, rfl⟩
      rw [← hP] at HR HLEN HST
      rw [← hy.out] at HST
      obtain ⟨NN, hNN⟩ : ∃ NN, NN = numL P := ⟨_, rfl⟩
      have HV : Hid (valL P = if (unpackL P NN).isSome then NN else 0) := Lib.hid (by rw [hNN]; rfl)
      have HNN := Lib.hid hNN
      clear hP hNN
      go_upto_region 8 with (go_at_call 49; refine HR.out.mono ?_; rintro e w2 ⟨b2, rfl, hh2, hlo2, hb2⟩)
      have I2 := Lib.hid (isB_has hh2 (by rw [HLEN.out]; omega))
      rw [HLEN.out] at I2
      have B2 : Hid (Below w.heap.size w w2) := Lib.hid (hb.out.trans (hb2.mono hb.out.size))
      have L2 : Hid (LaidW w2) := Lib.hid (HL.out.below B2.out HL.out.two)
      clear hh2 hlo2 hb2 hb HR
      have HN2 : Hid (Calls Tryz.prog 50 #[.slice (some ⟨b2, 0, none⟩) 256 256] w2 fun e w' => e = .returned (.int .u64 (NN : Int)) ∧ w2 = w') := Lib.hid (by rw [HNN.out]; exact number_any _ 256 256 P w2 I2.out (by omega))
      have HU := Lib.hid (unpack_any _ 256 256 P NN w2 I2.out L2.out)
      obtain ⟨r, hr⟩ : ∃ r, r = unpackL P NN := ⟨_, rfl⟩
      rw [← hr] at HU HV
      clear hr
      cases r with
      | none =>
        go_wp2_with (first | (go_at_call 50; refine HN2.out.mono ?_; rintro e w3 ⟨rfl, rfl⟩) | (go_at_call 45; refine HU.out.mono ?_; rintro e w3 ⟨hb3, rfl⟩; have B3 := Lib.hid (B2.out.trans (hb3.mono B2.out.size)); clear hb3))
        go_roundw
        case rel => exact ⟨j + 1, y, by omega, by go_num, rfl, rfl, Lib.hid (by rw [HST.out, HV.out]; simp), B3⟩
        case measure => simp [intOf]; omega
      | some q =>
        by_cases hlt2 : y.2 < NN
        · have hli : (y.2 : Int) < (NN : Int) := by omega
          go_wp2_with (first | (go_at_call 50; refine HN2.out.mono ?_; rintro e w3 ⟨rfl, rfl⟩) | (go_at_call 45; refine HU.out.mono ?_; rintro e w3 ⟨hb3, b3, o3, c3, rfl, _⟩; have B3 := Lib.hid (B2.out.trans (hb3.mono B2.out.size)); clear hb3))
          go_roundw
          case rel => exact ⟨j + 1, (j, NN), by omega, by go_num, rfl, rfl, Lib.hid (by rw [HST.out, HV.out]; simp [hlt2]), B3⟩
          case measure => simp [intOf]; omega
        · have hli : ¬ (y.2 : Int) < (NN : Int) := by omega
          go_wp2_with (first | (go_at_call 50; refine HN2.out.mono ?_; rintro e w3 ⟨rfl, rfl⟩) | (go_at_call 45; refine HU.out.mono ?_; rintro e w3 ⟨hb3, b3, o3, c3, rfl, _⟩; have B3 := Lib.hid (B2.out.trans (hb3.mono B2.out.size)); clear hb3))
          go_roundw
          case rel => exact ⟨j + 1, y, by omega, by go_num, rfl, rfl, Lib.hid (by rw [HST.out, HV.out]; simp [hlt2]), B3⟩
          case measure => simp [intOf]; omega
    · have hji : ¬ (j : Int) < 2 := by omega
      obtain rfl : j = 2 := by omega
      have he : y = x := by rw [hy.out, HX.out]; rfl
      subst he
      go_wp2_with fail
      go_ret3
      exact ⟨rfl, hb.out⟩

end Go.Proofs.YtepejpapkpjjgaaGreatDoor

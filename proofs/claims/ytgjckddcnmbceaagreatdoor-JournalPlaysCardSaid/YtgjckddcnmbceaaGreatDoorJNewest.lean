/-
  The contracts of later and newest. Conditions: the device is as Dv says, with two sectors at least; the digest's laid variables are those of the text.
-/
import Derived.Test.YtgjckddcnmbceaaGreatDoorJDev
import Derived.OwnWalk
namespace Go.Proofs.YtgjckddcnmbceaaGreatDoor
open Go.RowKit
set_option linter.unusedVariables false

theorem later_eq (n m : Nat) (hn : n < 18446744073709551616) (hm : m < 18446744073709551616) : decide (0 < wrap64 (IntKind.u64.wrap ((n : Int) - (m : Int)))) = laterB n m := by
  have e : IntKind.u64.wrap ((n : Int) - (m : Int)) = (((n + 18446744073709551616 - m) % 18446744073709551616 : Nat) : Int) := by simp [IntKind.wrap, IntKind.bits, IntKind.signed]; omega
  rw [e]
  obtain ⟨x, hx⟩ : ∃ x, x = (n + 18446744073709551616 - m) % 18446744073709551616 := ⟨_, rfl⟩
  unfold laterB
  rw [← hx]
  have hxl : x < 18446744073709551616 := by omega
  have e2 : wrap64 (x : Int) = if x < 9223372036854775808 then (x : Int) else (x : Int) - 18446744073709551616 := by
    unfold wrap64; split <;> omega
  rw [e2]
  by_cases h : x < 9223372036854775808
  · rw [if_pos h]; by_cases h0 : 0 < x
    · rw [decide_eq_true (by omega), decide_eq_true ⟨h0, h⟩]
    · rw [decide_eq_false (by omega), decide_eq_false (by omega)]
  · rw [if_neg h, decide_eq_false (by omega), decide_eq_false (by omega)]
theorem results_tmp4 {fn : Func} {t u v x : Tmp} (h : fn.results = #[.tmp t, .tmp u, .tmp v, .tmp x]) (tmps : Array Value) (P : Program) (w : World) :
    (results fn tmps).run P w = .ok (.tuple #[tmps.getD t undef, tmps.getD u undef, tmps.getD v undef, tmps.getD x undef]) w := by
  simp [results, h]
set_option maxRecDepth 100000 in
theorem later_any (n m : Nat) (hn : n < 18446744073709551616) (hm : m < 18446744073709551616) (w : World) :
    Calls Tryz.prog 52 #[.int .u64 (n : Int), .int .u64 (m : Int)] w fun e w' => e = .returned (.bool (laterB n m)) ∧ w = w' := by
  have h := later_eq n m hn hm
  go_enter Tryz.func52, Tryz.ntmps52
  go_wp2_with fail
  go_ret
  exact ⟨by rw [← h]; rfl, rfl⟩

def newK (a b : List UInt8) : Nat → Nat × Nat × Bool
  | 0 => (0, 0, false)
  | 1 => pickL (0, 0, false) 0 (valO a)
  | _ => newL a b
theorem newK_step (L : List UInt8) (k : Nat) (hk : k < 2) : newK (sec L 0) (sec L 1) (k + 1) = pickL (newK (sec L 0) (sec L 1) k) k (valO (sec L k)) := by
  rcases (show k = 0 ∨ k = 1 by omega) with rfl | rfl
  · rfl
  · rfl
theorem pickL_lt {y : Nat × Nat × Bool} {i : Nat} {v : Option Nat} (hy : y.2.1 < 18446744073709551616) (hv : ∀ x, v = some x → x < 18446744073709551616) : (pickL y i v).2.1 < 18446744073709551616 := by
  unfold pickL
  cases v with
  | none => exact hy
  | some x =>
    show (if (!y.2.2 || laterB x y.2.1) = true then (i, x, true) else y).2.1 < _
    split
    · exact hv x rfl
    · exact hy
theorem newK_lt (L : List UInt8) (k : Nat) : (newK (sec L 0) (sec L 1) k).2.1 < 18446744073709551616 := by
  have h1 : (newK (sec L 0) (sec L 1) 1).2.1 < 18446744073709551616 := pickL_lt (by decide) (fun x h => valO_lt h)
  match k with
  | 0 => exact (by decide : (0 : Nat) < 18446744073709551616)
  | 1 => exact h1
  | k + 2 => exact pickL_lt h1 (fun x h => valO_lt h)

set_option maxRecDepth 100000 in
set_option maxHeartbeats 2000000 in
theorem newest_any {w : World} {B pd n m k : Nat} {L : List UInt8} (hd : Dv w B pd n L m k) (hl : LaidW w) (hn : 2 ≤ n) :
    Calls Tryz.prog 40 #[.pointer (some ⟨pd, 0, none⟩)] w fun e w' => e = .returned (.tuple #[.int .i64 (((newL (sec L 0) (sec L 1)).1 : Nat) : Int), .int .u64 (((newL (sec L 0) (sec L 1)).2.1 : Nat) : Int), .bool (newL (sec L 0) (sec L 1)).2.2, .int .i64 0]) ∧ Below w.heap.size w w' := by
  have HD := Lib.hid hd
  have HL := Lib.hid hl
  have HKL := Lib.hid (newK_lt L)
  obtain ⟨x, hx⟩ : ∃ x, x = newL (sec L 0) (sec L 1) := ⟨_, rfl⟩
  rw [← hx]
  have HX := Lib.hid hx
  clear hd hl hx
  go_enter Tryz.func40, Tryz.ntmps40
  go_wp2_with fail
  go_loopw [2, 3, 4, 12] (fun h u b ii wr => ∃ (j : Nat) (y : Nat × Nat × Bool), j ≤ 2 ∧ ii = .int .i64 j ∧ h = .int .i64 (y.1 : Int) ∧ u = .int .u64 (y.2.1 : Int) ∧ b = .bool y.2.2 ∧ Hid (y = newK (sec L 0) (sec L 1) j) ∧ Hid (Below w.heap.size w wr)) (fun _ _ _ ii _ => 2 - (intOf ii).toNat)
  case atStart => exact ⟨0, (0, 0, false), by omega, rfl, rfl, rfl, rfl, Lib.hid rfl, Lib.hid (Below.refl _ _)⟩
  case round =>
    obtain ⟨j, y, hj, rfl, rfl, rfl, rfl, hy, hb⟩ := hrel
    by_cases hlt : j < 2
    · have hji : (j : Int) < 2 := by omega
      have HR := Lib.hid (dread (HD.out.later hb.out) j (by omega))
      have HLEN : Hid ((sec L j).length = 256) := Lib.hid (sec_length HD.out.ll (by omega))
      have HST := Lib.hid (newK_step L j hlt)
      obtain ⟨P, hP⟩ : ∃ P, P = sec L j := ⟨_, rfl⟩
      have HYL : Hid (y.2.1 < 18446744073709551616) := Lib.hid (by rw [hy.out]; exact HKL.out j)
      rw [← hP] at HR HLEN HST
      rw [← hy.out] at HST
      obtain ⟨NN, hNN⟩ : ∃ NN, NN = numL P := ⟨_, rfl⟩
      have HV : Hid (valO P = if (unpackL P NN).isSome then some NN else none) := Lib.hid (by rw [hNN]; rfl)
      have HNL : Hid (NN < 18446744073709551616) := Lib.hid (by rw [hNN]; exact numL_lt P)
      have HNN := Lib.hid hNN
      clear hP hNN
      go_upto_region 7 with (go_at_call 50; refine HR.out.mono ?_; rintro e w2 ⟨b2, rfl, hh2, hlo2, hb2⟩)
      have I2 := Lib.hid (isB_has hh2 (by rw [HLEN.out]; omega))
      rw [HLEN.out] at I2
      have B2 : Hid (Below w.heap.size w w2) := Lib.hid (hb.out.trans (hb2.mono hb.out.size))
      have L2 : Hid (LaidW w2) := Lib.hid (HL.out.below B2.out HL.out.two)
      clear hh2 hlo2 hb2 hb HR
      have HN2 : Hid (Calls Tryz.prog 51 #[.slice (some ⟨b2, 0, none⟩) 256 256] w2 fun e w' => e = .returned (.int .u64 (NN : Int)) ∧ w2 = w') := Lib.hid (by rw [HNN.out]; exact number_any _ 256 256 P w2 I2.out (by omega))
      have HU := Lib.hid (unpack_any _ 256 256 P NN w2 I2.out L2.out)
      obtain ⟨r, hr⟩ : ∃ r, r = unpackL P NN := ⟨_, rfl⟩
      rw [← hr] at HU HV
      clear hr
      obtain ⟨y1, y2, y3⟩ := y
      have HLT := Lib.hid (fun v => later_any NN y2 HNL.out HYL.out v)
      simp only at *
      cases r with
      | none =>
        go_wp2_with (first | (go_at_call 51; refine HN2.out.mono ?_; rintro e w3 ⟨rfl, rfl⟩) | (go_at_call 46; refine HU.out.mono ?_; rintro e w3 ⟨hb3, rfl⟩; have B3 := Lib.hid (B2.out.trans (hb3.mono B2.out.size)); clear hb3))
        go_roundw
        case rel => exact ⟨j + 1, (y1, y2, y3), by omega, by go_num, rfl, rfl, rfl, Lib.hid (by rw [HST.out, HV.out]; rfl), B3⟩
        case measure => simp [intOf]; omega
      | some q =>
        cases y3 with
        | false =>
          go_wp2_with (first | (go_at_call 51; refine HN2.out.mono ?_; rintro e w3 ⟨rfl, rfl⟩) | (go_at_call 46; refine HU.out.mono ?_; rintro e w3 ⟨hb3, b3, o3, c3, rfl, _⟩; have B3 := Lib.hid (B2.out.trans (hb3.mono B2.out.size)); clear hb3))
          go_roundw
          case rel => exact ⟨j + 1, (j, NN, true), by omega, by go_num, rfl, rfl, rfl, Lib.hid (by rw [HST.out, HV.out]; rfl), B3⟩
          case measure => simp [intOf]; omega
        | true =>
          obtain ⟨lb, hlb⟩ : ∃ lb, lb = laterB NN y2 := ⟨_, rfl⟩
          rw [← hlb] at HLT
          have HLB := Lib.hid hlb
          clear hlb
          cases lb with
          | true =>
            go_wp2_with (first | (go_at_call 51; refine HN2.out.mono ?_; rintro e w3 ⟨rfl, rfl⟩) | (go_at_call 52; refine (HLT.out _).mono ?_; rintro e w4 ⟨rfl, rfl⟩) | (go_at_call 46; refine HU.out.mono ?_; rintro e w3 ⟨hb3, b3, o3, c3, rfl, _⟩; have B3 := Lib.hid (B2.out.trans (hb3.mono B2.out.size)); clear hb3))
            go_roundw
            case rel => exact ⟨j + 1, (j, NN, true), by omega, by go_num, rfl, rfl, rfl, Lib.hid (by rw [HST.out, HV.out]; simp [pickL, ← HLB.out]), B3⟩
            case measure => simp [intOf]; omega
          | false =>
            go_wp2_with (first | (go_at_call 51; refine HN2.out.mono ?_; rintro e w3 ⟨rfl, rfl⟩) | (go_at_call 52; refine (HLT.out _).mono ?_; rintro e w4 ⟨rfl, rfl⟩) | (go_at_call 46; refine HU.out.mono ?_; rintro e w3 ⟨hb3, b3, o3, c3, rfl, _⟩; have B3 := Lib.hid (B2.out.trans (hb3.mono B2.out.size)); clear hb3))
            go_roundw
            case rel => exact ⟨j + 1, (y1, y2, true), by omega, by go_num, rfl, rfl, rfl, Lib.hid (by rw [HST.out, HV.out]; simp [pickL, ← HLB.out]), B3⟩
            case measure => simp [intOf]; omega
    · have hji : ¬ (j : Int) < 2 := by omega
      obtain rfl : j = 2 := by omega
      have he : y = x := by rw [hy.out, HX.out]; rfl
      subst he
      go_wp2_with fail
      (try simp only [Exit.inBlock, Exit.then])
      refine bodyPost_ret (results_tmp4 rfl _ _ _) rfl ?_
      exact ⟨rfl, hb.out⟩

end Go.Proofs.YtgjckddcnmbceaaGreatDoor

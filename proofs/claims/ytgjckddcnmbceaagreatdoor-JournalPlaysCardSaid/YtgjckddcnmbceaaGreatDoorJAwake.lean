/-
  The law's awake holds. Conditions: what is laid.
-/
import Derived.Test.YtgjckddcnmbceaaGreatDoorJStep
import Derived.Lib.SmallJoins
namespace Go.Proofs.YtgjckddcnmbceaaGreatDoor
open Go.RowKit
set_option linter.unusedVariables false

theorem below_row (w : World) (C : Array Value) (t : TypeId) (fr : Nat × Nat) : Below w.heap.size w (w.alloc (.cells C t fr)) := (Below.refl _ _).alloc (Nat.le_refl _) _
theorem laid_first (m : Nat) (base : List UInt8) : (laidL m base []).length = 32 + base.length := by rw [laid_zero, packL_length]

/-- Append of a byte that the code spells. -/
theorem app_lit {w : World} {B Bo pd pj n k h m : Nat} {L base : List UInt8} {recs : List (List UInt8)} (j : Jn w B Bo pd pj n k h m L base recs) (hl : LaidW w) (hgB : 3 < B) (hB : B ≤ Bo) (hBo : Bo ≤ w.heap.size) (c : UInt8) (v : Value) (hv : v = bv c)
    (hn : 2 ≤ n) (hfit : (laidL m base recs).length + 33 ≤ 256 * half n) (hb : 256 * half n ≤ 90000) (hm : m ≤ 1000) (hk : k ≤ 1000000) :
    Calls Tryz.prog 11 #[.pointer (some ⟨pj, 0, none⟩), .slice (some ⟨w.heap.size, 0, none⟩) 1 1] (w.alloc (.cells #[v] 5 (1, 2))) fun e w' => e = .returned (.int .i64 0) ∧ (∃ L', Jn w' B Bo pd pj n (k + 34) h m L' base (recs ++ [[c]])) ∧ Below B w w' := by
  subst hv
  have hb0 : Below w.heap.size w (w.alloc (.cells #[bv c] 5 (1, 2))) := below_row _ _ _ _
  have hs : (w.alloc (.cells #[bv c] 5 (1, 2))).heap.size = w.heap.size + 1 := by simp
  have hr : (w.alloc (.cells #[bv c] 5 (1, 2))).heap[w.heap.size]? = some (.cells #[bv c] 5 (1, 2)) := by show (w.heap.push _)[w.heap.size]? = _; simp
  have hI : IsB (w.alloc (.cells #[bv c] 5 (1, 2))) (some ⟨w.heap.size, 0, none⟩) 1 1 [c] :=
    ⟨rfl, .inr ⟨_, 0, rfl, by omega, fun i hi => by obtain rfl : i = 0 := by omega
                                                    rw [Go.Joins.cell_of_block hr]; rfl⟩, (fun e => by cases e), ⟨Nat.le_refl _, by unfold maxLen; omega⟩, by omega⟩
  refine ((j.later hb0).app (hl.below hb0 (by omega)) hgB hB (by omega) _ 1 1 [c] hI (fun b off e _ => by cases e; exact ⟨by omega, .inr ⟨_, _, hr⟩⟩) hn (by simpa using hfit) (by omega) (by omega) hb).mono ?_
  rintro e w' ⟨he, ⟨L', hj⟩, hkp⟩
  exact ⟨he, ⟨L', hj⟩, (hb0.mono (by omega)).trans (hkp.below (by omega))⟩

set_option maxRecDepth 100000 in
set_option maxHeartbeats 4000000 in
theorem awake_any (w : World) (hl : LaidW w) : Calls Tryz.prog 8 #[] w fun e w' => e = .returned (.bool true) ∧ Below w.heap.size w w' := by
  have HFR := Lib.hid (fresh_any 12 w hl (by decide) (by decide))
  have HLW := Lib.hid hl
  have hgB : Hid (3 < w.heap.size) := Lib.hid hl.two
  clear hl
  go_enter Tryz.func8, Tryz.ntmps8
  go_upto_region 4 with (first
    | (go_at_call 9; refine HFR.out.mono ?_; rintro e w1 ⟨pd, pj, L, rfl, hj, hb⟩;
       have B1 := Lib.hid hb;
       have hcv := Lib.run_convert_bytes_const (P := Tryz.prog) w1 33 5 #[.int .u8 97] 1 1 Tryz.underlying33 Tryz.underlying5;
       have HA := Lib.hid (app_lit hj (HLW.out.below B1.out hgB.out) hgB.out (Nat.le_refl _) B1.out.size 97 (.int .u8 97) rfl (by decide) (by rw [laid_first]; decide) (by decide) (by decide) (by decide));
       clear hj hb HFR)
    | (go_at_call 11; refine HA.out.mono ?_; rintro e w2 ⟨rfl, ⟨L2, hj2⟩, hb2⟩;
       have B2 := Lib.hid (B1.out.trans hb2);
       have hcv2 := Lib.run_convert_bytes_const (P := Tryz.prog) w2 33 5 #[.int .u8 98] 1 1 Tryz.underlying33 Tryz.underlying5;
       have HAA := Lib.hid (app_lit hj2 (HLW.out.below B2.out hgB.out) hgB.out (Nat.le_refl _) B2.out.size 98 (.int .u8 98) rfl (by decide) (by rw [laid_len, laid_first]; decide) (by decide) (by decide) (by decide));
       clear hj2 hb2 hcv HA)
    | (go_at_call 11; refine HAA.out.mono ?_; rintro e w3 ⟨rfl, ⟨L3, hj3⟩, hb3⟩;
       have B3 := Lib.hid (B2.out.trans hb3);
       have HRS := Lib.hid hj3.restart;
       have HON := Lib.hid hj3.on_;
       clear hj3 hb3 hcv2 HAA))
  go_upto_region 5 with (go_at_call 14; refine HRS.out.mono ?_; rintro e w4 ⟨rfl, hd4, hk4⟩)
  have B4 := Lib.hid (B3.out.trans (hk4.below B3.out.size))
  have HOP := Lib.hid (open_jn hd4 HON.out (HLW.out.below B4.out hgB.out) B4.out.size (by decide) (by decide) (by decide))
  clear hd4 hk4 HRS HON
  go_upto_region 6 with (go_at_call 15; refine HOP.out.mono ?_; rintro e w5 ⟨p5, rfl, hj5, hb5⟩)
  have B5 := Lib.hid (B4.out.trans (hb5.mono B4.out.size))
  have HHA := Lib.hid (fun x => half_any 12 x (by decide))
  obtain ⟨C, hC⟩ : ∃ C : Array Value, C = #[.string ⟨#[97]⟩, .string ⟨#[98]⟩] := ⟨_, rfl⟩
  have hr : (w5.alloc (.cells C 9)).heap[w5.heap.size]? = some (.cells C 9) := by show (w5.heap.push _)[w5.heap.size]? = _; simp
  have hs6 : (w5.alloc (.cells C 9)).heap.size = w5.heap.size + 1 := by simp
  have B6 := Lib.hid (B5.out.trans ((below_row w5 C 9 (0, 0)).mono B5.out.size))
  have HSM := Lib.hid (same_any ((hj5.lower B4.out.size).later (below_row w5 C 9 (0, 0))) B6.out.size (by decide) (by intro i hi; obtain rfl | rfl : i = 0 ∨ i = 1 := (by have h9 : i < 2 := hi; omega) <;> decide) (by decide) (some ⟨w5.heap.size, 0, none⟩) 2
    (fun i hi => by
      refine ⟨_, 0, rfl, by omega, ?_⟩
      rw [Go.Joins.cell_of_block hr, hC]
      obtain rfl | rfl : i = 0 ∨ i = 1 := by have h9 : i < 2 := hi; omega
      · rfl
      · rfl) ⟨by decide, by decide⟩)
  rw [hC] at HSM B6
  clear hr hs6 hC hj5 hb5 HOP
  go_wp2_with (first
    | (go_at_call 16; refine HSM.out.mono ?_; rintro e w7 ⟨rfl, hb7⟩; have B7 := Lib.hid (B6.out.trans (hb7.mono B6.out.size)); clear hb7)
    | (go_at_call 10; refine (HHA.out _).mono ?_; rintro e w8 ⟨rfl, rfl⟩))
  go_ret
  exact ⟨rfl, B7.out⟩
end Go.Proofs.YtgjckddcnmbceaaGreatDoor

/-
  The contract of Format. Conditions: the device as Dv says, the digest's laid variables; which half counts is known.
-/
import Derived.Test.YtgjckddcnmbceaaGreatDoorJOpen
namespace Go.Proofs.YtgjckddcnmbceaaGreatDoor
open Go.RowKit
set_option linter.unusedVariables false

theorem built3 (pd h N : Nat) : Tryz.prog.built tJ [(0, .pointer (some ⟨pd, 0, none⟩)), (1, .int .i64 (h : Int)), (2, .int .u64 (N : Int))] = some (jC pd h N (.slice none 0 0) (.slice none 0 0) 0 false false).toArray := by kernel_rfl

set_option maxRecDepth 100000 in
set_option maxHeartbeats 2000000 in
theorem format_ok {w : World} {B pd n m k h0 m0 : Nat} {L : List UInt8} (hd : Dv w B pd n L m k) (hl : LaidW w) {t0 : Bool} (hw : newL (sec L 0) (sec L 1) = (h0, m0, t0)) (hh0 : h0 ≤ 1) (hm0 : m0 < 1000000000) (hh : 2 ≤ half n) (hk : k ≤ 1000000000) (hm : m + 256 * half n ≤ 90000) (hB : B ≤ w.heap.size) (hgB : 3 < B) :
    Calls Tryz.prog 27 #[.pointer (some ⟨pd, 0, none⟩)] w fun e w' => e = .returned (.int .i64 0) ∧ Dv w' B pd n (resetL n L (1 - h0) (m0 + 2) []) 0 (k + 256 * half n + 4) ∧ Kp jT B w w' := by
  have hn : 2 ≤ n := by unfold half at hh; omega
  have HF := Lib.hid (fit_any hd hh)
  have HNW := Lib.hid (newest_any hd hl hn)
  rw [hw] at HNW
  have kf : 32 + ([] : List UInt8).length ≤ 256 * half n := by simp; omega
  have km : m0 < 1000000000000 := by omega
  have kk : k ≤ 1000000000000 := by omega
  have HRS : Hid (∀ x, Below w.heap.size w x → ∀ pj, B ≤ pj → Has x pj (jC pd h0 m0 (.slice none 0 0) (.slice none 0 0) 0 false false) tJ → Calls Tryz.prog 13 #[.pointer (some ⟨pj, 0, none⟩), .slice none 0 0] x fun e w' => e = .returned (.int .i64 0) ∧ Dv w' B pd n (resetL n L (1 - h0) (m0 + 2) []) 0 (k + 256 * half n + 4) ∧ Kp jT B x w' ∧
      ∃ bV', Has w' pj (jC pd (1 - h0) (m0 + 2) bV' (.slice none 0 0) (32 + ([] : List UInt8).length) false false) tJ ∧ w'.ownsRow x.heap.size 5 1 bV' ([] : List UInt8).length (([] : List UInt8).map bv)) :=
    Lib.hid (fun x hx pj hpj hj => reset_ok hj none 0 0 (isB_nil x) (hd.later hx) (hl.below hx hl.two) hh0 hn kf km kk hm (Nat.le_trans hB hx.size) hgB hpj)
  obtain ⟨RES, hRES⟩ : ∃ RES, RES = resetL n L (1 - h0) (m0 + 2) [] := ⟨_, rfl⟩
  obtain ⟨KK, hKK⟩ : ∃ KK, KK = k + 256 * half n + 4 := ⟨_, rfl⟩
  rw [← hRES, ← hKK] at HRS ⊢
  have HB := Lib.hid hB
  clear hd hl hw hh0 hm0 hh hk hm hB hgB hn kf km kk hRES hKK
  go_enter Tryz.func27, Tryz.ntmps27
  go_upto_region 7 with (first | (go_at_call 34; refine HF.out.mono ?_; rintro e w1 ⟨rfl, rfl⟩) | (go_at_call 40; refine HNW.out.mono ?_; rintro e w1 ⟨rfl, hb1⟩))
  have B1 := Lib.hid hb1
  clear hb1
  go_upto_region 8 with fail
  obtain ⟨PJ, hPJ⟩ : ∃ PJ, PJ = w1.heap.size := ⟨_, rfl⟩
  obtain ⟨w2, hw2⟩ : ∃ w2, w2 = w1.alloc (.cells (jC pd h0 m0 (.slice none 0 0) (.slice none 0 0) 0 false false).toArray tJ) := ⟨_, rfl⟩
  have e5 : w1.alloc (.cells #[.pointer (some ⟨pd, 0, none⟩), .int .i64 (h0 : Int), .int .u64 (m0 : Int), .slice none 0 0, .slice none 0 0, .int .i64 0, .bool false, .bool false] tJ) = w2 := by rw [hw2]; rfl
  rw [e5, ← hPJ]
  have J2 : Hid (Has w2 PJ (jC pd h0 m0 (.slice none 0 0) (.slice none 0 0) 0 false false) tJ) := Lib.hid (by rw [hw2, hPJ]; exact Has.new w1 _ _)
  have B2 : Hid (Below w.heap.size w w2) := Lib.hid (by rw [hw2]; exact B1.out.alloc B1.out.size _)
  have HPB : Hid (B ≤ PJ) := Lib.hid (by rw [hPJ]; exact Nat.le_trans HB.out B1.out.size)
  have HR := Lib.hid (HRS.out w2 B2.out PJ HPB.out J2.out)
  clear hPJ hw2 e5 HRS
  go_wp2_with (go_at_call 13; refine HR.out.mono ?_; rintro e w3 ⟨rfl, hd3, hk3, _⟩)
  go_ret
  exact ⟨rfl, hd3, (Kp.of_below B2.out).trans hk3⟩

end Go.Proofs.YtgjckddcnmbceaaGreatDoor

/-
  The contracts of a nil device, and of the law's awake: the document's example. No conditions.
-/
import Derived.Test.YtjidiholhhdanaaSRest
import Derived.Lib.SlBytesConst
import Derived.Lib.SmallJoins
namespace Go.Proofs.Ytjidiholhhdanaa
open Go.RowKit
set_option linter.unusedVariables false
set_option maxRecDepth 100000

def sectorP : List UInt8 := wholeL [97, 98]
def afterD : List UInt8 := resK [] 0 (clampN 1) [(0, sectorP)] (zer (256 * 2)) 1
def afterL : List UInt8 := latK [(0, sectorP)] afterD (splice (zer (256 * 2)) (256 * 0) sectorP) 1
theorem after_a : (sec afterL 0).getD 0 0 = 97 := by decide +kernel
theorem after_b : (sec afterL 0).getD 1 0 = 0 := by decide +kernel

theorem isB_new {w : World} {b : Nat} {l : List UInt8} (h : Has w b (l.map bv) 5) (hl : l.length ≤ 140737488355328) : IsB w (some ⟨b, 0, none⟩) l.length l.length l := by
  refine ⟨rfl, .inr ⟨b, 0, rfl, h.lt, fun i hi => ?_⟩, (fun e => by cases e), ⟨Nat.le_refl _, by unfold maxLen; omega⟩, hl⟩
  rw [Nat.zero_add]
  exact h.cellAt (map_bv_get _ _ hi)
theorem cells_of {w : World} {b : Nat} {p : List UInt8} (h : Has w b (p.map bv) 5) (hp : p.length = 256) : ∀ j, j < 256 → w.cell? ⟨b, 0 + j, none⟩ = some (bv (p.getD j 0)) := by
  intro j hj
  rw [Nat.zero_add]
  exact h.cellAt (map_bv_get _ _ (by omega))

section
variable {w : World}
theorem nil_len : Calls Try.prog 22 #[.pointer none] w fun e w' => e = .returned (.int .i64 0) ∧ w = w' := by
  go_enter Try.func22, Try.ntmps22
  go_wp2
  go_ret
  exact ⟨rfl, rfl⟩
theorem nil_ops : Calls Try.prog 13 #[.pointer none] w fun e w' => e = .returned (.int .i64 0) ∧ w = w' := by
  go_enter Try.func13, Try.ntmps13
  go_wp2
  go_ret
  exact ⟨rfl, rfl⟩
theorem nil_way : Calls Try.prog 12 #[.pointer none] w fun e w' => e = .returned (.int .i64 0) ∧ w = w' := by
  go_enter Try.func12, Try.ntmps12
  go_wp2
  go_ret
  exact ⟨rfl, rfl⟩
theorem nil_on : Calls Try.prog 11 #[.pointer none] w fun e w' => e = .returned (.bool false) ∧ w = w' := by
  go_enter Try.func11, Try.ntmps11
  go_wp2
  go_ret
  exact ⟨rfl, rfl⟩
theorem nil_sync : Calls Try.prog 20 #[.pointer none] w fun e w' => e = .returned (.int .i64 6) ∧ w = w' := by
  go_enter Try.func20, Try.ntmps20
  go_wp2
  go_ret
  exact ⟨rfl, rfl⟩
theorem nil_arm (i : Int) : Calls Try.prog 21 #[.pointer none, .int .i64 i] w fun e w' => e = .returned (.int .i64 6) ∧ w = w' := by
  go_enter Try.func21, Try.ntmps21
  go_wp2
  go_ret
  exact ⟨rfl, rfl⟩
theorem nil_read (i : Int) : Calls Try.prog 16 #[.pointer none, .int .i64 i] w fun e w' => e = .returned (.tuple #[.slice none 0 0, .int .i64 6]) ∧ w = w' := by
  go_enter Try.func16, Try.ntmps16
  go_wp2
  go_ret2
  exact ⟨rfl, rfl⟩
theorem nil_write (i : Int) (a : Option Addr) (len cap : Nat) : Calls Try.prog 19 #[.pointer none, .int .i64 i, .slice a len cap] w fun e w' => e = .returned (.int .i64 6) ∧ w = w' := by
  go_enter Try.func19, Try.ntmps19
  go_wp2
  go_ret
  exact ⟨rfl, rfl⟩
theorem nil_restart (i j : Int) : Calls Try.prog 14 #[.pointer none, .slice none 0 0, .int .i64 i, .int .i64 j] w fun e w' => e = .returned (.int .i64 6) ∧ w = w' := by
  go_enter Try.func14, Try.ntmps14
  go_wp2
  go_ret
  exact ⟨rfl, rfl⟩
end

set_option maxHeartbeats 4000000 in
theorem awake_any (w : World) : Calls Try.prog 7 #[] w fun e w' => e = .returned (.bool true) ∧ Below w.heap.size w w' := by
  go_enter Try.func7, Try.ntmps7
  go_wp2_with fail
  refine (new_any 2 w (by omega) (by omega)).mono ?_
  rintro e w1 ⟨pb, bd, bl, rfl, hd, hb⟩
  have D1 := Lib.hid hd
  have B1 := Lib.hid hb
  clear hd hb
  have hcv := Lib.run_convert_bytes_const (P := Try.prog) w1 31 5 #[.int .u8 97, .int .u8 98] 2 2 Try.underlying31 Try.underlying5
  go_wp2_with fail
  clear hcv
  obtain ⟨w2, hw2⟩ : ∃ w2, w2 = w1.alloc (.cells #[.int .u8 97, .int .u8 98] 5 (2, 3)) := ⟨_, rfl⟩
  have B2 : Hid (Below w1.heap.size w1 w2) := Lib.hid (by rw [hw2]; exact (Below.refl _ _).alloc (Nat.le_refl _) _)
  have N2 : Hid (IsB w2 (some ⟨w1.heap.size, 0, none⟩) 2 2 [97, 98]) := Lib.hid (by
    refine ⟨rfl, .inr ⟨_, 0, rfl, by rw [hw2]; simp, fun i hi => ?_⟩, (fun e => by cases e), ⟨by omega, by unfold maxLen; omega⟩, by omega⟩
    rw [hw2, Nat.zero_add, Joins.cell_alloc_mark_at w1 _ _ _ _ _ rfl]
    match i, hi with
    | 0, _ | 1, _ => rfl)
  rw [← hw2]
  clear hw2
  refine (whole_any (some ⟨w1.heap.size, 0, none⟩) 2 2 [97, 98] w2 N2.out).mono ?_
  rintro e w3 ⟨b, rfl, hh, hlo, hb3⟩
  have B3 := Lib.hid hb3
  have N3 := Lib.hid hh
  have D3 := Lib.hid ((D1.out.kp (ts := []) (B' := 0) (Kp.of_below B2.out) (by simp) (by simp) (by simp)).kp (ts := []) (B' := 0) (Kp.of_below hb3) (by simp) (by simp) (by simp))
  have HS3 : Hid (Safe w3 w.heap.size b) := Lib.hid ⟨hh.lt, .inr ⟨_, hh⟩⟩
  have S3 : Hid (w.heap.size ≤ w3.heap.size) := Lib.hid (Nat.le_trans B1.out.size (Nat.le_trans B2.out.size hb3.size))
  have HW := Lib.hid (write_ok D3.out 0 (by omega) b 0 256 sectorP (wholeL_length _) (cells_of N3.out (wholeL_length _)) HS3.out (by omega) (by simp) S3.out)
  clear hh hlo hb3 N2 D1
  go_wp2_with fail
  refine HW.out.mono ?_
  rintro e w4 ⟨v, rfl, hd4, hk4⟩
  have D4 := Lib.hid hd4
  have K4 := Lib.hid hk4
  have HR := Lib.hid (restart_any hd4 (by simp) none 0 0 [] (isO_nil _ _) 0 1)
  clear hd4 hk4 HW
  rw [if_neg (by decide)]
  go_wp2_with fail
  refine HR.out.mono ?_
  rintro e w5 ⟨rfl, hd5, hk5⟩
  have D5 : Hid (Dev w5 w.heap.size pb bd bl (.slice none 0 0) 2 afterD afterL [] 1 0 false) := Lib.hid hd5
  have K5 := Lib.hid hk5
  have HRD := Lib.hid (read_ok D5.out 0 (by omega))
  clear hd5 hk5 HR
  go_wp2_with fail
  refine HRD.out.mono ?_
  rintro e w6 ⟨b6, rfl, h6, hlo6, hb6⟩
  have hl6 := sec_length D5.out.ll (show 0 < 2 by omega)
  have ca : w6.cell? ⟨b6, 0, none⟩ = some (.int .u8 97) := by
    rw [h6.cellAt (map_bv_get _ 0 (by rw [hl6]; omega)), after_a]; rfl
  have cb : w6.cell? ⟨b6, 1, none⟩ = some (.int .u8 0) := by
    rw [h6.cellAt (map_bv_get _ 1 (by rw [hl6]; omega)), after_b]; rfl
  have HLN := Lib.hid (len_any (D5.out.kp (ts := []) (B' := 0) (Kp.of_below hb6) (by simp) (by simp) (by simp)))
  have BF : Hid (Below w.heap.size w w6) := Lib.hid (by
    have b4 : Below w.heap.size w w3 := B1.out.trans ((B2.out.mono B1.out.size).trans (B3.out.mono (Nat.le_trans B1.out.size B2.out.size)))
    have b5 := b4.trans ((K4.out.below S3.out).trans (K5.out.below (Nat.le_trans S3.out K4.out.size)))
    exact b5.trans (hb6.mono b5.size))
  clear h6 hlo6 hb6 hl6 HRD
  go_wp2_with fail
  refine HLN.out.mono ?_
  rintro e w7 ⟨rfl, rfl⟩
  go_wp2_with fail
  go_ret
  exact ⟨rfl, BF.out⟩

end Go.Proofs.Ytjidiholhhdanaa

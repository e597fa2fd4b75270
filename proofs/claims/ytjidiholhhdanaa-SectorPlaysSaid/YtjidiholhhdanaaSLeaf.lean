/-
  The contracts of the device's smallest functions: begin, land, whole, Len, Ops, Way, On. Conditions: the device's block holds what Dev says.
-/
import Derived.Test.YtjidiholhhdanaaSFact
import Derived.Deep.RegionHeld
import Derived.Deep.RegionLaw
import Derived.Deep.Cut
import Derived.BigFrame
namespace Go.Proofs.Ytjidiholhhdanaa
open Go.RowKit
set_option linter.unusedVariables false

/-- The cells of the device's own block. -/
def boxL (bd bl : Nat) (v : Value) (n ops fall : Nat) (off : Bool) : List Value := [.slice (some ⟨bd, 0, none⟩) n n, .slice (some ⟨bl, 0, none⟩) n n, v, .int .u64 (ops : Int), .int .u64 (fall : Int), .bool off]

/-- Behind begin. -/
def BegP (pb bd bl : Nat) (v : Value) (n ops fall : Nat) (off : Bool) (w : World) (e : Ending) (w' : World) : Prop :=
  e = .returned (.int .i64 (if ops + 1 = fall then 14 else 0)) ∧ Has w' pb (boxL bd bl v n (ops + 1) fall (off || decide (ops + 1 = fall))) 63 ∧ But w.heap.size pb w w'

set_option maxRecDepth 100000 in
set_option maxHeartbeats 2000000 in
theorem begin_any (pb bd bl : Nat) (v : Value) (n ops fall : Nat) (off : Bool) (w : World) (hb : Has w pb (boxL bd bl v n ops fall off) 63) (ho : ops < 9223372036854775807) :
    Calls Try.prog 28 #[.pointer (some ⟨pb, 0, none⟩)] w (BegP pb bd bl v n ops fall off w) := by
  have c3 := hb.cellAt (i := 3) rfl
  have f3 := hb.frozen 3
  have c4 := hb.cellAt (i := 4) rfl
  have HK : Hid (∀ x, (w.setCell ⟨pb, 3, none⟩ x).drew.cell? ⟨pb, 4, none⟩ = some (.int .u64 (fall : Int))) := Lib.hid (fun x => (hb.set 3 x).drew.cellAt (i := 4) rfl)
  have HB := Lib.hid hb
  clear hb
  by_cases he : ops + 1 = fall
  · have hne : (((ops + 1 : Nat) : Int) != (fall : Int)) = false := by simp; omega
    have hne2 : ((ops : Int) + 1 != (fall : Int)) = false := by simp; omega
    have HE := Lib.hid he
    clear he
    go_enter Try.func28, Try.ntmps28
    go_wp2_with fail
    go_region_held (fun w' => w'.cell? ⟨pb, 4, none⟩ = some (.int .u64 (fall : Int))) (first | exact HK.out _ | go_keep) (first | (go_at_call 31; refine (add_any pb 3 ops _ (by simpa using c3) (by simpa using f3) ho).mono ?_; rintro e w' ⟨rfl, rfl⟩))
    obtain ⟨w1, hw1⟩ : ∃ w1, w1 = (w.setCell ⟨pb, 3, none⟩ (.int .u64 ((ops : Int) + 1))).drew := ⟨_, rfl⟩
    have H1 : Hid (Has w1 pb (boxL bd bl v n (ops + 1) fall off) 63) := Lib.hid (by rw [hw1]; exact (HB.out.set 3 _).drew)
    have B1 : Hid (But w.heap.size pb w w1) := Lib.hid (by rw [hw1]; exact ((But.refl _ _ _).setB 3 _).drew)
    rw [← hw1]
    clear hw1 c3 f3 c4 HK
    rename_i hHeld
    clear hHeld
    have c5 := H1.out.cellAt (i := 5) rfl
    have f5 := H1.out.frozen 5
    go_wp2_with fail
    go_ret
    refine ⟨?_, ?_, ?_⟩
    · rw [if_pos HE.out]; rfl
    · rw [decide_eq_true HE.out, Bool.or_true]; exact H1.out.set 5 _
    · exact B1.out.setB 5 _
  · have hne : (((ops + 1 : Nat) : Int) != (fall : Int)) = true := by simp; omega
    have hne2 : ((ops : Int) + 1 != (fall : Int)) = true := by simp; omega
    have HE := Lib.hid he
    clear he
    go_enter Try.func28, Try.ntmps28
    go_wp2_with fail
    go_region_held (fun w' => w'.cell? ⟨pb, 4, none⟩ = some (.int .u64 (fall : Int))) (first | exact HK.out _ | go_keep) (first | (go_at_call 31; refine (add_any pb 3 ops _ (by simpa using c3) (by simpa using f3) ho).mono ?_; rintro e w' ⟨rfl, rfl⟩))
    obtain ⟨w1, hw1⟩ : ∃ w1, w1 = (w.setCell ⟨pb, 3, none⟩ (.int .u64 ((ops : Int) + 1))).drew := ⟨_, rfl⟩
    have H1 : Hid (Has w1 pb (boxL bd bl v n (ops + 1) fall off) 63) := Lib.hid (by rw [hw1]; exact (HB.out.set 3 _).drew)
    have B1 : Hid (But w.heap.size pb w w1) := Lib.hid (by rw [hw1]; exact ((But.refl _ _ _).setB 3 _).drew)
    rw [← hw1]
    clear hw1 c3 f3 c4 HK
    rename_i hHeld
    clear hHeld
    go_wp2_with fail
    go_ret
    refine ⟨?_, ?_, ?_⟩
    · rw [if_neg HE.out]; rfl
    · rw [decide_eq_false HE.out, Bool.or_false]; exact H1.out
    · exact B1.out

end Go.Proofs.Ytjidiholhhdanaa

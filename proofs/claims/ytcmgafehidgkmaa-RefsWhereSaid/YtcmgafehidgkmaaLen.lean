/-
  The contracts of the two length functions: how many base-32 signs a number of bytes has. Conditions: the number is at most a thousand million.
-/
import Derived.Test.YtcmgafehidgkmaaRows
import Derived.Test.YtcmgafehidgkmaaBm
import Derived.WalkKit
import Derived.WalkSpells
import Derived.WalkLawsBesides
namespace Go.Proofs.Ytcmgafehidgkmaa.Nam
open Go.RowKit

theorem ret_i64 {a b : Int} (h : a = b) : Ending.returned (.int .i64 a) = .returned (.int .i64 b) := by rw [h]

set_option maxHeartbeats 400000 in
theorem len_any (n : Int) (w : World) (h0 : 0 < n) (h1 : n ≤ 1000000000) :
    Calls Try.prog 65 #[.int .i64 n] w fun e w' => e = .returned (.int .i64 (slen n.toNat)) ∧ w = w' := by
  have h2 : ¬ n ≤ 0 := by omega
  go_enter Try.func65, Try.ntmps65
  go_wp2
  go_ret
  exact ⟨ret_i64 (by unfold slen; omega), rfl⟩

set_option maxHeartbeats 400000 in
theorem len_none (n : Int) (w : World) (h0 : n ≤ 0) :
    Calls Try.prog 65 #[.int .i64 n] w fun e w' => e = .returned (.int .i64 0) ∧ w = w' := by
  go_enter Try.func65, Try.ntmps65
  go_wp2
  go_ret
  exact ⟨rfl, rfl⟩

set_option maxHeartbeats 400000 in
theorem rlen_none (n : Int) (w : World) (h0 : n ≤ 0) :
    Calls Try.prog 35 #[.int .i64 n] w fun e w' => e = .returned (.int .i64 0) ∧ w = w' := by
  have h1 : ¬ 0 < n := by omega
  go_enter Try.func35, Try.ntmps35
  go_wp2
  refine wp_loop_rounds 1 ?_
  rw [rounds_succ]
  go_wp2
  go_ret
  exact ⟨rfl, rfl⟩

set_option maxHeartbeats 400000 in
theorem rlen_any (n : Int) (w : World) (h0 : 0 < n) (h1 : n ≤ 1000000000) :
    Calls Try.prog 35 #[.int .i64 n] w fun e w' => e = .returned (.int .i64 (slen n.toNat)) ∧ w = w' := by
  have hb : (slen n.toNat : Int) ≤ 2000000000 := by unfold slen; omega
  go_enter Try.func35, Try.ntmps35
  go_wp2
  go_loop [3] (fun t => ∃ k : Nat, (k : Int) ≤ slen n.toNat ∧ t = .int .i64 k) (fun t => slen n.toNat - (intOf t).toNat)
  case atStart => exact ⟨0, by omega, rfl⟩
  case round =>
    obtain ⟨k, hk, rfl⟩ := hrel
    by_cases hlt : (k : Int) * 5 < n * 8
    · go_wp2
      go_round
      case rel => exact ⟨k + 1, by unfold slen at *; omega, by go_num⟩
      case measure => simp [intOf]; unfold slen at *; omega
    · go_wp2
      go_ret
      exact ⟨ret_i64 (by unfold slen at *; omega), rfl⟩

end Go.Proofs.Ytcmgafehidgkmaa.Nam

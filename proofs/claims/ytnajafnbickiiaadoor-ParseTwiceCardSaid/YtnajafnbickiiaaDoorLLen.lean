/-
  The contract of lengthOf, at a function that tells a sort of bytes. No condition but the text's bound.
-/
import Derived.Test.YtnajafnbickiiaaDoorLSmall
namespace Go.Proofs.YtnajafnbickiiaaDoor
open Go.RowKit
set_option linter.unusedVariables false

set_option maxRecDepth 100000 in
set_option maxHeartbeats 1000000 in
theorem len_fn (f : Nat) (p : UInt8 → Bool) (hf : Hid (SortF f p)) (he : ∀ args w, (callFunc f args).run Tryd.prog w = .ok (.enter f args) w) (s : ByteArray) (hs : s.size ≤ 140737488355328) (w : World) :
    Calls Tryd.prog 37 #[.string s, .func (.func f) #[] #[]] w fun e w' => e = .returned (.int .i64 (lenOf p s.data.toList : Int)) ∧ w = w' := by
  have hlen : s.data.toList.length = s.size := by simp
  have HLEN := Lib.hid hlen
  clear hlen
  go_enter Tryd.func37, Tryd.ntmps37
  go_wp2_with fail
  go_loop [5] (fun ii => ∃ k : Nat, k ≤ s.size ∧ ii = .int .i64 k ∧ Hid (∀ j, j < k → p (s.data.toList.getD j 0) = true)) (fun ii => s.size - (intOf ii).toNat)
  case atStart => exact ⟨0, Nat.zero_le _, rfl, Lib.hid (fun j hj => by omega)⟩
  case round =>
    obtain ⟨k, hk, rfl, hall⟩ := hrel
    by_cases hlt : k < s.size
    · have hget := str_get s k hlt
      have hki : (k : Int) < (s.size : Int) := by omega
      obtain ⟨c, hc⟩ : ∃ c, c = s.data.toList.getD k 0 := ⟨_, rfl⟩
      rw [← hc] at hget
      have HC := Lib.hid hc
      clear hc
      cases hp : p c
      · have HR : Hid (lenOf p s.data.toList = k) := Lib.hid (lenOf_spec p _ k hall.out (by rw [HLEN.out]; exact hk) (.inr (by rw [← HC.out]; exact hp)))
        have HP := Lib.hid hp
        clear hp
        go_wp2_with fail
        refine (hf.out c _).mono ?_
        rintro e w' ⟨rfl, rfl⟩
        rw [HP.out]
        go_wp2_with fail
        go_ret
        exact ⟨by rw [HR.out]; rfl, rfl⟩
      · have HS : Hid (∀ j, j < k + 1 → p (s.data.toList.getD j 0) = true) := Lib.hid (fun j hj => by
          by_cases e : j = k
          · rw [e, ← HC.out]; exact hp
          · exact hall.out j (by omega))
        have HP := Lib.hid hp
        clear hp
        go_wp2_with fail
        refine (hf.out c _).mono ?_
        rintro e w' ⟨rfl, rfl⟩
        rw [HP.out]
        go_wp2_with fail
        go_round
        case rel => exact ⟨k + 1, by omega, by go_num, HS⟩
        case measure => simp [intOf]; omega
    · obtain rfl : k = s.size := by omega
      have hki : ¬ (s.size : Int) < (s.size : Int) := by omega
      have HR : Hid (lenOf p s.data.toList = s.size) := Lib.hid (lenOf_spec p _ s.size hall.out (by rw [HLEN.out]; exact Nat.le_refl _) (.inl HLEN.out.symm))
      go_wp2_with fail
      go_ret
      exact ⟨by rw [HR.out]; rfl, rfl⟩

end Go.Proofs.YtnajafnbickiiaaDoor

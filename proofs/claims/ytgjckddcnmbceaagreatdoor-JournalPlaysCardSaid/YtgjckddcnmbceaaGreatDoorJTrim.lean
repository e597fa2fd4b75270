/-
  The contract of bytes.Trim at noughts alone, the cutset one nought: nothing is left. Conditions: the bytes lie in old memory and are noughts.
-/
import Derived.Test.YtgjckddcnmbceaaGreatDoorJDev
import Derived.Deep.RegionWith
namespace Go.Proofs.YtgjckddcnmbceaaGreatDoor
open Go.RowKit
set_option linter.unusedVariables false

def lenOf : Value → Nat
  | .slice _ n _ => n
  | _ => 0
set_option maxRecDepth 100000 in
set_option maxHeartbeats 1000000 in
theorem trimR_any (b off n c : Nat) (w : World) (hnc : n ≤ c) (hc63 : c ≤ 9223372036854775807) (hz : ∀ i, i < n → w.cell? ⟨b, off + i, none⟩ = some (.int .u8 0)) :
    Calls Tryz.prog 60 #[.slice (some ⟨b, off, none⟩) n c, .int .u8 0] w fun e w' => e = .returned (.slice (some ⟨b, off, none⟩) 0 c) ∧ w = w' := by
  have HZ := Lib.hid hz
  clear hz
  go_enter Tryz.func60, Tryz.ntmps60
  go_wp2_with fail
  go_loopw [0] (fun v wr => ∃ j : Nat, j ≤ n ∧ v = .slice (some ⟨b, off, none⟩) j c ∧ Hid (wr = w)) (fun v _ => lenOf v)
  case atStart => exact ⟨n, Nat.le_refl _, rfl, Lib.hid rfl⟩
  case round =>
    obtain ⟨j, hj, rfl, hw⟩ := hrel
    obtain rfl := hw.out
    clear hw
    rcases Nat.eq_zero_or_pos j with rfl | h0
    · go_wp2_with fail
      go_ret
      exact ⟨rfl, rfl⟩
    · obtain ⟨q, rfl⟩ : ∃ q, j = q + 1 := ⟨j - 1, by omega⟩
      have hc := HZ.out q (by omega)
      have h1 : (0 : Int) < ((q + 1 : Nat) : Int) := by omega
      have h2 : wrap64 (((q + 1 : Nat) : Int) - 1) = (q : Int) := by unfold wrap64; omega
      have h3 : IntKind.i64.wrap (((q + 1 : Nat) : Int) - 1) = (q : Int) := by rw [IntKind.wrap_i64]; omega
      have h4 : (q : Int) < ((q + 1 : Nat) : Int) := by omega
      have h5 : q ≤ c := by omega
      have h6 : (q : Int) ≤ (c : Int) := by omega
      obtain ⟨Q, hQ⟩ : ∃ Q, Q = q + 1 := ⟨_, rfl⟩
      rw [← hQ] at h1 h2 h3 h4 ⊢
      have HQ := Lib.hid hQ
      clear hQ
      go_wp2_with fail
      go_roundw
      case rel => exact ⟨q, by have := HQ.out; omega, rfl, Lib.hid trivial⟩
      case measure => simp [lenOf]; have := HQ.out; omega

set_option maxRecDepth 100000 in
set_option maxHeartbeats 1000000 in
theorem trimL_any (b off c : Nat) (w : World) :
    Calls Tryz.prog 59 #[.slice (some ⟨b, off, none⟩) 0 c, .int .u8 0] w fun e w' => e = .returned (.slice none 0 0) ∧ w = w' := by
  go_enter Tryz.func59, Tryz.ntmps59
  go_wp2_with fail
  go_loopw [0] (fun v wr => v = .slice (some ⟨b, off, none⟩) 0 c ∧ Hid (wr = w)) (fun v _ => lenOf v)
  case atStart => exact ⟨rfl, Lib.hid rfl⟩
  case round =>
    obtain ⟨rfl, hw⟩ := hrel
    obtain rfl := hw.out
    clear hw
    go_wp2_with fail
    go_ret
    exact ⟨rfl, rfl⟩

set_option maxRecDepth 100000 in
set_option maxHeartbeats 1000000 in
theorem trim_any (a : Option Addr) (n c : Nat) (w : World) (hp : IsB w a n c (zer n)) :
    Calls Tryz.prog 47 #[.slice a n c, .string ⟨#[0]⟩] w fun e w' => (∃ a' c', e = .returned (.slice a' 0 c')) ∧ Below w.heap.size w w' := by
  have hr := hp.room
  unfold maxLen at hr
  rcases Nat.eq_zero_or_pos n with rfl | h0
  · clear hp
    go_enter Tryz.func47, Tryz.ntmps47
    go_wp2_with fail
    go_ret
    exact ⟨⟨_, _, rfl⟩, Below.refl _ _⟩
  · obtain ⟨b, off, rfl, hlt, hc⟩ : ∃ b off, a = some ⟨b, off, none⟩ ∧ b < w.heap.size ∧ ∀ i, i < n → w.cell? ⟨b, off + i, none⟩ = some (.int .u8 0) := by
      rcases hp.at_ with h | ⟨b, off, e, hlt, hc⟩
      · omega
      · refine ⟨b, off, e, hlt, fun i hi => ?_⟩
        rw [hc i hi, List.getD_eq_getElem?_getD, zer_get n i hi]; rfl
    have HC := Lib.hid hc
    have hn0 : ¬ (n : Int) = 0 := by omega
    have hn1 : ((n : Int) == 0) = false := beq_eq_false_iff_ne.2 hn0
    clear hp hc
    have hg0 : ∀ h, (⟨#[0]⟩ : ByteArray)[0]'h = 0 := fun _ => rfl
    go_enter Tryz.func47, Tryz.ntmps47
    go_upto_region 6 with fail
    go_region_with (first | (go_at_call 60; refine (trimR_any b off n c _ hr.1 (by omega) (fun i hi => by simpa using HC.out i hi)).mono ?_; rintro e w1 ⟨rfl, rfl⟩) | (go_at_call 59; refine (trimL_any b off c _).mono ?_; rintro e w1 ⟨rfl, rfl⟩))
    all_goals
      go_wp2_with fail
      go_ret
      exact ⟨⟨_, _, rfl⟩, ⟨rfl, rfl, rfl, Nat.le_refl _, fun _ _ => rfl⟩⟩

end Go.Proofs.YtgjckddcnmbceaaGreatDoor

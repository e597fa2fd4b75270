/-
  The contract of the reference's Get. Conditions: the reference's device.
-/
import Derived.Test.YtjidiholhhdanaaRSPut
namespace Go.Proofs.Ytjidiholhhdanaa
open Go.RowKit
set_option linter.unusedVariables false
set_option maxRecDepth 100000

theorem rget_arg {w : World} {B rp : Nat} {vl vw : Value} {n : Nat} {D : List UInt8} {way : List Wr} {left : Nat} {off : Bool} {ops : Nat} (h : RDev w B rp vl vw n D way left off ops) (i : Int) (hi : i < 0 ∨ (n : Int) ≤ i) :
    Calls Try.prog 17 #[.pointer (some ⟨rp, 0, none⟩), .int .i64 i] w fun e w' => e = .returned (.tuple #[.string ⟨#[]⟩, .int .i64 1]) ∧ w = w' := by
  obtain ⟨la, lc, rfl⟩ := h.lform
  have c0 := h.box.cellAt (i := 0) rfl
  clear h
  rcases hi with h1 | h1
  · go_enter Try.func17, Try.ntmps17
    go_wp2_with fail
    go_ret2
    exact ⟨rfl, rfl⟩
  · have h2 : ¬ i < 0 := by omega
    go_enter Try.func17, Try.ntmps17
    go_wp2_with fail
    go_ret2
    exact ⟨rfl, rfl⟩
theorem rget_off {w : World} {B rp : Nat} {vl vw : Value} {n : Nat} {D : List UInt8} {way : List Wr} {left : Nat} {ops : Nat} (h : RDev w B rp vl vw n D way left true ops) (i : Nat) (hi : i < n) :
    Calls Try.prog 17 #[.pointer (some ⟨rp, 0, none⟩), .int .i64 (i : Int)] w fun e w' => e = .returned (.tuple #[.string ⟨#[]⟩, .int .i64 14]) ∧ w = w' := by
  obtain ⟨la, lc, rfl⟩ := h.lform
  have c0 := h.box.cellAt (i := 0) rfl
  have c3 := h.box.cellAt (i := 3) rfl
  have h1 : ¬ (i : Int) < 0 := by omega
  have h2 : ¬ (n : Int) ≤ (i : Int) := by omega
  clear h hi
  go_enter Try.func17, Try.ntmps17
  go_wp2_with fail
  go_ret2
  exact ⟨rfl, rfl⟩

set_option maxHeartbeats 4000000 in
theorem rget_ok {w : World} {B rp : Nat} {vl vw : Value} {n : Nat} {D : List UInt8} {way : List Wr} {left : Nat} {ops : Nat} (h : RDev w B rp vl vw n D way left false ops) (hw : way.length ≤ 100000) (i : Nat) (hi : i < n) :
    Calls Try.prog 17 #[.pointer (some ⟨rp, 0, none⟩), .int .i64 (i : Int)] w fun e w' => e = .returned (.tuple #[.string (bs (getW way i (sec D i))), .int .i64 0]) ∧ w = w' := by
  obtain ⟨lg, lc, rfl, cl, _⟩ := h.line hi
  obtain ⟨va, vc, rfl⟩ := h.vform
  have c0 := h.box.cellAt (i := 0) rfl
  have c1 := h.box.cellAt (i := 1) rfl
  have c3 := h.box.cellAt (i := 3) rfl
  have h1 : ¬ (i : Int) < 0 := by omega
  have h2 : ¬ (n : Int) ≤ (i : Int) := by omega
  have hin : (i : Int) < (n : Int) := by omega
  obtain ⟨G, hG⟩ : ∃ G, G = bs (getW way i (sec D i)) := ⟨_, rfl⟩
  obtain ⟨S0, hS0⟩ : ∃ S0, S0 = bs (sec D i) := ⟨_, rfl⟩
  rw [← hS0] at cl
  rw [← hG]
  have HG := Lib.hid hG
  have HS0 := Lib.hid hS0
  have HH := Lib.hid h
  clear h hG hS0
  go_enter Try.func17, Try.ntmps17
  go_wp2_with fail
  go_loop [6] (fun ii => (ii = .int .i64 (-1) ∧ Hid (∀ j, j < way.length → (way.getD j (0, [])).1 ≠ i)) ∨ ∃ k : Nat, k < way.length ∧ ii = .int .i64 k ∧ Hid (∀ j, k < j → j < way.length → (way.getD j (0, [])).1 ≠ i)) (fun ii => (intOf ii + 1).toNat)
  case atStart =>
    by_cases h0 : way.length = 0
    · exact .inl ⟨by rw [h0]; rfl, Lib.hid (fun j hj => by omega)⟩
    · exact .inr ⟨way.length - 1, by omega, by rw [show ((way.length : Int) - 1) = ((way.length - 1 : Nat) : Int) by omega], Lib.hid (fun j h1 h2 => by omega)⟩
  case round =>
    rcases hrel with ⟨rfl, hno⟩ | ⟨k, hk, rfl, hno⟩
    · have he : G = S0 := by
        rw [HG.out, HS0.out]
        have := getW_away (way := way) (i := i) (sec D i) way.length (Nat.le_refl _) hno.out
        rw [List.take_of_length_le (Nat.le_refl _)] at this
        rw [this]
      have HE := Lib.hid he
      clear he
      go_wp2_with fail
      go_ret2
      exact ⟨by rw [HE.out]; rfl, rfl⟩
    · obtain ⟨g, cp, hv, ce, cs⟩ := HH.out.elem hk
      obtain ⟨rfl, rfl⟩ : va = some ⟨g, 0, none⟩ ∧ vc = cp := by cases hv; exact ⟨rfl, rfl⟩
      have hki : (k : Int) < (way.length : Int) := by omega
      have hk0 : (0 : Int) ≤ (k : Int) := by omega
      clear hv
      by_cases he : (way.getD k (0, [])).1 = i
      · have hg : G = bs (way.getD k (0, [])).2 := by
          rw [HG.out]
          have := getW_hit (way := way) (i := i) (k := k) (sec D i) hk he way.length (by omega) (Nat.le_refl _) (fun j a b => hno.out j a b)
          rw [List.take_of_length_le (Nat.le_refl _)] at this
          rw [this]
        rw [← hg] at cs
        rw [he] at ce
        have hii : ((i : Int) == (i : Int)) = true := by simp
        clear hg he
        go_wp2_with fail
        go_ret2
        exact ⟨rfl, rfl⟩
      · obtain ⟨m, hm⟩ : ∃ m, m = (way.getD k (0, [])).1 := ⟨_, rfl⟩
        rw [← hm] at ce
        have hmi : ((m : Int) == (i : Int)) = false := by simp; omega
        have HNE : Hid ((way.getD k (0, [])).1 ≠ i) := Lib.hid he
        clear he hm cs
        go_wp2_with fail
        go_round
        case rel =>
          by_cases h0 : k = 0
          · subst h0
            exact .inl ⟨rfl, Lib.hid (fun j hj => by
              by_cases hj0 : j = 0
              · subst hj0; exact HNE.out
              · exact hno.out j (by omega) hj)⟩
          · exact .inr ⟨k - 1, by omega, by rw [show ((k : Int) - 1) = ((k - 1 : Nat) : Int) by omega], Lib.hid (fun j h1 h2 => by
              by_cases hjk : j = k
              · subst hjk; exact HNE.out
              · exact hno.out j (by omega) h2)⟩
        case measure => simp [intOf]

end Go.Proofs.Ytjidiholhhdanaa

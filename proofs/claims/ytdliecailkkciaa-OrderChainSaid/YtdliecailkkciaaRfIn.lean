/-
  The contract of the reference's Same. Conditions: bounds on the lengths.
-/
import Derived.Test.YtdliecailkkciaaTree
import Derived.Laws.IdiomStrings
import Derived.WalkKit
import Derived.Deep.LoopGhost
import Derived.BigFrame
import Derived.Deep.QuietTactic
import Derived.BigQuiet
namespace Go.Proofs.Ytdliecailkkciaa
open Go.RowKit
set_option linter.unusedVariables false

theorem below_rf {B : Nat} {a w : World} (h : Below B a w) (n : Nat) : Below B a (w.drewN n) := ⟨h.os, h.tape, h.output, h.size, h.block⟩

set_option maxRecDepth 100000 in
set_option maxHeartbeats 4000000 in
theorem rfsame_any (a a' : Option Addr) (n n' cap cap' : Nat) (l l' : List ByteArray) (w : World) (hS : IsS w a n cap l) (hS' : IsS w a' n' cap' l') (hn : n ≤ 140737488355328) (hn' : n' ≤ 140737488355328) :
    Calls Try.prog 12 #[.slice a n cap, .slice a' n' cap'] w fun e w' => ∃ b, e = .returned (.bool b) ∧ (b = true ↔ l = l') ∧ Below w.heap.size w w' := by
  have hnl := hS.length
  have hnl' := hS'.length
  by_cases hne : n = n'
  · subst hne
    have HNL := Lib.hid hnl
    have HNL' := Lib.hid hnl'
    have hat := hS.at_
    have hat' := hS'.at_
    clear hS hS' hnl hnl' hn'
    go_enter Try.func12, Try.ntmps12
    go_wp2_with fail
    go_loopg [5] (n + 1) (fun gk v5 wr => Below w.heap.size w wr ∧ ∃ i : Nat, gk = n + 1 - i ∧ i ≤ n ∧ v5 = .int .i64 i ∧ Hid (∀ j, j < i → l.getD j ⟨#[]⟩ = l'.getD j ⟨#[]⟩))
    case atStart => exact ⟨Below.refl _ _, 0, rfl, Nat.zero_le _, rfl, Lib.hid (fun j hj => by omega)⟩
    case round =>
      obtain ⟨hb, i, rfl, hin, rfl, heq⟩ := hrel
      have HB := Lib.hid hb
      clear hb
      by_cases hlt : i < n
      · rcases hat with h0 | ⟨b, off, rfl, hb, hc⟩
        · omega
        rcases hat' with h0 | ⟨b', off', rfl, hb', hc'⟩
        · omega
        have hii : (i : Int) < (n : Int) := by omega
        have c1 := (HB.out.cell (p := ⟨b, off + i, none⟩) hb).trans (hc i hlt)
        have c2 := (HB.out.cell (p := ⟨b', off' + i, none⟩) hb').trans (hc' i hlt)
        obtain ⟨x, hx⟩ : ∃ x, x = l.getD i ⟨#[]⟩ := ⟨_, rfl⟩
        obtain ⟨y, hy⟩ : ∃ y, y = l'.getD i ⟨#[]⟩ := ⟨_, rfl⟩
        rw [← hx] at c1
        rw [← hy] at c2
        have HX := Lib.hid hx
        have HY := Lib.hid hy
        clear hx hy hc hc'
        by_cases hxy : x = y
        · have he : (x.toList == y.toList) = true := by rw [hxy]; simp
          have HEQ : Hid (∀ j, j < i + 1 → l.getD j ⟨#[]⟩ = l'.getD j ⟨#[]⟩) := Lib.hid (fun j hj => by
            by_cases e : j = i
            · rw [e, ← HX.out, ← HY.out, hxy]
            · exact heq.out j (by omega))
          clear hxy
          go_wp2_with fail
          go_quiet (fail)
          go_wp2_with fail
          go_roundg (n + 1 - (i + 1))
          case rel => exact ⟨below_rf HB.out _, i + 1, rfl, by omega, by go_num, HEQ⟩
          case measure => omega
        · have he : (x.toList == y.toList) = false := by
            have h : x.toList ≠ y.toList := fun h => hxy (bytes_ext (by rw [ByteArray.toList_eq, ByteArray.toList_eq] at h; exact h))
            simpa using h
          have HNE : Hid (¬ l = l') := Lib.hid (fun h => hxy (by rw [HX.out, HY.out, h]))
          clear hxy
          go_wp2_with fail
          go_quiet (fail)
          go_wp2_with fail
          go_ret
          exact ⟨false, rfl, ⟨(fun h => by cases h), (fun h => absurd h HNE.out)⟩, below_rf HB.out _⟩
      · have hii : ¬ (i : Int) < (n : Int) := by omega
        obtain rfl : i = n := by omega
        have HE : Hid (l = l') := Lib.hid (by
          apply List.ext_getElem (by rw [HNL.out, HNL'.out])
          intro j h1 h2
          have := heq.out j (by rw [HNL.out] at h1; exact h1)
          rw [List.getD_eq_getElem?_getD, List.getElem?_eq_getElem h1, List.getD_eq_getElem?_getD, List.getElem?_eq_getElem h2] at this
          exact this)
        clear hat hat'
        go_wp2_with fail
        go_ret
        exact .inr ⟨rfl, HE.out, HB.out⟩
  · have hni : ¬ (n : Int) = (n' : Int) := by omega
    have HNE : Hid (¬ l = l') := Lib.hid (fun h => hne (by rw [← hnl, ← hnl', h]))
    clear hS hS' hnl hnl' hne
    go_enter Try.func12, Try.ntmps12
    go_wp2_with fail
    go_ret
    exact ⟨false, rfl, ⟨(fun h => by cases h), (fun h => absurd h HNE.out)⟩, Below.refl _ _⟩

end Go.Proofs.Ytdliecailkkciaa

/-
  has, Names.
-/
import Derived.Test.YtdliecailkkciaaOGraph
import Derived.Deep.QuietTactic
import Derived.BigQuiet
namespace Go.Proofs.Ytdliecailkkciaa
open Go.RowKit
set_option linter.unusedVariables false

set_option maxRecDepth 100000 in
set_option maxHeartbeats 4000000 in
theorem has_any (w : World) (gb : Nat) (G : List ByteArray) (N : ByteArray → Option (List ByteArray)) (h : Gr w gb G N) (s : ByteArray) (hs : s.size ≤ maxLen) :
    Calls Try.prog 26 #[.pointer (some ⟨gb, 0, none⟩), .string s] w fun e w' => e = .returned (.bool (N s).isSome) ∧ w' = w := by
  obtain ⟨a, n, c, mb, k, M, h1, h2, h3, h4, h5⟩ := h.ex
  have hlk : (Instr.lookup 45 (.map (some mb)) (.string s) true).run Try.prog w = .ok (.tuple #[getV M s, .bool (N s).isSome]) w := by
    rw [← h4 s]
    exact h3.look Try.underlying45 (zeroS w) hs
  have c1 := h1.cellAt (i := 1) rfl
  obtain ⟨y, hy⟩ : ∃ y, y = getV M s := ⟨_, rfl⟩
  rw [← hy] at hlk
  clear h h1 h2 h3 h4 h5 hs hy
  go_enter Try.func26, Try.ntmps26
  go_wp2_with fail
  go_ret
  exact ⟨rfl, rfl⟩

set_option maxRecDepth 100000 in
set_option maxHeartbeats 4000000 in
theorem names_any (w : World) (gb : Nat) (G : List ByteArray) (N : ByteArray → Option (List ByteArray)) (h : Gr w gb G N) (hG : G.length ≤ 100000) :
    Calls Try.prog 13 #[.pointer (some ⟨gb, 0, none⟩)] w fun e w' => ∃ v, e = .returned v ∧ w'.ownsRow w.heap.size 9 1 v G.length (G.map Value.string) ∧ Below w.heap.size w w' := by
  obtain ⟨a, n, c, mb, k, M, h1, h2, h3, h4, h5⟩ := h.ex
  have c0 := h1.cellAt (i := 0) rfl
  obtain rfl : n = G.length := h2.length.symm
  have HS := Lib.hid h2
  clear h h1 h2 h3 h4 h5
  go_enter Try.func13, Try.ntmps13
  go_wp2_with fail
  refine (clone_any a G.length c G w HS.out hG).mono ?_
  rintro e w1 ⟨v, rfl, h1, b1⟩
  have H1 := Lib.hid h1
  have B1 := Lib.hid b1
  clear h1 b1
  go_wp2_with fail
  go_ret
  exact ⟨v, rfl, H1.out, B1.out⟩
theorem names_nil (w : World) : Calls Try.prog 13 #[.pointer none] w fun e w' => e = .returned (.slice none 0 0) ∧ w' = w := by
  go_enter Try.func13, Try.ntmps13
  go_wp2_with fail
  go_ret
  exact ⟨rfl, rfl⟩
theorem sort_nil (w : World) : Calls Try.prog 10 #[.pointer none] w fun e w' => e = .returned (.tuple #[.slice none 0 0, .int .i64 6]) ∧ w' = w := by
  go_enter Try.func10, Try.ntmps10
  go_wp2_with fail
  refine bodyPost_ret (results_tmp2 rfl _ _ _) rfl ?_
  exact ⟨rfl, rfl⟩
theorem closure_nil (w : World) (v : Value) : Calls Try.prog 15 #[.pointer none, v] w fun e w' => e = .returned (.slice none 0 0) ∧ w' = w := by
  go_enter Try.func15, Try.ntmps15
  go_wp2_with fail
  go_ret
  exact ⟨rfl, rfl⟩
theorem users_nil (w : World) (v : Value) : Calls Try.prog 17 #[.pointer none, v] w fun e w' => e = .returned (.slice none 0 0) ∧ w' = w := by
  go_enter Try.func17, Try.ntmps17
  go_wp2_with fail
  go_ret
  exact ⟨rfl, rfl⟩
end Go.Proofs.Ytdliecailkkciaa

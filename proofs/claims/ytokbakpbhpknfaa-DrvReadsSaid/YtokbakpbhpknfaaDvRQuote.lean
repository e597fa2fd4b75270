/-
  The reference's text in quotes. Condition: it has at most 10^9 bytes.
-/
import Derived.Test.YtokbakpbhpknfaaDvQuoted
namespace Go.Proofs.Ytokbakpbhpknfaa
open Go.RowKit
set_option linter.unusedVariables false

theorem qM_done (s : ByteArray) : qM s s.size ++ [34] = dquote s.data.toList := by
  unfold qM dquote; rw [List.take_of_length_le (by simp)]; rfl
theorem dq1_sorts (c : UInt8) : (c = 92 ∧ dq1 c = [92, 92]) ∨ (c = 34 ∧ dq1 c = [92, 34]) ∨ (c = 10 ∧ dq1 c = [92, 110]) ∨ (c = 9 ∧ dq1 c = [92, 116]) ∨
    (((c.toNat : Int) == 92) = false ∧ ((c.toNat : Int) == 34) = false ∧ ((c.toNat : Int) == 10) = false ∧ ((c.toNat : Int) == 9) = false ∧ dq1 c = [c]) := by
  have hz : ∀ (b : UInt8), c ≠ b → ((c.toNat : Int) == (b.toNat : Int)) = false := fun b h => by
    rw [beq_eq_false_iff_ne]; intro e; exact h (UInt8.toNat_inj.1 (by omega))
  by_cases h1 : c = 92
  · exact .inl ⟨h1, by rw [h1]; rfl⟩
  by_cases h2 : c = 34
  · exact .inr (.inl ⟨h2, by rw [h2]; rfl⟩)
  by_cases h3 : c = 10
  · exact .inr (.inr (.inl ⟨h3, by rw [h3]; rfl⟩))
  by_cases h4 : c = 9
  · exact .inr (.inr (.inr (.inl ⟨h4, by rw [h4]; rfl⟩)))
  refine .inr (.inr (.inr (.inr ⟨hz 92 h1, hz 34 h2, hz 10 h3, hz 9 h4, ?_⟩)))
  unfold dq1; rw [if_neg (by rintro (h | h) <;> contradiction), if_neg h3, if_neg h4]

set_option maxRecDepth 100000 in
set_option maxHeartbeats 16000000 in
theorem rquote_any (s : ByteArray) (w : World) (h9 : s.size ≤ 1000000000) :
    Calls Try.prog 24 #[.string s] w fun e w' => e = .returned (.string (bs (dquote s.data.toList))) ∧ Below w.heap.size w w' := by
  obtain ⟨i0, hi, hz0, hz1, hz2⟩ := info_u8_parts
  have HI := Lib.hid hi
  have HZ0 := Lib.hid hz0
  have HZ1 := Lib.hid hz1
  have HZ2 := Lib.hid hz2
  clear hi hz0 hz1 hz2
  obtain ⟨B, hB⟩ : ∃ B, B = w.heap.size := ⟨_, rfl⟩
  rw [← hB]
  have HB := Lib.hid hB
  clear hB
  go_enter Try.func24, Try.ntmps24
  go_wp2_with fail
  go_loopg [3, 4] s.size (fun gk v3 v4 wr => ∃ i : Nat, gk = s.size - i ∧ i ≤ s.size ∧ v4 = .int .i64 (i : Int) ∧ wr.ownsRow B 5 1 v3 (qM s i).length ((qM s i).map bv) ∧ Below B w wr)
  case atStart => exact ⟨0, rfl, Nat.zero_le _, rfl, owns_lit w B [.int .u8 34] _ 1 (by have := HB.out; omega) (by unfold maxLen; omega) rfl, (Below.refl _ _).alloc (by have := HB.out; omega) _⟩
  case round =>
    obtain ⟨i, rfl, his, rfl, how, hb⟩ := hrel
    obtain ⟨va, vc, rfl⟩ := row_form how
    have HO := Lib.hid how
    have HBB := Lib.hid hb
    have hBs : B ≤ wr.heap.size := by have := hb.size; have := HB.out; omega
    have hM := qM_len s i his
    obtain ⟨m, hm⟩ : ∃ m, m = (qM s i).length := ⟨_, rfl⟩
    rw [← hm] at HO hM ⊢
    have HM := Lib.hid hm
    clear how hb hm
    by_cases hlt : i < s.size
    · have hg : s[i] = s.data.toList.getD i 0 := str_get s i hlt
      obtain ⟨c, hc⟩ : ∃ c, c = s.data.toList.getD i 0 := ⟨_, rfl⟩
      have HQ := Lib.hid (qM_step s i hlt)
      rw [← hc] at hg HQ
      clear hc
      have hlt' : (i : Int) < (s.size : Int) := by omega
      have hwr : IntKind.i64.wrap ((i : Int) + 1) = ((i + 1 : Nat) : Int) := by rw [IntKind.wrap_i64]; omega
      rcases dq1_sorts c with ⟨rfl, hd⟩ | ⟨rfl, hd⟩ | ⟨rfl, hd⟩ | ⟨rfl, hd⟩ | ⟨n1, n2, n3, n4, hd⟩
      · have HD := Lib.hid hd
        clear hd
        go_upto_region 9 with fail
        go_wp2_with (at_builtin; go_must (refine append_rowx rfl (.tmp 24) (.tmp 28) rfl B i0 HI.out HZ0.out HZ1.out HZ2.out _ m (qM s i) rfl (.inl (HO.out.alloc _)) wr.heap.size 2 2 [92, 92] rfl rfl ?a1 (by omega) (by omega) ?a6 ?a7))
        case a1 => intro j u hj; exact (Has.new wr [.int .u8 92, .int .u8 92] _).cellAt hj
        case a6 => simp; omega
        intro v5 w5 hown3 hb3
        have HO5 : Hid (w5.ownsRow B 5 1 v5 (qM s (i + 1)).length ((qM s (i + 1)).map bv)) := Lib.hid (by
          rw [HQ.out, HD.out, List.length_append, List.map_append, ← HM.out]; exact hown3)
        have B5 : Hid (Below B w w5) := Lib.hid ((HBB.out.alloc hBs _).trans hb3)
        clear hown3 hb3
        go_wp2_with fail
        go_roundg (s.size - (i + 1))
        case rel => exact ⟨i + 1, rfl, by omega, rfl, HO5.out, B5.out⟩
        case measure => omega
      · have HD := Lib.hid hd
        clear hd
        go_upto_region 9 with fail
        go_wp2_with (at_builtin; go_must (refine append_rowx rfl (.tmp 24) (.tmp 28) rfl B i0 HI.out HZ0.out HZ1.out HZ2.out _ m (qM s i) rfl (.inl (HO.out.alloc _)) wr.heap.size 2 2 [92, 34] rfl rfl ?b1 (by omega) (by omega) ?b6 ?b7))
        case b1 => intro j u hj; exact (Has.new wr [.int .u8 92, .int .u8 34] _).cellAt hj
        case b6 => simp; omega
        intro v5 w5 hown3 hb3
        have HO5 : Hid (w5.ownsRow B 5 1 v5 (qM s (i + 1)).length ((qM s (i + 1)).map bv)) := Lib.hid (by
          rw [HQ.out, HD.out, List.length_append, List.map_append, ← HM.out]; exact hown3)
        have B5 : Hid (Below B w w5) := Lib.hid ((HBB.out.alloc hBs _).trans hb3)
        clear hown3 hb3
        go_wp2_with fail
        go_roundg (s.size - (i + 1))
        case rel => exact ⟨i + 1, rfl, by omega, rfl, HO5.out, B5.out⟩
        case measure => omega
      · have HD := Lib.hid hd
        clear hd
        go_upto_region 11 with fail
        go_wp2_with (at_builtin; go_must (refine append_rowx rfl (.tmp 32) (.tmp 33) rfl B i0 HI.out HZ0.out HZ1.out HZ2.out _ m (qM s i) rfl (.inl (HO.out.alloc _)) wr.heap.size 2 2 [92, 110] rfl rfl ?c1 (by omega) (by omega) ?c6 ?c7))
        case c1 => intro j u hj; exact (Has.new wr [.int .u8 92, .int .u8 110] _).cellAt hj
        case c6 => simp; omega
        intro v5 w5 hown3 hb3
        have HO5 : Hid (w5.ownsRow B 5 1 v5 (qM s (i + 1)).length ((qM s (i + 1)).map bv)) := Lib.hid (by
          rw [HQ.out, HD.out, List.length_append, List.map_append, ← HM.out]; exact hown3)
        have B5 : Hid (Below B w w5) := Lib.hid ((HBB.out.alloc hBs _).trans hb3)
        clear hown3 hb3
        go_wp2_with fail
        go_roundg (s.size - (i + 1))
        case rel => exact ⟨i + 1, rfl, by omega, rfl, HO5.out, B5.out⟩
        case measure => omega
      · have HD := Lib.hid hd
        clear hd
        go_upto_region 13 with fail
        go_wp2_with (at_builtin; go_must (refine append_rowx rfl (.tmp 37) (.tmp 38) rfl B i0 HI.out HZ0.out HZ1.out HZ2.out _ m (qM s i) rfl (.inl (HO.out.alloc _)) wr.heap.size 2 2 [92, 116] rfl rfl ?d1 (by omega) (by omega) ?d6 ?d7))
        case d1 => intro j u hj; exact (Has.new wr [.int .u8 92, .int .u8 116] _).cellAt hj
        case d6 => simp; omega
        intro v5 w5 hown3 hb3
        have HO5 : Hid (w5.ownsRow B 5 1 v5 (qM s (i + 1)).length ((qM s (i + 1)).map bv)) := Lib.hid (by
          rw [HQ.out, HD.out, List.length_append, List.map_append, ← HM.out]; exact hown3)
        have B5 : Hid (Below B w w5) := Lib.hid ((HBB.out.alloc hBs _).trans hb3)
        clear hown3 hb3
        go_wp2_with fail
        go_roundg (s.size - (i + 1))
        case rel => exact ⟨i + 1, rfl, by omega, rfl, HO5.out, B5.out⟩
        case measure => omega
      · have HD := Lib.hid hd
        clear hd
        go_upto_region 6 with fail
        go_wp2_with (at_builtin; go_must (refine append_rowx rfl (.tmp 15) (.tmp 19) rfl B i0 HI.out HZ0.out HZ1.out HZ2.out _ m (qM s i) rfl (.inl (HO.out.alloc _)) wr.heap.size 1 1 [c] rfl rfl ?e1 (by omega) (by omega) ?e6 ?e7))
        case e1 => intro j u hj; exact (Has.new wr [.int .u8 (c.toNat : Int)] _).cellAt hj
        case e6 => simp; omega
        intro v5 w5 hown3 hb3
        have HO5 : Hid (w5.ownsRow B 5 1 v5 (qM s (i + 1)).length ((qM s (i + 1)).map bv)) := Lib.hid (by
          rw [HQ.out, HD.out, List.length_append, List.map_append, ← HM.out]; exact hown3)
        have B5 : Hid (Below B w w5) := Lib.hid ((HBB.out.alloc hBs _).trans hb3)
        clear hown3 hb3
        go_wp2_with fail
        go_roundg (s.size - (i + 1))
        case rel => exact ⟨i + 1, rfl, by omega, rfl, HO5.out, B5.out⟩
        case measure => omega
    · obtain rfl : i = s.size := by omega
      have hconv : ∀ (W : World) (a : Option Addr) (c : Nat), W.ownsRow B 5 1 (.slice a (m + 1) c) (m + 1) ((dquote s.data.toList).map bv) → (convert 38 9 (.slice a (m + 1) c)).run Try.prog W = .ok (.string (bs (dquote s.data.toList))) W := fun W a c h => convert_own h
      obtain ⟨X, hX⟩ : ∃ X, X = bs (dquote s.data.toList) := ⟨_, rfl⟩
      rw [← hX] at hconv
      have HC := Lib.hid hconv
      have HX := Lib.hid hX
      clear hconv hX
      go_upto_region 14 with fail
      go_wp2_with (at_builtin; go_must (refine append_rowx rfl (.tmp 40) (.tmp 41) rfl B i0 HI.out HZ0.out HZ1.out HZ2.out _ m (qM s s.size) rfl (.inl (HO.out.alloc _)) wr.heap.size 1 1 [34] rfl rfl ?z1 (by omega) (by omega) ?z6 ?z7))
      case z1 => intro j u hj; exact (Has.new wr [.int .u8 34] _).cellAt hj
      case z6 => simp; omega
      intro v5 w5 hown3 hb3
      have hown3 : w5.ownsRow B 5 1 v5 (m + 1) ((dquote s.data.toList).map bv) := by rw [← qM_done, List.map_append]; exact hown3
      have B5 : Hid (Below B w w5) := Lib.hid ((HBB.out.alloc hBs _).trans hb3)
      obtain ⟨a5, c5, rfl⟩ := row_form hown3
      have hcv := HC.out _ _ _ hown3
      clear hown3 hb3
      go_wp2_with fail
      go_ret
      exact ⟨by rw [← HX.out]; rfl, B5.out⟩
end Go.Proofs.Ytokbakpbhpknfaa

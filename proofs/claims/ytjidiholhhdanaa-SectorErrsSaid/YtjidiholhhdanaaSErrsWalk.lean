/-
  The walk of the law SectorErrs. Conditions: the bytes lie in old memory.
-/
import Derived.Test.YtjidiholhhdanaaSAwake
namespace Go.Proofs.Ytjidiholhhdanaa
open Go.RowKit
set_option linter.unusedVariables false
set_option maxRecDepth 100000

set_option maxHeartbeats 8000000 in
theorem walk_SectorErrs (W : World) (n : Int) (hn : (Lit.int .i64 n).wf = true) (i : Int) (hi : (Lit.int .i64 i).wf = true) (a : Option Addr) (len cap : Nat) (l : List UInt8) (hp : IsB W a len cap l) :
    Calls Try.prog 6 #[.int .i64 n, .int .i64 i, .slice a len cap] W fun e w' => e = .returned (.bool true) ∧ Below W.heap.size W w' := by
  have HP := Lib.hid hp
  clear hp hn hi
  by_cases hl : (1000 : Int) < (len : Int)
  · go_enter Try.func6, Try.ntmps6
    go_wp2_with fail
    refine (awake_any _).mono ?_
    rintro e w1 ⟨rfl, b1⟩
    have B1 := Lib.hid b1
    clear b1
    go_wp2_with fail
    refine (awake_any _).mono ?_
    rintro e w2 ⟨rfl, b2⟩
    go_wp2_with fail
    go_ret
    exact ⟨rfl, B1.out.trans (b2.mono B1.out.size)⟩
  · go_enter Try.func6, Try.ntmps6
    go_wp2_with fail
    refine (awake_any _).mono ?_
    rintro e w1 ⟨rfl, b1⟩
    have B1 := Lib.hid b1
    have P1 := Lib.hid (HP.out.later b1)
    clear b1
    go_upto_region 7 with (first
      | (go_at_call 16; refine (nil_read _).mono ?_; rintro e w' ⟨rfl, rfl⟩)
      | (go_at_call 19; refine (nil_write _ _ _ _).mono ?_; rintro e w' ⟨rfl, rfl⟩)
      | (go_at_call 20; refine nil_sync.mono ?_; rintro e w' ⟨rfl, rfl⟩)
      | (go_at_call 21; refine (nil_arm _).mono ?_; rintro e w' ⟨rfl, rfl⟩)
      | (go_at_call 14; refine (nil_restart _ _).mono ?_; rintro e w' ⟨rfl, rfl⟩)
      | (go_at_call 22; refine nil_len.mono ?_; rintro e w' ⟨rfl, rfl⟩)
      | (go_at_call 13; refine nil_ops.mono ?_; rintro e w' ⟨rfl, rfl⟩)
      | (go_at_call 12; refine nil_way.mono ?_; rintro e w' ⟨rfl, rfl⟩)
      | (go_at_call 11; refine nil_on.mono ?_; rintro e w' ⟨rfl, rfl⟩))
    by_cases hbad : n < 1 ∨ 8192 < n
    · have HN := Lib.hid (new_no n w1 hbad)
      rcases hbad with h1 | h1
      · go_wp2_with (go_at_call 8; refine HN.out.mono ?_; rintro e w' ⟨rfl, rfl⟩)
        go_ret
        exact ⟨rfl, B1.out⟩
      · have h2 : ¬ n < 1 := by omega
        go_wp2_with (go_at_call 8; refine HN.out.mono ?_; rintro e w' ⟨rfl, rfl⟩)
        go_ret
        exact ⟨rfl, B1.out⟩
    · obtain ⟨m, rfl⟩ : ∃ m : Nat, n = (m : Int) := ⟨n.toNat, by omega⟩
      have h1 : 1 ≤ m := by omega
      have h2 : m ≤ 8192 := by omega
      have h3 : ¬ (m : Int) < 1 := by omega
      have h4 : ¬ (8192 : Int) < (m : Int) := by omega
      clear hbad
      have HN := Lib.hid (new_any m w1 h1 h2)
      go_wp2_with fail
      refine HN.out.mono ?_
      rintro e w2 ⟨pb, bd, bl, rfl, hd, hb⟩
      have D2 := Lib.hid hd
      have B2 := Lib.hid hb
      have P2 := Lib.hid (P1.out.later hb)
      clear hd hb HN P1
      by_cases hr : i < 0 ∨ (m : Int) ≤ i
      · have HR := Lib.hid (read_arg D2.out i hr)
        have HW := Lib.hid (write_arg D2.out i hr a len cap)
        rcases hr with h5 | h5
        · go_wp2_with (first
            | (go_at_call 16; refine HR.out.mono ?_; rintro e w' ⟨rfl, rfl⟩)
            | (go_at_call 19; refine HW.out.mono ?_; rintro e w' ⟨rfl, rfl⟩))
          go_ret
          exact ⟨rfl, B1.out.trans (B2.out.mono B1.out.size)⟩
        · have h6 : ¬ i < 0 := by omega
          go_wp2_with (first
            | (go_at_call 16; refine HR.out.mono ?_; rintro e w' ⟨rfl, rfl⟩)
            | (go_at_call 19; refine HW.out.mono ?_; rintro e w' ⟨rfl, rfl⟩))
          go_ret
          exact ⟨rfl, B1.out.trans (B2.out.mono B1.out.size)⟩
      · obtain ⟨k, rfl⟩ : ∃ k : Nat, i = (k : Int) := ⟨i.toNat, by omega⟩
        have hk : k < m := by omega
        have h5 : ¬ (k : Int) < 0 := by omega
        have h6 : ¬ (m : Int) ≤ (k : Int) := by omega
        clear hr
        have HR := Lib.hid (read_ok D2.out k hk)
        go_wp2_with fail
        refine HR.out.mono ?_
        rintro e w3 ⟨b3, rfl, hx, hlo, hb⟩
        have D3 := Lib.hid (D2.out.kp (ts := []) (B' := 0) (Kp.of_below hb) (by simp) (by simp) (by simp))
        have B3 := Lib.hid hb
        have P3 := Lib.hid (P2.out.later hb)
        clear hx hlo hb HR D2 P2
        have BB : Hid (Below W.heap.size W w3) := Lib.hid (B1.out.trans ((B2.out.mono B1.out.size).trans (B3.out.mono (Nat.le_trans B1.out.size B2.out.size))))
        by_cases h256 : len = 256
        · subst h256
          obtain ⟨b, off, rfl, hlt, hc⟩ : ∃ b off, a = some ⟨b, off, none⟩ ∧ b < w1.heap.size ∧ ∀ j, j < 256 → w3.cell? ⟨b, off + j, none⟩ = some (bv (l.getD j 0)) := by
            rcases P3.out.at_ with h0 | ⟨b, off, e, _, hc⟩
            · omega
            · rcases HP.out.at_ with h0 | ⟨b', off', e', hlt', _⟩
              · omega
              · rw [e] at e'; cases e'
                exact ⟨b, off, e, Nat.lt_of_lt_of_le hlt' B1.out.size, hc⟩
          have HW := Lib.hid (write_ok D3.out k hk b off cap l P3.out.length hc ⟨Nat.lt_of_lt_of_le hlt (Nat.le_trans B2.out.size B3.out.size), .inl hlt⟩ (by omega) (by simp) (Nat.le_trans B2.out.size B3.out.size))
          clear hc hlt
          go_wp2_with fail
          refine HW.out.mono ?_
          rintro e w4 ⟨v, rfl, hd4, hk4⟩
          have HLN := Lib.hid (len_any hd4)
          have B4 : Hid (Below W.heap.size W w4) := Lib.hid (BB.out.trans ((hk4.below (Nat.le_trans B2.out.size B3.out.size)).mono B1.out.size))
          clear hd4 hk4 HW
          rw [if_neg (by decide)]
          go_wp2_with (go_at_call 22; refine HLN.out.mono ?_; rintro e w' ⟨rfl, rfl⟩)
          go_ret
          exact ⟨rfl, B4.out⟩
        · have h7 : ((len : Int) == 256) = false := by simp; omega
          have HW := Lib.hid (write_form D3.out k hk a len cap h256)
          have HLN := Lib.hid (len_any D3.out)
          clear h256
          go_wp2_with (first
            | (go_at_call 19; refine HW.out.mono ?_; rintro e w' ⟨rfl, rfl⟩)
            | (go_at_call 22; refine HLN.out.mono ?_; rintro e w' ⟨rfl, rfl⟩))
          go_ret
          exact ⟨rfl, BB.out⟩

end Go.Proofs.Ytjidiholhhdanaa

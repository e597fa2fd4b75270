/-
  The walk of the law BaseOrder: it returns true. No conditions.
-/
import Derived.Test.YtoonbnfageefnaaRowMore
import Derived.Test.YtoonbnfageefnaaAwake
import Derived.Test.YtoonbnfageefnaaOrdMath
import Derived.Deep.QuietTactic
import Derived.BigQuiet
namespace Go.Proofs.Ytoonbnfageefnaa
open Go.RowKit

theorem below_drewN {B : Nat} {a w : World} (h : Below B a w) (n : Nat) : Below B a (w.drewN n) := ⟨h.os, h.tape, h.output, h.size, h.block⟩

set_option maxHeartbeats 1000000 in
theorem order_some (w : World) (b0 o0 c0 b1 o1 c1 : Nat) (p q : List UInt8) (hp : By w b0 o0 p) (hq : By w b1 o1 q) (lt0 : b0 < w.heap.size) (lt1 : b1 < w.heap.size)
    (hlen : p.length = q.length) (hpos : 0 < p.length) (h200 : p.length ≤ 200) :
    Calls Try.prog 7 #[.slice (some ⟨b0, o0, none⟩) p.length c0, .slice (some ⟨b1, o1, none⟩) p.length c1] w fun e w' => e = .returned (.bool true) ∧ Below w.heap.size w w' := by
  have h3 : ((p.length : Int) != (p.length : Int)) = false := by simp
  have h4 : decide (200 < (p.length : Int)) = false := by simp; omega
  have HP := Lib.hid hp
  have HQ := Lib.hid hq
  have HL := Lib.hid hlen
  clear hp hq hlen
  go_enter Try.func7, Try.ntmps7
  go_wp2_with fail
  refine (awake_any _).mono ?_
  rintro e w1 ⟨rfl, hb1⟩
  go_wp2_with fail
  go_loopw [5, 6] (fun t i wr => ∃ k : Nat, k ≤ p.length ∧ i = .int .i64 k ∧ t = .bool (decide (val (p.take k) < val (q.take k))) ∧ Below w.heap.size w wr) (fun _ i _ => p.length - (intOf i).toNat)
  case atStart => exact ⟨0, Nat.zero_le _, rfl, by simp [val], hb1⟩
  case round =>
    clear hb1
    obtain ⟨k, hk, rfl, rfl, hbel⟩ := hrel
    by_cases hlt : k < p.length
    · have hx : wr.cell? ⟨b0, o0 + k, none⟩ = some (.int .u8 ((p.getD k 0).toNat : Int)) := (hbel.cell (by exact lt0)).trans (HP.out k hlt)
      have hy : wr.cell? ⟨b1, o1 + k, none⟩ = some (.int .u8 ((q.getD k 0).toNat : Int)) := (hbel.cell (by exact lt1)).trans (HQ.out k (by have := HL.out; omega))
      have HS := Lib.hid (less_step p q k hlt (by have := HL.out; omega))
      generalize (p.getD k 0).toNat = x at *
      generalize (q.getD k 0).toNat = y at *
      have k0 : (0 : Int) ≤ (k : Int) := by omega
      have k1 : (k : Int) < (p.length : Int) := by omega
      by_cases hxy : x = y
      · have hne : ((x : Int) != (y : Int)) = false := by simp [hxy]
        have HE := Lib.hid hxy
        clear hxy
        go_wp2
        go_quiet (fail)
        go_wp2
        go_roundw
        case rel => exact ⟨k + 1, by omega, by go_num, by rw [HS.out, if_pos HE.out], by repeat (first | exact hbel | apply below_drewN)⟩
        case measure => simp [intOf]; omega
      · have hne : ((x : Int) != (y : Int)) = true := by simp; omega
        have HE := Lib.hid hxy
        clear hxy
        go_wp2
        go_quiet (fail)
        go_wp2
        go_quiet (fail)
        go_wp2
        go_roundw
        case rel => exact ⟨k + 1, by omega, by go_num, by rw [HS.out, if_neg HE.out]; try simp, by repeat (first | exact hbel | apply below_drewN)⟩
        case measure => simp [intOf]; omega
    · obtain rfl : k = p.length := by omega
      have HT : Hid (q.take p.length = q) := Lib.hid (by rw [HL.out, List.take_length])
      have I0 : IsB wr (some ⟨b0, o0, none⟩) p.length c0 p := ⟨rfl, .inr ⟨b0, o0, rfl, Nat.lt_of_lt_of_le lt0 hbel.size, fun i hi => (hbel.cell (by exact lt0)).trans (HP.out i hi)⟩, by unfold maxLen; omega⟩
      have I1 : IsB wr (some ⟨b1, o1, none⟩) p.length c1 q := ⟨HL.out.symm, .inr ⟨b1, o1, rfl, Nat.lt_of_lt_of_le lt1 hbel.size, fun i hi => (hbel.cell (by exact lt1)).trans (HQ.out i hi)⟩, by unfold maxLen; omega⟩
      have J0 := Lib.hid I0
      have J1 := Lib.hid I1
      clear I0 I1
      go_wp2_with fail
      refine (encode_b _ _ _ p _ J0.out (by omega)).mono ?_
      rintro e w2 ⟨rfl, hb2⟩
      go_wp2_with fail
      refine (encode_b _ _ _ q _ (J1.out.later hb2) (by omega)).mono ?_
      rintro e w3 ⟨rfl, hb3⟩
      go_wp2_with fail
      go_ret
      refine ⟨?_, (hbel.trans (hb2.mono hbel.size)).trans (hb3.mono (Nat.le_trans hbel.size hb2.size))⟩
      rw [HT.out, order_enc p q HL.out]
      simp

set_option maxHeartbeats 1000000 in
theorem order_far (w : World) (a0 : Option Addr) (n0 c0 : Nat) (a1 : Option Addr) (n1 c1 : Nat) (m0 : n0 ≤ 9223372036854775807) (m1 : n1 ≤ 9223372036854775807) (h : n0 ≠ n1 ∨ 200 < n0) :
    Calls Try.prog 7 #[.slice a0 n0 c0, .slice a1 n1 c1] w fun e w' => e = .returned (.bool true) ∧ Below w.heap.size w w' := by
  by_cases hne : n0 = n1
  · have h2 : (200 : Int) < (n0 : Int) := by omega
    subst hne
    have h3 : ((n0 : Int) != (n0 : Int)) = false := by simp
    clear h
    go_enter Try.func7, Try.ntmps7
    go_wp2_with fail
    refine (awake_any _).mono ?_
    rintro e w1 ⟨rfl, hb1⟩
    go_wp2_with fail
    refine (awake_any _).mono ?_
    rintro e w2 ⟨rfl, hb2⟩
    go_wp2_with fail
    go_ret
    exact ⟨rfl, hb1.trans (hb2.mono hb1.size)⟩
  · have h3 : ((n0 : Int) != (n1 : Int)) = true := by simp; omega
    clear h hne
    go_enter Try.func7, Try.ntmps7
    go_wp2_with fail
    refine (awake_any _).mono ?_
    rintro e w1 ⟨rfl, hb1⟩
    go_wp2_with fail
    refine (awake_any _).mono ?_
    rintro e w2 ⟨rfl, hb2⟩
    go_wp2_with fail
    go_ret
    exact ⟨rfl, hb1.trans (hb2.mono hb1.size)⟩

set_option maxHeartbeats 1000000 in
theorem order_none (w : World) (a0 : Option Addr) (c0 : Nat) (a1 : Option Addr) (c1 : Nat) :
    Calls Try.prog 7 #[.slice a0 0 c0, .slice a1 0 c1] w fun e w' => e = .returned (.bool true) ∧ Below w.heap.size w w' := by
  go_enter Try.func7, Try.ntmps7
  go_wp2_with fail
  refine (awake_any _).mono ?_
  rintro e w1 ⟨rfl, hb1⟩
  go_wp2_with fail
  refine wp_loop_rounds 1 ?_
  rw [rounds_succ]
  go_wp2_with fail
  refine (encode_none _ _ _).mono ?_
  rintro e w2 ⟨rfl, hb2⟩
  go_wp2_with fail
  refine (encode_none _ _ _).mono ?_
  rintro e w3 ⟨rfl, hb3⟩
  go_wp2_with fail
  go_ret
  exact ⟨by simp [Op.bytesLess], (hb1.trans (hb2.mono hb1.size)).trans (hb3.mono (Nat.le_trans hb1.size hb2.size))⟩

theorem walk_BaseOrder (w : World) (a0 : Option Addr) (n0 c0 : Nat) (p : List UInt8) (w0 : IsB w a0 n0 c0 p) (a1 : Option Addr) (n1 c1 : Nat) (q : List UInt8) (w1 : IsB w a1 n1 c1 q) :
    Calls Try.prog 7 #[.slice a0 n0 c0, .slice a1 n1 c1] w fun e w' => e = .returned (.bool true) ∧ Below w.heap.size w w' := by
  obtain ⟨lp, ap, mp⟩ := w0
  obtain ⟨lq, aq, mq⟩ := w1
  unfold maxLen at mp mq
  by_cases h1 : n0 = n1 ∧ n0 ≤ 200
  · obtain ⟨rfl, h2⟩ := h1
    rcases Nat.eq_zero_or_pos n0 with rfl | hpos
    · exact order_none w a0 c0 a1 c1
    · rcases ap with h | ⟨b0, o0, rfl, lt0, hp⟩
      · omega
      · rcases aq with h | ⟨b1, o1, rfl, lt1, hq⟩
        · omega
        · subst lp
          exact order_some w b0 o0 c0 b1 o1 c1 p q hp hq lt0 lt1 lq.symm hpos h2
  · exact order_far w a0 n0 c0 a1 n1 c1 (by omega) (by omega) (by omega)

end Go.Proofs.Ytoonbnfageefnaa

/-
  The contract of strings.IndexByte at the 32 signs: the number of a sign. No conditions.
-/
import Derived.Test.YtokbakpbhpknfaaGreatDoorRowN
import Derived.Test.YtokbakpbhpknfaaGreatDoorMathN
namespace Go.Proofs.YtokbakpbhpknfaaGreatDoor.Nam
open Go.RowKit

set_option maxRecDepth 100000 in
set_option maxHeartbeats 1000000 in
theorem lite_any (s : ByteArray) (c : Int) (w : World) :
    Calls Tryz.prog 100 #[.string s, .int .u8 c] w fun e w' => e = .returned (.int .i64 (Go.Lib.indexByte s.data.toList c.toNat.toUInt8)) ∧ w = w' := by
  go_enter Tryz.func100, Tryz.ntmps100
  go_wp2
  rw [run_callFunc_extern Tryz.func112 (by kernel_rfl) (by kernel_rfl) (by kernel_rfl) (e := Extern.BytealgIndexByte.indexByte) (by kernel_rfl), Go.Lib.run_indexByteString]
  simp only [Result.andThen]
  rw [Oper.upon_value]
  go_wp2
  go_ret
  exact ⟨rfl, rfl⟩

set_option maxHeartbeats 1000000 in
theorem index_any (s : ByteArray) (c : Int) (w : World) :
    Calls Tryz.prog 79 #[.string s, .int .u8 c] w fun e w' => e = .returned (.int .i64 (Go.Lib.indexByte s.data.toList c.toNat.toUInt8)) ∧ w = w' := by
  go_enter Tryz.func79, Tryz.ntmps79
  go_wp2_with (go_at_call 100; refine (lite_any _ _ _).mono ?_; rintro e w' ⟨rfl, rfl⟩)
  go_ret
  exact ⟨rfl, rfl⟩

theorem index_sign (c : UInt8) (w : World) :
    Calls Tryz.prog 79 #[.string ⟨#[48, 49, 50, 51, 52, 53, 54, 55, 56, 57, 97, 98, 99, 100, 102, 103, 104, 105, 106, 107, 108, 109, 110, 112, 113, 114, 115, 118, 119, 120, 121, 122]⟩, .int .u8 (c.toNat : Int)] w fun e w' => e = .returned (.int .i64 (sv c)) ∧ w = w' := by
  refine (index_any _ _ w).mono ?_
  rintro e w' ⟨rfl, hw⟩
  refine ⟨?_, hw⟩
  simp [sv, signs]

end Go.Proofs.YtokbakpbhpknfaaGreatDoor.Nam

namespace Go.Proofs.YtokbakpbhpknfaaGreatDoor.Nam
open Go.RowKit

theorem pow8 (s : Nat) (h : s < 8) : 1 ≤ 2 ^ s ∧ 2 ^ s ≤ 128 := by
  have : s = 0 ∨ s = 1 ∨ s = 2 ∨ s = 3 ∨ s = 4 ∨ s = 5 ∨ s = 6 ∨ s = 7 := by omega
  rcases this with rfl | rfl | rfl | rfl | rfl | rfl | rfl | rfl <;> simp

set_option maxHeartbeats 1000000 in
theorem put_two (g len cap : Nat) (j x y v : Int) (w : World) (h0 : 0 ≤ j) (h1 : j ≤ 1000000000) (hl : j / 8 + 1 < (len : Int)) (hm : len ≤ 1000000000)
    (hx : w.cell? ⟨g, (j / 8).toNat, none⟩ = some (.int .u8 x)) (hy : w.cell? ⟨g, (j / 8 + 1).toNat, none⟩ = some (.int .u8 y))
    (fx : w.frozen? ⟨g, (j / 8).toNat, none⟩ = false) (fy : w.frozen? ⟨g, (j / 8 + 1).toNat, none⟩ = false) :
    Calls Tryz.prog 84 #[.slice (some ⟨g, 0, none⟩) len cap, .int .i64 j, .int .u64 v] w fun e w' => e = .returned (.bool true) ∧
      (w.setCell ⟨g, (j / 8).toNat, none⟩ (.int .u8 (bits .or .u8 x (IntKind.u64.wrap (v * 2 ^ (j % 8).toNat) % 256)))).setCell ⟨g, (j / 8 + 1).toNat, none⟩ (.int .u8 (bits .or .u8 y (IntKind.u64.wrap (v * 2 ^ (j % 8).toNat) / 256 % 256))) = w' := by
  have hq : 0 ≤ j / 8 := by omega
  have hr : 0 ≤ j % 8 := by omega
  have hr8 : j % 8 < 8 := by omega
  have hq1 : j / 8 < (len : Int) := by omega
  go_enter Tryz.func84, Tryz.ntmps84
  go_wp2
  go_ret
  exact ⟨rfl, rfl⟩

set_option maxHeartbeats 1000000 in
theorem put_one (g len cap : Nat) (j x v : Int) (w : World) (h0 : 0 ≤ j) (h1 : j ≤ 1000000000) (hl : j / 8 < (len : Int)) (hl2 : ¬ j / 8 + 1 < (len : Int)) (hm : len ≤ 1000000000)
    (hx : w.cell? ⟨g, (j / 8).toNat, none⟩ = some (.int .u8 x))
    (fx : w.frozen? ⟨g, (j / 8).toNat, none⟩ = false) :
    Calls Tryz.prog 84 #[.slice (some ⟨g, 0, none⟩) len cap, .int .i64 j, .int .u64 v] w fun e w' => e = .returned (.bool (IntKind.u64.wrap (v * 2 ^ (j % 8).toNat) / 256 == 0)) ∧
      w.setCell ⟨g, (j / 8).toNat, none⟩ (.int .u8 (bits .or .u8 x (IntKind.u64.wrap (v * 2 ^ (j % 8).toNat) % 256))) = w' := by
  have hq : 0 ≤ j / 8 := by omega
  have hr : 0 ≤ j % 8 := by omega
  have hr8 : j % 8 < 8 := by omega
  go_enter Tryz.func84, Tryz.ntmps84
  go_wp2
  go_ret
  exact ⟨rfl, rfl⟩

theorem val_set : ∀ (l : List UInt8) (i : Nat) (b : UInt8), i < l.length → val (l.set i b) + 256 ^ i * (l.getD i 0).toNat = val l + 256 ^ i * b.toNat
  | [], _, _, h => by simp at h
  | a :: t, 0, b, _ => by simp [val]; omega
  | a :: t, i + 1, b, h => by
    have ih := val_set t i b (by simpa using h)
    simp only [List.set_cons_succ, val, Nat.pow_succ]
    have e1 : 256 ^ i * 256 * (t.getD i 0).toNat = 256 * (256 ^ i * (t.getD i 0).toNat) := by rw [Nat.mul_comm (256 ^ i) 256, Nat.mul_assoc]
    have e2 : 256 ^ i * 256 * b.toNat = 256 * (256 ^ i * b.toNat) := by rw [Nat.mul_comm (256 ^ i) 256, Nat.mul_assoc]
    have e3 : (a :: t).getD (i + 1) 0 = t.getD i 0 := rfl
    rw [e3, e1, e2]
    omega

/-- Bytes next to one another behind five bits more. -/
theorem put_math (n N q s v : Nat) (hs : s < 8) (hv : v < 32) (hN : N < 2 ^ (8 * q + s)) (hq : q < n) (hfit : N + 2 ^ (8 * q + s) * v < 256 ^ n) :
    (N / 256 ^ q % 256 < 2 ^ s) ∧
    (q + 1 < n → N / 256 ^ (q + 1) % 256 = 0 ∧ ((byN n N).set q (UInt8.ofNat (N / 256 ^ q % 256 + v * 2 ^ s % 256))).set (q + 1) (UInt8.ofNat (v * 2 ^ s / 256)) = byN n (N + 2 ^ (8 * q + s) * v)) ∧
    (q + 1 = n → v * 2 ^ s < 256 ∧ (byN n N).set q (UInt8.ofNat (N / 256 ^ q % 256 + v * 2 ^ s)) = byN n (N + 2 ^ (8 * q + s) * v)) := by
  obtain ⟨p1, p2⟩ := pow8 s hs
  have hp : 0 < 256 ^ q := Nat.pos_of_ne_zero (by simp)
  have hsplit := pow_split q s
  have hx : N / 256 ^ q < 2 ^ s := by
    rw [Nat.div_lt_iff_lt_mul hp, Nat.mul_comm, ← hsplit]; exact hN
  have hv2 : v * 2 ^ s ≤ 31 * 128 := Nat.mul_le_mul (by omega) p2
  have hmod : N / 256 ^ q % 256 = N / 256 ^ q := Nat.mod_eq_of_lt (by omega)
  have hNn : N < 256 ^ n := by omega
  have gq : ((byN n N).getD q 0).toNat = N / 256 ^ q := by
    rw [List.getD_eq_getElem?_getD, byN_get n N q hq, Option.getD_some, UInt8.toNat_ofNat', hmod]; omega
  have hval : val (byN n N) = N := by rw [val_byN, Nat.mod_eq_of_lt hNn]
  have hmul : 2 ^ (8 * q + s) * v = 256 ^ q * (v * 2 ^ s) := by rw [hsplit, Nat.mul_assoc, Nat.mul_comm (2 ^ s) v]
  have hhigh : N / 256 ^ (q + 1) = 0 := by
    rw [Nat.pow_succ, ← Nat.div_div_eq_div_mul]; omega
  have hlow : v * 2 ^ s % 256 + N / 256 ^ q < 256 := by
    have : s = 0 ∨ s = 1 ∨ s = 2 ∨ s = 3 ∨ s = 4 ∨ s = 5 ∨ s = 6 ∨ s = 7 := by omega
    rcases this with rfl | rfl | rfl | rfl | rfl | rfl | rfl | rfl <;> simp only [Nat.reducePow] at * <;> omega
  refine ⟨by rw [hmod]; exact hx, ?_, ?_⟩
  · intro h1
    refine ⟨by rw [hhigh], ?_⟩
    have e0 : (UInt8.ofNat (N / 256 ^ q % 256 + v * 2 ^ s % 256)).toNat = N / 256 ^ q + v * 2 ^ s % 256 := by rw [UInt8.toNat_ofNat', hmod]; omega
    have e1 : (UInt8.ofNat (v * 2 ^ s / 256)).toNat = v * 2 ^ s / 256 := by rw [UInt8.toNat_ofNat']; omega
    have v1 := val_set (byN n N) q (UInt8.ofNat (N / 256 ^ q % 256 + v * 2 ^ s % 256)) (by rw [byN_length]; exact hq)
    have v2 := val_set ((byN n N).set q (UInt8.ofNat (N / 256 ^ q % 256 + v * 2 ^ s % 256))) (q + 1) (UInt8.ofNat (v * 2 ^ s / 256)) (by rw [List.length_set, byN_length]; exact h1)
    have g1 : (((byN n N).set q (UInt8.ofNat (N / 256 ^ q % 256 + v * 2 ^ s % 256))).getD (q + 1) 0).toNat = 0 := by
      rw [List.getD_eq_getElem?_getD, List.getElem?_set_ne (by omega), byN_get n N (q + 1) h1, hhigh]; rfl
    rw [e0, gq, hval] at v1
    rw [e1, g1] at v2
    have e2 : 256 ^ (q + 1) * (v * 2 ^ s / 256) = 256 ^ q * (256 * (v * 2 ^ s / 256)) := by rw [Nat.pow_succ, Nat.mul_assoc]
    have e3 : 256 ^ q * (N / 256 ^ q + v * 2 ^ s % 256) = 256 ^ q * (N / 256 ^ q) + 256 ^ q * (v * 2 ^ s % 256) := Nat.mul_add _ _ _
    have e4 : 256 ^ q * (v * 2 ^ s) = 256 ^ q * (v * 2 ^ s % 256) + 256 ^ q * (256 * (v * 2 ^ s / 256)) := by
      rw [← Nat.mul_add, Nat.mod_add_div]
    have hfin : val (((byN n N).set q (UInt8.ofNat (N / 256 ^ q % 256 + v * 2 ^ s % 256))).set (q + 1) (UInt8.ofNat (v * 2 ^ s / 256))) = N + 2 ^ (8 * q + s) * v := by
      rw [hmul]; omega
    have := byN_val (((byN n N).set q (UInt8.ofNat (N / 256 ^ q % 256 + v * 2 ^ s % 256))).set (q + 1) (UInt8.ofNat (v * 2 ^ s / 256)))
    rw [hfin, List.length_set, List.length_set, byN_length] at this
    exact this.symm
  · intro h1
    have hfit2 : v * 2 ^ s < 256 := by
      rw [hmul, ← h1, Nat.pow_succ] at hfit
      have : 256 ^ q * (v * 2 ^ s) < 256 ^ q * 256 := by omega
      exact Nat.lt_of_mul_lt_mul_left this
    refine ⟨hfit2, ?_⟩
    have hm2 : v * 2 ^ s % 256 = v * 2 ^ s := Nat.mod_eq_of_lt hfit2
    rw [hm2] at hlow
    have e0 : (UInt8.ofNat (N / 256 ^ q % 256 + v * 2 ^ s)).toNat = N / 256 ^ q + v * 2 ^ s := by rw [UInt8.toNat_ofNat', hmod]; omega
    have v1 := val_set (byN n N) q (UInt8.ofNat (N / 256 ^ q % 256 + v * 2 ^ s)) (by rw [byN_length]; exact hq)
    rw [e0, gq, hval, Nat.mul_add] at v1
    have hfin : val ((byN n N).set q (UInt8.ofNat (N / 256 ^ q % 256 + v * 2 ^ s))) = N + 2 ^ (8 * q + s) * v := by
      rw [hmul]; omega
    have := byN_val ((byN n N).set q (UInt8.ofNat (N / 256 ^ q % 256 + v * 2 ^ s)))
    rw [hfin, List.length_set, byN_length] at this
    exact this.symm

theorem wrap_small (m : Nat) (h : m ≤ 100000) : IntKind.u64.wrap (m : Int) = (m : Int) := by
  simp [IntKind.wrap, IntKind.bits, IntKind.signed]; omega

theorem or_join (x m s : Nat) (hs : s < 8) (hx : x < 2 ^ s) (hm : m % 2 ^ s = 0) (h256 : m < 256) : bits .or .u8 (x : Int) (m : Int) = ((x + m : Nat) : Int) := by
  obtain ⟨p1, p2⟩ := pow8 s hs
  rw [u8_or_nat x m (by omega) h256, Nat.or_comm, nat_join s m x hm hx, Nat.add_comm]

theorem fit_low (N q s m : Nat) (hN : N < 256 ^ q * 2 ^ s) (hm : m % 2 ^ s = 0) (h : m < 256) (hs : s < 8) : N + 256 ^ q * m < 256 ^ (q + 1) := by
  have h8 : m + 2 ^ s ≤ 256 := by
    have : s = 0 ∨ s = 1 ∨ s = 2 ∨ s = 3 ∨ s = 4 ∨ s = 5 ∨ s = 6 ∨ s = 7 := by omega
    rcases this with rfl | rfl | rfl | rfl | rfl | rfl | rfl | rfl <;> simp only [Nat.reducePow] at * <;> omega
  have := Nat.mul_le_mul_left (256 ^ q) h8
  rw [Nat.mul_add] at this
  rw [Nat.pow_succ]
  omega

theorem fit_two (N q s v n : Nat) (hs : s < 8) (hv : v < 32) (hN : N < 2 ^ (8 * q + s)) (h : q + 1 < n) : N + 2 ^ (8 * q + s) * v < 256 ^ n := by
  obtain ⟨p1, p2⟩ := pow8 s hs
  have h1 : 2 ^ (8 * q + s) * (v + 1) ≤ 2 ^ (8 * q + s) * 32 := Nat.mul_le_mul_left _ (by omega)
  rw [Nat.mul_add, Nat.mul_one] at h1
  have h2 : 2 ^ (8 * q + s) * 32 ≤ 256 ^ (q + 2) := by
    rw [pow_split, Nat.mul_assoc, Nat.pow_add]
    exact Nat.mul_le_mul_left _ (by omega)
  have h3 : 256 ^ (q + 2) ≤ 256 ^ n := Nat.pow_le_pow_right (by omega) h
  omega

theorem put_any (base g n N i v : Nat) (j : Int) (w : World) (hj : j = 5 * (i : Int)) (hi : 5 * i < 8 * n) (hn : n ≤ 1000000) (hN : N < 2 ^ (5 * i)) (hv : v < 32)
    (hown : w.ownsRow base 5 1 (.slice (some ⟨g, 0, none⟩) n n) n ((byN n N).map bv)) :
    Calls Tryz.prog 84 #[.slice (some ⟨g, 0, none⟩) n n, .int .i64 j, .int .u64 (v : Int)] w fun e w' =>
      e = .returned (.bool (decide (N + 2 ^ (5 * i) * v < 256 ^ n))) ∧
      (N + 2 ^ (5 * i) * v < 256 ^ n → w'.ownsRow base 5 1 (.slice (some ⟨g, 0, none⟩) n n) n ((byN n (N + 2 ^ (5 * i) * v)).map bv)) ∧ w.grownBy w' (some g) := by
  obtain ⟨q, hq⟩ : ∃ q, q = 5 * i / 8 := ⟨_, rfl⟩
  obtain ⟨s, hsd⟩ : ∃ s, s = 5 * i % 8 := ⟨_, rfl⟩
  have hs : s < 8 := by omega
  have e5 : 5 * i = 8 * q + s := by omega
  have hqn : q < n := by omega
  have j1 : (j / 8).toNat = q := by omega
  have j2 : (j % 8).toNat = s := by omega
  have j3 : (j / 8 + 1).toNat = q + 1 := by omega
  rw [e5] at hN ⊢
  obtain ⟨p1, p2⟩ := pow8 s hs
  have hm : v * 2 ^ s ≤ 31 * 128 := Nat.mul_le_mul (by omega) p2
  have hdv : v * 2 ^ s % 2 ^ s = 0 := Nat.mul_mod_left _ _
  have hdv2 : v * 2 ^ s % 256 % 2 ^ s = 0 := by
    have : s = 0 ∨ s = 1 ∨ s = 2 ∨ s = 3 ∨ s = 4 ∨ s = 5 ∨ s = 6 ∨ s = 7 := by omega
    rcases this with rfl | rfl | rfl | rfl | rfl | rfl | rfl | rfl <;> simp only [Nat.reducePow] <;> omega
  have hcast : (v : Int) * 2 ^ s = ((v * 2 ^ s : Nat) : Int) := by simp
  have hcell : ∀ k, k < n → w.cell? ⟨g, k, none⟩ = some (.int .u8 ((N / 256 ^ k % 256 : Nat) : Int)) := by
    intro k hk
    rw [hown.cellAt k (by omega), List.getElem?_map, byN_get n N k hk]
    simp only [Option.map_some, bv]
    rw [UInt8.toNat_ofNat', Nat.mod_mod_of_dvd _ (by decide)]
  have hset : ∀ (l : List UInt8) (k m : Nat), m < 256 → (l.map bv).set k (.int .u8 (m : Int)) = (l.set k (UInt8.ofNat m)).map bv := by
    intro l k m h
    rw [List.map_set]
    congr 1
    simp only [bv]
    rw [UInt8.toNat_ofNat', Nat.mod_eq_of_lt h]
  have hmul : 2 ^ (8 * q + s) * v = 256 ^ q * (v * 2 ^ s) := by rw [pow_split, Nat.mul_assoc, Nat.mul_comm (2 ^ s) v]
  by_cases h1 : q + 1 < n
  · have hfit := fit_two N q s v n hs hv hN h1
    obtain ⟨m1, m2, _⟩ := put_math n N q s v hs hv hN hqn hfit
    obtain ⟨m3, m4⟩ := m2 h1
    refine (put_two g n n j _ _ v w (by omega) (by omega) (by omega) (by omega) (by rw [j1]; exact hcell q hqn) (by rw [j3]; exact hcell _ h1) (hown.frozenAt _) (hown.frozenAt _)).mono ?_
    rintro e w' ⟨rfl, rfl⟩
    rw [j1, j2, j3, m3, hcast, wrap_small _ (by omega)]
    have b1 : bits .or .u8 ((N / 256 ^ q % 256 : Nat) : Int) (((v * 2 ^ s : Nat) : Int) % 256) = ((N / 256 ^ q % 256 + v * 2 ^ s % 256 : Nat) : Int) := by
      rw [show (((v * 2 ^ s : Nat) : Int) % 256) = ((v * 2 ^ s % 256 : Nat) : Int) from by simp]
      exact or_join _ _ s hs m1 hdv2 (by omega)
    have b2 : bits .or .u8 ((0 : Nat) : Int) (((v * 2 ^ s : Nat) : Int) / 256 % 256) = ((v * 2 ^ s / 256 : Nat) : Int) := by
      rw [show (((v * 2 ^ s : Nat) : Int) / 256 % 256) = ((v * 2 ^ s / 256 : Nat) : Int) from by omega]
      rw [u8_or_nat 0 _ (by omega) (by omega), Nat.zero_or]
    rw [b1, b2]
    have o1 := hown.stored q (.int .u8 ((N / 256 ^ q % 256 + v * 2 ^ s % 256 : Nat) : Int))
    have hlt : N / 256 ^ q % 256 + v * 2 ^ s % 256 < 256 := by
      have : s = 0 ∨ s = 1 ∨ s = 2 ∨ s = 3 ∨ s = 4 ∨ s = 5 ∨ s = 6 ∨ s = 7 := by omega
      rcases this with rfl | rfl | rfl | rfl | rfl | rfl | rfl | rfl <;> simp only [Nat.reducePow] at * <;> omega
    rw [hset _ _ _ hlt] at o1
    have o2 := o1.1.stored (q + 1) (.int .u8 ((v * 2 ^ s / 256 : Nat) : Int))
    rw [hset _ _ _ (by omega), m4] at o2
    refine ⟨by rw [decide_eq_true hfit], fun _ => o2.1, ?_⟩
    exact ⟨o2.2.os.trans o1.2.os, o2.2.tape.trans o1.2.tape, o2.2.output.trans o1.2.output, Nat.le_trans o1.2.size o2.2.size, fun k hk hne => (o2.2.block k (Nat.lt_of_lt_of_le hk o1.2.size) hne).trans (o1.2.block k hk hne)⟩
  · have hn1 : q + 1 = n := by omega
    refine (put_one g n n j _ v w (by omega) (by omega) (by omega) (by omega) (by omega) (by rw [j1]; exact hcell q hqn) (hown.frozenAt _)).mono ?_
    rintro e w' ⟨rfl, rfl⟩
    rw [j1, j2, hcast, wrap_small _ (by omega)]
    have hx : N / 256 ^ q % 256 < 2 ^ s := by
      have hp : 0 < 256 ^ q := Nat.pos_of_ne_zero (by simp)
      have : N / 256 ^ q < 2 ^ s := by
        rw [Nat.div_lt_iff_lt_mul hp, Nat.mul_comm, ← pow_split]; exact hN
      exact Nat.lt_of_le_of_lt (Nat.mod_le _ _) this
    have hiff : (v * 2 ^ s < 256) ↔ N + 2 ^ (8 * q + s) * v < 256 ^ n := by
      rw [hmul, ← hn1]
      constructor
      · intro h
        exact fit_low N q s _ (by rw [← pow_split]; exact hN) hdv h hs
      · intro h
        rw [Nat.pow_succ] at h
        have : 256 ^ q * (v * 2 ^ s) < 256 ^ q * 256 := by omega
        exact Nat.lt_of_mul_lt_mul_left this
    have hb : ((((v * 2 ^ s : Nat) : Int) / 256 == 0) : Bool) = decide (N + 2 ^ (8 * q + s) * v < 256 ^ n) := by
      rw [Bool.eq_iff_iff, decide_eq_true_iff, ← hiff, beq_iff_eq]; omega
    refine ⟨by rw [hb], fun hfit => ?_, (hown.stored q _).2⟩
    obtain ⟨_, _, m2⟩ := put_math n N q s v hs hv hN hqn hfit
    obtain ⟨m3, m4⟩ := m2 hn1
    have b1 : bits .or .u8 ((N / 256 ^ q % 256 : Nat) : Int) (((v * 2 ^ s : Nat) : Int) % 256) = ((N / 256 ^ q % 256 + v * 2 ^ s : Nat) : Int) := by
      rw [show (((v * 2 ^ s : Nat) : Int) % 256) = ((v * 2 ^ s : Nat) : Int) from by omega]
      exact or_join _ _ s hs hx hdv m3
    have hlt : N / 256 ^ q % 256 + v * 2 ^ s < 256 := by
      have : s = 0 ∨ s = 1 ∨ s = 2 ∨ s = 3 ∨ s = 4 ∨ s = 5 ∨ s = 6 ∨ s = 7 := by omega
      rcases this with rfl | rfl | rfl | rfl | rfl | rfl | rfl | rfl <;> simp only [Nat.reducePow] at * <;> omega
    rw [b1]
    have o1 := hown.stored q (.int .u8 ((N / 256 ^ q % 256 + v * 2 ^ s : Nat) : Int))
    rw [hset _ _ _ hlt, m4] at o1
    exact o1.1

end Go.Proofs.YtokbakpbhpknfaaGreatDoor.Nam

namespace Go.Proofs.YtokbakpbhpknfaaGreatDoor.Nam
open Go.RowKit

/-- What is handed back for bytes, or for none. -/
def DecPost (o : Option (List UInt8)) (w : World) (e : Ending) (w' : World) : Prop :=
  (∀ p, o = some p → ∃ g, e = .returned (.tuple #[.slice (some ⟨g, 0, none⟩) p.length p.length, .int .i64 0]) ∧
    w'.ownsRow w.heap.size 5 1 (.slice (some ⟨g, 0, none⟩) p.length p.length) p.length (p.map bv)) ∧
  (o = none → e = .returned (.tuple #[.slice none 0 0, .int .i64 3])) ∧ Below w.heap.size w w'

theorem pow32_5 (k : Nat) : (2 : Nat) ^ (5 * k) = 32 ^ k := (pow32 k).symm

theorem rv_take_le (r : List UInt8) (k : Nat) : rv (r.take k) ≤ rv r := by
  have := rv_append (r.take k) (r.drop k)
  rw [List.take_append_drop] at this
  rw [this]; omega

theorem rev_get (l : List UInt8) (k : Nat) (h : k < l.length) : l.reverse.getD k 0 = l.getD (l.length - 1 - k) 0 := by
  rw [List.getD_eq_getElem?_getD, List.getD_eq_getElem?_getD, List.getElem?_reverse h]

theorem dec_none_oks (l : List UInt8) (k : Nat) (h : k < l.length) (hs : sv (l.reverse.getD k 0) < 0) : dec l = none := by
  unfold dec
  rw [if_neg]
  rintro ⟨_, h2, _⟩
  have h3 := oks_all_take l.reverse (k + 1) (by rw [oks_reverse]; exact h2)
  rw [oks_take _ _ (by rw [List.length_reverse]; exact h)] at h3
  simp at h3
  have := h3.2
  rw [List.getD_eq_getElem?_getD] at hs
  omega

theorem dec_none_big (l : List UInt8) (k : Nat) (h : 256 ^ dlen l.length ≤ rv (l.reverse.take k)) : dec l = none := by
  unfold dec
  rw [if_neg]
  rintro ⟨_, _, h3⟩
  have := rv_take_le l.reverse k
  omega

theorem dec_none_len (l : List UInt8) (h : slen (dlen l.length) ≠ l.length) : dec l = none := by
  unfold dec
  rw [if_neg]
  rintro ⟨h1, _⟩
  exact h h1

theorem dlen_int (n : Nat) : (n : Int) / 8 * 5 + (n : Int) % 8 * 5 / 8 = (dlen n : Int) := by unfold dlen; omega

set_option maxHeartbeats 1000000 in
theorem decode_far (s : ByteArray) (w : World) (hm : s.size ≤ 100000) (h : slen (dlen s.size) ≠ s.size) :
    Calls Tryz.prog 56 #[.string s] w fun e w' => DecPost (dec s.data.toList) w e w' := by
  have hn := dec_none_len s.data.toList (by simpa using h)
  rw [hn]
  have h1 : ((slen (dlen s.size) : Nat) : Int) ≠ (s.size : Int) := by omega
  have h2 : (((slen (dlen s.size) : Nat) : Int) != (s.size : Int)) = true := by simpa using h1
  clear h h1 hn
  rcases Nat.eq_zero_or_pos (dlen s.size) with h0 | h0
  · have h3 : (s.size : Int) / 8 * 5 + (s.size : Int) % 8 * 5 / 8 ≤ 0 := by rw [dlen_int]; omega
    rw [h0] at h2
    have h4 : ((0 : Int) != (s.size : Int)) = true := h2
    have H3 := Lib.hid h3
    clear h0 h2 h3
    go_enter Tryz.func56, Tryz.ntmps56
    go_wp2_with (go_at_call 83; refine (len_none _ _ H3.out).mono ?_; rintro e w' ⟨rfl, rfl⟩)
    go_ret2
    exact ⟨(fun p hp => by cases hp), (fun _ => rfl), Below.refl _ _⟩
  · have h3 : 0 < (s.size : Int) / 8 * 5 + (s.size : Int) % 8 * 5 / 8 := by rw [dlen_int]; omega
    have e3 : ((s.size : Int) / 8 * 5 + (s.size : Int) % 8 * 5 / 8).toNat = dlen s.size := by rw [dlen_int]; omega
    have H3 := Lib.hid h3
    have E3 := Lib.hid e3
    clear h0 h3 e3
    go_enter Tryz.func56, Tryz.ntmps56
    go_wp2_with (go_at_call 83; refine (len_any _ _ H3.out (by omega)).mono ?_; rintro e w' ⟨rfl, rfl⟩; rw [E3.out])
    go_ret2
    exact ⟨(fun p hp => by cases hp), (fun _ => rfl), Below.refl _ _⟩

set_option maxHeartbeats 1000000 in
theorem decode_nil (s : ByteArray) (w : World) (h : s.size = 0) :
    Calls Tryz.prog 56 #[.string s] w fun e w' => DecPost (dec s.data.toList) w e w' := by
  obtain ⟨i0, hi, hz0, hz1, hz2⟩ := info_parts info_u8
  have hs : s.data.toList = [] := by
    apply List.eq_nil_of_length_eq_zero
    simpa using h
  have hd : dec s.data.toList = some [] := by rw [hs]; rfl
  rw [hd]
  clear hd hs
  go_enter Tryz.func56, Tryz.ntmps56
  go_wp2_with (first
    | (go_at_call 83; refine (len_none _ _ (by omega)).mono ?_; rintro e w' ⟨rfl, rfl⟩)
    | (at_make; refine wpList_make_full _ rfl _ _ 45 rfl w.heap.size 5 i0 (.int .u8 0) 1 Tryz.underlying45 hi hz0 hz1 _ _ _ _ 0 rfl rfl ?m1 ?m2 ?m3 ?m4 ?m5 ?m6))
  case m1 => rfl
  case m2 => rfl
  case m3 => omega
  case m4 => unfold maxLen; omega
  case m5 => exact Nat.le_refl _
  intro w1 hown0 hgrow0
  have hown1 : w1.ownsRow w.heap.size 5 1 (.slice (some ⟨w.heap.size, 0, none⟩) 0 0) 0 [] := by simpa [madeCells] using hown0
  have hbel1 : Below w.heap.size w w1 := (Below.refl _ _).grown hgrow0 (Nat.le_refl _) (by intro k hk; cases hk)
  clear hown0 hgrow0 hi hz0 hz1 hz2
  go_wp2_with fail
  refine wp_loop_rounds 1 ?_
  rw [rounds_succ]
  go_wp2
  go_ret2
  exact ⟨(fun p hp => by cases hp; exact ⟨_, rfl, hown1⟩), (fun h => by cases h), hbel1⟩

theorem cells_nought (n : Nat) : (List.replicate n (Value.int .u8 0)) = (byN n 0).map bv := by
  induction n with
  | zero => rfl
  | succ n ih => simp [List.replicate_succ, byN, ih, bv]

set_option maxHeartbeats 2000000 in
theorem decode_some (s : ByteArray) (w : World) (hm : s.size ≤ 100000) (h : slen (dlen s.size) = s.size) (hpos : 0 < s.size) :
    Calls Tryz.prog 56 #[.string s] w fun e w' => DecPost (dec s.data.toList) w e w' := by
  obtain ⟨i0, hi, hz0, hz1, hz2⟩ := info_parts info_u8
  have hn0 : 0 < dlen s.size := by
    rcases Nat.eq_zero_or_pos (dlen s.size) with h0 | h0
    · rw [h0] at h; unfold slen at h; omega
    · exact h0
  have e3 : ((s.size : Int) / 8 * 5 + (s.size : Int) % 8 * 5 / 8) = (dlen s.size : Int) := dlen_int _
  have h2 : (((slen (dlen s.size) : Nat) : Int) != (s.size : Int)) = false := by rw [h]; simp
  have h5 : 5 * s.size < 8 * dlen s.size + 5 := by unfold slen at h; omega
  have hbig : dlen s.size ≤ 100000 := by unfold dlen; omega
  have hlen : s.data.toList.length = s.size := by simp
  have HL := Lib.hid hlen
  have HS := Lib.hid h
  have E3 := Lib.hid e3
  clear h hlen e3
  generalize hn : dlen s.size = n at *
  have HN := Lib.hid hn
  clear hn
  go_enter Tryz.func56, Tryz.ntmps56
  go_wp2_with (first
    | (go_at_call 83; rw [E3.out]; refine (len_any _ _ (by omega) (by omega)).mono ?_; rintro e w' ⟨rfl, rfl⟩; rw [Int.toNat_natCast])
    | (at_make; refine wpList_make_full _ rfl _ _ 45 rfl w.heap.size 5 i0 (.int .u8 0) 1 Tryz.underlying45 hi hz0 hz1 _ _ _ _ n rfl rfl ?m1 ?m2 ?m3 ?m4 ?m5 ?m6))
  case m1 => rfl
  case m2 => rfl
  case m3 => rw [hz2]; omega
  case m4 => unfold maxLen; omega
  case m5 => exact Nat.le_refl _
  intro w1 hown0 hgrow0
  have hown1 : w1.ownsRow w.heap.size 5 1 (.slice (some ⟨w.heap.size, 0, none⟩) n n) n ((byN n 0).map bv) := by
    have := hown0
    rw [toList_madeCells_one, cells_nought] at this
    exact this
  have hbel1 : Below w.heap.size w w1 := (Below.refl _ _).grown hgrow0 (Nat.le_refl _) (by intro k hk; cases hk)
  clear hown0 hgrow0 hi hz0 hz1 hz2
  go_wp2_with fail
  go_loopw [27] (fun i wr => ∃ k : Nat, k ≤ s.size ∧ i = .int .i64 k ∧ oks (s.data.toList.reverse.take k) = true ∧ rv (s.data.toList.reverse.take k) < 256 ^ n ∧ wr.ownsRow w.heap.size 5 1 (.slice (some ⟨w.heap.size, 0, none⟩) n n) n ((byN n (rv (s.data.toList.reverse.take k))).map bv) ∧ Below w.heap.size w wr) (fun i _ => s.size - (intOf i).toNat)
  case atStart => exact ⟨0, Nat.zero_le _, rfl, by simp [oks], by simp [rv]; exact Nat.pos_of_ne_zero (by simp), hown1, hbel1⟩
  case round =>
    clear hown1 hbel1
    obtain ⟨k, hk, rfl, hok, hfit, hown, hbel⟩ := hrel
    by_cases hlt : k < s.size
    · have hlt' : k < s.data.toList.length := by rw [HL.out]; exact hlt
      have hget : (s[s.size - 1 - k]'(by omega)) = s.data.toList.reverse.getD k 0 := by
        rw [rev_get _ _ hlt', HL.out, List.getD_eq_getElem?_getD, List.getElem?_eq_getElem (by rw [HL.out]; omega)]
        rfl
      have hrt := rv_take s.data.toList.reverse k (by rw [List.length_reverse]; exact hlt')
      have hot := oks_take s.data.toList.reverse k (by rw [List.length_reverse]; exact hlt')
      have hdn := dec_none_oks s.data.toList k hlt'
      have hdb := dec_none_big s.data.toList (k + 1)
      have hrl : rv (s.data.toList.reverse.take k) < 2 ^ (5 * k) := by
        have := rv_lt (s.data.toList.reverse.take k)
        rw [List.length_take, List.length_reverse, Nat.min_eq_left (by omega), ← pow32_5] at this
        exact this
      rw [HL.out, HN.out] at hdb
      rw [← pow32_5] at hrt
      generalize s.data.toList.reverse.getD k 0 = c at *
      generalize rv (s.data.toList.reverse.take k) = N at *
      have HG := Lib.hid hget
      have HRT := Lib.hid hrt
      have HOT := Lib.hid hot
      have HOK := Lib.hid hok
      have HDN := Lib.hid hdn
      have HDB := Lib.hid hdb
      have HRL := Lib.hid hrl
      have HFIT := Lib.hid hfit
      clear hget hrt hot hok hdn hdb hrl hlt' hfit
      by_cases hneg : sv c < 0
      · have hd : decide (sv c < 0) = true := by simpa using hneg
        go_wp2_with fail
        rw [HG.out]
        refine (index_sign c _).mono ?_
        rintro e w' ⟨rfl, rfl⟩
        go_wp2_with fail
        go_ret2
        rw [HDN.out hneg]
        exact ⟨(fun p hp => by cases hp), (fun _ => rfl), hbel⟩
      · have hd : decide (sv c < 0) = false := by simpa using hneg
        obtain ⟨v, hv⟩ : ∃ v : Nat, sv c = (v : Int) := ⟨(sv c).toNat, by omega⟩
        have hv32 : v < 32 := by have := sv_lt c; omega
        have htn : (sv c).toNat = v := by omega
        have HV := Lib.hid hv
        have HT := Lib.hid htn
        have hz : (0 : Int) ≤ (v : Int) := by omega
        have hd2 : decide ((v : Int) < 0) = false := by simp
        clear hv htn hd
        by_cases hfit2 : N + 2 ^ (5 * k) * v < 256 ^ n
        · have HF := Lib.hid hfit2
          clear hfit2
          go_wp2_with fail
          rw [HG.out]
          refine (index_sign c _).mono ?_
          rintro e w' ⟨rfl, rfl⟩
          rw [HV.out]
          go_wp2_with fail
          refine (put_any w.heap.size w.heap.size n N k v _ wr (by omega) (by omega) (by omega) HRL.out hv32 hown).mono ?_
          rintro e w2 ⟨rfl, ho2, hg2⟩
          rw [decide_eq_true HF.out]
          have ho3 := ho2 HF.out
          have hb2 : Below w.heap.size w w2 := hbel.grown hg2 hbel.size (by intro k hk; cases hk; exact Nat.le_refl _)
          clear ho2 hg2
          go_wp2_with fail
          go_roundw
          case rel => exact ⟨k + 1, by omega, by go_num, by rw [HOT.out, HOK.out]; simp; omega, by rw [HRT.out, HT.out]; exact HF.out, by rw [HRT.out, HT.out]; exact ho3, hb2⟩
          case measure => simp [intOf]; omega
        · have HF := Lib.hid hfit2
          clear hfit2
          go_wp2_with fail
          rw [HG.out]
          refine (index_sign c _).mono ?_
          rintro e w' ⟨rfl, rfl⟩
          rw [HV.out]
          go_wp2_with fail
          refine (put_any w.heap.size w.heap.size n N k v _ wr (by omega) (by omega) (by omega) HRL.out hv32 hown).mono ?_
          rintro e w2 ⟨rfl, ho2, hg2⟩
          rw [decide_eq_false HF.out]
          have hb2 : Below w.heap.size w w2 := hbel.grown hg2 hbel.size (by intro k hk; cases hk; exact Nat.le_refl _)
          clear ho2 hg2
          go_wp2_with fail
          go_ret2
          rw [HDB.out (by rw [HRT.out, HT.out]; have := HF.out; omega)]
          exact ⟨(fun p hp => by cases hp), (fun _ => rfl), hb2⟩
    · obtain rfl : k = s.size := by omega
      have ht : s.data.toList.reverse.take s.size = s.data.toList.reverse := by
        rw [List.take_of_length_le (by rw [List.length_reverse, HL.out]; exact Nat.le_refl _)]
      rw [ht] at hok hfit hown
      have hdec : dec s.data.toList = some (byN n (rv s.data.toList.reverse)) := by
        unfold dec
        rw [HL.out, HN.out, if_pos ⟨HS.out, by rw [← oks_reverse]; exact hok, hfit⟩]
      have HD := Lib.hid hdec
      have HOK := Lib.hid hok
      have HFIT := Lib.hid hfit
      clear ht hdec hok hfit
      go_wp2_with fail
      go_ret2
      rw [HD.out]
      refine ⟨(fun p hp => ?_), (fun h => by cases h), hbel⟩
      cases hp
      exact ⟨w.heap.size, by rw [byN_length]; rfl, by rw [byN_length]; exact hown⟩

theorem decode_any (s : ByteArray) (w : World) (hm : s.size ≤ 100000) :
    Calls Tryz.prog 56 #[.string s] w fun e w' => DecPost (dec s.data.toList) w e w' := by
  by_cases h : slen (dlen s.size) = s.size
  · rcases Nat.eq_zero_or_pos s.size with h0 | h0
    · exact decode_nil s w h0
    · exact decode_some s w hm h h0
  · exact decode_far s w hm h

end Go.Proofs.YtokbakpbhpknfaaGreatDoor.Nam

namespace Go.Proofs.YtokbakpbhpknfaaGreatDoor.Nam
open Go.RowKit

theorem index_digit (c : UInt8) (w : World) :
    Calls Tryz.prog 79 #[.string ⟨#[48, 49, 50, 51, 52, 53, 54, 55, 56, 57, 97, 98, 99, 100, 101, 102]⟩, .int .u8 (c.toNat : Int)] w fun e w' => e = .returned (.int .i64 (dv c)) ∧ w = w' := by
  refine (index_any _ _ w).mono ?_
  rintro e w' ⟨rfl, hw⟩
  refine ⟨?_, hw⟩
  simp [dv, digits]

theorem wraps_i64 (n : Int) (h₀ : 0 ≤ n) (h₁ : n < 2 ^ 62) : IntKind.i64.wrap n = n := by rw [IntKind.wrap_i64]; omega

theorem i64_join4 (x y : Int) (x0 : 0 ≤ x) (x1 : x < 16) (y0 : 0 ≤ y) (y1 : y < 16) : bits .or .i64 (x * 16) y = x * 16 + y :=
  bits_join .i64 62 (by decide) wraps_i64 4 (x * 16) y (by omega) (by omega) (by omega) y0 (by omega) (by omega)

set_option maxRecDepth 100000 in
set_option maxHeartbeats 1000000 in
theorem readhex_odd (s : ByteArray) (w : World) (h : s.size % 2 = 1) (hm : s.size ≤ 140737488355328) :
    Calls Tryz.prog 67 #[.string s] w fun e w' => DecPost (unhex s.data.toList) w e w' := by
  have hn := unhex_odd s.data.toList (by simp; omega)
  rw [hn]
  have h2 : ((s.size : Int) % 2 != 0) = true := by
    have : (s.size : Int) % 2 = 1 := by omega
    rw [this]; rfl
  clear h hn
  go_enter Tryz.func67, Tryz.ntmps67
  go_wp2_with fail
  go_ret2
  exact ⟨(fun p hp => by cases hp), (fun _ => rfl), Below.refl _ _⟩

set_option maxRecDepth 100000 in
set_option maxHeartbeats 4000000 in
theorem readhex_even (s : ByteArray) (w : World) (h : s.size % 2 = 0) (hm : s.size ≤ 140737488355328) :
    Calls Tryz.prog 67 #[.string s] w fun e w' => DecPost (unhex s.data.toList) w e w' := by
  obtain ⟨i0, hi, hz0, hz1, hz2⟩ := info_parts info_u8
  have h2 : ((s.size : Int) % 2 != 0) = false := by
    have : (s.size : Int) % 2 = 0 := by omega
    rw [this]; rfl
  have hl : (prs s.data.toList).length = s.size / 2 := by rw [prs_length]; simp
  have hlen : s.data.toList.length = s.size := by simp
  have hev : s.size = 2 * (s.size / 2) := by omega
  obtain ⟨n, hn⟩ : ∃ n, n = s.size / 2 := ⟨_, rfl⟩
  rw [← hn] at hl hev
  have hdiv : (s.size : Int) / 2 = (n : Int) := by omega
  have HE := Lib.hid hev
  have HL := Lib.hid hl
  have HLEN := Lib.hid hlen
  have HDIV := Lib.hid hdiv
  have hn2 : n ≤ 70368744177664 := by omega
  have hse : (s.size : Int) = 2 * (n : Int) := by omega
  have HSE := Lib.hid hse
  clear h hl hlen hev hn hdiv hse
  go_enter Tryz.func67, Tryz.ntmps67
  go_wp2_with (at_make; rw [HDIV.out]; refine wpList_make_full _ rfl _ _ 45 rfl w.heap.size 5 i0 (.int .u8 0) 1 Tryz.underlying45 hi hz0 hz1 _ _ _ _ n rfl rfl ?m1 ?m2 ?m3 ?m4 ?m5 ?m6)
  case m1 => rfl
  case m2 => rfl
  case m3 => rw [hz2]; omega
  case m4 => unfold maxLen; omega
  case m5 => exact Nat.le_refl _
  intro w1 hown0 hgrow0
  have hown1 : w1.ownsRow w.heap.size 5 1 (.slice (some ⟨w.heap.size, 0, none⟩) n n) n (rowAt (prs s.data.toList) 0) := by
    have := hown0
    rw [toList_madeCells_one] at this
    rw [rowAt_start, HL.out]
    exact this
  have hbel1 : Below w.heap.size w w1 := (Below.refl _ _).grown hgrow0 (Nat.le_refl _) (by intro k hk; cases hk)
  clear hown0 hgrow0 hi hz0 hz1 hz2
  go_wp2_with fail
  go_loopw [18] (fun i wr => ∃ k : Nat, k ≤ n ∧ i = .int .i64 k ∧ okd (s.data.toList.take (2 * k)) = true ∧ wr.ownsRow w.heap.size 5 1 (.slice (some ⟨w.heap.size, 0, none⟩) n n) n (rowAt (prs s.data.toList) k) ∧ Below w.heap.size w wr) (fun i _ => n - (intOf i).toNat)
  case atStart => exact ⟨0, Nat.zero_le _, rfl, by simp [okd], hown1, hbel1⟩
  case round =>
    clear hown1 hbel1
    obtain ⟨k, hk, rfl, hok, hown, hbel⟩ := hrel
    by_cases hlt : k < n
    · have hA : 2 * k < s.size := by have := HE.out; omega
      have hB : 2 * k + 1 < s.size := by have := HE.out; omega
      have hga : (s[2 * k]'hA) = s.data.toList.getD (2 * k) 0 := by
        rw [List.getD_eq_getElem?_getD, List.getElem?_eq_getElem (by rw [HLEN.out]; exact hA)]
        rfl
      have hgb : (s[2 * k + 1]'hB) = s.data.toList.getD (2 * k + 1) 0 := by
        rw [List.getD_eq_getElem?_getD, List.getElem?_eq_getElem (by rw [HLEN.out]; exact hB)]
        rfl
      have hba := unhex_bad s.data.toList (2 * k) (by rw [HLEN.out]; exact hA)
      have hbb := unhex_bad s.data.toList (2 * k + 1) (by rw [HLEN.out]; exact hB)
      have hstep := rowAt_step (prs s.data.toList) k _ (prs_get s.data.toList k (by rw [HLEN.out]; exact hB))
      have htk : s.data.toList.take (2 * (k + 1)) = s.data.toList.take (2 * k) ++ [s.data.toList.getD (2 * k) 0, s.data.toList.getD (2 * k + 1) 0] := by
        rw [show 2 * (k + 1) = 2 * k + 1 + 1 from by omega, take_one _ 0 (2 * k + 1) (by rw [HLEN.out]; exact hB), take_one _ 0 (2 * k) (by rw [HLEN.out]; exact hA)]
        simp
      generalize s.data.toList.getD (2 * k) 0 = a at *
      generalize s.data.toList.getD (2 * k + 1) 0 = b at *
      have HGA := Lib.hid hga
      have HGB := Lib.hid hgb
      have HBA := Lib.hid hba
      have HBB := Lib.hid hbb
      have HST := Lib.hid hstep
      have HTK := Lib.hid htk
      have HOK := Lib.hid hok
      have hcA : ((2 : Int) * (k : Int)) < (s.size : Int) := by omega
      have hcB : ((2 : Int) * (k : Int) + 1) < (s.size : Int) := by omega
      have hkb : (k : Int) ≤ 70368744177664 := by omega
      clear hga hgb hba hbb hstep htk hok
      obtain ⟨u, hu⟩ := rowAt_get (prs s.data.toList) k (by rw [HL.out]; exact hlt)
      have hcell : wr.cell? ⟨w.heap.size, k, none⟩ = some u := by rw [hown.cellAt k (by omega)]; exact hu
      have hfree : wr.frozen? ⟨w.heap.size, k, none⟩ = false := hown.frozenAt k
      have HU := Lib.hid hu
      clear hu
      by_cases hna : dv a < 0
      · have hd : decide (dv a < 0) = true := by simpa using hna
        have HNA := Lib.hid hna
        clear hna
        go_wp2_with fail
        rw [HGA.out]
        refine (index_digit a _).mono ?_
        rintro e w' ⟨rfl, rfl⟩
        go_wp2_with fail
        rw [HGB.out]
        refine (index_digit b _).mono ?_
        rintro e w' ⟨rfl, rfl⟩
        go_wp2_with fail
        go_ret2
        rw [HBA.out HNA.out]
        exact ⟨(fun p hp => by cases hp), (fun _ => rfl), hbel⟩
      · obtain ⟨x, hx⟩ : ∃ x : Nat, dv a = (x : Int) := ⟨(dv a).toNat, by omega⟩
        have hx16 : (x : Int) < 16 := by have := dv_lt a; omega
        have HX := Lib.hid hx
        have HNA := Lib.hid hna
        have hdx : decide ((x : Int) < 0) = false := by simp
        clear hx hna
        by_cases hnb : dv b < 0
        · have hd : decide (dv b < 0) = true := by simpa using hnb
          have HNB := Lib.hid hnb
          clear hnb
          go_wp2_with fail
          rw [HGA.out]
          refine (index_digit a _).mono ?_
          rintro e w' ⟨rfl, rfl⟩
          rw [HX.out]
          go_wp2_with fail
          rw [HGB.out]
          refine (index_digit b _).mono ?_
          rintro e w' ⟨rfl, rfl⟩
          go_wp2_with fail
          go_ret2
          rw [HBB.out HNB.out]
          exact ⟨(fun p hp => by cases hp), (fun _ => rfl), hbel⟩
        · obtain ⟨y, hy⟩ : ∃ y : Nat, dv b = (y : Int) := ⟨(dv b).toNat, by omega⟩
          have hy16 : (y : Int) < 16 := by have := dv_lt b; omega
          have HY := Lib.hid hy
          have hdy : decide ((y : Int) < 0) = false := by simp
          have hx0 : (0 : Int) ≤ (x : Int) := by omega
          have hy0 : (0 : Int) ≤ (y : Int) := by omega
          have hor := i64_join4 (x : Int) (y : Int) hx0 hx16 hy0 hy16
          have htwo : bv (two a b) = .int .u8 ((x : Int) * 16 + (y : Int)) := by
            unfold bv two
            rw [UInt8.toNat_ofNat', HX.out, HY.out]
            congr 1
            omega
          have HTWO := Lib.hid htwo
          clear hy hnb htwo
          go_wp2_with fail
          rw [HGA.out]
          refine (index_digit a _).mono ?_
          rintro e w' ⟨rfl, rfl⟩
          rw [HX.out]
          go_wp2_with fail
          rw [HGB.out]
          refine (index_digit b _).mono ?_
          rintro e w' ⟨rfl, rfl⟩
          rw [HY.out]
          go_wp2_with fail
          go_roundw
          case rel => exact ⟨k + 1, by omega, by go_num, by rw [HTK.out]; unfold okd at *; rw [List.all_append, HOK.out]; simp; have := HX.out; have := HY.out; omega, by rw [← HST.out, HTWO.out]; exact (hown.stored k _).1, hbel.setCell (Nat.le_refl _) _⟩
          case measure => simp [intOf]; omega
    · obtain rfl : k = n := by omega
      have hun : unhex s.data.toList = some (prs s.data.toList) := by
        unfold unhex
        have h1 := hok
        rw [List.take_of_length_le (by rw [HLEN.out, HE.out]; exact Nat.le_refl _)] at h1
        rw [if_pos ⟨by rw [HLEN.out, HE.out]; omega, h1⟩]
      have HUN := Lib.hid hun
      have hrow : rowAt (prs s.data.toList) k = (prs s.data.toList).map bv := by
        have := rowAt_end (prs s.data.toList)
        rw [HL.out] at this
        exact this
      rw [hrow] at hown
      clear hok hun hrow
      go_wp2_with fail
      go_ret2
      rw [HUN.out]
      refine ⟨(fun p hp => ?_), (fun h => by cases h), hbel⟩
      cases hp
      exact ⟨w.heap.size, by rw [HL.out]; rfl, by rw [HL.out]; exact hown⟩

theorem readhex_any (s : ByteArray) (w : World) (hm : s.size ≤ 140737488355328) :
    Calls Tryz.prog 67 #[.string s] w fun e w' => DecPost (unhex s.data.toList) w e w' := by
  rcases Nat.mod_two_eq_zero_or_one s.size with h | h
  · exact readhex_even s w h hm
  · exact readhex_odd s w h hm

end Go.Proofs.YtokbakpbhpknfaaGreatDoor.Nam

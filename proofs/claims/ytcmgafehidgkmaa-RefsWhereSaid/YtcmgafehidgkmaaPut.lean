/-
  The contract of putBits: five bits are laid into bytes. Conditions: the bits lie in the bytes, and there are noughts where they go.
-/
import Derived.Test.YtcmgafehidgkmaaRow
import Derived.Test.YtcmgafehidgkmaaDecMath
namespace Go.Proofs.Ytcmgafehidgkmaa.Nam
open Go.RowKit

theorem pow8 (s : Nat) (h : s < 8) : 1 ≤ 2 ^ s ∧ 2 ^ s ≤ 128 := by
  have : s = 0 ∨ s = 1 ∨ s = 2 ∨ s = 3 ∨ s = 4 ∨ s = 5 ∨ s = 6 ∨ s = 7 := by omega
  rcases this with rfl | rfl | rfl | rfl | rfl | rfl | rfl | rfl <;> simp

set_option maxHeartbeats 1000000 in
theorem put_two (g len cap : Nat) (j x y v : Int) (w : World) (h0 : 0 ≤ j) (h1 : j ≤ 1000000000) (hl : j / 8 + 1 < (len : Int)) (hm : len ≤ 1000000000)
    (hx : w.cell? ⟨g, (j / 8).toNat, none⟩ = some (.int .u8 x)) (hy : w.cell? ⟨g, (j / 8 + 1).toNat, none⟩ = some (.int .u8 y))
    (fx : w.frozen? ⟨g, (j / 8).toNat, none⟩ = false) (fy : w.frozen? ⟨g, (j / 8 + 1).toNat, none⟩ = false) :
    Calls Try.prog 67 #[.slice (some ⟨g, 0, none⟩) len cap, .int .i64 j, .int .u64 v] w fun e w' => e = .returned (.bool true) ∧
      (w.setCell ⟨g, (j / 8).toNat, none⟩ (.int .u8 (bits .or .u8 x (IntKind.u64.wrap (v * 2 ^ (j % 8).toNat) % 256)))).setCell ⟨g, (j / 8 + 1).toNat, none⟩ (.int .u8 (bits .or .u8 y (IntKind.u64.wrap (v * 2 ^ (j % 8).toNat) / 256 % 256))) = w' := by
  have hq : 0 ≤ j / 8 := by omega
  have hr : 0 ≤ j % 8 := by omega
  have hr8 : j % 8 < 8 := by omega
  have hq1 : j / 8 < (len : Int) := by omega
  go_enter Try.func67, Try.ntmps67
  go_wp2
  go_ret
  exact ⟨rfl, rfl⟩

set_option maxHeartbeats 1000000 in
theorem put_one (g len cap : Nat) (j x v : Int) (w : World) (h0 : 0 ≤ j) (h1 : j ≤ 1000000000) (hl : j / 8 < (len : Int)) (hl2 : ¬ j / 8 + 1 < (len : Int)) (hm : len ≤ 1000000000)
    (hx : w.cell? ⟨g, (j / 8).toNat, none⟩ = some (.int .u8 x))
    (fx : w.frozen? ⟨g, (j / 8).toNat, none⟩ = false) :
    Calls Try.prog 67 #[.slice (some ⟨g, 0, none⟩) len cap, .int .i64 j, .int .u64 v] w fun e w' => e = .returned (.bool (IntKind.u64.wrap (v * 2 ^ (j % 8).toNat) / 256 == 0)) ∧
      w.setCell ⟨g, (j / 8).toNat, none⟩ (.int .u8 (bits .or .u8 x (IntKind.u64.wrap (v * 2 ^ (j % 8).toNat) % 256))) = w' := by
  have hq : 0 ≤ j / 8 := by omega
  have hr : 0 ≤ j % 8 := by omega
  have hr8 : j % 8 < 8 := by omega
  go_enter Try.func67, Try.ntmps67
  go_wp2
  go_ret
  exact ⟨rfl, rfl⟩

theorem val_set : ∀ (l : List UInt8) (i : Nat) (b : UInt8), i < l.length → val (l.set i b) + 256 ^ i * (l.getD i 0).toNat = val l + 256 ^ i * b.toNat
  | [], _, _, h => by simp at h
  | a :: t, 0, b, _ => by simp [val]; omega
  | a :: t, i + 1, b, h => by
    have ih := val_set t i b (by simpa using h)
    simp only [List.set_cons_succ, val, Nat.pow_succ]
    have e1 : 256 ^ i * 256 * (t.getD i 0).toNat = 256 * (256 ^ i * (t.getD i 0).toNat) := by rw [Nat.mul_comm (256 ^ i) 256, Nat.mul_assoc]
    have e2 : 256 ^ i * 256 * b.toNat = 256 * (256 ^ i * b.toNat) := by rw [Nat.mul_comm (256 ^ i) 256, Nat.mul_assoc]
    have e3 : (a :: t).getD (i + 1) 0 = t.getD i 0 := rfl
    rw [e3, e1, e2]
    omega

/-- Bytes next to one another behind five bits more. -/
theorem put_math (n N q s v : Nat) (hs : s < 8) (hv : v < 32) (hN : N < 2 ^ (8 * q + s)) (hq : q < n) (hfit : N + 2 ^ (8 * q + s) * v < 256 ^ n) :
    (N / 256 ^ q % 256 < 2 ^ s) ∧
    (q + 1 < n → N / 256 ^ (q + 1) % 256 = 0 ∧ ((byN n N).set q (UInt8.ofNat (N / 256 ^ q % 256 + v * 2 ^ s % 256))).set (q + 1) (UInt8.ofNat (v * 2 ^ s / 256)) = byN n (N + 2 ^ (8 * q + s) * v)) ∧
    (q + 1 = n → v * 2 ^ s < 256 ∧ (byN n N).set q (UInt8.ofNat (N / 256 ^ q % 256 + v * 2 ^ s)) = byN n (N + 2 ^ (8 * q + s) * v)) := by
  obtain ⟨p1, p2⟩ := pow8 s hs
  have hp : 0 < 256 ^ q := Nat.pos_of_ne_zero (by simp)
  have hsplit := pow_split q s
  have hx : N / 256 ^ q < 2 ^ s := by
    rw [Nat.div_lt_iff_lt_mul hp, Nat.mul_comm, ← hsplit]; exact hN
  have hv2 : v * 2 ^ s ≤ 31 * 128 := Nat.mul_le_mul (by omega) p2
  have hmod : N / 256 ^ q % 256 = N / 256 ^ q := Nat.mod_eq_of_lt (by omega)
  have hNn : N < 256 ^ n := by omega
  have gq : ((byN n N).getD q 0).toNat = N / 256 ^ q := by
    rw [List.getD_eq_getElem?_getD, byN_get n N q hq, Option.getD_some, UInt8.toNat_ofNat', hmod]; omega
  have hval : val (byN n N) = N := by rw [val_byN, Nat.mod_eq_of_lt hNn]
  have hmul : 2 ^ (8 * q + s) * v = 256 ^ q * (v * 2 ^ s) := by rw [hsplit, Nat.mul_assoc, Nat.mul_comm (2 ^ s) v]
  have hhigh : N / 256 ^ (q + 1) = 0 := by
    rw [Nat.pow_succ, ← Nat.div_div_eq_div_mul]; omega
  have hlow : v * 2 ^ s % 256 + N / 256 ^ q < 256 := by
    have : s = 0 ∨ s = 1 ∨ s = 2 ∨ s = 3 ∨ s = 4 ∨ s = 5 ∨ s = 6 ∨ s = 7 := by omega
    rcases this with rfl | rfl | rfl | rfl | rfl | rfl | rfl | rfl <;> simp only [Nat.reducePow] at * <;> omega
  refine ⟨by rw [hmod]; exact hx, ?_, ?_⟩
  · intro h1
    refine ⟨by rw [hhigh], ?_⟩
    have e0 : (UInt8.ofNat (N / 256 ^ q % 256 + v * 2 ^ s % 256)).toNat = N / 256 ^ q + v * 2 ^ s % 256 := by rw [UInt8.toNat_ofNat', hmod]; omega
    have e1 : (UInt8.ofNat (v * 2 ^ s / 256)).toNat = v * 2 ^ s / 256 := by rw [UInt8.toNat_ofNat']; omega
    have v1 := val_set (byN n N) q (UInt8.ofNat (N / 256 ^ q % 256 + v * 2 ^ s % 256)) (by rw [byN_length]; exact hq)
    have v2 := val_set ((byN n N).set q (UInt8.ofNat (N / 256 ^ q % 256 + v * 2 ^ s % 256))) (q + 1) (UInt8.ofNat (v * 2 ^ s / 256)) (by rw [List.length_set, byN_length]; exact h1)
    have g1 : (((byN n N).set q (UInt8.ofNat (N / 256 ^ q % 256 + v * 2 ^ s % 256))).getD (q + 1) 0).toNat = 0 := by
      rw [List.getD_eq_getElem?_getD, List.getElem?_set_ne (by omega), byN_get n N (q + 1) h1, hhigh]; rfl
    rw [e0, gq, hval] at v1
    rw [e1, g1] at v2
    have e2 : 256 ^ (q + 1) * (v * 2 ^ s / 256) = 256 ^ q * (256 * (v * 2 ^ s / 256)) := by rw [Nat.pow_succ, Nat.mul_assoc]
    have e3 : 256 ^ q * (N / 256 ^ q + v * 2 ^ s % 256) = 256 ^ q * (N / 256 ^ q) + 256 ^ q * (v * 2 ^ s % 256) := Nat.mul_add _ _ _
    have e4 : 256 ^ q * (v * 2 ^ s) = 256 ^ q * (v * 2 ^ s % 256) + 256 ^ q * (256 * (v * 2 ^ s / 256)) := by
      rw [← Nat.mul_add, Nat.mod_add_div]
    have hfin : val (((byN n N).set q (UInt8.ofNat (N / 256 ^ q % 256 + v * 2 ^ s % 256))).set (q + 1) (UInt8.ofNat (v * 2 ^ s / 256))) = N + 2 ^ (8 * q + s) * v := by
      rw [hmul]; omega
    have := byN_val (((byN n N).set q (UInt8.ofNat (N / 256 ^ q % 256 + v * 2 ^ s % 256))).set (q + 1) (UInt8.ofNat (v * 2 ^ s / 256)))
    rw [hfin, List.length_set, List.length_set, byN_length] at this
    exact this.symm
  · intro h1
    have hfit2 : v * 2 ^ s < 256 := by
      rw [hmul, ← h1, Nat.pow_succ] at hfit
      have : 256 ^ q * (v * 2 ^ s) < 256 ^ q * 256 := by omega
      exact Nat.lt_of_mul_lt_mul_left this
    refine ⟨hfit2, ?_⟩
    have hm2 : v * 2 ^ s % 256 = v * 2 ^ s := Nat.mod_eq_of_lt hfit2
    rw [hm2] at hlow
    have e0 : (UInt8.ofNat (N / 256 ^ q % 256 + v * 2 ^ s)).toNat = N / 256 ^ q + v * 2 ^ s := by rw [UInt8.toNat_ofNat', hmod]; omega
    have v1 := val_set (byN n N) q (UInt8.ofNat (N / 256 ^ q % 256 + v * 2 ^ s)) (by rw [byN_length]; exact hq)
    rw [e0, gq, hval, Nat.mul_add] at v1
    have hfin : val ((byN n N).set q (UInt8.ofNat (N / 256 ^ q % 256 + v * 2 ^ s))) = N + 2 ^ (8 * q + s) * v := by
      rw [hmul]; omega
    have := byN_val ((byN n N).set q (UInt8.ofNat (N / 256 ^ q % 256 + v * 2 ^ s)))
    rw [hfin, List.length_set, byN_length] at this
    exact this.symm

theorem wrap_small (m : Nat) (h : m ≤ 100000) : IntKind.u64.wrap (m : Int) = (m : Int) := by
  simp [IntKind.wrap, IntKind.bits, IntKind.signed]; omega

theorem or_join (x m s : Nat) (hs : s < 8) (hx : x < 2 ^ s) (hm : m % 2 ^ s = 0) (h256 : m < 256) : bits .or .u8 (x : Int) (m : Int) = ((x + m : Nat) : Int) := by
  obtain ⟨p1, p2⟩ := pow8 s hs
  rw [u8_or_nat x m (by omega) h256, Nat.or_comm, nat_join s m x hm hx, Nat.add_comm]

theorem fit_low (N q s m : Nat) (hN : N < 256 ^ q * 2 ^ s) (hm : m % 2 ^ s = 0) (h : m < 256) (hs : s < 8) : N + 256 ^ q * m < 256 ^ (q + 1) := by
  have h8 : m + 2 ^ s ≤ 256 := by
    have : s = 0 ∨ s = 1 ∨ s = 2 ∨ s = 3 ∨ s = 4 ∨ s = 5 ∨ s = 6 ∨ s = 7 := by omega
    rcases this with rfl | rfl | rfl | rfl | rfl | rfl | rfl | rfl <;> simp only [Nat.reducePow] at * <;> omega
  have := Nat.mul_le_mul_left (256 ^ q) h8
  rw [Nat.mul_add] at this
  rw [Nat.pow_succ]
  omega

theorem fit_two (N q s v n : Nat) (hs : s < 8) (hv : v < 32) (hN : N < 2 ^ (8 * q + s)) (h : q + 1 < n) : N + 2 ^ (8 * q + s) * v < 256 ^ n := by
  obtain ⟨p1, p2⟩ := pow8 s hs
  have h1 : 2 ^ (8 * q + s) * (v + 1) ≤ 2 ^ (8 * q + s) * 32 := Nat.mul_le_mul_left _ (by omega)
  rw [Nat.mul_add, Nat.mul_one] at h1
  have h2 : 2 ^ (8 * q + s) * 32 ≤ 256 ^ (q + 2) := by
    rw [pow_split, Nat.mul_assoc, Nat.pow_add]
    exact Nat.mul_le_mul_left _ (by omega)
  have h3 : 256 ^ (q + 2) ≤ 256 ^ n := Nat.pow_le_pow_right (by omega) h
  omega

theorem put_any (base g n N i v : Nat) (j : Int) (w : World) (hj : j = 5 * (i : Int)) (hi : 5 * i < 8 * n) (hn : n ≤ 1000000) (hN : N < 2 ^ (5 * i)) (hv : v < 32)
    (hown : w.ownsRow base 5 1 (.slice (some ⟨g, 0, none⟩) n n) n ((byN n N).map bv)) :
    Calls Try.prog 67 #[.slice (some ⟨g, 0, none⟩) n n, .int .i64 j, .int .u64 (v : Int)] w fun e w' =>
      e = .returned (.bool (decide (N + 2 ^ (5 * i) * v < 256 ^ n))) ∧
      (N + 2 ^ (5 * i) * v < 256 ^ n → w'.ownsRow base 5 1 (.slice (some ⟨g, 0, none⟩) n n) n ((byN n (N + 2 ^ (5 * i) * v)).map bv)) ∧ w.grownBy w' (some g) := by
  obtain ⟨q, hq⟩ : ∃ q, q = 5 * i / 8 := ⟨_, rfl⟩
  obtain ⟨s, hsd⟩ : ∃ s, s = 5 * i % 8 := ⟨_, rfl⟩
  have hs : s < 8 := by omega
  have e5 : 5 * i = 8 * q + s := by omega
  have hqn : q < n := by omega
  have j1 : (j / 8).toNat = q := by omega
  have j2 : (j % 8).toNat = s := by omega
  have j3 : (j / 8 + 1).toNat = q + 1 := by omega
  rw [e5] at hN ⊢
  obtain ⟨p1, p2⟩ := pow8 s hs
  have hm : v * 2 ^ s ≤ 31 * 128 := Nat.mul_le_mul (by omega) p2
  have hdv : v * 2 ^ s % 2 ^ s = 0 := Nat.mul_mod_left _ _
  have hdv2 : v * 2 ^ s % 256 % 2 ^ s = 0 := by
    have : s = 0 ∨ s = 1 ∨ s = 2 ∨ s = 3 ∨ s = 4 ∨ s = 5 ∨ s = 6 ∨ s = 7 := by omega
    rcases this with rfl | rfl | rfl | rfl | rfl | rfl | rfl | rfl <;> simp only [Nat.reducePow] <;> omega
  have hcast : (v : Int) * 2 ^ s = ((v * 2 ^ s : Nat) : Int) := by simp
  have hcell : ∀ k, k < n → w.cell? ⟨g, k, none⟩ = some (.int .u8 ((N / 256 ^ k % 256 : Nat) : Int)) := by
    intro k hk
    rw [hown.cellAt k (by omega), List.getElem?_map, byN_get n N k hk]
    simp only [Option.map_some, bv]
    rw [UInt8.toNat_ofNat', Nat.mod_mod_of_dvd _ (by decide)]
  have hset : ∀ (l : List UInt8) (k m : Nat), m < 256 → (l.map bv).set k (.int .u8 (m : Int)) = (l.set k (UInt8.ofNat m)).map bv := by
    intro l k m h
    rw [List.map_set]
    congr 1
    simp only [bv]
    rw [UInt8.toNat_ofNat', Nat.mod_eq_of_lt h]
  have hmul : 2 ^ (8 * q + s) * v = 256 ^ q * (v * 2 ^ s) := by rw [pow_split, Nat.mul_assoc, Nat.mul_comm (2 ^ s) v]
  by_cases h1 : q + 1 < n
  · have hfit := fit_two N q s v n hs hv hN h1
    obtain ⟨m1, m2, _⟩ := put_math n N q s v hs hv hN hqn hfit
    obtain ⟨m3, m4⟩ := m2 h1
    refine (put_two g n n j _ _ v w (by omega) (by omega) (by omega) (by omega) (by rw [j1]; exact hcell q hqn) (by rw [j3]; exact hcell _ h1) (hown.frozenAt _) (hown.frozenAt _)).mono ?_
    rintro e w' ⟨rfl, rfl⟩
    rw [j1, j2, j3, m3, hcast, wrap_small _ (by omega)]
    have b1 : bits .or .u8 ((N / 256 ^ q % 256 : Nat) : Int) (((v * 2 ^ s : Nat) : Int) % 256) = ((N / 256 ^ q % 256 + v * 2 ^ s % 256 : Nat) : Int) := by
      rw [show (((v * 2 ^ s : Nat) : Int) % 256) = ((v * 2 ^ s % 256 : Nat) : Int) from by simp]
      exact or_join _ _ s hs m1 hdv2 (by omega)
    have b2 : bits .or .u8 ((0 : Nat) : Int) (((v * 2 ^ s : Nat) : Int) / 256 % 256) = ((v * 2 ^ s / 256 : Nat) : Int) := by
      rw [show (((v * 2 ^ s : Nat) : Int) / 256 % 256) = ((v * 2 ^ s / 256 : Nat) : Int) from by omega]
      rw [u8_or_nat 0 _ (by omega) (by omega), Nat.zero_or]
    rw [b1, b2]
    have o1 := hown.stored q (.int .u8 ((N / 256 ^ q % 256 + v * 2 ^ s % 256 : Nat) : Int))
    have hlt : N / 256 ^ q % 256 + v * 2 ^ s % 256 < 256 := by
      have : s = 0 ∨ s = 1 ∨ s = 2 ∨ s = 3 ∨ s = 4 ∨ s = 5 ∨ s = 6 ∨ s = 7 := by omega
      rcases this with rfl | rfl | rfl | rfl | rfl | rfl | rfl | rfl <;> simp only [Nat.reducePow] at * <;> omega
    rw [hset _ _ _ hlt] at o1
    have o2 := o1.1.stored (q + 1) (.int .u8 ((v * 2 ^ s / 256 : Nat) : Int))
    rw [hset _ _ _ (by omega), m4] at o2
    refine ⟨by rw [decide_eq_true hfit], fun _ => o2.1, ?_⟩
    exact ⟨o2.2.os.trans o1.2.os, o2.2.tape.trans o1.2.tape, o2.2.output.trans o1.2.output, Nat.le_trans o1.2.size o2.2.size, fun k hk hne => (o2.2.block k (Nat.lt_of_lt_of_le hk o1.2.size) hne).trans (o1.2.block k hk hne)⟩
  · have hn1 : q + 1 = n := by omega
    refine (put_one g n n j _ v w (by omega) (by omega) (by omega) (by omega) (by omega) (by rw [j1]; exact hcell q hqn) (hown.frozenAt _)).mono ?_
    rintro e w' ⟨rfl, rfl⟩
    rw [j1, j2, hcast, wrap_small _ (by omega)]
    have hx : N / 256 ^ q % 256 < 2 ^ s := by
      have hp : 0 < 256 ^ q := Nat.pos_of_ne_zero (by simp)
      have : N / 256 ^ q < 2 ^ s := by
        rw [Nat.div_lt_iff_lt_mul hp, Nat.mul_comm, ← pow_split]; exact hN
      exact Nat.lt_of_le_of_lt (Nat.mod_le _ _) this
    have hiff : (v * 2 ^ s < 256) ↔ N + 2 ^ (8 * q + s) * v < 256 ^ n := by
      rw [hmul, ← hn1]
      constructor
      · intro h
        exact fit_low N q s _ (by rw [← pow_split]; exact hN) hdv h hs
      · intro h
        rw [Nat.pow_succ] at h
        have : 256 ^ q * (v * 2 ^ s) < 256 ^ q * 256 := by omega
        exact Nat.lt_of_mul_lt_mul_left this
    have hb : ((((v * 2 ^ s : Nat) : Int) / 256 == 0) : Bool) = decide (N + 2 ^ (8 * q + s) * v < 256 ^ n) := by
      rw [Bool.eq_iff_iff, decide_eq_true_iff, ← hiff, beq_iff_eq]; omega
    refine ⟨by rw [hb], fun hfit => ?_, (hown.stored q _).2⟩
    obtain ⟨_, _, m2⟩ := put_math n N q s v hs hv hN hqn hfit
    obtain ⟨m3, m4⟩ := m2 hn1
    have b1 : bits .or .u8 ((N / 256 ^ q % 256 : Nat) : Int) (((v * 2 ^ s : Nat) : Int) % 256) = ((N / 256 ^ q % 256 + v * 2 ^ s : Nat) : Int) := by
      rw [show (((v * 2 ^ s : Nat) : Int) % 256) = ((v * 2 ^ s : Nat) : Int) from by omega]
      exact or_join _ _ s hs hx hdv m3
    have hlt : N / 256 ^ q % 256 + v * 2 ^ s < 256 := by
      have : s = 0 ∨ s = 1 ∨ s = 2 ∨ s = 3 ∨ s = 4 ∨ s = 5 ∨ s = 6 ∨ s = 7 := by omega
      rcases this with rfl | rfl | rfl | rfl | rfl | rfl | rfl | rfl <;> simp only [Nat.reducePow] at * <;> omega
    rw [b1]
    have o1 := hown.stored q (.int .u8 ((N / 256 ^ q % 256 + v * 2 ^ s : Nat) : Int))
    rw [hset _ _ _ hlt, m4] at o1
    exact o1.1

end Go.Proofs.Ytcmgafehidgkmaa.Nam

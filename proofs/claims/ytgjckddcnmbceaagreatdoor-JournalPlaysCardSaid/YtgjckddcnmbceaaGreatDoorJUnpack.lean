/-
  The contract of unpack. Conditions: the bytes lie in old memory; the digest's laid variables are those of the text.
-/
import Derived.Test.YtgjckddcnmbceaaGreatDoorJPack
import Derived.Test.YtgjckddcnmbceaaGreatDoorShelf
import Derived.BigQuiet
namespace Go.Proofs.YtgjckddcnmbceaaGreatDoor
open Go.RowKit
set_option linter.unusedVariables false

theorem bytesIn_of {w : World} {a : Option Addr} {n c : Nat} {l : List UInt8} (h : IsB w a n c l) : Lib.BytesIn w a n (l.map fun x => (x.toNat : Int)) := by
  intro hn
  rcases h.at_ with h0 | ⟨b, off, e, hlt, hc⟩
  · omega
  · refine ⟨b, off, e, fun i hi => ?_⟩
    rw [hc i hi]
    congr 2
    rw [List.getD_eq_getElem?_getD, List.getD_eq_getElem?_getD, List.getElem?_map, List.getElem?_eq_getElem (by rw [h.length]; exact hi)]; rfl
theorem bytesOf_back (l : List UInt8) : Lib.bytesOf (l.map fun x => (x.toNat : Int)) = l := by
  unfold Lib.bytesOf
  rw [List.map_map]
  conv => rhs; rw [← List.map_id l]
  refine List.map_congr_left fun x _ => ?_
  simp
theorem equal_any (a : Option Addr) (n c : Nat) (l : List UInt8) (b : Option Addr) (m d : Nat) (q : List UInt8) (w : World) (h1 : IsB w a n c l) (h2 : IsB w b m d q) :
    Calls Tryz.prog 54 #[.slice a n c, .slice b m d] w fun e w' => e = .returned (.bool (l == q)) ∧ w' = w := by
  have h := Tryz.bytes_Equal_all a b n c m d _ _ w (by rw [List.length_map]; exact h1.length) (by rw [List.length_map]; exact h2.length) (bytesIn_of h1) (bytesIn_of h2)
  rw [bytesOf_back, bytesOf_back] at h
  exact h

/-- Behind unpack. -/
def UnpP (r : Option (List UInt8)) (w : World) (e : Ending) (w' : World) : Prop :=
  Below w.heap.size w w' ∧ match r with
    | none => e = .returned (.tuple #[.slice none 0 0, .bool false])
    | some p => ∃ b off c, e = .returned (.tuple #[.slice (some ⟨b, off, none⟩) p.length c, .bool true]) ∧ IsB w' (some ⟨b, off, none⟩) p.length c p

/-- The length that a piece tells: none; or k bytes more than 2^31. -/
theorem unpack_low {l : List UInt8} {n N : Nat} (hlen : l.length = n) (h32 : 32 ≤ n) (h : rd (l.take 4) < 2147483648) : unpackL l N = none := by
  unfold unpackL; rw [if_neg (by omega), if_pos (.inl h)]
theorem unpack_long {l : List UInt8} {n N k : Nat} (hlen : l.length = n) (h32 : 32 ≤ n) (h : rd (l.take 4) = 2147483648 + k) (hk : n < 32 + k) : unpackL l N = none := by
  unfold unpackL; rw [if_neg (by omega), if_pos (.inr (by omega))]
theorem unpack_fits {l : List UInt8} {n N k : Nat} (hlen : l.length = n) (h32 : 32 ≤ n) (h : rd (l.take 4) = 2147483648 + k) (hk : 32 + k ≤ n) :
    unpackL l N = if rd ((l.drop 4).take 8) = N ∧ sm (l.take 12) ((l.drop 32).take k) = (l.drop 12).take 20 then some ((l.drop 32).take k) else none := by
  unfold unpackL; rw [if_neg (by omega), if_neg (by omega), h, Nat.add_sub_cancel_left]
theorem rd4_lt (l : List UInt8) : rd (l.take 4) < 4294967296 := by
  have h := rd_lt (l.take 4)
  rw [List.length_take] at h
  have h2 : 256 ^ min 4 l.length ≤ 256 ^ 4 := Nat.pow_le_pow_right (by omega) (by omega)
  omega

set_option maxRecDepth 100000 in
set_option maxHeartbeats 1000000 in
theorem unpack_short (a : Option Addr) (n c : Nat) (N : Nat) (w : World) (h32i : (n : Int) < 32) :
    Calls Tryz.prog 46 #[.slice a n c, .int .u64 (N : Int)] w (UnpP none w) := by
  go_enter Tryz.func46, Tryz.ntmps46
  go_wp2_with fail
  go_ret2
  exact ⟨Below.refl _ _, rfl⟩

set_option maxRecDepth 100000 in
set_option maxHeartbeats 1000000 in
theorem unpack_mark (b off n c : Nat) (N R : Nat) (w : World) (h32i : ¬ (n : Int) < 32) (hmi : (R : Int) < 2147483648) (hc4 : (4 : Int) ≤ (c : Int)) (hc63 : c ≤ 9223372036854775807)
    (HR : Hid (Calls Tryz.prog 58 #[.slice (some ⟨b, off, none⟩) 4 c] w fun e w' => e = .returned (.int .u64 (R : Int)) ∧ w = w')) :
    Calls Tryz.prog 46 #[.slice (some ⟨b, off, none⟩) n c, .int .u64 (N : Int)] w (UnpP none w) := by
  go_enter Tryz.func46, Tryz.ntmps46
  go_wp2_with (go_at_call 58; refine HR.out.mono ?_; rintro e w1 ⟨rfl, rfl⟩)
  go_ret2
  exact ⟨Below.refl _ _, rfl⟩

set_option maxRecDepth 100000 in
set_option maxHeartbeats 1000000 in
theorem unpack_over (b off n c : Nat) (N : Nat) (R K M : Int) (w : World) (h32i : ¬ (n : Int) < 32) (hmi : ¬ R < 2147483648) (hc4 : (4 : Int) ≤ (c : Int)) (hc63 : c ≤ 9223372036854775807)
    (ek : IntKind.u64.wrap (R - 2147483648) = K) (en : IntKind.i64.wrap ((n : Int) - 32) = M) (eu : IntKind.u64.wrap M = M) (hbi : M < K)
    (HR : Hid (Calls Tryz.prog 58 #[.slice (some ⟨b, off, none⟩) 4 c] w fun e w' => e = .returned (.int .u64 R) ∧ w = w')) :
    Calls Tryz.prog 46 #[.slice (some ⟨b, off, none⟩) n c, .int .u64 (N : Int)] w (UnpP none w) := by
  go_enter Tryz.func46, Tryz.ntmps46
  go_wp2_with (go_at_call 58; refine HR.out.mono ?_; rintro e w1 ⟨rfl, rfl⟩)
  go_ret2
  exact ⟨Below.refl _ _, rfl⟩

set_option maxRecDepth 100000 in
set_option maxHeartbeats 2000000 in
theorem unpack_deep (b off n c : Nat) (N k : Nat) (R K M : Int) (l : List UInt8) (w : World) (h32i : ¬ (n : Int) < 32) (hmi : ¬ R < 2147483648) (hc4 : (4 : Int) ≤ (c : Int)) (hc63 : c ≤ 9223372036854775807)
    (ek : IntKind.u64.wrap (R - 2147483648) = K) (en : IntKind.i64.wrap ((n : Int) - 32) = M) (eu : IntKind.u64.wrap M = M) (hbi : ¬ M < K)
    (ei : IntKind.i64.wrap K = (k : Int)) (e32 : IntKind.i64.wrap (32 + (k : Int)) = 32 + (k : Int)) (hkc : 32 + (k : Int) ≤ (c : Int)) (hkn : 32 + k ≤ n) (hnc : n ≤ c) (hm : c ≤ maxLen) (hm2 : k ≤ 140737488355328)
    (HR : Hid (Calls Tryz.prog 58 #[.slice (some ⟨b, off, none⟩) 4 c] w fun e w' => e = .returned (.int .u64 R) ∧ w = w'))
    (HP : Hid (IsB w (some ⟨b, off, none⟩) n c l)) (HL : Hid (LaidW w)) :
    Calls Tryz.prog 46 #[.slice (some ⟨b, off, none⟩) n c, .int .u64 (N : Int)] w (UnpP (if rd ((l.drop 4).take 8) = N ∧ sm (l.take 12) ((l.drop 32).take k) = (l.drop 12).take 20 then some ((l.drop 32).take k) else none) w) := by
  have hi12 : (12 : Int) ≤ (c : Int) := by omega
  have hi32 : (32 : Int) ≤ (c : Int) := by omega
  have I1 : Hid (IsB w (some ⟨b, off, none⟩) 12 c (l.take 12)) := Lib.hid (by
    obtain ⟨b', o', e, h⟩ := HP.out.part 0 12 c (by omega) (by omega) (by omega)
    cases e; simpa using h)
  have I2 : Hid (IsB w (some ⟨b, off + 12, none⟩) 20 (c - 12) ((l.drop 12).take 20)) := Lib.hid (by
    obtain ⟨b', o', e, h⟩ := HP.out.part 12 20 (c - 12) (by omega) (by omega) (by omega)
    cases e; exact h)
  have I3 : Hid (IsB w (if c = 32 then some ⟨b, off, none⟩ else some ⟨b, off + 32, none⟩) k (c - 32) ((l.drop 32).take k)) := Lib.hid (by
    by_cases h0 : k = 0
    · subst h0
      have hlt : b < w.heap.size := by
        rcases HP.out.at_ with h | ⟨b', o', e, h, _⟩
        · omega
        · cases e; exact h
      refine ⟨by simp, .inl rfl, fun e => ?_, ⟨Nat.zero_le _, by omega⟩, by omega⟩
      split at e <;> cases e
    · obtain ⟨b', o', e, h⟩ := HP.out.part 32 k (c - 32) (by omega) (by omega) (by omega)
      cases e
      rw [if_neg (by omega)]; exact h)
  obtain ⟨A3, hA3⟩ : ∃ A3, A3 = (if c = 32 then some (⟨b, off, none⟩ : Addr) else some ⟨b, off + 32, none⟩) := ⟨_, rfl⟩
  have hw1 : (wrap64 (IntKind.u64.wrap (R - 2147483648)) = (k : Int)) := (by rw [ek, ← IntWalk.i64_left]; exact ei)
  have hw2 : wrap64 (32 + (k : Int)) = 32 + (k : Int) := by rw [← IntWalk.i64_left]; exact e32
  have hwK : wrap64 K = (k : Int) := by rw [← IntWalk.i64_left]; exact ei
  rw [← hA3] at I3
  have HA3S : Hid (∃ b o, A3 = some ⟨b, o, none⟩) := Lib.hid (by rw [hA3]; split <;> exact ⟨_, _, rfl⟩)
  obtain ⟨NN, hNN⟩ : ∃ NN, NN = rd ((l.drop 4).take 8) := ⟨_, rfl⟩
  obtain ⟨F, hF⟩ : ∃ F, F = l.take 12 := ⟨_, rfl⟩
  obtain ⟨Pq, hPq⟩ : ∃ Pq, Pq = (l.drop 32).take k := ⟨_, rfl⟩
  obtain ⟨Dq, hDq⟩ : ∃ Dq, Dq = (l.drop 12).take 20 := ⟨_, rfl⟩
  have HPL : Hid (Pq.length = k) := Lib.hid (by rw [hPq]; exact I3.out.length)
  rw [← hF] at I1
  rw [← hDq] at I2
  rw [← hPq] at I3
  rw [← hNN, ← hF, ← hPq, ← hDq]
  obtain ⟨S, hS⟩ : ∃ S, S = sm F Pq := ⟨_, rfl⟩
  have HSL : Hid (S.length = 20) := Lib.hid (by rw [hS, sm_length])
  rw [← hS]
  have HSS := Lib.hid hS
  clear hS
  obtain ⟨RES, hRES⟩ : ∃ RES, RES = (if NN = N ∧ S = Dq then some Pq else none) := ⟨_, rfl⟩
  rw [← hRES]
  have HRES := Lib.hid hRES
  clear hRES
  have HNN := Lib.hid hNN
  clear hF hPq hDq hNN
  go_enter Tryz.func46, Tryz.ntmps46
  go_upto_region 6 with (go_at_call 58; refine HR.out.mono ?_; rintro e w1 ⟨rfl, rfl⟩)
  clear ek en eu hbi HR hmi
  go_upto_region 7 with fail
  go_quiet (fail)
  rw [Nat.add_sub_cancel_left, ← hA3]
  clear hA3 e32 ei hw1 hw2 hwK
  obtain ⟨wq, hwq⟩ : ∃ wq, wq = w.drewN nq := ⟨_, rfl⟩
  have Bq : Hid (Below w.heap.size w wq) := Lib.hid (by rw [hwq]; exact ⟨rfl, rfl, rfl, Nat.le_refl _, fun _ _ => rfl⟩)
  rw [← hwq]
  clear hwq
  have HNUM : Hid (Calls Tryz.prog 51 #[.slice (some ⟨b, off, none⟩) n c] wq fun e w' => e = .returned (.int .u64 (NN : Int)) ∧ wq = w') := Lib.hid (by rw [HNN.out]; exact number_any _ n c l wq (HP.out.later Bq.out) (by omega))
  have HLq : Hid (LaidW wq) := Lib.hid (HL.out.below Bq.out HL.out.two)
  have HSUM := Lib.hid (sum_any2 _ 12 c F A3 k (c - 32) Pq wq (I1.out.later Bq.out) (I3.out.later Bq.out) HLq.out)
  rw [← HSS.out] at HSUM
  clear HL I1 HP hkc
  by_cases hN : NN = N
  · have hNi : ((NN : Int) != (N : Int)) = false := by rw [hN]; simp
    obtain ⟨bb, hbb⟩ : ∃ bb : Bool, bb = (S == Dq) := ⟨_, rfl⟩
    have HBB := Lib.hid hbb
    have HN := Lib.hid hN
    clear hbb hN
    cases bb
    · go_wp2_with (first | (go_at_call 51; refine HNUM.out.mono ?_; rintro e w1 ⟨rfl, rfl⟩) | (go_at_call 57; refine HSUM.out.mono ?_; rintro e w4 ⟨b4, rfl, hlo4, ⟨t4, hh4⟩, hb4⟩; have I4 := Lib.hid (isB_has hh4 (by rw [HSL.out]; omega)); have B4 : Hid (Below w.heap.size w w4) := Lib.hid (Bq.out.trans (hb4.mono Bq.out.size)); have D4 := Lib.hid ((I2.out.later B4.out)); clear hlo4 hh4 hb4) | (go_at_call 54; refine (equal_any (some ⟨b4, 0, none⟩) S.length S.length S (some ⟨b, off + 12, none⟩) 20 (c - 12) Dq w4 I4.out D4.out).mono ?_; rintro e w5 ⟨rfl, rfl⟩; rw [← HBB.out]))
      go_ret2
      rw [HRES.out, if_neg (fun h => by have e := HBB.out; rw [h.2] at e; simp at e)]
      exact ⟨B4.out, rfl⟩
    · skip
      go_wp2_with (first | (go_at_call 51; refine HNUM.out.mono ?_; rintro e w1 ⟨rfl, rfl⟩) | (go_at_call 57; refine HSUM.out.mono ?_; rintro e w4 ⟨b4, rfl, hlo4, ⟨t4, hh4⟩, hb4⟩; have I4 := Lib.hid (isB_has hh4 (by rw [HSL.out]; omega)); have B4 : Hid (Below w.heap.size w w4) := Lib.hid (Bq.out.trans (hb4.mono Bq.out.size)); have D4 := Lib.hid ((I2.out.later B4.out)); clear hlo4 hh4 hb4) | (go_at_call 54; refine (equal_any (some ⟨b4, 0, none⟩) S.length S.length S (some ⟨b, off + 12, none⟩) 20 (c - 12) Dq w4 I4.out D4.out).mono ?_; rintro e w5 ⟨rfl, rfl⟩; rw [← HBB.out]))
      go_ret2
      obtain ⟨b5, o5, e5⟩ := HA3S.out
      rw [HRES.out, if_pos ⟨HN.out, eq_of_beq HBB.out.symm⟩]
      refine ⟨B4.out, b5, o5, c - 32, by rw [HPL.out]; exact congrArg (fun x => Ending.returned (.tuple #[.slice x k (c - 32), .bool true])) e5, ?_⟩
      have h5 := I3.out.later B4.out
      rw [e5] at h5
      rw [HPL.out]; exact h5
  · have hNi : ((NN : Int) != (N : Int)) = true := by simp; omega
    have HN := Lib.hid hN
    clear hN
    go_wp2_with (go_at_call 51; refine HNUM.out.mono ?_; rintro e w1 ⟨rfl, rfl⟩)
    go_ret2
    rw [HRES.out, if_neg (fun h => HN.out h.1)]
    exact ⟨Bq.out, rfl⟩

theorem unpack_any (a : Option Addr) (n c : Nat) (l : List UInt8) (N : Nat) (w : World) (hp : IsB w a n c l) (hl : LaidW w) :
    Calls Tryz.prog 46 #[.slice a n c, .int .u64 (N : Int)] w (UnpP (unpackL l N) w) := by
  have hlen := hp.length
  have hmost := hp.most
  have hroom := hp.room
  have hc63 : c ≤ 9223372036854775807 := by unfold maxLen at hroom; omega
  by_cases h32 : n < 32
  · have hs : unpackL l N = none := by unfold unpackL; rw [if_pos (by omega)]
    rw [hs]
    exact unpack_short a n c N w (by omega)
  obtain ⟨b, off, rfl, hq4⟩ := hp.part 0 4 c (by omega) (by omega) (by omega)
  rw [Nat.add_zero, List.drop_zero] at hq4
  have HR := Lib.hid (read_any _ 4 c _ w hq4 (by omega))
  have hr4 := rd4_lt l
  obtain ⟨R, hR⟩ : ∃ R, rd (l.take 4) = R := ⟨_, rfl⟩
  rw [hR] at HR hr4
  rcases Nat.lt_or_ge R 2147483648 with hm | hm
  · rw [unpack_low hlen (by omega) (by rw [hR]; exact hm)]
    exact unpack_mark b off n c N R w (by omega) (by omega) (by omega) hc63 HR
  obtain ⟨k, rfl⟩ : ∃ k, R = 2147483648 + k := ⟨R - 2147483648, (Nat.add_sub_of_le hm).symm⟩
  have ek : IntKind.u64.wrap (((2147483648 + k : Nat) : Int) - 2147483648) = (k : Int) := by simp [IntKind.wrap, IntKind.bits, IntKind.signed]; omega
  have en : IntKind.i64.wrap ((n : Int) - 32) = ((n - 32 : Nat) : Int) := by rw [IntKind.wrap_i64]; omega
  have eu : IntKind.u64.wrap ((n - 32 : Nat) : Int) = ((n - 32 : Nat) : Int) := by simp [IntKind.wrap, IntKind.bits, IntKind.signed]; omega
  rcases Nat.lt_or_ge n (32 + k) with hbig | hbig
  · rw [unpack_long hlen (by omega) hR hbig]
    exact unpack_over b off n c N _ _ _ w (by omega) (by omega) (by omega) hc63 ek en eu (by omega) HR
  · rw [unpack_fits hlen (by omega) hR hbig]
    exact unpack_deep b off n c N k _ _ _ l w (by omega) (by omega) (by omega) hc63 ek en eu (by omega) (by rw [IntKind.wrap_i64]; omega) (by rw [IntKind.wrap_i64]; omega) (by omega) hbig hroom.1 hroom.2 (by omega) HR (Lib.hid hp) (Lib.hid hl)

end Go.Proofs.YtgjckddcnmbceaaGreatDoor

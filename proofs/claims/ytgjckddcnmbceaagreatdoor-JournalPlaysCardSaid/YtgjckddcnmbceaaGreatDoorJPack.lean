/-
  The contract of pack. Conditions: the bytes lie in old memory, fewer than 10^9; the digest's laid variables are those of the text.
-/
import Derived.Test.YtgjckddcnmbceaaGreatDoorJSum
import Derived.Test.YtgjckddcnmbceaaGreatDoorSNew
namespace Go.Proofs.YtgjckddcnmbceaaGreatDoor
open Go.RowKit
set_option linter.unusedVariables false

theorem mk_any (k : Nat) (hk : k ≤ 1000000000) (w : World) : (Instr.makeSlice 33 (.int .i64 0) (.int .i64 (k : Int))).run Tryz.prog w = .ok (.slice (some ⟨w.heap.size, 0, none⟩) 0 k) (w.alloc (.cells ((zer k).map bv).toArray 5)) := by
  obtain ⟨i, hi, hz, hs, hb⟩ := info_u8_parts
  have h := run_make (P := Tryz.prog) w 33 5 i _ Tryz.underlying33 hi hz .i64 .i64 0 (k : Int) (by omega) (by omega) (by rw [hb]; omega) (by omega)
  rw [hs, Int.toNat_natCast, Nat.mul_one] at h
  rw [show (Value.int .u8 0).cells = ((zer 1).map bv).toArray from rfl, made_zer 1 _ (by omega)] at h
  exact h
theorem mk_full (k : Nat) (hk : k ≤ 1000000000) (w : World) : (Instr.makeSlice 33 (.int .i64 (k : Int)) (.int .i64 (k : Int))).run Tryz.prog w = .ok (.slice (some ⟨w.heap.size, 0, none⟩) k k) (w.alloc (.cells ((zer k).map bv).toArray 5)) := by
  obtain ⟨i, hi, hz, hs, hb⟩ := info_u8_parts
  have h := run_make (P := Tryz.prog) w 33 5 i _ Tryz.underlying33 hi hz .i64 .i64 (k : Int) (k : Int) (by omega) (by omega) (by rw [hb]; omega) (by omega)
  rw [hs, Int.toNat_natCast, Nat.mul_one] at h
  rw [show (Value.int .u8 0).cells = ((zer 1).map bv).toArray from rfl, made_zer 1 _ (by omega)] at h
  exact h
theorem row_fresh (w : World) (k : Nat) (hk : k ≤ 1000000000) : (w.alloc (.cells ((zer k).map bv).toArray 5)).ownsRow w.heap.size 5 1 (.slice (some ⟨w.heap.size, 0, none⟩) 0 k) 0 (([] : List UInt8).map bv) :=
  ⟨rfl, .inr ⟨_, k, _, rfl, Nat.le_refl _, heap_alloc_new w _, Nat.zero_le _, by unfold maxLen; omega, by simp [zer_length], by simp⟩⟩
theorem isB_owned {w : World} {B : Nat} {v : Value} {l : List UInt8} (h : w.ownsRow B 5 1 v l.length (l.map bv)) (hm : l.length ≤ 140737488355328) : ∃ a c, v = .slice a l.length c ∧ IsB w a l.length c l := by
  rcases h.2 with ⟨rfl, h0⟩ | ⟨g, cap, cur, rfl, hg, hgg, hle, hmx, hsz, htk⟩
  · exact ⟨none, 0, by rw [h0], ⟨rfl, .inl h0, fun _ => ⟨h0, rfl⟩, ⟨by omega, Nat.zero_le _⟩, hm⟩⟩
  · refine ⟨_, _, rfl, ⟨rfl, .inr ⟨g, 0, rfl, (Array.getElem?_eq_some_iff.1 hgg).1, fun i hi => ?_⟩, (fun e => by cases e), ⟨hle, hmx⟩, hm⟩⟩
    have hc := World.ownsRow.cellAt h i (by omega)
    rw [Nat.zero_add, hc]
    exact map_bv_get l i hi
theorem own_later {B : Nat} {w w' : World} {e : TypeId} {size n : Nat} {v : Value} {xs : List Value} (h : w.ownsRow B e size v n xs) (hb : Below w.heap.size w w') : w'.ownsRow B e size v n xs := by
  refine ⟨h.1, ?_⟩
  rcases h.2 with hn | ⟨g, cap, cur, rfl, hg, hgg, rest⟩
  · exact .inl hn
  · exact .inr ⟨g, cap, cur, rfl, hg, (hb.block g (Array.getElem?_eq_some_iff.1 hgg).1).trans hgg, rest⟩

set_option maxRecDepth 100000 in
set_option maxHeartbeats 2000000 in
theorem pack_any (N : Nat) (a : Option Addr) (n c : Nat) (p : List UInt8) (w : World) (hp : IsB w a n c p) (hl : LaidW w) (hN : N < 18446744073709551616) (hn : n ≤ 1000000) :
    Calls Tryz.prog 42 #[.int .u64 (N : Int), .slice a n c] w (RowP w.heap.size (packL N p) w) := by
  obtain ⟨i0, hi, hz0, hz1, hz2⟩ := info_u8_parts
  have HI := Lib.hid hi
  have HZ0 := Lib.hid hz0
  have HZ1 := Lib.hid hz1
  have HZ2 := Lib.hid hz2
  have hpl := hp.length
  obtain ⟨B, hB⟩ : ∃ B, B = w.heap.size := ⟨_, rfl⟩
  obtain ⟨K, hK⟩ : ∃ K, K = 32 + n := ⟨_, rfl⟩
  have HP := Lib.hid hp
  have HL := Lib.hid hl
  have hmk := mk_any K (by omega) w
  have ek : IntKind.i64.wrap (32 + (n : Int)) = (K : Int) := by rw [IntKind.wrap_i64]; omega
  obtain ⟨X, hX⟩ : ∃ X, X = 2147483648 + n := ⟨_, rfl⟩
  have eu : IntKind.u64.wrap (n : Int) = (n : Int) := by simp [IntKind.wrap, IntKind.bits, IntKind.signed]; omega
  have em := or_mark n (by omega)
  rw [← hX] at em
  obtain ⟨w1, hw1⟩ : ∃ w1, w1 = w.alloc (.cells ((zer K).map bv).toArray 5) := ⟨_, rfl⟩
  have O1 : Hid (w1.ownsRow B 5 1 (.slice (some ⟨B, 0, none⟩) 0 K) ([] : List UInt8).length (([] : List UInt8).map bv)) := Lib.hid (by rw [hw1, hB]; exact row_fresh w K (by omega))
  have B1 : Hid (Below B w w1) := Lib.hid (by rw [hw1, hB]; exact (Below.refl _ _).alloc (Nat.le_refl _) _)
  rw [← hw1, ← hB] at hmk
  have HMK := Lib.hid hmk
  have HPL := Lib.hid hpl
  have HX := Lib.hid hX
  have HK := Lib.hid hK
  have HB := Lib.hid hB
  rw [← hB]
  clear hi hz0 hz1 hz2 hp hl hpl hX hK hB hw1 hmk
  have HT1 : Hid (Calls Tryz.prog 56 #[.slice (some ⟨B, 0, none⟩) 0 K, .int .u64 (X : Int), .int .i64 4] w1 (RowP B (be X 4) w1)) :=
    Lib.hid (told_any B _ [] X 4 w1 O1.out (by rw [HB.out]; exact B1.out.size) (by omega) (by rw [HX.out]; omega) (by simp))
  clear O1
  have hmk := HMK.out
  go_enter Tryz.func42, Tryz.ntmps42
  go_upto_region 2 with fail
  clear hmk
  go_wp2_with fail
  refine HT1.out.mono ?_
  rintro e w2 ⟨v2, rfl, ho, hb⟩
  have B2 : Hid (Below B w w2) := Lib.hid (B1.out.trans hb)
  have HBw : Hid (B ≤ w2.heap.size) := Lib.hid (by have := B2.out.size; rw [HB.out]; exact this)
  have HT2 : Hid (Calls Tryz.prog 56 #[v2, .int .u64 (N : Int), .int .i64 8] w2 (RowP B (frontL N p) w2)) :=
    Lib.hid (by have h := told_any B v2 (be X 4) N 8 w2 ho HBw.out (by omega) hN (by rw [be_length]; omega); rw [HX.out, ← HPL.out] at h; exact h)
  clear ho hb HT1
  go_wp2_with fail
  refine HT2.out.mono ?_
  rintro e w3 ⟨v3, rfl, ho3, hb3⟩
  have B3 : Hid (Below B w w3) := Lib.hid (B2.out.trans hb3)
  have L3 : Hid (LaidW w3) := Lib.hid (HL.out.below B3.out (by rw [HB.out]; exact HL.out.two))
  have P3 : Hid (IsB w3 a n c p) := Lib.hid (HP.out.later (by rw [← HB.out]; exact B3.out))
  obtain ⟨a3, c3, rfl, hi3⟩ := isB_owned ho3 (by rw [frontL_length]; omega)
  obtain ⟨F, hF⟩ : ∃ F, F = frontL N p := ⟨_, rfl⟩
  have hFl : F.length = 12 := by rw [hF, frontL_length]
  rw [← hF] at ho3 hi3 ⊢
  rw [hFl] at ho3 hi3 ⊢
  have HF := Lib.hid hF
  have O3 := Lib.hid ho3
  have HS := Lib.hid (sum_any2 a3 12 c3 F a n c p w3 hi3 P3.out L3.out)
  clear ho3 hi3 hb3 hF HT2 B2 HBw
  obtain ⟨S, hS⟩ : ∃ S, S = sm F p := ⟨_, rfl⟩
  have HSS := Lib.hid hS
  have HSL : Hid (S.length = 20) := Lib.hid (by rw [hS, sm_length])
  rw [← hS] at HS
  clear hS
  go_upto_region 4 with fail
  go_wp2_with (first | (go_at_call 57; refine HS.out.mono ?_; rintro e w4 ⟨b4, rfl, hlo4, ⟨t4, hh4⟩, hb4⟩; have O4 := Lib.hid (own_later O3.out hb4); have I4 := Lib.hid (isB_has hh4 (by rw [HSL.out]; omega)); have B4 : Hid (Below B w w4) := Lib.hid (B3.out.trans (hb4.mono (by have := B3.out.size; rw [HB.out]; exact this))); have S4 : Hid (B ≤ w4.heap.size) := Lib.hid (by have := B4.out.size; rw [HB.out]; exact this); clear hlo4 hh4 hb4) | (at_builtin; go_must (refine app_bytes rfl (.tmp 19) (.tmp 22) 33 rfl B 5 i0 Tryz.underlying33 HI.out HZ0.out HZ1.out HZ2.out _ 12 F rfl O4.out (some ⟨b4, 0, none⟩) S.length S.length S rfl I4.out (by have := HSL.out; omega) S4.out ?_)))
  intro v5 w5 ho5 hg5
  have B5 : Hid (Below B w w5) := Lib.hid (row_below B4.out S4.out O4.out hg5)
  have S5 : Hid (B ≤ w5.heap.size) := Lib.hid (by have := B5.out.size; rw [HB.out]; exact this)
  have O5 : Hid (w5.ownsRow B 5 1 v5 (12 + S.length) ((F ++ S).map bv)) := Lib.hid (by rw [List.map_append]; exact ho5)
  have P5 : Hid (IsB w5 a n c p) := Lib.hid (HP.out.later (by rw [← HB.out]; exact B5.out))
  clear ho5 hg5 O4 I4 B4 S4 HS O3 P3
  go_wp2_with (at_builtin; go_must (refine app_bytes rfl (.tmp 24) (.tmp 25) 33 rfl B 5 i0 Tryz.underlying33 HI.out HZ0.out HZ1.out HZ2.out _ (12 + S.length) (F ++ S) rfl O5.out a n c p rfl P5.out (by have := HSL.out; omega) S5.out ?_))
  intro v6 w6 ho6 hg6
  have B6 : Hid (Below B w w6) := Lib.hid (row_below B5.out S5.out O5.out hg6)
  have O6 : Hid (w6.ownsRow B 5 1 v6 (packL N p).length ((packL N p).map bv)) := Lib.hid (by
    have e : packL N p = F ++ S ++ p := by rw [packL, headL, HSS.out, HF.out]
    have el : (packL N p).length = 12 + S.length + n := by rw [packL_length, HSL.out, HPL.out]
    rw [el, e, List.map_append, List.map_append, List.append_assoc]; exact ho6)
  clear ho6 hg6 O5 P5 B5 S5
  go_wp2_with fail
  go_ret
  exact ⟨v6, rfl, O6.out, B6.out⟩

end Go.Proofs.YtgjckddcnmbceaaGreatDoor

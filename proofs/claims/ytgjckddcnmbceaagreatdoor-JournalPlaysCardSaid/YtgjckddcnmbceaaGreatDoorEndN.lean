/-
  The contract of bytesOf. Condition: eight words.
-/
import Derived.Test.YtgjckddcnmbceaaGreatDoorMixN
import Derived.Laws.ShiftsVar
import Derived.Laws.CopyOwn
import Derived.Deep.RegionLaw
import Derived.Deep.MidRow
import Derived.Deep.DeepCutAuto
import Derived.Deep.CutBlock
namespace Go.Proofs.YtgjckddcnmbceaaGreatDoor
open Go.RowKit

def byteAt (S : List Nat) (k : Nat) : Nat := S.getD (k / 4) 0 / 2 ^ (24 - k % 4 * 8) % 256
def bytesL (S : List Nat) : Nat → List Nat
  | 0 => List.replicate 32 0
  | k + 1 => (bytesL S k).set k (byteAt S k)

theorem bytesL_length (S : List Nat) : ∀ k, (bytesL S k).length = 32
  | 0 => by simp [bytesL]
  | k + 1 => by simp [bytesL, bytesL_length S k]

theorem byteAt_lt (S : List Nat) (k : Nat) : byteAt S k < 256 := Nat.mod_lt _ (by omega)

theorem zeros32 : (#[.int .u8 0, .int .u8 0, .int .u8 0, .int .u8 0, .int .u8 0, .int .u8 0, .int .u8 0, .int .u8 0, .int .u8 0, .int .u8 0, .int .u8 0, .int .u8 0, .int .u8 0, .int .u8 0, .int .u8 0, .int .u8 0, .int .u8 0, .int .u8 0, .int .u8 0, .int .u8 0, .int .u8 0, .int .u8 0, .int .u8 0, .int .u8 0, .int .u8 0, .int .u8 0, .int .u8 0, .int .u8 0, .int .u8 0, .int .u8 0, .int .u8 0, .int .u8 0] : Array Value) = ((List.replicate 32 0).map byv).toArray := rfl

set_option maxRecDepth 100000 in
set_option maxHeartbeats 2000000 in
theorem bytes_any (S : List Nat) (w : World) (hL : S.length = 8) (hS : ∀ x ∈ S, x < 4294967296) :
    Calls Tryz.prog 79 #[.agg (S.map wv).toArray] w fun e w' => e = .returned (.agg ((bytesL S 32).map byv).toArray) ∧ Below w.heap.size w w' := by
  obtain ⟨C, hC⟩ : ∃ C, C = (S.map wv).toArray := ⟨_, rfl⟩
  rw [← hC]
  have HC := Lib.hid hC
  clear hC
  go_enter Tryz.func79, Tryz.ntmps79
  go_wp2_with fail
  obtain ⟨w1, hw1⟩ : ∃ w1, w1 = w.alloc (.cells C 121) := ⟨_, rfl⟩
  have a1 : Has w1 w.heap.size (S.map wv) 121 := by rw [hw1, HC.out]; exact Has.new w _ _
  have s1 : w1.heap.size = w.heap.size + 1 := by rw [hw1]; simp
  have b1 : Below w.heap.size w w1 := by rw [hw1]; exact (Below.refl _ _).alloc (by omega) _
  rw [← hw1, zeros32]
  obtain ⟨w2, hw2⟩ : ∃ w2, w2 = w1.alloc (.cells ((bytesL S 0).map byv).toArray 112) := ⟨_, rfl⟩
  have a2 : Has w2 w.heap.size (S.map wv) 121 := by rw [hw2]; exact a1.alloc _
  have o2 : Has w2 (w.heap.size + 1) ((bytesL S 0).map byv) 112 := by rw [hw2, ← s1]; exact Has.new w1 _ _
  have s2 : w2.heap.size = w.heap.size + 1 + 1 := by rw [hw2]; simp [s1]
  have b2 : Below w.heap.size w w2 := by rw [hw2]; exact b1.alloc (by omega) _
  rw [show w1.alloc (.cells ((List.replicate 32 0).map byv).toArray 112) = w2 from hw2.symm]
  obtain ⟨w3, hw3⟩ : ∃ w3, w3 = w2.alloc (.cells ((bytesL S 0).map byv).toArray 112) := ⟨_, rfl⟩
  have a3 : Has w3 w.heap.size (S.map wv) 121 := by rw [hw3]; exact a2.alloc _
  have o3 : Has w3 (w.heap.size + 1) ((bytesL S 0).map byv) 112 := by rw [hw3]; exact o2.alloc _
  have f3 : Has w3 (w.heap.size + 1 + 1) ((bytesL S 0).map byv) 112 := by rw [hw3, ← s2]; exact Has.new w2 _ _
  have b3 : Below w.heap.size w w3 := by rw [hw3]; exact b2.alloc (by omega) _
  rw [show w2.alloc (.cells ((List.replicate 32 0).map byv).toArray 112) = w3 from hw3.symm]
  clear a1 b1 s1 hw1 hw2 a2 o2 s2 b2 hw3
  obtain ⟨G, hG⟩ : ∃ G, G = w.heap.size := ⟨_, rfl⟩
  rw [← hG] at a3 o3 f3 b3 ⊢
  have HG := Lib.hid hG
  clear hG
  go_loopw [5] (fun ii wr => ∃ k : Nat, k ≤ 32 ∧ ii = .int .i64 k ∧ Has wr G (S.map wv) 121 ∧ Has wr (G + 1) ((bytesL S 0).map byv) 112 ∧ Has wr (G + 1 + 1) ((bytesL S k).map byv) 112 ∧ Below G w wr) (fun ii _ => 32 - (intOf ii).toNat)
  case atStart => exact ⟨0, Nat.zero_le _, rfl, a3, o3, f3, b3⟩
  case round =>
    clear a3 o3 f3 b3
    obtain ⟨k, hk, rfl, ha, ho, hf, hbel⟩ := hrel
    by_cases hlt : k < 32
    · have hfl := bytesL_length S k
      have cd := ha.cellAt (map_get wv S (k / 4) (by omega))
      have cf := hf.cellAt (map_get byv (bytesL S k) k (by omega))
      have zf := hf.frozen k
      have hx := getD_all hS (by omega) (k / 4)
      have HS : Hid ((bytesL S k).set k (byteAt S k) = bytesL S (k + 1)) := Lib.hid rfl
      have HB : Hid (byteAt S k = S.getD (k / 4) 0 / 2 ^ (24 - k % 4 * 8) % 256) := Lib.hid rfl
      generalize S.getD (k / 4) 0 = x at *
      simp only [wv, byv] at cd cf
      have hk32 : (k : Int) < 32 := by omega
      have n0 : (0 : Int) ≤ 24 - (k : Int) % 4 * 8 := by omega
      have n1 : (24 - (k : Int) % 4 * 8).toNat = 24 - k % 4 * 8 := by omega
      go_wp2_with fail
      have hv : Value.int .u8 ((x : Int) / 2 ^ (24 - k % 4 * 8) % 256) = byv (byteAt S k) := by
        unfold byv; rw [HB.out]; simp
      rw [hv]
      go_roundw
      case rel =>
        refine ⟨k + 1, by omega, by go_num, ha.setOther (a := ⟨G + 1 + 1, k, none⟩) (by show G ≠ G + 1 + 1; omega) _, ho.setOther (a := ⟨G + 1 + 1, k, none⟩) (by show G + 1 ≠ G + 1 + 1; omega) _, ?_, hbel.setCell (p := ⟨G + 1 + 1, k, none⟩) (by show G ≤ G + 1 + 1; omega) _⟩
        rw [← HS.out, List.map_set]
        exact hf.set _ _
      case measure => simp [intOf]; omega
    · obtain rfl : k = 32 := by omega
      have hi : (Tryz.prog.info? 112).map (·.size) = some 32 := by kernel_rfl
      have e1 : some 32 = some ((bytesL S 32).map byv).toArray.size := by simp [bytesL_length]
      have e2 : ((bytesL S 0).map byv).toArray.size = ((bytesL S 32).map byv).toArray.size := by simp [bytesL_length]
      have e3 : ((bytesL S 32).map byv).toArray.all (·.oneCell') = true := by simp [byv, Value.oneCell']
      have HI := Lib.hid (hi.trans e1)
      have E2 := Lib.hid e2
      have E3 := Lib.hid e3
      have hf2 : wr.heap[G + 1 + 1]? = some (.cells ((bytesL S 32).map byv).toArray 112 (0, 0)) := hf
      have ho2 : wr.heap[G + 1]? = some (.cells ((bytesL S 0).map byv).toArray 112 (0, 0)) := ho
      have HF := Lib.hid hf2
      have HO := Lib.hid ho2
      clear hi e1 e2 e3 hf ho hf2 ho2
      obtain ⟨R, hR⟩ : ∃ R, R = ((bytesL S 32).map byv).toArray := ⟨_, rfl⟩
      rw [← hR] at HI E2 E3 HF
      have HR := Lib.hid hR
      clear hR
      generalize ((bytesL S 0).map byv).toArray = Z at *
      go_wp2_with (first
        | (refine wpList_load_row rfl 112 _ rfl (G + 1 + 1) rfl 112 R (0, 0) _ HF.out Tryz.underlying112 rfl HI.out ?_)
        | (refine wpList_store_row rfl 112 _ _ rfl (G + 1) R rfl rfl 112 _ HO.out HI.out E2.out E3.out ?_))
      have hres : ∀ tmps : Array Value, tmps.getD 2 undef = .pointer (some ⟨G + 1, 0, none⟩) → (results Tryz.f79 tmps).run Tryz.prog (wr.setRow (G + 1) R) = .ok (.agg R) (wr.setRow (G + 1) R) :=
        fun tmps hp => results_cell_row (fn := Tryz.f79) (p := 2) (ty := 112) Tryz.results79 tmps _ (G + 1) 112 R (0, 0) _ hp (setRow_heap _ _ _ _ _ _ HO.out) Tryz.underlying112 rfl HI.out
      refine bodyPost_ret (hres _ rfl) rfl ?_
      exact ⟨by rw [HR.out], by rw [← HG.out]; exact below_setRow hbel (by omega) _⟩

end Go.Proofs.YtgjckddcnmbceaaGreatDoor

namespace Go.Proofs.YtgjckddcnmbceaaGreatDoor
open Go.RowKit

/-- What the hasher's row holds: the state, the tail, the number. -/
structure Holds (L : List Value) (S T : List Nat) (N : Nat) : Prop where
  ready : Ready L
  state : ∀ j, j < 8 → L[67 + j]? = some (wv (S.getD j 0))
  tail : ∀ i, i < 64 → L[75 + i]? = some (byv (T.getD i 0))
  num : L[139]? = some (.int .u64 (N : Int))
  sl : S.length = 8
  ss : ∀ x ∈ S, x < 4294967296
  tl : T.length = 64
  ts : ∀ x ∈ T, x < 256
  nl : N < 18446744073709551616

def end0 (T : List Nat) (u : Nat) : List Nat := T.take u ++ List.replicate (128 - u) 0
def endN (u : Nat) : Nat := if u + 9 > 64 then 128 else 64
def endL (T : List Nat) (N : Nat) : Nat → List Nat
  | 0 => (end0 T (N % 64)).set (N % 64) 128
  | i + 1 => (endL T N i).set (endN (N % 64) - 1 - i) (N * 8 % 18446744073709551616 / 2 ^ (8 * i) % 256)

theorem end0_length (T : List Nat) (u : Nat) (hu : u < 64) (hT : T.length = 64) : (end0 T u).length = 128 := by
  simp [end0, hT]; omega
theorem endL_length (T : List Nat) (N : Nat) (hT : T.length = 64) : ∀ i, (endL T N i).length = 128
  | 0 => by simp [endL, end0_length T (N % 64) (Nat.mod_lt _ (by omega)) hT]
  | i + 1 => by simp [endL, endL_length T N hT i]

def zeros128 : List Nat := List.replicate 128 0

theorem end0_splice (T : List Nat) (u : Nat) (hu : u < 64) (hT : T.length = 64) : splice (zeros128.map byv) 0 ((T.take u).map byv) = (end0 T u).map byv := by
  have e : zeros128.map byv = List.replicate 128 (byv 0) := by unfold zeros128; rw [List.map_replicate]
  rw [e]
  unfold splice end0
  rw [List.map_append, List.map_replicate, List.take_zero, List.nil_append, List.drop_replicate, List.length_map, List.length_take, hT, Nat.min_eq_left (Nat.le_of_lt hu), Nat.zero_add]

theorem zero128 (w : World) : (zeroValue 136).run Tryz.prog w = .ok (.agg (zeros128.map byv).toArray) w := by kernel_rfl

set_option maxRecDepth 100000 in
set_option maxHeartbeats 2000000 in
theorem ending_any (h : Nat) (L : List Value) (S T : List Nat) (N : Nat) (w : World) (hh : Has w h L 134) (hH : Holds L S T N) :
    Calls Tryz.prog 78 #[.pointer (some ⟨h, 0, none⟩)] w fun e w' => e = .returned (.tuple #[.agg ((endL T N 8).map byv).toArray, .int .i64 (endN (N % 64) : Int)]) ∧ Below w.heap.size w w' := by
  have hlth := hh.lt
  obtain ⟨u, hu⟩ : ∃ u, u = N % 64 := ⟨_, rfl⟩
  have hu64 : u < 64 := by omega
  have cN := hh.cellAt hH.num
  have HH := Lib.hid hh
  have HHo := Lib.hid hH
  have nl := hH.nl
  have hR : (N : Int) % 64 = (u : Int) := by omega
  have HU := Lib.hid hu
  clear hh hH hu
  go_enter Tryz.func78, Tryz.ntmps78
  have hz := zero128
  go_upto_region 2 with fail
  clear hz
  obtain ⟨w2, hw2⟩ : ∃ w2, w2 = w.alloc (.cells (zeros128.map byv).toArray 136) := ⟨_, rfl⟩
  have o2 : Has w2 w.heap.size (zeros128.map byv) 136 := by rw [hw2]; exact Has.new w _ _
  have s2 : w2.heap.size = w.heap.size + 1 := by rw [hw2]; simp
  have b2 : Below w.heap.size w w2 := by rw [hw2]; exact (Below.refl _ _).alloc (by omega) _
  rw [← hw2]
  obtain ⟨w3, hw3⟩ : ∃ w3, w3 = w2.alloc (.cells (zeros128.map byv).toArray 136) := ⟨_, rfl⟩
  have o3 : Has w3 w.heap.size (zeros128.map byv) 136 := by rw [hw3]; exact o2.alloc _
  have f3 : Has w3 (w.heap.size + 1) (zeros128.map byv) 136 := by rw [hw3, ← s2]; exact Has.new w2 _ _
  have b3 : Below w.heap.size w w3 := by rw [hw3]; exact b2.alloc (by omega) _
  rw [← hw3]
  have hh3 := HH.out.below b3 hlth
  have cN3 : w3.cell? ⟨h, 139, none⟩ = some (.int .u64 (N : Int)) := hh3.cellAt HHo.out.num
  clear hw2 o2 s2 b2 hw3
  obtain ⟨G, hG⟩ : ∃ G, G = w.heap.size := ⟨_, rfl⟩
  rw [← hG] at o3 f3 b3 hlth ⊢
  have HG := Lib.hid hG
  have hsz : (Tryz.prog.info? 5).map (·.size) = some 1 := by kernel_rfl
  have F3 : w3.heap[G + 1]? = some (.cells (zeros128.map byv).toArray 136 (0, 0)) := f3
  have HF3 := Lib.hid F3
  have HSZ := Lib.hid hsz
  have hR2 : (N : Int).tmod 64 = (u : Int) := by rw [Int.tmod_eq_emod_of_nonneg (by omega)]; exact hR
  have hu1 : ¬ (64 : Int) < (u : Int) := by omega
  have hu2 : (u : Int) ≤ 64 := by omega
  obtain ⟨X, hX⟩ : ∃ X, X = (T.take u).map byv := ⟨_, rfl⟩
  have hcl : X.length = u := by rw [hX]; simp [HHo.out.tl]; omega
  have hsrc : ∀ j v, X[j]? = some v → w3.cell? ((⟨h, 75, none⟩ : Addr).add j) = some v := by
    intro j v hj
    rw [Addr.add_mid]
    have hjl : j < u := by rw [← hcl]; exact (List.getElem?_eq_some_iff.1 hj).1
    rw [hh3.cellAt (HHo.out.tail j (by omega)), ← hj]
    rw [hX, List.getElem?_map, List.getElem?_take_of_lt hjl]
    simp [HHo.out.tl, show j < 64 by omega]
  have hfit : 0 + X.length ≤ (zeros128.map byv).length := by rw [hcl]; simp [zeros128]; omega
  have hone : ∀ v ∈ X, v.oneCell' = true := by
    intro v hv
    rw [hX] at hv
    obtain ⟨x, _, rfl⟩ := List.mem_map.1 hv
    rfl
  have hmin : X.length = Nat.min u 128 := by rw [hcl]; exact (Nat.min_eq_left (by omega)).symm
  have HFIT := Lib.hid hfit
  have HONE := Lib.hid hone
  have HMIN := Lib.hid hmin
  have HB3 := Lib.hid (Below.refl (G + 1) w3).drew
  have B3 := Lib.hid b3
  have O3 := Lib.hid o3
  have HX := Lib.hid hX
  clear hfit hone hmin b3 o3
  have HSRC := Lib.hid hsrc
  clear hG f3 F3 hsz hsrc cN hX
  go_region_law ((refine step_copy_splice (by rfl) (.tmp 9) (.tmp 18) 33 33 (by rfl) 5 Tryz.underlying33 HSZ.out (some ⟨G + 1, 0, none⟩) (some ⟨h, 75, none⟩) 128 128 u 64 (by rfl) (by rfl) (G + 1) 0 (zeros128.map byv) 136 HF3.out X HMIN.out (fun _ => ⟨rfl, ⟨h, 75, none⟩, rfl, HSRC.out⟩) HFIT.out HONE.out (G + 1) w3 HB3.out (by omega) ?_; intro w4 hg4 hb4))
  have hs4 : Has w4 (G + 1) ((end0 T u).map byv) 136 := by
    have := hg4.out
    rw [HX.out, end0_splice T u hu64 HHo.out.tl] at this
    exact this
  have o4 : Has w4 G (zeros128.map byv) 136 := O3.out.below hb4 (by omega)
  have b4 : Below G w w4 := B3.out.trans (hb4.mono (by omega))
  have s4 : G + 1 < w4.heap.size := hs4.lt
  have hh4 := HH.out.below b4 hlth
  have hl0 := end0_length T u hu64 HHo.out.tl
  have z4 := hs4.frozen u
  have c4 := hs4.cellAt (map_get byv (end0 T u) u (by omega))
  simp only [byv] at c4
  clear hg4 hb4 hh3 cN3
  obtain ⟨w5, hw5⟩ : ∃ w5, w5 = w4.setCell ⟨G + 1, u, none⟩ (.int .u8 128) := ⟨_, rfl⟩
  have hs5 : Has w5 (G + 1) (((end0 T u).set u 128).map byv) 136 := by rw [hw5, List.map_set]; exact hs4.set u _
  have o5 : Has w5 G (zeros128.map byv) 136 := by rw [hw5]; exact o4.setOther (a := ⟨G + 1, u, none⟩) (by show G ≠ G + 1; omega) _
  have b5 : Below G w w5 := by rw [hw5]; exact b4.setCell (p := ⟨G + 1, u, none⟩) (by show G ≤ G + 1; omega) _
  have hh5 := HH.out.below b5 hlth
  have cN5 : w5.cell? ⟨h, 139, none⟩ = some (.int .u64 (N : Int)) := hh5.cellAt HHo.out.num
  go_upto_if 25 with fail
  rw [← hw5]
  have hz4 := hh4
  clear hw5 hs4 o4 b4 s4 hh4 z4 c4 hl0 hz4
  obtain ⟨n, hn⟩ : ∃ n, n = endN u := ⟨_, rfl⟩
  have hn1 : 64 ≤ n := by rw [hn]; unfold endN; split <;> omega
  have hn2 : n ≤ 128 := by rw [hn]; unfold endN; split <;> omega
  have HNN := Lib.hid hn
  clear hn
  go_cut [6] (fun aa wx => aa = .int .i64 (n : Int) ∧ w5 = wx)
  case first =>
    by_cases hc : u + 9 > 64
    · have hc2 : (64 : Int) < (u : Int) + 1 + 8 := by omega
      have hn3 : n = 128 := by rw [HNN.out]; unfold endN; rw [if_pos hc]
      go_wp2_with fail
      go_meet
      exact ⟨by rw [hn3]; rfl, rfl⟩
    · have hc2 : ¬ (64 : Int) < (u : Int) + 1 + 8 := by omega
      have hn3 : n = 64 := by rw [HNN.out]; unfold endN; rw [if_neg hc]
      go_wp2_with fail
      go_meet
      exact ⟨by rw [hn3]; rfl, rfl⟩
  case rest =>
    obtain ⟨rfl, rfl⟩ := hcut
    obtain ⟨len, hlen⟩ : ∃ len, len = N * 8 % 18446744073709551616 := ⟨_, rfl⟩
    have RL : IntKind.u64.wrap ((N : Int) * 8) = (len : Int) := by rw [wrap_mod]; omega
    have hlen2 : len < 18446744073709551616 := by omega
    have HLEN := Lib.hid hlen
    have NL := Lib.hid nl
    clear hlen nl
    go_wp2_with fail
    go_loopw [31] (fun ii wr => ∃ k : Nat, k ≤ 8 ∧ ii = .int .i64 k ∧ Has wr G (zeros128.map byv) 136 ∧ Has wr (G + 1) ((endL T N k).map byv) 136 ∧ Below G w wr) (fun ii _ => 8 - (intOf ii).toNat)
    case atStart => exact ⟨0, Nat.zero_le _, rfl, o5, by rw [HU.out] at hs5; exact hs5, b5⟩
    case round =>
      clear o5 hs5 b5 hh5 cN5
      obtain ⟨k, hk, rfl, ho, hf, hbel⟩ := hrel
      by_cases hlt : k < 8
      · have hfl := endL_length T N HHo.out.tl k
        have zf := hf.frozen (n - 1 - k)
        have cf := hf.cellAt (map_get byv (endL T N k) (n - 1 - k) (by omega))
        have HS : Hid ((endL T N k).set (n - 1 - k) (len / 2 ^ (8 * k) % 256) = endL T N (k + 1)) := Lib.hid (by rw [HNN.out, HU.out, HLEN.out]; rfl)
        have hk8 : (k : Int) < 8 := by omega
        have i0 : (0 : Int) ≤ (n : Int) - 1 - (k : Int) := by omega
        have i1 : (n : Int) - 1 - (k : Int) < 128 := by omega
        simp only [byv] at cf
        go_wp2_with fail
        have hv : Value.int .u8 ((len : Int) / 2 ^ (8 * k) % 256) = byv (len / 2 ^ (8 * k) % 256) := by
          unfold byv; simp
        rw [hv]
        go_roundw
        case rel =>
          refine ⟨k + 1, by omega, by go_num, ho.setOther (a := ⟨G + 1, n - 1 - k, none⟩) (by show G ≠ G + 1; omega) _, ?_, hbel.setCell (p := ⟨G + 1, n - 1 - k, none⟩) (by show G ≤ G + 1; omega) _⟩
          rw [← HS.out, List.map_set]
          exact hf.set _ _
        case measure => simp [intOf]; omega
      · obtain rfl : k = 8 := by omega
        have hi : (Tryz.prog.info? 136).map (·.size) = some 128 := by kernel_rfl
        have hfl := endL_length T N HHo.out.tl 8
        have e1 : some 128 = some ((endL T N 8).map byv).toArray.size := by rw [List.size_toArray, List.length_map, hfl]
        have e2 : (zeros128.map byv).toArray.size = ((endL T N 8).map byv).toArray.size := by rw [List.size_toArray, List.length_map, List.size_toArray, List.length_map, hfl]; rfl
        have e3 : ((endL T N 8).map byv).toArray.all (·.oneCell') = true := by
          refine all_oneCell_toArray ?_
          intro v hv
          obtain ⟨x, _, rfl⟩ := List.mem_map.1 hv
          rfl
        have HI := Lib.hid (hi.trans e1)
        have E2 := Lib.hid e2
        have E3 := Lib.hid e3
        have hf2 : wr.heap[G + 1]? = some (.cells ((endL T N 8).map byv).toArray 136 (0, 0)) := hf
        have ho2 : wr.heap[G]? = some (.cells (zeros128.map byv).toArray 136 (0, 0)) := ho
        have HF := Lib.hid hf2
        have HO := Lib.hid ho2
        clear hi e1 e2 e3 hf ho hf2 ho2 hfl
        obtain ⟨R, hR⟩ : ∃ R, R = ((endL T N 8).map byv).toArray := ⟨_, rfl⟩
        rw [← hR] at HI E2 E3 HF
        have HR := Lib.hid hR
        clear hR
        generalize (zeros128.map byv).toArray = Z at *
        go_wp2_with (first
          | (refine wpList_load_row rfl 136 _ rfl (G + 1) rfl 136 R (0, 0) _ HF.out Tryz.underlying136 rfl HI.out ?_)
          | (refine wpList_store_row rfl 136 _ _ rfl G R rfl rfl 136 _ HO.out HI.out E2.out E3.out ?_))
        have hres : ∀ tmps : Array Value, tmps.getD 2 undef = .pointer (some ⟨G, 0, none⟩) → tmps.getD 3 undef = .int .i64 (n : Int) → (results Tryz.f78 tmps).run Tryz.prog (wr.setRow G R) = .ok (.tuple #[.agg R, .int .i64 (n : Int)]) (wr.setRow G R) := by
          intro tmps hp hq
          have hl := run_loadVar_row (P := Tryz.prog) (wr.setRow G R) G 136 136 R (0, 0) _ (setRow_heap _ _ _ _ _ _ HO.out) Tryz.underlying136 rfl HI.out
          have hp' : tmps[2]?.getD undef = .pointer (some ⟨G, 0, none⟩) := by simpa using hp
          have hq' : tmps[3]?.getD undef = .int .i64 (n : Int) := by simpa using hq
          simp [results, Tryz.results78, hp', hq', asAddr, hl]
        refine bodyPost_ret (hres _ rfl rfl) rfl ?_
        exact ⟨by rw [HR.out, HNN.out, HU.out], by rw [← HG.out]; exact below_setRow hbel (by omega) _⟩

end Go.Proofs.YtgjckddcnmbceaaGreatDoor

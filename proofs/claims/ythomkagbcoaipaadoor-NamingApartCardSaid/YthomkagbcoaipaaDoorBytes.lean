/-
  The contract of bytesOf. Condition: eight words.
-/
import Derived.Test.YthomkagbcoaipaaDoorMix
import Derived.Laws.ShiftsVar
namespace Go.Proofs.YthomkagbcoaipaaDoor
open Go.RowKit

def byteAt (S : List Nat) (k : Nat) : Nat := S.getD (k / 4) 0 / 2 ^ (24 - k % 4 * 8) % 256
def bytesL (S : List Nat) : Nat → List Nat
  | 0 => List.replicate 32 0
  | k + 1 => (bytesL S k).set k (byteAt S k)

theorem bytesL_length (S : List Nat) : ∀ k, (bytesL S k).length = 32
  | 0 => by simp [bytesL]
  | k + 1 => by simp [bytesL, bytesL_length S k]

theorem byteAt_lt (S : List Nat) (k : Nat) : byteAt S k < 256 := Nat.mod_lt _ (by omega)

theorem zeros32 : (#[.int .u8 0, .int .u8 0, .int .u8 0, .int .u8 0, .int .u8 0, .int .u8 0, .int .u8 0, .int .u8 0, .int .u8 0, .int .u8 0, .int .u8 0, .int .u8 0, .int .u8 0, .int .u8 0, .int .u8 0, .int .u8 0, .int .u8 0, .int .u8 0, .int .u8 0, .int .u8 0, .int .u8 0, .int .u8 0, .int .u8 0, .int .u8 0, .int .u8 0, .int .u8 0, .int .u8 0, .int .u8 0, .int .u8 0, .int .u8 0, .int .u8 0, .int .u8 0] : Array Value) = ((List.replicate 32 0).map byv).toArray := rfl

set_option maxRecDepth 100000 in
set_option maxHeartbeats 2000000 in
theorem bytes_any (S : List Nat) (w : World) (hL : S.length = 8) (hS : ∀ x ∈ S, x < 4294967296) :
    Calls Tryd.prog 40 #[.agg (S.map wv).toArray] w fun e w' => e = .returned (.agg ((bytesL S 32).map byv).toArray) ∧ Below w.heap.size w w' := by
  obtain ⟨C, hC⟩ : ∃ C, C = (S.map wv).toArray := ⟨_, rfl⟩
  rw [← hC]
  have HC := Lib.hid hC
  clear hC
  go_enter Tryd.func40, Tryd.ntmps40
  go_wp2_with fail
  obtain ⟨w1, hw1⟩ : ∃ w1, w1 = w.alloc (.cells C 59) := ⟨_, rfl⟩
  have a1 : Has w1 w.heap.size (S.map wv) 59 := by rw [hw1, HC.out]; exact Has.new w _ _
  have s1 : w1.heap.size = w.heap.size + 1 := by rw [hw1]; simp
  have b1 : Below w.heap.size w w1 := by rw [hw1]; exact (Below.refl _ _).alloc (by omega) _
  rw [← hw1, zeros32]
  obtain ⟨w2, hw2⟩ : ∃ w2, w2 = w1.alloc (.cells ((bytesL S 0).map byv).toArray 22) := ⟨_, rfl⟩
  have a2 : Has w2 w.heap.size (S.map wv) 59 := by rw [hw2]; exact a1.alloc _
  have o2 : Has w2 (w.heap.size + 1) ((bytesL S 0).map byv) 22 := by rw [hw2, ← s1]; exact Has.new w1 _ _
  have s2 : w2.heap.size = w.heap.size + 1 + 1 := by rw [hw2]; simp [s1]
  have b2 : Below w.heap.size w w2 := by rw [hw2]; exact b1.alloc (by omega) _
  rw [show w1.alloc (.cells ((List.replicate 32 0).map byv).toArray 22) = w2 from hw2.symm]
  obtain ⟨w3, hw3⟩ : ∃ w3, w3 = w2.alloc (.cells ((bytesL S 0).map byv).toArray 22) := ⟨_, rfl⟩
  have a3 : Has w3 w.heap.size (S.map wv) 59 := by rw [hw3]; exact a2.alloc _
  have o3 : Has w3 (w.heap.size + 1) ((bytesL S 0).map byv) 22 := by rw [hw3]; exact o2.alloc _
  have f3 : Has w3 (w.heap.size + 1 + 1) ((bytesL S 0).map byv) 22 := by rw [hw3, ← s2]; exact Has.new w2 _ _
  have b3 : Below w.heap.size w w3 := by rw [hw3]; exact b2.alloc (by omega) _
  rw [show w2.alloc (.cells ((List.replicate 32 0).map byv).toArray 22) = w3 from hw3.symm]
  clear a1 b1 s1 hw1 hw2 a2 o2 s2 b2 hw3
  obtain ⟨G, hG⟩ : ∃ G, G = w.heap.size := ⟨_, rfl⟩
  rw [← hG] at a3 o3 f3 b3 ⊢
  have HG := Lib.hid hG
  clear hG
  go_loopw [5] (fun ii wr => ∃ k : Nat, k ≤ 32 ∧ ii = .int .i64 k ∧ Has wr G (S.map wv) 59 ∧ Has wr (G + 1) ((bytesL S 0).map byv) 22 ∧ Has wr (G + 1 + 1) ((bytesL S k).map byv) 22 ∧ Below G w wr) (fun ii _ => 32 - (intOf ii).toNat)
  case atStart => exact ⟨0, Nat.zero_le _, rfl, a3, o3, f3, b3⟩
  case round =>
    clear a3 o3 f3 b3
    obtain ⟨k, hk, rfl, ha, ho, hf, hbel⟩ := hrel
    by_cases hlt : k < 32
    · have hfl := bytesL_length S k
      have cd := ha.cellAt (map_get wv S (k / 4) (by omega))
      have cf := hf.cellAt (map_get byv (bytesL S k) k (by omega))
      have zf := hf.frozen k
      have hx := getD_all hS (by omega) (k / 4)
      have HS : Hid ((bytesL S k).set k (byteAt S k) = bytesL S (k + 1)) := Lib.hid rfl
      have HB : Hid (byteAt S k = S.getD (k / 4) 0 / 2 ^ (24 - k % 4 * 8) % 256) := Lib.hid rfl
      generalize S.getD (k / 4) 0 = x at *
      simp only [wv, byv] at cd cf
      have hk32 : (k : Int) < 32 := by omega
      have n0 : (0 : Int) ≤ 24 - (k : Int) % 4 * 8 := by omega
      have n1 : (24 - (k : Int) % 4 * 8).toNat = 24 - k % 4 * 8 := by omega
      go_wp2_with fail
      have hv : Value.int .u8 ((x : Int) / 2 ^ (24 - k % 4 * 8) % 256) = byv (byteAt S k) := by
        unfold byv; rw [HB.out]; simp
      rw [hv]
      go_roundw
      case rel =>
        refine ⟨k + 1, by omega, by go_num, ha.setOther (a := ⟨G + 1 + 1, k, none⟩) (by show G ≠ G + 1 + 1; omega) _, ho.setOther (a := ⟨G + 1 + 1, k, none⟩) (by show G + 1 ≠ G + 1 + 1; omega) _, ?_, hbel.setCell (p := ⟨G + 1 + 1, k, none⟩) (by show G ≤ G + 1 + 1; omega) _⟩
        rw [← HS.out, List.map_set]
        exact hf.set _ _
      case measure => simp [intOf]; omega
    · obtain rfl : k = 32 := by omega
      have hi : (Tryd.prog.info? 22).map (·.size) = some 32 := by kernel_rfl
      have e1 : some 32 = some ((bytesL S 32).map byv).toArray.size := by simp [bytesL_length]
      have e2 : ((bytesL S 0).map byv).toArray.size = ((bytesL S 32).map byv).toArray.size := by simp [bytesL_length]
      have e3 : ((bytesL S 32).map byv).toArray.all (·.oneCell') = true := by simp [byv, Value.oneCell']
      have HI := Lib.hid (hi.trans e1)
      have E2 := Lib.hid e2
      have E3 := Lib.hid e3
      have hf2 : wr.heap[G + 1 + 1]? = some (.cells ((bytesL S 32).map byv).toArray 22 (0, 0)) := hf
      have ho2 : wr.heap[G + 1]? = some (.cells ((bytesL S 0).map byv).toArray 22 (0, 0)) := ho
      have HF := Lib.hid hf2
      have HO := Lib.hid ho2
      clear hi e1 e2 e3 hf ho hf2 ho2
      obtain ⟨R, hR⟩ : ∃ R, R = ((bytesL S 32).map byv).toArray := ⟨_, rfl⟩
      rw [← hR] at HI E2 E3 HF
      have HR := Lib.hid hR
      clear hR
      generalize ((bytesL S 0).map byv).toArray = Z at *
      go_wp2_with (first
        | (refine wpList_load_row rfl 22 _ rfl (G + 1 + 1) rfl 22 R (0, 0) _ HF.out Tryd.underlying22 rfl HI.out ?_)
        | (refine wpList_store_row rfl 22 _ _ rfl (G + 1) R rfl rfl 22 _ HO.out HI.out E2.out E3.out ?_))
      have hres : ∀ tmps : Array Value, tmps.getD 2 undef = .pointer (some ⟨G + 1, 0, none⟩) → (results Tryd.f40 tmps).run Tryd.prog (wr.setRow (G + 1) R) = .ok (.agg R) (wr.setRow (G + 1) R) :=
        fun tmps hp => results_cell_row (fn := Tryd.f40) (p := 2) (ty := 22) Tryd.results40 tmps _ (G + 1) 22 R (0, 0) _ hp (setRow_heap _ _ _ _ _ _ HO.out) Tryd.underlying22 rfl HI.out
      refine bodyPost_ret (hres _ rfl) rfl ?_
      exact ⟨by rw [HR.out], by rw [← HG.out]; exact below_setRow hbel (by omega) _⟩

end Go.Proofs.YthomkagbcoaipaaDoor

/-
  The contracts of Fold, the program's and the reference's. Condition: 32 bytes.
-/
import Derived.Test.YtgjckddcnmbceaaGreatDoorBut
import Derived.StillTailTactics
import Derived.Deep.QuietTactic
import Derived.BigQuiet
import Derived.BigRegion
import Derived.Below
import Derived.Laws.CopyOwn
namespace Go.Proofs.YtgjckddcnmbceaaGreatDoor
open Go.RowKit

def foldP (D : List Nat) : Nat → List Nat
  | 0 => List.replicate 20 0
  | k + 1 => (foldP D k).set (k % 20) ((foldP D k).getD (k % 20) 0 ^^^ D.getD k 0)

theorem foldP_length (D : List Nat) : ∀ k, (foldP D k).length = 20
  | 0 => by simp [foldP]
  | k + 1 => by simp [foldP, foldP_length D k]

theorem map_get {α : Type} (f : Nat → α) (l : List Nat) (i : Nat) (h : i < l.length) : (l.map f)[i]? = some (f (l.getD i 0)) := by
  simp [List.getD, h]

theorem getD_all {l : List Nat} {n : Nat} (h : ∀ x ∈ l, x < n) (hn : 0 < n) (i : Nat) : l.getD i 0 < n := by
  by_cases hi : i < l.length
  · rw [List.getD_eq_getElem?_getD, List.getElem?_eq_getElem hi]; exact h _ (List.getElem_mem hi)
  · rw [List.getD_eq_getElem?_getD, List.getElem?_eq_none (by omega)]; exact hn

theorem xor8_lt {a b : Nat} (ha : a < 256) (hb : b < 256) : a ^^^ b < 256 := Nat.xor_lt_two_pow (n := 8) ha hb

theorem foldP_lt (D : List Nat) (hD : ∀ x ∈ D, x < 256) : ∀ k, ∀ x ∈ foldP D k, x < 256
  | 0 => by intro x hx; simp [foldP] at hx; omega
  | k + 1 => by
    intro x hx
    rcases List.mem_or_eq_of_mem_set hx with h | h
    · exact foldP_lt D hD k x h
    · rw [h]; exact xor8_lt (getD_all (foldP_lt D hD k) (by omega) _) (getD_all hD (by omega) _)

set_option maxRecDepth 100000 in
set_option maxHeartbeats 1000000 in
theorem fold_any (D : List Nat) (w : World) (hL : D.length = 32) (hD : ∀ x ∈ D, x < 256) :
    Calls Tryz.prog 70 #[.agg (D.map byv).toArray] w fun e w' => e = .returned (.agg ((foldP D 32).map byv).toArray) ∧ Below w.heap.size w w' := by
  obtain ⟨C, hC⟩ : ∃ C, C = (D.map byv).toArray := ⟨_, rfl⟩
  rw [← hC]
  have HC := Lib.hid hC
  clear hC
  go_enter Tryz.func70, Tryz.ntmps70
  go_wp2_with fail
  have a1 : Has (w.alloc (.cells C 112)) w.heap.size (D.map byv) 112 := by rw [HC.out]; exact Has.new w _ _
  have b0 : Below w.heap.size w (w.alloc (.cells C 112)) := (Below.refl _ _).alloc (Nat.le_refl _) _
  have s1 : (w.alloc (.cells C 112)).heap.size = w.heap.size + 1 := by simp
  generalize w.alloc (.cells C 112) = w1 at *
  obtain ⟨w2, hw2⟩ : ∃ w2, w2 = w1.alloc (.cells ((foldP D 0).map byv).toArray 110) := ⟨_, rfl⟩
  have a2 : Has w2 w.heap.size (D.map byv) 112 := by rw [hw2]; exact a1.alloc _
  have o2 : Has w2 (w.heap.size + 1) ((foldP D 0).map byv) 110 := by rw [hw2, ← s1]; exact Has.new w1 _ _
  have s2 : w2.heap.size = w.heap.size + 1 + 1 := by rw [hw2]; simp [s1]
  have b2 : Below w.heap.size w w2 := by rw [hw2]; exact b0.alloc (by omega) _
  rw [show (w1.alloc (.cells #[.int .u8 0, .int .u8 0, .int .u8 0, .int .u8 0, .int .u8 0, .int .u8 0, .int .u8 0, .int .u8 0, .int .u8 0, .int .u8 0, .int .u8 0, .int .u8 0, .int .u8 0, .int .u8 0, .int .u8 0, .int .u8 0, .int .u8 0, .int .u8 0, .int .u8 0, .int .u8 0] 110)) = w2 from by rw [hw2]; rfl]
  obtain ⟨w3, hw3⟩ : ∃ w3, w3 = w2.alloc (.cells ((foldP D 0).map byv).toArray 110) := ⟨_, rfl⟩
  have a3 : Has w3 w.heap.size (D.map byv) 112 := by rw [hw3]; exact a2.alloc _
  have o3 : Has w3 (w.heap.size + 1) ((foldP D 0).map byv) 110 := by rw [hw3]; exact o2.alloc _
  have f3 : Has w3 (w.heap.size + 1 + 1) ((foldP D 0).map byv) 110 := by rw [hw3, ← s2]; exact Has.new w2 _ _
  have b3 : Below w.heap.size w w3 := by rw [hw3]; exact b2.alloc (by omega) _
  rw [show (w2.alloc (.cells #[.int .u8 0, .int .u8 0, .int .u8 0, .int .u8 0, .int .u8 0, .int .u8 0, .int .u8 0, .int .u8 0, .int .u8 0, .int .u8 0, .int .u8 0, .int .u8 0, .int .u8 0, .int .u8 0, .int .u8 0, .int .u8 0, .int .u8 0, .int .u8 0, .int .u8 0, .int .u8 0] 110)) = w3 from by rw [hw3]; rfl]
  clear a1 b0 s1 hw2 a2 o2 s2 b2 hw3
  obtain ⟨B, hB⟩ : ∃ B, B = w.heap.size := ⟨_, rfl⟩
  rw [← hB] at a3 o3 f3 b3 ⊢
  have HB := Lib.hid hB
  clear hB
  go_loopw [5] (fun ii wr => ∃ k : Nat, k ≤ 32 ∧ ii = .int .i64 k ∧ Has wr B (D.map byv) 112 ∧ Has wr (B + 1) ((foldP D 0).map byv) 110 ∧ Has wr (B + 1 + 1) ((foldP D k).map byv) 110 ∧ Below B w wr) (fun ii _ => 32 - (intOf ii).toNat)
  case atStart => exact ⟨0, Nat.zero_le _, rfl, a3, o3, f3, b3⟩
  case round =>
    clear a3 o3 f3 b3
    obtain ⟨k, hk, rfl, ha, ho, hf, hbel⟩ := hrel
    by_cases hlt : k < 32
    · have hfl := foldP_length D k
      have cd := ha.cellAt (map_get byv D k (by omega))
      have cf := hf.cellAt (map_get byv (foldP D k) (k % 20) (by omega))
      have zf := hf.frozen (k % 20)
      have hx := getD_all hD (by omega) k
      have hy := getD_all (foldP_lt D hD k) (by omega) (k % 20)
      have HS : Hid ((foldP D k).set (k % 20) ((foldP D k).getD (k % 20) 0 ^^^ D.getD k 0) = foldP D (k + 1)) := Lib.hid rfl
      generalize D.getD k 0 = x at *
      generalize (foldP D k).getD (k % 20) 0 = y at *
      simp only [byv] at cd cf
      have hX : bits .xor .u8 (y : Int) (x : Int) = ((y ^^^ x : Nat) : Int) := u8_xor_nat _ _ hy hx
      have hk32 : (k : Int) < 32 := by omega
      go_wp2_with fail
      go_region
      all_goals
        go_wp2_with fail
        go_roundw
        case rel =>
          refine ⟨k + 1, by omega, by go_num, (ha.setOther (a := ⟨B + 1 + 1, k % 20, none⟩) (by show B ≠ B + 1 + 1; omega) _).drew, (ho.setOther (a := ⟨B + 1 + 1, k % 20, none⟩) (by show B + 1 ≠ B + 1 + 1; omega) _).drew, ?_, (hbel.setCell (p := ⟨B + 1 + 1, k % 20, none⟩) (by show B ≤ B + 1 + 1; omega) _).drew⟩
          rw [← HS.out, List.map_set]
          exact hf.set _ _
        case measure => simp [intOf]; omega
    · obtain rfl : k = 32 := by omega
      have hi : (Tryz.prog.info? 110).map (·.size) = some 20 := by kernel_rfl
      have e1 : some 20 = some ((foldP D 32).map byv).toArray.size := by simp [foldP_length]
      have e2 : ((foldP D 0).map byv).toArray.size = ((foldP D 32).map byv).toArray.size := by simp [foldP_length]
      have e3 : ((foldP D 32).map byv).toArray.all (·.oneCell') = true := by simp [byv, Value.oneCell']
      have HI := Lib.hid (hi.trans e1)
      have E2 := Lib.hid e2
      have E3 := Lib.hid e3
      have hf2 : wr.heap[B + 1 + 1]? = some (.cells ((foldP D 32).map byv).toArray 110 (0, 0)) := hf
      have ho2 : wr.heap[B + 1]? = some (.cells ((foldP D 0).map byv).toArray 110 (0, 0)) := ho
      have HF := Lib.hid hf2
      have HO := Lib.hid ho2
      clear hi e1 e2 e3 hf ho hf2 ho2
      obtain ⟨R, hR⟩ : ∃ R, R = ((foldP D 32).map byv).toArray := ⟨_, rfl⟩
      rw [← hR] at HI E2 E3 HF
      have HR := Lib.hid hR
      clear hR
      generalize ((foldP D 0).map byv).toArray = Z at *
      go_wp2_with (first
        | (refine wpList_load_row rfl 110 _ rfl (B + 1 + 1) rfl 110 R (0, 0) _ HF.out Tryz.underlying110 rfl HI.out ?_)
        | (refine wpList_store_row rfl 110 _ _ rfl (B + 1) R rfl rfl 110 _ HO.out HI.out E2.out E3.out ?_))
      have hres : ∀ tmps : Array Value, tmps.getD 2 undef = .pointer (some ⟨B + 1, 0, none⟩) → (results Tryz.f70 tmps).run Tryz.prog (wr.setRow (B + 1) R) = .ok (.agg R) (wr.setRow (B + 1) R) :=
        fun tmps hp => results_cell_row (fn := Tryz.f70) (p := 2) (ty := 110) Tryz.results70 tmps _ (B + 1) 110 R (0, 0) _ hp (setRow_heap _ _ _ _ _ _ HO.out) Tryz.underlying110 rfl HI.out
      refine bodyPost_ret (hres _ rfl) rfl ?_
      exact ⟨by rw [HR.out], by rw [← HB.out]; exact below_setRow hbel (by omega) _⟩

end Go.Proofs.YtgjckddcnmbceaaGreatDoor

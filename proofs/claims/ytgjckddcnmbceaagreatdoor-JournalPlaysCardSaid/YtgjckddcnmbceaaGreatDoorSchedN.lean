/-
  The contract of schedule. Condition: a block of 64 bytes.
-/
import Derived.Test.YtgjckddcnmbceaaGreatDoorFold
import Derived.Test.YtgjckddcnmbceaaGreatDoorDivN
namespace Go.Proofs.YtgjckddcnmbceaaGreatDoor
open Go.RowKit

def small (a : Nat) : Nat := (rotr a 7 ^^^ rotr a 18) ^^^ a / 8
def great (b : Nat) : Nat := (rotr b 17 ^^^ rotr b 19) ^^^ b / 1024
def word4 (a b c d : Nat) : Nat := a * 16777216 + b * 65536 + c * 256 + d
def nextW (B l : List Nat) (i : Nat) : Nat :=
  if i < 16 then word4 (B.getD (4 * i) 0) (B.getD (4 * i + 1) 0) (B.getD (4 * i + 2) 0) (B.getD (4 * i + 3) 0)
  else (l.getD (i - 16) 0 + small (l.getD (i - 15) 0) + l.getD (i - 7) 0 + great (l.getD (i - 2) 0)) % 4294967296
def sched (B : List Nat) : Nat → List Nat
  | 0 => List.replicate 64 0
  | k + 1 => (sched B k).set k (nextW B (sched B k) k)

theorem sched_length (B : List Nat) : ∀ k, (sched B k).length = 64
  | 0 => by simp [sched]
  | k + 1 => by simp [sched, sched_length B k]

theorem small_lt {a : Nat} (h : a < 4294967296) : small a < 4294967296 := xor_lt _ _ (xor_lt _ _ (rotr_lt _ _ h) (rotr_lt _ _ h)) (by omega)
theorem great_lt {a : Nat} (h : a < 4294967296) : great a < 4294967296 := xor_lt _ _ (xor_lt _ _ (rotr_lt _ _ h) (rotr_lt _ _ h)) (by omega)
theorem word4_lt {a b c d : Nat} (ha : a < 256) (hb : b < 256) (hc : c < 256) (hd : d < 256) : word4 a b c d < 4294967296 := by unfold word4; omega

theorem nextW_lt (B l : List Nat) (i : Nat) (hB : ∀ x ∈ B, x < 256) : nextW B l i < 4294967296 := by
  unfold nextW
  split
  · exact word4_lt (getD_all hB (by omega) _) (getD_all hB (by omega) _) (getD_all hB (by omega) _) (getD_all hB (by omega) _)
  · exact Nat.mod_lt _ (by omega)

theorem sched_lt (B : List Nat) (hB : ∀ x ∈ B, x < 256) : ∀ k, ∀ x ∈ sched B k, x < 4294967296
  | 0 => by intro x hx; simp [sched] at hx; omega
  | k + 1 => by
    intro x hx
    rcases List.mem_or_eq_of_mem_set hx with h | h
    · exact sched_lt B hB k x h
    · rw [h]; exact nextW_lt _ _ _ hB

theorem or_add (a b k : Nat) (hb : b < 2 ^ k) : (a * 2 ^ k) ||| b = a * 2 ^ k + b := by
  have e := Nat.shiftLeft_add_eq_or_of_lt hb a
  rw [Nat.shiftLeft_eq] at e
  exact e.symm

theorem or1 (a b : Nat) (ha : a < 256) (hb : b < 256) : bits .or .u32 ((a : Int) * 16777216) ((b : Int) * 65536) = ((a * 16777216 + b * 65536 : Nat) : Int) := by
  rw [show (a : Int) * 16777216 = ((a * 16777216 : Nat) : Int) from by simp, show (b : Int) * 65536 = ((b * 65536 : Nat) : Int) from by simp, u32_or_nat _ _ (by omega) (by omega)]
  congr 1
  exact or_add a (b * 65536) 24 (by omega)
theorem or2 (m c : Nat) (hm : m < 65536) (hc : c < 256) : bits .or .u32 ((m * 65536 : Nat) : Int) ((c : Int) * 256) = ((m * 65536 + c * 256 : Nat) : Int) := by
  rw [show (c : Int) * 256 = ((c * 256 : Nat) : Int) from by simp, u32_or_nat _ _ (by omega) (by omega)]
  congr 1
  exact or_add m (c * 256) 16 (by omega)
theorem or3 (m d : Nat) (hm : m < 16777216) (hd : d < 256) : bits .or .u32 ((m * 256 : Nat) : Int) (d : Int) = ((m * 256 + d : Nat) : Int) := by
  rw [u32_or_nat _ _ (by omega) (by omega)]
  congr 1
  exact or_add m d 8 (by omega)

theorem Has.drewN {w : World} {b : Nat} {L : List Value} {t : TypeId} (h : Has w b L t) (n : Nat) : Has (w.drewN n) b L t := h

/-- A slice's bytes. -/
def Bys (w : World) (b off : Nat) (B : List Nat) : Prop := ∀ i, i < B.length → w.cell? ⟨b, off + i, none⟩ = some (.int .u8 ((B.getD i 0 : Nat) : Int))

theorem Bys.below {w w' : World} {b off : Nat} {B : List Nat} {g : Nat} (h : Bys w b off B) (hb : Below g w w') (hlt : b < g) : Bys w' b off B :=
  fun i hi => (hb.cell (p := ⟨b, off + i, none⟩) hlt).trans (h i hi)

theorem rotl_7 (x : Nat) (w : World) (hx : x < 4294967296) : Calls Tryz.prog 89 #[.int .u32 (x : Int), .int .i64 (-7)] w fun e w' => e = .returned (.int .u32 (rotr x 7 : Int)) ∧ w = w' := rotl_any x 7 w hx (by omega) (by omega)
theorem rotl_18 (x : Nat) (w : World) (hx : x < 4294967296) : Calls Tryz.prog 89 #[.int .u32 (x : Int), .int .i64 (-18)] w fun e w' => e = .returned (.int .u32 (rotr x 18 : Int)) ∧ w = w' := rotl_any x 18 w hx (by omega) (by omega)
theorem rotl_17 (x : Nat) (w : World) (hx : x < 4294967296) : Calls Tryz.prog 89 #[.int .u32 (x : Int), .int .i64 (-17)] w fun e w' => e = .returned (.int .u32 (rotr x 17 : Int)) ∧ w = w' := rotl_any x 17 w hx (by omega) (by omega)
theorem rotl_19 (x : Nat) (w : World) (hx : x < 4294967296) : Calls Tryz.prog 89 #[.int .u32 (x : Int), .int .i64 (-19)] w fun e w' => e = .returned (.int .u32 (rotr x 19 : Int)) ∧ w = w' := rotl_any x 19 w hx (by omega) (by omega)

end Go.Proofs.YtgjckddcnmbceaaGreatDoor

namespace Go.Proofs.YtgjckddcnmbceaaGreatDoor
open Go.RowKit

theorem zeros64 : (#[.int .u32 0, .int .u32 0, .int .u32 0, .int .u32 0, .int .u32 0, .int .u32 0, .int .u32 0, .int .u32 0, .int .u32 0, .int .u32 0, .int .u32 0, .int .u32 0, .int .u32 0, .int .u32 0, .int .u32 0, .int .u32 0, .int .u32 0, .int .u32 0, .int .u32 0, .int .u32 0, .int .u32 0, .int .u32 0, .int .u32 0, .int .u32 0, .int .u32 0, .int .u32 0, .int .u32 0, .int .u32 0, .int .u32 0, .int .u32 0, .int .u32 0, .int .u32 0, .int .u32 0, .int .u32 0, .int .u32 0, .int .u32 0, .int .u32 0, .int .u32 0, .int .u32 0, .int .u32 0, .int .u32 0, .int .u32 0, .int .u32 0, .int .u32 0, .int .u32 0, .int .u32 0, .int .u32 0, .int .u32 0, .int .u32 0, .int .u32 0, .int .u32 0, .int .u32 0, .int .u32 0, .int .u32 0, .int .u32 0, .int .u32 0, .int .u32 0, .int .u32 0, .int .u32 0, .int .u32 0, .int .u32 0, .int .u32 0, .int .u32 0, .int .u32 0] : Array Value) = ((List.replicate 64 0).map wv).toArray := rfl

set_option maxRecDepth 100000 in
set_option maxHeartbeats 2000000 in
theorem sched_any (b off cap : Nat) (B : List Nat) (w : World) (hL : B.length = 64) (hB : ∀ x ∈ B, x < 256) (hc : 64 ≤ cap) (hb : Bys w b off B) (hlt : b < w.heap.size) :
    Calls Tryz.prog 84 #[.slice (some ⟨b, off, none⟩) 64 cap] w fun e w' => e = .returned (.agg ((sched B 64).map wv).toArray) ∧ Below w.heap.size w w' := by
  have HBY := Lib.hid hb
  clear hb
  go_enter Tryz.func84, Tryz.ntmps84
  go_wp2_with fail
  rw [zeros64]
  obtain ⟨w2, hw2⟩ : ∃ w2, w2 = w.alloc (.cells ((sched B 0).map wv).toArray 131) := ⟨_, rfl⟩
  have o2 : Has w2 w.heap.size ((sched B 0).map wv) 131 := by rw [hw2]; exact Has.new w _ _
  have s2 : w2.heap.size = w.heap.size + 1 := by rw [hw2]; simp
  have b2 : Below w.heap.size w w2 := by rw [hw2]; exact (Below.refl _ _).alloc (by omega) _
  rw [show w.alloc (.cells ((List.replicate 64 0).map wv).toArray 131) = w2 from hw2.symm]
  obtain ⟨w3, hw3⟩ : ∃ w3, w3 = w2.alloc (.cells ((sched B 0).map wv).toArray 131) := ⟨_, rfl⟩
  have o3 : Has w3 w.heap.size ((sched B 0).map wv) 131 := by rw [hw3]; exact o2.alloc _
  have f3 : Has w3 (w.heap.size + 1) ((sched B 0).map wv) 131 := by rw [hw3, ← s2]; exact Has.new w2 _ _
  have b3 : Below w.heap.size w w3 := by rw [hw3]; exact b2.alloc (by omega) _
  rw [show w2.alloc (.cells ((List.replicate 64 0).map wv).toArray 131) = w3 from hw3.symm]
  clear hw2 o2 s2 b2 hw3
  obtain ⟨G, hG⟩ : ∃ G, G = w.heap.size := ⟨_, rfl⟩
  rw [← hG] at o3 f3 b3 hlt ⊢
  have HG := Lib.hid hG
  clear hG
  go_loopw [10] (fun ii wr => ∃ k : Nat, k ≤ 64 ∧ ii = .int .i64 k ∧ Has wr G ((sched B 0).map wv) 131 ∧ Has wr (G + 1) ((sched B k).map wv) 131 ∧ Below G w wr) (fun ii _ => 64 - (intOf ii).toNat)
  case atStart => exact ⟨0, Nat.zero_le _, rfl, o3, f3, b3⟩
  case round =>
    clear o3 f3 b3
    obtain ⟨k, hk, rfl, ho, hf, hbel⟩ := hrel
    by_cases hk64 : k < 64
    · have hfl := sched_length B k
      have zf := hf.frozen k
      have ck := hf.cellAt (map_get wv (sched B k) k (by omega))
      have HS : Hid ((sched B k).set k (nextW B (sched B k) k) = sched B (k + 1)) := Lib.hid rfl
      have hkl : (k : Int) < 64 := by omega
      by_cases h16 : k < 16
      · have hk16 : (k : Int) < 16 := by omega
        have HN : Hid (nextW B (sched B k) k = word4 (B.getD (4 * k) 0) (B.getD (4 * k + 1) 0) (B.getD (4 * k + 2) 0) (B.getD (4 * k + 3) 0)) := Lib.hid (by unfold nextW; rw [if_pos h16])
        have hby := HBY.out.below hbel hlt
        have d0 := hby (4 * k) (by omega)
        have d1 := hby (4 * k + 1) (by omega)
        have d2 := hby (4 * k + 2) (by omega)
        have d3 := hby (4 * k + 3) (by omega)
        have x0 := getD_all hB (by omega) (4 * k)
        have x1 := getD_all hB (by omega) (4 * k + 1)
        have x2 := getD_all hB (by omega) (4 * k + 2)
        have x3 := getD_all hB (by omega) (4 * k + 3)
        generalize B.getD (4 * k) 0 = v0 at *
        generalize B.getD (4 * k + 1) 0 = v1 at *
        generalize B.getD (4 * k + 2) 0 = v2 at *
        generalize B.getD (4 * k + 3) 0 = v3 at *
        have O1 := or1 v0 v1 x0 x1
        have O2 := or2 (v0 * 256 + v1) v2 (by omega) x2
        have O3 := or3 (v0 * 65536 + v1 * 256 + v2) v3 (by omega) x3
        obtain ⟨y1, hy1⟩ : ∃ y1, y1 = v0 * 16777216 + v1 * 65536 := ⟨_, rfl⟩
        obtain ⟨y2, hy2⟩ : ∃ y2, y2 = y1 + v2 * 256 := ⟨_, rfl⟩
        rw [← hy1] at O1
        rw [show (v0 * 256 + v1) * 65536 = y1 from by omega, ← hy2] at O2
        rw [show (v0 * 65536 + v1 * 256 + v2) * 256 = y2 from by omega] at O3
        rw [show y2 + v3 = word4 v0 v1 v2 v3 from by unfold word4; omega] at O3
        rw [show off + (4 * k + 1) = off + 4 * k + 1 from by omega] at d1
        rw [show off + (4 * k + 2) = off + 4 * k + 2 from by omega] at d2
        rw [show off + (4 * k + 3) = off + 4 * k + 3 from by omega] at d3
        clear hby hy1 hy2
        go_wp2_with fail
        go_region
        all_goals
          go_wp2_with fail
          go_roundw
          case rel =>
            refine ⟨k + 1, by omega, by go_num, (ho.setOther (a := ⟨G + 1, k, none⟩) (by show G ≠ G + 1; omega) _).drew, ?_, (hbel.setCell (p := ⟨G + 1, k, none⟩) (by show G ≤ G + 1; omega) _).drew⟩
            rw [← HS.out, HN.out, List.map_set]
            exact hf.set _ _
          case measure => simp [intOf]; omega
      · have hk16 : ¬ (k : Int) < 16 := by omega
        have HN : Hid (nextW B (sched B k) k = ((sched B k).getD (k - 16) 0 + small ((sched B k).getD (k - 15) 0) + (sched B k).getD (k - 7) 0 + great ((sched B k).getD (k - 2) 0)) % 4294967296) := Lib.hid (by unfold nextW; rw [if_neg h16])
        have d0 := hf.cellAt (map_get wv (sched B k) (k - 16) (by omega))
        have d1 := hf.cellAt (map_get wv (sched B k) (k - 15) (by omega))
        have d2 := hf.cellAt (map_get wv (sched B k) (k - 7) (by omega))
        have d3 := hf.cellAt (map_get wv (sched B k) (k - 2) (by omega))
        have hlts := sched_lt B hB k
        have x0 := getD_all hlts (by omega) (k - 16)
        have x1 := getD_all hlts (by omega) (k - 15)
        have x2 := getD_all hlts (by omega) (k - 7)
        have x3 := getD_all hlts (by omega) (k - 2)
        generalize (sched B k).getD (k - 16) 0 = v0 at *
        generalize (sched B k).getD (k - 15) 0 = v1 at *
        generalize (sched B k).getD (k - 7) 0 = v2 at *
        generalize (sched B k).getD (k - 2) 0 = v3 at *
        simp only [wv] at d0 d1 d2 d3
        have P1 : bits .xor .u32 (rotr v1 7 : Int) (rotr v1 18 : Int) = ((rotr v1 7 ^^^ rotr v1 18 : Nat) : Int) := u32_xor_nat _ _ (rotr_lt _ _ x1) (rotr_lt _ _ x1)
        have P2 : bits .xor .u32 ((rotr v1 7 ^^^ rotr v1 18 : Nat) : Int) ((v1 : Int) / 8) = (small v1 : Int) := by
          rw [show (v1 : Int) / 8 = ((v1 / 8 : Nat) : Int) from by simp, u32_xor_nat _ _ (xor_lt _ _ (rotr_lt _ _ x1) (rotr_lt _ _ x1)) (by omega)]; rfl
        have P3 : bits .xor .u32 (rotr v3 17 : Int) (rotr v3 19 : Int) = ((rotr v3 17 ^^^ rotr v3 19 : Nat) : Int) := u32_xor_nat _ _ (rotr_lt _ _ x3) (rotr_lt _ _ x3)
        have P4 : bits .xor .u32 ((rotr v3 17 ^^^ rotr v3 19 : Nat) : Int) ((v3 : Int) / 1024) = (great v3 : Int) := by
          rw [show (v3 : Int) / 1024 = ((v3 / 1024 : Nat) : Int) from by simp, u32_xor_nat _ _ (xor_lt _ _ (rotr_lt _ _ x3) (rotr_lt _ _ x3)) (by omega)]; rfl
        have s1 := small_lt x1
        have s3 := great_lt x3
        clear hlts
        go_wp2_with fail
        go_quiet (fail)
        go_wp2_with fail
        refine (rotl_7 v1 _ x1).mono ?_
        rintro e w' ⟨rfl, rfl⟩
        go_wp2_with fail
        refine (rotl_18 v1 _ x1).mono ?_
        rintro e w' ⟨rfl, rfl⟩
        go_wp2_with fail
        refine (rotl_17 v3 _ x3).mono ?_
        rintro e w' ⟨rfl, rfl⟩
        go_wp2_with fail
        refine (rotl_19 v3 _ x3).mono ?_
        rintro e w' ⟨rfl, rfl⟩
        go_wp2_with fail
        obtain ⟨z1, hz1⟩ : ∃ z1, z1 = (v0 + small v1) % 4294967296 := ⟨_, rfl⟩
        obtain ⟨z2, hz2⟩ : ∃ z2, z2 = (z1 + v2) % 4294967296 := ⟨_, rfl⟩
        obtain ⟨z3, hz3⟩ : ∃ z3, z3 = (z2 + great v3) % 4294967296 := ⟨_, rfl⟩
        have Z1 : IntKind.u32.wrap ((v0 : Int) + (small v1 : Int)) = (z1 : Int) := by
          simp [IntKind.wrap, IntKind.bits, IntKind.signed]; omega
        have Z2 : IntKind.u32.wrap ((z1 : Int) + (v2 : Int)) = (z2 : Int) := by
          simp [IntKind.wrap, IntKind.bits, IntKind.signed]; omega
        have Z3 : IntKind.u32.wrap ((z2 : Int) + (great v3 : Int)) = (z3 : Int) := by
          simp [IntKind.wrap, IntKind.bits, IntKind.signed]; omega
        have HZ : Hid (nextW B (sched B k) k = z3) := Lib.hid (by rw [HN.out]; omega)
        clear hz1 hz2 hz3 P1 P2 P3 P4 HN
        go_wp2_with fail
        go_region
        all_goals
          go_wp2_with fail
          go_roundw
          case rel =>
            refine ⟨k + 1, by omega, by go_num, ?_, ?_, ?_⟩
            · exact (ho.drewN _).setOther (a := ⟨G + 1, k, none⟩) (by show G ≠ G + 1; omega) _
            · rw [← HS.out, HZ.out, List.map_set]
              exact (hf.drewN _).set _ _
            · exact (below_drewN hbel _).setCell (p := ⟨G + 1, k, none⟩) (by show G ≤ G + 1; omega) _
          case measure => simp [intOf]; omega
    · obtain rfl : k = 64 := by omega
      have hi : (Tryz.prog.info? 131).map (·.size) = some 64 := by kernel_rfl
      have e1 : some 64 = some ((sched B 64).map wv).toArray.size := by simp [sched_length]
      have e2 : ((sched B 0).map wv).toArray.size = ((sched B 64).map wv).toArray.size := by simp [sched_length]
      have e3 : ((sched B 64).map wv).toArray.all (·.oneCell') = true := by simp [wv, Value.oneCell']
      have HI := Lib.hid (hi.trans e1)
      have E2 := Lib.hid e2
      have E3 := Lib.hid e3
      have hf2 : wr.heap[G + 1]? = some (.cells ((sched B 64).map wv).toArray 131 (0, 0)) := hf
      have ho2 : wr.heap[G]? = some (.cells ((sched B 0).map wv).toArray 131 (0, 0)) := ho
      have HF := Lib.hid hf2
      have HO := Lib.hid ho2
      clear hi e1 e2 e3 hf ho hf2 ho2
      obtain ⟨R, hR⟩ : ∃ R, R = ((sched B 64).map wv).toArray := ⟨_, rfl⟩
      rw [← hR] at HI E2 E3 HF
      have HR := Lib.hid hR
      clear hR
      generalize ((sched B 0).map wv).toArray = Z at *
      go_wp2_with (first
        | (refine wpList_load_row rfl 131 _ rfl (G + 1) rfl 131 R (0, 0) _ HF.out Tryz.underlying131 rfl HI.out ?_)
        | (refine wpList_store_row rfl 131 _ _ rfl G R rfl rfl 131 _ HO.out HI.out E2.out E3.out ?_))
      have hres : ∀ tmps : Array Value, tmps.getD 2 undef = .pointer (some ⟨G, 0, none⟩) → (results Tryz.f84 tmps).run Tryz.prog (wr.setRow G R) = .ok (.agg R) (wr.setRow G R) :=
        fun tmps hp => results_cell_row (fn := Tryz.f84) (p := 2) (ty := 131) Tryz.results84 tmps _ G 131 R (0, 0) _ hp (setRow_heap _ _ _ _ _ _ HO.out) Tryz.underlying131 rfl HI.out
      refine bodyPost_ret (hres _ rfl) rfl ?_
      exact ⟨by rw [HR.out], by rw [← HG.out]; exact below_setRow hbel (by omega) _⟩

end Go.Proofs.YtgjckddcnmbceaaGreatDoor

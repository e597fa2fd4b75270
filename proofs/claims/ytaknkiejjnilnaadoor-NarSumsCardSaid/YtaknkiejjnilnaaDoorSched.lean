/-
  The contract of schedule. Condition: a block of 64 bytes.
-/
import Derived.Test.YtaknkiejjnilnaaDoorGB
import Derived.Test.YtaknkiejjnilnaaDoorGA
namespace Go.Proofs.YtaknkiejjnilnaaDoor
open Go.RowKit

def small (a : Nat) : Nat := (rotr a 7 ^^^ rotr a 18) ^^^ a / 8
def great (b : Nat) : Nat := (rotr b 17 ^^^ rotr b 19) ^^^ b / 1024
def word4 (a b c d : Nat) : Nat := a * 16777216 + b * 65536 + c * 256 + d
def nextW (B l : List Nat) (i : Nat) : Nat :=
  if i < 16 then word4 (B.getD (4 * i) 0) (B.getD (4 * i + 1) 0) (B.getD (4 * i + 2) 0) (B.getD (4 * i + 3) 0)
  else (l.getD (i - 16) 0 + small (l.getD (i - 15) 0) + l.getD (i - 7) 0 + great (l.getD (i - 2) 0)) % 4294967296
def sched (B : List Nat) : Nat → List Nat
  | 0 => List.replicate 64 0
  | k + 1 => (sched B k).set k (nextW B (sched B k) k)

theorem sched_length (B : List Nat) : ∀ k, (sched B k).length = 64
  | 0 => by simp [sched]
  | k + 1 => by simp [sched, sched_length B k]

theorem small_lt {a : Nat} (h : a < 4294967296) : small a < 4294967296 := xor_lt _ _ (xor_lt _ _ (rotr_lt _ _ h) (rotr_lt _ _ h)) (by omega)
theorem great_lt {a : Nat} (h : a < 4294967296) : great a < 4294967296 := xor_lt _ _ (xor_lt _ _ (rotr_lt _ _ h) (rotr_lt _ _ h)) (by omega)
theorem word4_lt {a b c d : Nat} (ha : a < 256) (hb : b < 256) (hc : c < 256) (hd : d < 256) : word4 a b c d < 4294967296 := by unfold word4; omega

theorem nextW_lt (B l : List Nat) (i : Nat) (hB : ∀ x ∈ B, x < 256) : nextW B l i < 4294967296 := by
  unfold nextW
  split
  · exact word4_lt (getD_all hB (by omega) _) (getD_all hB (by omega) _) (getD_all hB (by omega) _) (getD_all hB (by omega) _)
  · exact Nat.mod_lt _ (by omega)

theorem sched_lt (B : List Nat) (hB : ∀ x ∈ B, x < 256) : ∀ k, ∀ x ∈ sched B k, x < 4294967296
  | 0 => by intro x hx; simp [sched] at hx; omega
  | k + 1 => by
    intro x hx
    rcases List.mem_or_eq_of_mem_set hx with h | h
    · exact sched_lt B hB k x h
    · rw [h]; exact nextW_lt _ _ _ hB

theorem or_add (a b k : Nat) (hb : b < 2 ^ k) : (a * 2 ^ k) ||| b = a * 2 ^ k + b := by
  have e := Nat.shiftLeft_add_eq_or_of_lt hb a
  rw [Nat.shiftLeft_eq] at e
  exact e.symm

theorem or1 (a b : Nat) (ha : a < 256) (hb : b < 256) : bits .or .u32 ((a : Int) * 16777216) ((b : Int) * 65536) = ((a * 16777216 + b * 65536 : Nat) : Int) := by
  rw [show (a : Int) * 16777216 = ((a * 16777216 : Nat) : Int) from by simp, show (b : Int) * 65536 = ((b * 65536 : Nat) : Int) from by simp, u32_or_nat _ _ (by omega) (by omega)]
  congr 1
  exact or_add a (b * 65536) 24 (by omega)
theorem or2 (m c : Nat) (hm : m < 65536) (hc : c < 256) : bits .or .u32 ((m * 65536 : Nat) : Int) ((c : Int) * 256) = ((m * 65536 + c * 256 : Nat) : Int) := by
  rw [show (c : Int) * 256 = ((c * 256 : Nat) : Int) from by simp, u32_or_nat _ _ (by omega) (by omega)]
  congr 1
  exact or_add m (c * 256) 16 (by omega)
theorem or3 (m d : Nat) (hm : m < 16777216) (hd : d < 256) : bits .or .u32 ((m * 256 : Nat) : Int) (d : Int) = ((m * 256 + d : Nat) : Int) := by
  rw [u32_or_nat _ _ (by omega) (by omega)]
  congr 1
  exact or_add m d 8 (by omega)

theorem Has.drewN {w : World} {b : Nat} {L : List Value} {t : TypeId} (h : Has w b L t) (n : Nat) : Has (w.drewN n) b L t := h

/-- A slice's bytes. -/
def Bys (w : World) (b off : Nat) (B : List Nat) : Prop := ∀ i, i < B.length → w.cell? ⟨b, off + i, none⟩ = some (.int .u8 ((B.getD i 0 : Nat) : Int))

theorem Bys.below {w w' : World} {b off : Nat} {B : List Nat} {g : Nat} (h : Bys w b off B) (hb : Below g w w') (hlt : b < g) : Bys w' b off B :=
  fun i hi => (hb.cell (p := ⟨b, off + i, none⟩) hlt).trans (h i hi)

theorem rotl_7 (x : Nat) (w : World) (hx : x < 4294967296) : Calls Tryd.prog 42 #[.int .u32 (x : Int), .int .i64 (-7)] w fun e w' => e = .returned (.int .u32 (rotr x 7 : Int)) ∧ w = w' := rotl_any x 7 w hx (by omega) (by omega)
theorem rotl_18 (x : Nat) (w : World) (hx : x < 4294967296) : Calls Tryd.prog 42 #[.int .u32 (x : Int), .int .i64 (-18)] w fun e w' => e = .returned (.int .u32 (rotr x 18 : Int)) ∧ w = w' := rotl_any x 18 w hx (by omega) (by omega)
theorem rotl_17 (x : Nat) (w : World) (hx : x < 4294967296) : Calls Tryd.prog 42 #[.int .u32 (x : Int), .int .i64 (-17)] w fun e w' => e = .returned (.int .u32 (rotr x 17 : Int)) ∧ w = w' := rotl_any x 17 w hx (by omega) (by omega)
theorem rotl_19 (x : Nat) (w : World) (hx : x < 4294967296) : Calls Tryd.prog 42 #[.int .u32 (x : Int), .int .i64 (-19)] w fun e w' => e = .returned (.int .u32 (rotr x 19 : Int)) ∧ w = w' := rotl_any x 19 w hx (by omega) (by omega)

end Go.Proofs.YtaknkiejjnilnaaDoor

/-
  The contracts of New and Sum.
-/
import Derived.Test.YthomkagbcoaipaaDoorEnding
import Derived.Test.YthomkagbcoaipaaDoorMixWalk
import Derived.Lib.LaidTab
namespace Go.Proofs.YthomkagbcoaipaaDoor
open Go.RowKit

def startL : List Nat := [0x6a09e667, 0xbb67ae85, 0x3c6ef372, 0xa54ff53a, 0x510e527f, 0x9b05688c, 0x1f83d9ab, 0x5be0cd19]

/-- A new hasher's row. -/
def newRow : List Value := [.int .u32 0, .int .i32 0, .int .u32 0] ++ ((List.replicate 64 0).map wv ++ (startL.map wv ++ ((List.replicate 64 0).map byv ++ [.int .u64 0])))

theorem newRow_holds : Holds newRow startL (List.replicate 64 0) 0 := by
  refine ⟨⟨by simp [newRow, startL], rfl, .inl rfl⟩, ?_, ?_, rfl, rfl, by decide, by decide, by decide, by omega⟩
  · intro j hj
    match j, hj with
    | 0, _ | 1, _ | 2, _ | 3, _ | 4, _ | 5, _ | 6, _ | 7, _ => rfl
  · intro i hi
    have : ∀ i, i < 64 → newRow[75 + i]? = some (byv ((List.replicate 64 0).getD i 0)) := by
      intro i hi
      unfold newRow
      rw [List.getElem?_append_right (by simp; omega), List.getElem?_append_right (by simp; omega), List.getElem?_append_right (by simp [startL]; omega), List.getElem?_append_left (by simp [startL]; omega)]
      have e : 75 + i - ([.int .u32 0, .int .i32 0, .int .u32 0] : List Value).length - ((List.replicate 64 0).map wv).length - (startL.map wv).length = i := by simp [startL]; omega
      rw [e]
      exact map_get byv _ i (by simpa using hi)
    exact this i hi

/-- What the program's text has laid: the first state, the primes. -/
structure LaidW (w : World) : Prop where
  start : ∃ t fr, w.heap[0]? = some (.cells (startL.map wv).toArray t fr)
  primes : ∀ i, i < 64 → w.cell? ⟨2, i, none⟩ = some (.int .u64 ((primesL.getD i 0 : Nat) : Int))
  two : 2 < w.heap.size

set_option maxRecDepth 100000 in
set_option maxHeartbeats 2000000 in
theorem new_any (w : World) (hl : LaidW w) :
    Calls Tryd.prog 25 #[] w fun e w' => e = .returned (.pointer (some ⟨w.heap.size, 0, none⟩)) ∧ w' = w.alloc (.cells newRow.toArray 85) := by
  have hi : (Tryd.prog.info? 59).map (·.size) = some (startL.map wv).toArray.size := by kernel_rfl
  have hb : Tryd.prog.built 85 [(2, .agg (startL.map wv).toArray)] = some newRow.toArray := by kernel_rfl
  have HI := Lib.hid hi
  obtain ⟨ts, fr, hst⟩ := hl.start
  have HS := Lib.hid hst
  clear hst
  have HB := Lib.hid hb
  clear hi hb
  go_enter Tryd.func25, Tryd.ntmps25
  go_wp2_with (first
    | (refine wpList_load_row rfl 59 _ rfl 0 rfl ts (startL.map wv).toArray fr _ HS.out Tryd.underlying59 rfl HI.out ?_)
    | (refine wpList_build rfl 85 _ rfl ?b1 ?b2))
  case b1 => rw [HB.out]; rfl
  simp only [HB.out, Option.getD]
  go_ret
  exact ⟨rfl, rfl⟩

theorem Holds.rowD {L : List Value} {S T : List Nat} {N : Nat} (h : Holds L S T N) : Holds (rowD L) S T N :=
  ⟨rowD_ready h.ready, fun j hj => (rowD_get L h.ready.1 _ (by omega)).trans (h.state j hj), fun i hi => (rowD_get L h.ready.1 _ (by omega)).trans (h.tail i hi),
    (rowD_get L h.ready.1 _ (by omega)).trans h.num, h.sl, h.ss, h.tl, h.ts, h.nl⟩

theorem rowD_twice {L : List Value} (h : Ready L) : Go.Proofs.YthomkagbcoaipaaDoor.rowD (Go.Proofs.YthomkagbcoaipaaDoor.rowD L) = Go.Proofs.YthomkagbcoaipaaDoor.rowD L := by
  obtain ⟨_, _, h0 | ⟨_, he⟩⟩ := rowD_ready h
  · exfalso
    have hr : (rowW L 64).length = 140 := rowW_length L 64 (by omega) h.1
    unfold Go.Proofs.YthomkagbcoaipaaDoor.rowD at h0
    simp [hr] at h0
  · exact he

/-- The state behind k blocks of a row of bytes. -/
def stAt (S E : List Nat) : Nat → List Nat
  | 0 => S
  | k + 1 => mixL (stAt S E k) ((E.drop (64 * k)).take 64)

theorem stAt_length (S E : List Nat) (h : S.length = 8) : ∀ k, (stAt S E k).length = 8
  | 0 => h
  | _ + 1 => rfl
theorem stAt_lt (S E : List Nat) (h : ∀ x ∈ S, x < 4294967296) : ∀ k, ∀ x ∈ stAt S E k, x < 4294967296
  | 0 => h
  | _ + 1 => mixL_lt _ _

/-- The digest. -/
def sumL (S T : List Nat) (N : Nat) : List Nat := bytesL (stAt S (endL T N 8) (endN (N % 64) / 64)) 32

theorem endL_lt (T : List Nat) (N : Nat) (hT : ∀ x ∈ T, x < 256) : ∀ i, ∀ x ∈ endL T N i, x < 256
  | 0 => by
    intro x hx
    rcases List.mem_or_eq_of_mem_set hx with h | h
    · unfold end0 at h
      rcases List.mem_append.1 h with h | h
      · exact hT x (List.mem_of_mem_take h)
      · rw [(List.mem_replicate.1 h).2]; omega
    · omega
  | i + 1 => by
    intro x hx
    rcases List.mem_or_eq_of_mem_set hx with h | h
    · exact endL_lt T N hT i x h
    · rw [h]; exact Nat.mod_lt _ (by omega)

end Go.Proofs.YthomkagbcoaipaaDoor

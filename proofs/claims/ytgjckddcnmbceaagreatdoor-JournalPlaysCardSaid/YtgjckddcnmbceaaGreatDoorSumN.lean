/-
  The contracts of New and Sum.
-/
import Derived.Test.YtgjckddcnmbceaaGreatDoorEndN
import Derived.Test.YtgjckddcnmbceaaGreatDoorMixN
import Derived.Lib.LaidTab
import Derived.StillTailTactics
import Derived.Deep.RegionHeld3
import Derived.Deep.MidRow
import Derived.IntWalk
import Derived.Deep.WholeRow
namespace Go.Proofs.YtgjckddcnmbceaaGreatDoor
open Go.RowKit

def startL : List Nat := [0x6a09e667, 0xbb67ae85, 0x3c6ef372, 0xa54ff53a, 0x510e527f, 0x9b05688c, 0x1f83d9ab, 0x5be0cd19]

/-- A new hasher's row. -/
def newRow : List Value := [.int .u32 0, .int .i32 0, .int .u32 0] ++ ((List.replicate 64 0).map wv ++ (startL.map wv ++ ((List.replicate 64 0).map byv ++ [.int .u64 0])))

theorem newRow_holds : Holds newRow startL (List.replicate 64 0) 0 := by
  refine ⟨⟨by simp [newRow, startL], rfl, .inl rfl⟩, ?_, ?_, rfl, rfl, by decide, by decide, by decide, by omega⟩
  · intro j hj
    match j, hj with
    | 0, _ | 1, _ | 2, _ | 3, _ | 4, _ | 5, _ | 6, _ | 7, _ => rfl
  · intro i hi
    have : ∀ i, i < 64 → newRow[75 + i]? = some (byv ((List.replicate 64 0).getD i 0)) := by
      intro i hi
      unfold newRow
      rw [List.getElem?_append_right (by simp; omega), List.getElem?_append_right (by simp; omega), List.getElem?_append_right (by simp [startL]; omega), List.getElem?_append_left (by simp [startL]; omega)]
      have e : 75 + i - ([.int .u32 0, .int .i32 0, .int .u32 0] : List Value).length - ((List.replicate 64 0).map wv).length - (startL.map wv).length = i := by simp [startL]; omega
      rw [e]
      exact map_get byv _ i (by simpa using hi)
    exact this i hi

/-- What the program's text has laid: the first state, the primes. -/
structure LaidW (w : World) : Prop where
  start : ∃ t fr, w.heap[0]? = some (.cells (startL.map wv).toArray t fr)
  primes : ∀ i, i < 64 → w.cell? ⟨3, i, none⟩ = some (.int .u64 ((primesL.getD i 0 : Nat) : Int))
  two : 3 < w.heap.size

set_option maxRecDepth 100000 in
set_option maxHeartbeats 2000000 in
theorem hnew_any (w : World) (hl : LaidW w) :
    Calls Tryz.prog 68 #[] w fun e w' => e = .returned (.pointer (some ⟨w.heap.size, 0, none⟩)) ∧ w' = w.alloc (.cells newRow.toArray 134) := by
  have hi : (Tryz.prog.info? 121).map (·.size) = some (startL.map wv).toArray.size := by kernel_rfl
  have hb : Tryz.prog.built 134 [(2, .agg (startL.map wv).toArray)] = some newRow.toArray := by kernel_rfl
  have HI := Lib.hid hi
  obtain ⟨ts, fr, hst⟩ := hl.start
  have HS := Lib.hid hst
  clear hst
  have HB := Lib.hid hb
  clear hi hb
  go_enter Tryz.func68, Tryz.ntmps68
  go_wp2_with (first
    | (refine wpList_load_row rfl 121 _ rfl 0 rfl ts (startL.map wv).toArray fr _ HS.out Tryz.underlying121 rfl HI.out ?_)
    | (refine wpList_build rfl 134 _ rfl ?b1 ?b2))
  case b1 => rw [HB.out]; rfl
  simp only [HB.out, Option.getD]
  go_ret
  exact ⟨rfl, rfl⟩

theorem Holds.rowD {L : List Value} {S T : List Nat} {N : Nat} (h : Holds L S T N) : Holds (rowD L) S T N :=
  ⟨rowD_ready h.ready, fun j hj => (rowD_get L h.ready.1 _ (by omega)).trans (h.state j hj), fun i hi => (rowD_get L h.ready.1 _ (by omega)).trans (h.tail i hi),
    (rowD_get L h.ready.1 _ (by omega)).trans h.num, h.sl, h.ss, h.tl, h.ts, h.nl⟩

theorem rowD_twice {L : List Value} (h : Ready L) : Go.Proofs.YtgjckddcnmbceaaGreatDoor.rowD (Go.Proofs.YtgjckddcnmbceaaGreatDoor.rowD L) = Go.Proofs.YtgjckddcnmbceaaGreatDoor.rowD L := by
  obtain ⟨_, _, h0 | ⟨_, he⟩⟩ := rowD_ready h
  · exfalso
    have hr : (rowW L 64).length = 140 := rowW_length L 64 (by omega) h.1
    unfold Go.Proofs.YtgjckddcnmbceaaGreatDoor.rowD at h0
    simp [hr] at h0
  · exact he

/-- The state behind k blocks of a row of bytes. -/
def stAt (S E : List Nat) : Nat → List Nat
  | 0 => S
  | k + 1 => mixL (stAt S E k) ((E.drop (64 * k)).take 64)

theorem stAt_length (S E : List Nat) (h : S.length = 8) : ∀ k, (stAt S E k).length = 8
  | 0 => h
  | _ + 1 => rfl
theorem stAt_lt (S E : List Nat) (h : ∀ x ∈ S, x < 4294967296) : ∀ k, ∀ x ∈ stAt S E k, x < 4294967296
  | 0 => h
  | _ + 1 => mixL_lt _ _

/-- The digest. -/
def sumL (S T : List Nat) (N : Nat) : List Nat := bytesL (stAt S (endL T N 8) (endN (N % 64) / 64)) 32

theorem endL_lt (T : List Nat) (N : Nat) (hT : ∀ x ∈ T, x < 256) : ∀ i, ∀ x ∈ endL T N i, x < 256
  | 0 => by
    intro x hx
    rcases List.mem_or_eq_of_mem_set hx with h | h
    · unfold end0 at h
      rcases List.mem_append.1 h with h | h
      · exact hT x (List.mem_of_mem_take h)
      · rw [(List.mem_replicate.1 h).2]; omega
    · omega
  | i + 1 => by
    intro x hx
    rcases List.mem_or_eq_of_mem_set hx with h | h
    · exact endL_lt T N hT i x h
    · rw [h]; exact Nat.mod_lt _ (by omega)

end Go.Proofs.YtgjckddcnmbceaaGreatDoor

namespace Go.Proofs.YtgjckddcnmbceaaGreatDoor
open Go.RowKit

set_option maxRecDepth 100000 in
set_option maxHeartbeats 4000000 in
theorem sum_any (h : Nat) (L : List Value) (S T : List Nat) (N : Nat) (w : World) (hh : Has w h L 134) (hH : Holds L S T N) (hl : LaidW w) (h1 : 3 < h) :
    Calls Tryz.prog 71 #[.pointer (some ⟨h, 0, none⟩)] w fun e w' => e = .returned (.agg ((sumL S T N).map byv).toArray) ∧ Has w' h (Go.Proofs.YtgjckddcnmbceaaGreatDoor.rowD L) 134 ∧ But w.heap.size h w w' := by
  have hlth := hh.lt
  have HH := Lib.hid hh
  have HHo := Lib.hid hH
  have HL := Lib.hid hl
  have hi8 : (Tryz.prog.info? 121).map (·.size) = some (S.map wv).length := by rw [List.length_map, hH.sl]; kernel_rfl
  have HI8 := Lib.hid hi8
  clear hh hH hl hi8
  go_enter Tryz.func71, Tryz.ntmps71
  have hz := zero128
  have hra : ∀ w' : World, Has w' h L 134 → w'.rangeAt h 67 (S.map wv) := by
    intro w' hw j v hj
    have hj8 : j < 8 := by have := (List.getElem?_eq_some_iff.1 hj).1; rw [List.length_map, HHo.out.sl] at this; exact this
    rw [hw.cellAt (HHo.out.state j hj8), ← hj, map_get wv S j (by rw [HHo.out.sl]; exact hj8)]
  have HRA := Lib.hid hra
  clear hra
  go_upto_region 3 with fail
  rw [zeros32]
  obtain ⟨w2, hw2⟩ : ∃ w2, w2 = w.alloc (.cells ((List.replicate 32 0).map byv).toArray 112) := ⟨_, rfl⟩
  have o2 : Has w2 w.heap.size ((List.replicate 32 0).map byv) 112 := by rw [hw2]; exact Has.new w _ _
  have s2 : w2.heap.size = w.heap.size + 1 := by rw [hw2]; simp
  have b2 : Below w.heap.size w w2 := by rw [hw2]; exact (Below.refl _ _).alloc (by omega) _
  rw [← hw2]
  have hh2 := HH.out.below b2 hlth
  clear hw2
  obtain ⟨G, hG⟩ : ∃ G, G = w.heap.size := ⟨_, rfl⟩
  rw [← hG] at o2 s2 b2 hlth ⊢
  have HG := Lib.hid hG
  have e2 : (((List.replicate 8 0).map wv).toArray : Array Value).size = (S.map wv).toArray.size := by simp [HHo.out.sl]
  have e3 : (S.map wv).toArray.all (·.oneCell') = true := by simp [wv, Value.oneCell']
  have e4 : (Tryz.prog.info? 121).map (·.size) = some (S.map wv).toArray.size := by rw [List.size_toArray]; exact HI8.out
  have hnew : ∀ o, (w2.alloc o).heap[G + 1]? = some o := fun o => by rw [← s2]; exact heap_alloc_last _ _
  have HNEW := Lib.hid hnew
  clear hnew
  have E2 := Lib.hid e2
  have E3 := Lib.hid e3
  have E4 := Lib.hid e4
  have H2 := Lib.hid hh2
  clear hG e2 e3 e4 hh2
  go_wp2_with (first
    | (refine wpList_load_mid rfl 121 _ rfl h 67 rfl (S.map wv) _ (HRA.out _ H2.out) Tryz.underlying121 rfl HI8.out ?_)
    | (refine wpList_store_row rfl 121 _ _ rfl (G + 1) (S.map wv).toArray rfl rfl 121 _ (HNEW.out _) E4.out E2.out E3.out ?_))
  obtain ⟨w3, hw3⟩ : ∃ w3, w3 = (w2.alloc (.cells ((List.replicate 8 0).map wv).toArray 121)).setRow (G + 1) (S.map wv).toArray := ⟨_, rfl⟩
  have hw4 : w3 = w2.alloc (.cells (S.map wv).toArray 121) := by rw [hw3, ← s2]; exact World.setRow_alloc_new w2 _ _ _
  have a3 : Has w3 (G + 1) (S.map wv) 121 := by rw [hw4, ← s2]; exact Has.new w2 _ _
  have o3 : Has w3 G ((List.replicate 32 0).map byv) 112 := by rw [hw4]; exact o2.alloc _
  have h3 : Has w3 h L 134 := by rw [hw4]; exact H2.out.alloc _
  have b3 : Below G w w3 := by rw [hw4]; exact b2.alloc (by omega) _
  have s3 : w3.heap.size = G + 2 := by rw [hw4]; simp [s2]
  rw [show (w2.alloc (.cells #[.int .u32 0, .int .u32 0, .int .u32 0, .int .u32 0, .int .u32 0, .int .u32 0, .int .u32 0, .int .u32 0] 121)).setRow (G + 1) (S.map wv).toArray = w3 from by rw [hw3]; rfl]
  clear hw3 hw4 o2 b2 s2 E2 E3 E4 H2 HNEW HI8
  refine (ending_any h L S T N w3 h3 HHo.out).mono ?_
  rintro e w4 ⟨rfl, hb4⟩
  have s4 := hb4.size
  have a4 := a3.below hb4 (by omega)
  have o4 := o3.below hb4 (by omega)
  have h4 := h3.below hb4 (by omega)
  have b4 : Below G w w4 := b3.trans (hb4.mono (by omega))
  obtain ⟨E, hE⟩ : ∃ E, E = endL T N 8 := ⟨_, rfl⟩
  obtain ⟨n, hn⟩ : ∃ n, n = endN (N % 64) := ⟨_, rfl⟩
  have hEl : E.length = 128 := by rw [hE]; exact endL_length T N HHo.out.tl 8
  have hEt : ∀ x ∈ E, x < 256 := by rw [hE]; exact endL_lt T N HHo.out.ts 8
  rw [← hE, ← hn]
  have e4 : (Tryz.prog.info? 136).map (·.size) = some (E.map byv).toArray.size := by rw [List.size_toArray, List.length_map, hEl]; kernel_rfl
  have e2 : (zeros128.map byv).toArray.size = (E.map byv).toArray.size := by rw [List.size_toArray, List.length_map, List.size_toArray, List.length_map, hEl]; rfl
  have e3 : (E.map byv).toArray.all (·.oneCell') = true := by
    refine all_oneCell_toArray ?_
    intro v hv
    obtain ⟨x, _, rfl⟩ := List.mem_map.1 hv
    rfl
  have E4 := Lib.hid e4
  have E2 := Lib.hid e2
  have E3 := Lib.hid e3
  have HE := Lib.hid hE
  have HN := Lib.hid hn
  have hn1 : 64 ≤ n := by rw [hn]; unfold endN; split <;> omega
  have hn2 : n = 64 ∨ n = 128 := by rw [hn]; unfold endN; split <;> omega
  obtain ⟨R, hR⟩ : ∃ R, R = (E.map byv).toArray := ⟨_, rfl⟩
  rw [← hR] at E4 E2 E3 ⊢
  have HR := Lib.hid hR
  clear e4 e2 e3 hE hn hR a3 o3 h3 b3 hb4
  go_upto_block 0 with (refine wpList_store_row rfl 136 _ _ rfl w4.heap.size R rfl rfl 136 _ (heap_alloc_last _ _) E4.out E2.out E3.out ?_)
  obtain ⟨w5, hw5⟩ : ∃ w5, w5 = (w4.alloc (.cells (zeros128.map byv).toArray 136)).setRow w4.heap.size R := ⟨_, rfl⟩
  have hw6 : w5 = w4.alloc (.cells R 136) := by rw [hw5]; exact World.setRow_alloc_new w4 _ _ _
  have a5 : Has w5 (G + 1) (S.map wv) 121 := by rw [hw6]; exact a4.alloc _
  have o5 : Has w5 G ((List.replicate 32 0).map byv) 112 := by rw [hw6]; exact o4.alloc _
  have h5 : Has w5 h L 134 := by rw [hw6]; exact h4.alloc _
  have p5 : Has w5 w4.heap.size (E.map byv) 136 := by rw [hw6, HR.out]; exact Has.new w4 _ _
  have b5 : Below G w w5 := by rw [hw6]; exact b4.alloc (by omega) _
  rw [← hw5]
  have hP : G + 1 < w4.heap.size := by omega
  generalize w4.heap.size = P at *
  obtain ⟨m, hm⟩ : ∃ m, n = 64 * m := by
    rcases hn2 with h' | h'
    · exact ⟨1, h'⟩
    · exact ⟨2, h'⟩
  have hm1 : 1 ≤ m := by omega
  have hm2 : m ≤ 2 := by omega
  have HM := Lib.hid hm
  have BB5 : But G h w w5 := But.of_below b5
  clear hw5 hw6 a4 o4 h4 b4 s4 s3 b5 E4 E2 E3 HR HRA hz hn1 hn2
  clear hm
  go_wp2_with fail
  go_loopw [6] (fun ii wr => ∃ (k : Nat) (L' : List Value), k ≤ m ∧ ii = .int .i64 (64 * (k : Int)) ∧ Has wr G ((List.replicate 32 0).map byv) 112 ∧ Has wr (G + 1) ((stAt S E k).map wv) 121 ∧ Has wr P (E.map byv) 136 ∧ Has wr h L' 134 ∧ Ready L' ∧ Go.Proofs.YtgjckddcnmbceaaGreatDoor.rowD L' = Go.Proofs.YtgjckddcnmbceaaGreatDoor.rowD L ∧ (1 ≤ k → L' = Go.Proofs.YtgjckddcnmbceaaGreatDoor.rowD L) ∧ But G h w wr) (fun ii _ => 64 * m - (intOf ii).toNat)
  case atStart => exact ⟨0, L, Nat.zero_le _, rfl, o5, a5, p5, h5, HHo.out.ready, rfl, fun h => absurd h (by omega), BB5⟩
  case round =>
    clear a5 o5 h5 p5 BB5
    obtain ⟨k, L', hk, rfl, ho, ha, hp, hh, hrd, hre, hr1, hbut⟩ := hrel
    have RD := Lib.hid hrd
    have RE := Lib.hid hre
    have R1 := Lib.hid hr1
    have HA := Lib.hid ha
    have HPP := Lib.hid hp
    have HO := Lib.hid ho
    have HHH := Lib.hid hh
    clear hrd hre hr1 ho hp hh
    have hsl := stAt_length S E HHo.out.sl k
    by_cases hlt : k < m
    · have hlti : (64 : Int) * (k : Int) < (n : Int) := by have := HM.out; omega
      have hlt2 : k = 0 ∨ k = 1 := by omega
      have c0 := ha.cellAt (map_get wv (stAt S E k) 0 (by omega))
      have c1 := ha.cellAt (map_get wv (stAt S E k) 1 (by omega))
      have c2 := ha.cellAt (map_get wv (stAt S E k) 2 (by omega))
      have c3 := ha.cellAt (map_get wv (stAt S E k) 3 (by omega))
      have c4 := ha.cellAt (map_get wv (stAt S E k) 4 (by omega))
      have c5 := ha.cellAt (map_get wv (stAt S E k) 5 (by omega))
      have c6 := ha.cellAt (map_get wv (stAt S E k) 6 (by omega))
      have c7 := ha.cellAt (map_get wv (stAt S E k) 7 (by omega))
      simp only [wv] at c0 c1 c2 c3 c4 c5 c6 c7
      obtain ⟨e0, he0⟩ : ∃ e, e = (stAt S E k).getD 0 0 := ⟨_, rfl⟩
      rw [← he0] at c0
      obtain ⟨e1, he1⟩ : ∃ e, e = (stAt S E k).getD 1 0 := ⟨_, rfl⟩
      rw [← he1] at c1
      obtain ⟨e2, he2⟩ : ∃ e, e = (stAt S E k).getD 2 0 := ⟨_, rfl⟩
      rw [← he2] at c2
      obtain ⟨e3, he3⟩ : ∃ e, e = (stAt S E k).getD 3 0 := ⟨_, rfl⟩
      rw [← he3] at c3
      obtain ⟨e4, he4⟩ : ∃ e, e = (stAt S E k).getD 4 0 := ⟨_, rfl⟩
      rw [← he4] at c4
      obtain ⟨e5, he5⟩ : ∃ e, e = (stAt S E k).getD 5 0 := ⟨_, rfl⟩
      rw [← he5] at c5
      obtain ⟨e6, he6⟩ : ∃ e, e = (stAt S E k).getD 6 0 := ⟨_, rfl⟩
      rw [← he6] at c6
      obtain ⟨e7, he7⟩ : ∃ e, e = (stAt S E k).getD 7 0 := ⟨_, rfl⟩
      rw [← he7] at c7
      have hst : (stAt S E k) = [e0, e1, e2, e3, e4, e5, e6, e7] := by
        rw [he0, he1, he2, he3, he4, he5, he6, he7]
        match stAt S E k, hsl with
        | [_, _, _, _, _, _, _, _], _ => rfl
      have HST := Lib.hid hst
      clear ha hst he0 he1 he2 he3 he4 he5 he6 he7
      have z0 : (0 : Int) ≤ 64 * (k : Int) := by omega
      have z1 : 64 * (k : Int) + 64 ≤ 128 := by omega
      have wsum : IntKind.i64.wrap (64 * (k : Int) + 64) = 64 * (k : Int) + 64 := IntWalk.i64_in _ (by omega)
      have z2 : ¬ 64 * (k : Int) + 64 < 64 * (k : Int) := by omega
      have z3 : (0 : Int) ≤ 64 * (k : Int) + 64 := by omega
      have t1 : (64 * (k : Int)).toNat = 64 * k := by omega
      have t2 : (64 * (k : Int) + 64).toNat = 64 * k + 64 := by omega
      have z4 : 64 * (k : Int) ≤ 64 * (k : Int) + 64 := by omega
      go_wp2_with fail
      go_still_tail 6, (by kernel_rfl)
      change wpList _ _ _ _ _ wr.drew
      rw [if_neg (show ¬ 128 = 64 * k by omega)]
      rw [show (#[.int .u32 (e0 : Int), .int .u32 (e1 : Int), .int .u32 (e2 : Int), .int .u32 (e3 : Int), .int .u32 (e4 : Int), .int .u32 (e5 : Int), .int .u32 (e6 : Int), .int .u32 (e7 : Int)] : Array Value) = ((stAt S E k).map wv).toArray from by rw [HST.out]; rfl]
      obtain ⟨wd, hwd⟩ : ∃ wd, wd = wr.drew := ⟨_, rfl⟩
      rw [← hwd]
      have ha6 : Has wd (G + 1) ((stAt S E k).map wv) 121 := by rw [hwd]; exact HA.out
      have ho6 : Has wd G ((List.replicate 32 0).map byv) 112 := by rw [hwd]; exact HO.out
      have hp6 : Has wd P (E.map byv) 136 := by rw [hwd]; exact HPP.out
      have hh6 : Has wd h L' 134 := by rw [hwd]; exact HHH.out
      have bb6 : But G h w wd := by rw [hwd]; exact hbut.drew
      have hPlt := hp6.lt
      have hpr : ∀ i, i < 64 → wd.cell? ⟨3, i, none⟩ = some (.int .u64 ((primesL.getD i 0 : Nat) : Int)) := fun i hi =>
        (World.cell?_of_block (w := w) (bb6.block 3 (by omega) (by omega))).trans (HL.out.primes i hi)
      obtain ⟨D, hD⟩ : ∃ D, D = (E.drop (64 * k)).take 64 := ⟨_, rfl⟩
      have hDl : D.length = 64 := by rw [hD]; simp [hEl]; omega
      have hDt : ∀ x ∈ D, x < 256 := by rw [hD]; exact fun x hx => hEt x (List.mem_of_mem_drop (List.mem_of_mem_take hx))
      have hby : Bys wd P (64 * k) D := by
        intro i hi
        rw [hDl] at hi
        refine hp6.cellAt ?_
        rw [map_get byv E (64 * k + i) (by omega)]
        unfold byv
        congr 3
        rw [hD]
        simp [List.getD, hi]
      have HSTA : Hid (mixL (stAt S E k) D = stAt S E (k + 1)) := Lib.hid (by rw [hD]; rfl)
      have HBY := Lib.hid hby
      have HPR := Lib.hid hpr
      have HDT := Lib.hid hDt
      clear hwd hD hby hpr hDt wsum c0 c1 c2 c3 c4 c5 c6 c7
      obtain ⟨Q, hQ⟩ : ∃ Q, Q = ((stAt S E k).map wv).toArray := ⟨_, rfl⟩
      go_wp2_with fail
      refine (mixed_any h P (64 * k) (128 - 64 * k) L' (stAt S E k) D wd RD.out hh6 h1 hsl (stAt_lt S E HHo.out.ss k) hDl HDT.out (by omega) HBY.out hPlt (.inl (by omega)) HPR.out).mono ?_
      rintro e w7 ⟨rfl, hh7, hb7⟩
      have ha7 := ha6.but hb7 (by omega) (by omega)
      have ho7 := ho6.but hb7 (by omega) (by omega)
      have hp7 := hp6.but hb7 hPlt (by omega)
      have bb7 : But G h w w7 := bb6.trans (hb7.mono (by omega))
      rw [HSTA.out]
      have hsl2 := stAt_length S E HHo.out.sl (k + 1)
      have q1 : (Tryz.prog.info? 121).map (·.size) = some ((stAt S E (k + 1)).map wv).toArray.size := by rw [List.size_toArray, List.length_map, hsl2]; kernel_rfl
      have q2 : ((stAt S E k).map wv).toArray.size = ((stAt S E (k + 1)).map wv).toArray.size := by rw [List.size_toArray, List.length_map, List.size_toArray, List.length_map, hsl2, hsl]
      have q3 : ((stAt S E (k + 1)).map wv).toArray.all (·.oneCell') = true := by
        refine all_oneCell_toArray ?_
        intro v hv
        obtain ⟨x, _, rfl⟩ := List.mem_map.1 hv
        rfl
      have q4 : w7.heap[G + 1]? = some (.cells ((stAt S E k).map wv).toArray 121 (0, 0)) := ha7
      have Q1 := Lib.hid q1
      have Q2 := Lib.hid q2
      have Q3 := Lib.hid q3
      have Q4 := Lib.hid q4
      clear q1 q2 q3 q4 HSTA HST
      go_wp2_with (refine wpList_store_row rfl 121 _ _ rfl (G + 1) ((stAt S E (k + 1)).map wv).toArray rfl rfl 121 _ Q4.out Q1.out Q2.out Q3.out ?_)
      go_roundw
      case rel =>
        refine ⟨k + 1, Go.Proofs.YtgjckddcnmbceaaGreatDoor.rowD L', by omega, by go_num, ho7.rowOther (by omega) _, ha7.row _, hp7.rowOther (by omega) _, hh7.rowOther (by omega) _, rowD_ready RD.out, ?_, fun _ => RE.out, bb7.setRow (.inl (by omega)) _⟩
        rw [rowD_twice RD.out, RE.out]
      case measure => simp [intOf]; omega
    · obtain rfl : k = m := by omega
      have hlti : ¬ (64 : Int) * (k : Int) < (n : Int) := by have := HM.out; omega
      have hL' : L' = Go.Proofs.YtgjckddcnmbceaaGreatDoor.rowD L := R1.out hm1
      have HL' := Lib.hid hL'
      have q1 : (Tryz.prog.info? 121).map (·.size) = some ((stAt S E k).map wv).toArray.size := by rw [List.size_toArray, List.length_map, hsl]; kernel_rfl
      have q4 : wr.heap[G + 1]? = some (.cells ((stAt S E k).map wv).toArray 121 (0, 0)) := HA.out
      have Q1 := Lib.hid q1
      have Q4 := Lib.hid q4
      have hltw := HA.out.lt
      clear q1 q4 hL'
      go_wp2_with (refine wpList_load_row rfl 121 _ rfl (G + 1) rfl 121 _ (0, 0) _ Q4.out Tryz.underlying121 rfl Q1.out ?_)
      refine (bytes_any (stAt S E k) wr hsl (stAt_lt S E HHo.out.ss k)).mono ?_
      rintro e w7 ⟨rfl, hb7⟩
      have bl := bytesL_length (stAt S E k) 32
      have p1 : (Tryz.prog.info? 112).map (·.size) = some ((bytesL (stAt S E k) 32).map byv).toArray.size := by rw [List.size_toArray, List.length_map, bl]; kernel_rfl
      have p2 : ((List.replicate 32 0).map byv).toArray.size = ((bytesL (stAt S E k) 32).map byv).toArray.size := by rw [List.size_toArray, List.length_map, List.size_toArray, List.length_map, bl]; rfl
      have p3 : ((bytesL (stAt S E k) 32).map byv).toArray.all (·.oneCell') = true := by
        refine all_oneCell_toArray ?_
        intro v hv
        obtain ⟨x, _, rfl⟩ := List.mem_map.1 hv
        rfl
      have ho7 : Has w7 G ((List.replicate 32 0).map byv) 112 := HO.out.below hb7 (by omega)
      have p4 : w7.heap[G]? = some (.cells ((List.replicate 32 0).map byv).toArray 112 (0, 0)) := ho7
      have hh7 := HHH.out.below hb7 (by omega)
      have bb7 : But G h w w7 := hbut.trans (But.of_below (hb7.mono (by omega)))
      obtain ⟨R2, hR2⟩ : ∃ R2, R2 = ((bytesL (stAt S E k) 32).map byv).toArray := ⟨_, rfl⟩
      rw [← hR2] at p1 p2 p3 ⊢
      have P1 := Lib.hid p1
      have P2 := Lib.hid p2
      have P3 := Lib.hid p3
      have P4 := Lib.hid p4
      have HR2 := Lib.hid hR2
      clear p1 p2 p3 p4 ho7 hb7 hR2
      go_wp2_with (refine wpList_store_row rfl 112 _ _ rfl G R2 rfl rfl 112 _ P4.out P1.out P2.out P3.out ?_)
      have hres : ∀ tmps : Array Value, tmps.getD 2 undef = .pointer (some ⟨G, 0, none⟩) → (results Tryz.f71 tmps).run Tryz.prog (w7.setRow G R2) = .ok (.agg R2) (w7.setRow G R2) :=
        fun tmps hp => results_cell_row (fn := Tryz.f71) (p := 2) (ty := 112) Tryz.results71 tmps _ G 112 R2 (0, 0) _ hp (setRow_heap _ _ _ _ _ _ P4.out) Tryz.underlying112 rfl P1.out
      refine bodyPost_ret (hres _ rfl) rfl ?_
      refine ⟨?_, by rw [← HL'.out]; exact hh7.rowOther (by omega) _, ?_⟩
      · rw [HR2.out]
        unfold sumL
        rw [← HE.out, ← HN.out, HM.out, show 64 * k / 64 = k from by omega]
      · rw [← HG.out]; exact bb7.setRow (.inl (by omega)) _

end Go.Proofs.YtgjckddcnmbceaaGreatDoor

/-
  The contract of Sum.
-/
import Derived.Test.YtaknkiejjnilnaaDoorGD
import Derived.StillTailTactics
import Derived.Deep.RegionHeld3
import Derived.Deep.MidRow
import Derived.IntWalk
import Derived.Deep.WholeRow
namespace Go.Proofs.YtaknkiejjnilnaaDoor
open Go.RowKit

set_option maxRecDepth 100000 in
set_option maxHeartbeats 4000000 in
theorem sum_any (h : Nat) (L : List Value) (S T : List Nat) (N : Nat) (w : World) (hh : Has w h L 80) (hH : Holds L S T N) (hl : LaidW w) (h1 : 1 < h) :
    Calls Tryd.prog 23 #[.pointer (some ⟨h, 0, none⟩)] w fun e w' => e = .returned (.agg ((sumL S T N).map byv).toArray) ∧ Has w' h (Go.Proofs.YtaknkiejjnilnaaDoor.rowD L) 80 ∧ But w.heap.size h w w' := by
  have hlth := hh.lt
  have HH := Lib.hid hh
  have HHo := Lib.hid hH
  have HL := Lib.hid hl
  have hi8 : (Tryd.prog.info? 45).map (·.size) = some (S.map wv).length := by rw [List.length_map, hH.sl]; kernel_rfl
  have HI8 := Lib.hid hi8
  clear hh hH hl hi8
  go_enter Tryd.func23, Tryd.ntmps23
  have hz := zero128
  have hra : ∀ w' : World, Has w' h L 80 → w'.rangeAt h 67 (S.map wv) := by
    intro w' hw j v hj
    have hj8 : j < 8 := by have := (List.getElem?_eq_some_iff.1 hj).1; rw [List.length_map, HHo.out.sl] at this; exact this
    rw [hw.cellAt (HHo.out.state j hj8), ← hj, map_get wv S j (by rw [HHo.out.sl]; exact hj8)]
  have HRA := Lib.hid hra
  clear hra
  go_upto_region 3 with fail
  rw [zeros32]
  obtain ⟨w2, hw2⟩ : ∃ w2, w2 = w.alloc (.cells ((List.replicate 32 0).map byv).toArray 29) := ⟨_, rfl⟩
  have o2 : Has w2 w.heap.size ((List.replicate 32 0).map byv) 29 := by rw [hw2]; exact Has.new w _ _
  have s2 : w2.heap.size = w.heap.size + 1 := by rw [hw2]; simp
  have b2 : Below w.heap.size w w2 := by rw [hw2]; exact (Below.refl _ _).alloc (by omega) _
  rw [← hw2]
  have hh2 := HH.out.below b2 hlth
  clear hw2
  obtain ⟨G, hG⟩ : ∃ G, G = w.heap.size := ⟨_, rfl⟩
  rw [← hG] at o2 s2 b2 hlth ⊢
  have HG := Lib.hid hG
  have e2 : (((List.replicate 8 0).map wv).toArray : Array Value).size = (S.map wv).toArray.size := by simp [HHo.out.sl]
  have e3 : (S.map wv).toArray.all (·.oneCell') = true := by simp [wv, Value.oneCell']
  have e4 : (Tryd.prog.info? 45).map (·.size) = some (S.map wv).toArray.size := by rw [List.size_toArray]; exact HI8.out
  have hnew : ∀ o, (w2.alloc o).heap[G + 1]? = some o := fun o => by rw [← s2]; exact heap_alloc_last _ _
  have HNEW := Lib.hid hnew
  clear hnew
  have E2 := Lib.hid e2
  have E3 := Lib.hid e3
  have E4 := Lib.hid e4
  have H2 := Lib.hid hh2
  clear hG e2 e3 e4 hh2
  go_wp2_with (first
    | (refine wpList_load_mid rfl 45 _ rfl h 67 rfl (S.map wv) _ (HRA.out _ H2.out) Tryd.underlying45 rfl HI8.out ?_)
    | (refine wpList_store_row rfl 45 _ _ rfl (G + 1) (S.map wv).toArray rfl rfl 45 _ (HNEW.out _) E4.out E2.out E3.out ?_))
  obtain ⟨w3, hw3⟩ : ∃ w3, w3 = (w2.alloc (.cells ((List.replicate 8 0).map wv).toArray 45)).setRow (G + 1) (S.map wv).toArray := ⟨_, rfl⟩
  have hw4 : w3 = w2.alloc (.cells (S.map wv).toArray 45) := by rw [hw3, ← s2]; exact World.setRow_alloc_new w2 _ _ _
  have a3 : Has w3 (G + 1) (S.map wv) 45 := by rw [hw4, ← s2]; exact Has.new w2 _ _
  have o3 : Has w3 G ((List.replicate 32 0).map byv) 29 := by rw [hw4]; exact o2.alloc _
  have h3 : Has w3 h L 80 := by rw [hw4]; exact H2.out.alloc _
  have b3 : Below G w w3 := by rw [hw4]; exact b2.alloc (by omega) _
  have s3 : w3.heap.size = G + 2 := by rw [hw4]; simp [s2]
  rw [show (w2.alloc (.cells #[.int .u32 0, .int .u32 0, .int .u32 0, .int .u32 0, .int .u32 0, .int .u32 0, .int .u32 0, .int .u32 0] 45)).setRow (G + 1) (S.map wv).toArray = w3 from by rw [hw3]; rfl]
  clear hw3 hw4 o2 b2 s2 E2 E3 E4 H2 HNEW HI8
  refine (ending_any h L S T N w3 h3 HHo.out).mono ?_
  rintro e w4 ⟨rfl, hb4⟩
  have s4 := hb4.size
  have a4 := a3.below hb4 (by omega)
  have o4 := o3.below hb4 (by omega)
  have h4 := h3.below hb4 (by omega)
  have b4 : Below G w w4 := b3.trans (hb4.mono (by omega))
  obtain ⟨E, hE⟩ : ∃ E, E = endL T N 8 := ⟨_, rfl⟩
  obtain ⟨n, hn⟩ : ∃ n, n = endN (N % 64) := ⟨_, rfl⟩
  have hEl : E.length = 128 := by rw [hE]; exact endL_length T N HHo.out.tl 8
  have hEt : ∀ x ∈ E, x < 256 := by rw [hE]; exact endL_lt T N HHo.out.ts 8
  rw [← hE, ← hn]
  have e4 : (Tryd.prog.info? 82).map (·.size) = some (E.map byv).toArray.size := by rw [List.size_toArray, List.length_map, hEl]; kernel_rfl
  have e2 : (zeros128.map byv).toArray.size = (E.map byv).toArray.size := by rw [List.size_toArray, List.length_map, List.size_toArray, List.length_map, hEl]; rfl
  have e3 : (E.map byv).toArray.all (·.oneCell') = true := by
    refine all_oneCell_toArray ?_
    intro v hv
    obtain ⟨x, _, rfl⟩ := List.mem_map.1 hv
    rfl
  have E4 := Lib.hid e4
  have E2 := Lib.hid e2
  have E3 := Lib.hid e3
  have HE := Lib.hid hE
  have HN := Lib.hid hn
  have hn1 : 64 ≤ n := by rw [hn]; unfold endN; split <;> omega
  have hn2 : n = 64 ∨ n = 128 := by rw [hn]; unfold endN; split <;> omega
  obtain ⟨R, hR⟩ : ∃ R, R = (E.map byv).toArray := ⟨_, rfl⟩
  rw [← hR] at E4 E2 E3 ⊢
  have HR := Lib.hid hR
  clear e4 e2 e3 hE hn hR a3 o3 h3 b3 hb4
  go_upto_block 0 with (refine wpList_store_row rfl 82 _ _ rfl w4.heap.size R rfl rfl 82 _ (heap_alloc_last _ _) E4.out E2.out E3.out ?_)
  obtain ⟨w5, hw5⟩ : ∃ w5, w5 = (w4.alloc (.cells (zeros128.map byv).toArray 82)).setRow w4.heap.size R := ⟨_, rfl⟩
  have hw6 : w5 = w4.alloc (.cells R 82) := by rw [hw5]; exact World.setRow_alloc_new w4 _ _ _
  have a5 : Has w5 (G + 1) (S.map wv) 45 := by rw [hw6]; exact a4.alloc _
  have o5 : Has w5 G ((List.replicate 32 0).map byv) 29 := by rw [hw6]; exact o4.alloc _
  have h5 : Has w5 h L 80 := by rw [hw6]; exact h4.alloc _
  have p5 : Has w5 w4.heap.size (E.map byv) 82 := by rw [hw6, HR.out]; exact Has.new w4 _ _
  have b5 : Below G w w5 := by rw [hw6]; exact b4.alloc (by omega) _
  rw [← hw5]
  have hP : G + 1 < w4.heap.size := by omega
  generalize w4.heap.size = P at *
  obtain ⟨m, hm⟩ : ∃ m, n = 64 * m := by
    rcases hn2 with h' | h'
    · exact ⟨1, h'⟩
    · exact ⟨2, h'⟩
  have hm1 : 1 ≤ m := by omega
  have hm2 : m ≤ 2 := by omega
  have HM := Lib.hid hm
  have BB5 : But G h w w5 := But.of_below b5
  clear hw5 hw6 a4 o4 h4 b4 s4 s3 b5 E4 E2 E3 HR HRA hz hn1 hn2
  clear hm
  go_wp2_with fail
  go_loopw [6] (fun ii wr => ∃ (k : Nat) (L' : List Value), k ≤ m ∧ ii = .int .i64 (64 * (k : Int)) ∧ Has wr G ((List.replicate 32 0).map byv) 29 ∧ Has wr (G + 1) ((stAt S E k).map wv) 45 ∧ Has wr P (E.map byv) 82 ∧ Has wr h L' 80 ∧ Ready L' ∧ Go.Proofs.YtaknkiejjnilnaaDoor.rowD L' = Go.Proofs.YtaknkiejjnilnaaDoor.rowD L ∧ (1 ≤ k → L' = Go.Proofs.YtaknkiejjnilnaaDoor.rowD L) ∧ But G h w wr) (fun ii _ => 64 * m - (intOf ii).toNat)
  case atStart => exact ⟨0, L, Nat.zero_le _, rfl, o5, a5, p5, h5, HHo.out.ready, rfl, fun h => absurd h (by omega), BB5⟩
  case round =>
    clear a5 o5 h5 p5 BB5
    obtain ⟨k, L', hk, rfl, ho, ha, hp, hh, hrd, hre, hr1, hbut⟩ := hrel
    have RD := Lib.hid hrd
    have RE := Lib.hid hre
    have R1 := Lib.hid hr1
    have HA := Lib.hid ha
    have HPP := Lib.hid hp
    have HO := Lib.hid ho
    have HHH := Lib.hid hh
    clear hrd hre hr1 ho hp hh
    have hsl := stAt_length S E HHo.out.sl k
    by_cases hlt : k < m
    · have hlti : (64 : Int) * (k : Int) < (n : Int) := by have := HM.out; omega
      have hlt2 : k = 0 ∨ k = 1 := by omega
      have c0 := ha.cellAt (map_get wv (stAt S E k) 0 (by omega))
      have c1 := ha.cellAt (map_get wv (stAt S E k) 1 (by omega))
      have c2 := ha.cellAt (map_get wv (stAt S E k) 2 (by omega))
      have c3 := ha.cellAt (map_get wv (stAt S E k) 3 (by omega))
      have c4 := ha.cellAt (map_get wv (stAt S E k) 4 (by omega))
      have c5 := ha.cellAt (map_get wv (stAt S E k) 5 (by omega))
      have c6 := ha.cellAt (map_get wv (stAt S E k) 6 (by omega))
      have c7 := ha.cellAt (map_get wv (stAt S E k) 7 (by omega))
      simp only [wv] at c0 c1 c2 c3 c4 c5 c6 c7
      obtain ⟨e0, he0⟩ : ∃ e, e = (stAt S E k).getD 0 0 := ⟨_, rfl⟩
      rw [← he0] at c0
      obtain ⟨e1, he1⟩ : ∃ e, e = (stAt S E k).getD 1 0 := ⟨_, rfl⟩
      rw [← he1] at c1
      obtain ⟨e2, he2⟩ : ∃ e, e = (stAt S E k).getD 2 0 := ⟨_, rfl⟩
      rw [← he2] at c2
      obtain ⟨e3, he3⟩ : ∃ e, e = (stAt S E k).getD 3 0 := ⟨_, rfl⟩
      rw [← he3] at c3
      obtain ⟨e4, he4⟩ : ∃ e, e = (stAt S E k).getD 4 0 := ⟨_, rfl⟩
      rw [← he4] at c4
      obtain ⟨e5, he5⟩ : ∃ e, e = (stAt S E k).getD 5 0 := ⟨_, rfl⟩
      rw [← he5] at c5
      obtain ⟨e6, he6⟩ : ∃ e, e = (stAt S E k).getD 6 0 := ⟨_, rfl⟩
      rw [← he6] at c6
      obtain ⟨e7, he7⟩ : ∃ e, e = (stAt S E k).getD 7 0 := ⟨_, rfl⟩
      rw [← he7] at c7
      have hst : (stAt S E k) = [e0, e1, e2, e3, e4, e5, e6, e7] := by
        rw [he0, he1, he2, he3, he4, he5, he6, he7]
        match stAt S E k, hsl with
        | [_, _, _, _, _, _, _, _], _ => rfl
      have HST := Lib.hid hst
      clear ha hst he0 he1 he2 he3 he4 he5 he6 he7
      have z0 : (0 : Int) ≤ 64 * (k : Int) := by omega
      have z1 : 64 * (k : Int) + 64 ≤ 128 := by omega
      have wsum : IntKind.i64.wrap (64 * (k : Int) + 64) = 64 * (k : Int) + 64 := IntWalk.i64_in _ (by omega)
      have z2 : ¬ 64 * (k : Int) + 64 < 64 * (k : Int) := by omega
      have z3 : (0 : Int) ≤ 64 * (k : Int) + 64 := by omega
      have t1 : (64 * (k : Int)).toNat = 64 * k := by omega
      have t2 : (64 * (k : Int) + 64).toNat = 64 * k + 64 := by omega
      have z4 : 64 * (k : Int) ≤ 64 * (k : Int) + 64 := by omega
      go_wp2_with fail
      go_still_tail 6, (by kernel_rfl)
      change wpList _ _ _ _ _ wr.drew
      rw [if_neg (show ¬ 128 = 64 * k by omega)]
      rw [show (#[.int .u32 (e0 : Int), .int .u32 (e1 : Int), .int .u32 (e2 : Int), .int .u32 (e3 : Int), .int .u32 (e4 : Int), .int .u32 (e5 : Int), .int .u32 (e6 : Int), .int .u32 (e7 : Int)] : Array Value) = ((stAt S E k).map wv).toArray from by rw [HST.out]; rfl]
      obtain ⟨wd, hwd⟩ : ∃ wd, wd = wr.drew := ⟨_, rfl⟩
      rw [← hwd]
      have ha6 : Has wd (G + 1) ((stAt S E k).map wv) 45 := by rw [hwd]; exact HA.out
      have ho6 : Has wd G ((List.replicate 32 0).map byv) 29 := by rw [hwd]; exact HO.out
      have hp6 : Has wd P (E.map byv) 82 := by rw [hwd]; exact HPP.out
      have hh6 : Has wd h L' 80 := by rw [hwd]; exact HHH.out
      have bb6 : But G h w wd := by rw [hwd]; exact hbut.drew
      have hPlt := hp6.lt
      have hpr : ∀ i, i < 64 → wd.cell? ⟨1, i, none⟩ = some (.int .u64 ((primesL.getD i 0 : Nat) : Int)) := fun i hi =>
        (World.cell?_of_block (w := w) (bb6.block 1 (by omega) (by omega))).trans (HL.out.primes i hi)
      obtain ⟨D, hD⟩ : ∃ D, D = (E.drop (64 * k)).take 64 := ⟨_, rfl⟩
      have hDl : D.length = 64 := by rw [hD]; simp [hEl]; omega
      have hDt : ∀ x ∈ D, x < 256 := by rw [hD]; exact fun x hx => hEt x (List.mem_of_mem_drop (List.mem_of_mem_take hx))
      have hby : Bys wd P (64 * k) D := by
        intro i hi
        rw [hDl] at hi
        refine hp6.cellAt ?_
        rw [map_get byv E (64 * k + i) (by omega)]
        unfold byv
        congr 3
        rw [hD]
        simp [List.getD, hi]
      have HSTA : Hid (mixL (stAt S E k) D = stAt S E (k + 1)) := Lib.hid (by rw [hD]; rfl)
      have HBY := Lib.hid hby
      have HPR := Lib.hid hpr
      have HDT := Lib.hid hDt
      clear hwd hD hby hpr hDt wsum c0 c1 c2 c3 c4 c5 c6 c7
      obtain ⟨Q, hQ⟩ : ∃ Q, Q = ((stAt S E k).map wv).toArray := ⟨_, rfl⟩
      go_wp2_with fail
      refine (mixed_any h P (64 * k) (128 - 64 * k) L' (stAt S E k) D wd RD.out hh6 h1 hsl (stAt_lt S E HHo.out.ss k) hDl HDT.out (by omega) HBY.out hPlt (.inl (by omega)) HPR.out).mono ?_
      rintro e w7 ⟨rfl, hh7, hb7⟩
      have ha7 := ha6.but hb7 (by omega) (by omega)
      have ho7 := ho6.but hb7 (by omega) (by omega)
      have hp7 := hp6.but hb7 hPlt (by omega)
      have bb7 : But G h w w7 := bb6.trans (hb7.mono (by omega))
      rw [HSTA.out]
      have hsl2 := stAt_length S E HHo.out.sl (k + 1)
      have q1 : (Tryd.prog.info? 45).map (·.size) = some ((stAt S E (k + 1)).map wv).toArray.size := by rw [List.size_toArray, List.length_map, hsl2]; kernel_rfl
      have q2 : ((stAt S E k).map wv).toArray.size = ((stAt S E (k + 1)).map wv).toArray.size := by rw [List.size_toArray, List.length_map, List.size_toArray, List.length_map, hsl2, hsl]
      have q3 : ((stAt S E (k + 1)).map wv).toArray.all (·.oneCell') = true := by
        refine all_oneCell_toArray ?_
        intro v hv
        obtain ⟨x, _, rfl⟩ := List.mem_map.1 hv
        rfl
      have q4 : w7.heap[G + 1]? = some (.cells ((stAt S E k).map wv).toArray 45 (0, 0)) := ha7
      have Q1 := Lib.hid q1
      have Q2 := Lib.hid q2
      have Q3 := Lib.hid q3
      have Q4 := Lib.hid q4
      clear q1 q2 q3 q4 HSTA HST
      go_wp2_with (refine wpList_store_row rfl 45 _ _ rfl (G + 1) ((stAt S E (k + 1)).map wv).toArray rfl rfl 45 _ Q4.out Q1.out Q2.out Q3.out ?_)
      go_roundw
      case rel =>
        refine ⟨k + 1, Go.Proofs.YtaknkiejjnilnaaDoor.rowD L', by omega, by go_num, ho7.rowOther (by omega) _, ha7.row _, hp7.rowOther (by omega) _, hh7.rowOther (by omega) _, rowD_ready RD.out, ?_, fun _ => RE.out, bb7.setRow (.inl (by omega)) _⟩
        rw [rowD_twice RD.out, RE.out]
      case measure => simp [intOf]; omega
    · obtain rfl : k = m := by omega
      have hlti : ¬ (64 : Int) * (k : Int) < (n : Int) := by have := HM.out; omega
      have hL' : L' = Go.Proofs.YtaknkiejjnilnaaDoor.rowD L := R1.out hm1
      have HL' := Lib.hid hL'
      have q1 : (Tryd.prog.info? 45).map (·.size) = some ((stAt S E k).map wv).toArray.size := by rw [List.size_toArray, List.length_map, hsl]; kernel_rfl
      have q4 : wr.heap[G + 1]? = some (.cells ((stAt S E k).map wv).toArray 45 (0, 0)) := HA.out
      have Q1 := Lib.hid q1
      have Q4 := Lib.hid q4
      have hltw := HA.out.lt
      clear q1 q4 hL'
      go_wp2_with (refine wpList_load_row rfl 45 _ rfl (G + 1) rfl 45 _ (0, 0) _ Q4.out Tryd.underlying45 rfl Q1.out ?_)
      refine (bytes_any (stAt S E k) wr hsl (stAt_lt S E HHo.out.ss k)).mono ?_
      rintro e w7 ⟨rfl, hb7⟩
      have bl := bytesL_length (stAt S E k) 32
      have p1 : (Tryd.prog.info? 29).map (·.size) = some ((bytesL (stAt S E k) 32).map byv).toArray.size := by rw [List.size_toArray, List.length_map, bl]; kernel_rfl
      have p2 : ((List.replicate 32 0).map byv).toArray.size = ((bytesL (stAt S E k) 32).map byv).toArray.size := by rw [List.size_toArray, List.length_map, List.size_toArray, List.length_map, bl]; rfl
      have p3 : ((bytesL (stAt S E k) 32).map byv).toArray.all (·.oneCell') = true := by
        refine all_oneCell_toArray ?_
        intro v hv
        obtain ⟨x, _, rfl⟩ := List.mem_map.1 hv
        rfl
      have ho7 : Has w7 G ((List.replicate 32 0).map byv) 29 := HO.out.below hb7 (by omega)
      have p4 : w7.heap[G]? = some (.cells ((List.replicate 32 0).map byv).toArray 29 (0, 0)) := ho7
      have hh7 := HHH.out.below hb7 (by omega)
      have bb7 : But G h w w7 := hbut.trans (But.of_below (hb7.mono (by omega)))
      obtain ⟨R2, hR2⟩ : ∃ R2, R2 = ((bytesL (stAt S E k) 32).map byv).toArray := ⟨_, rfl⟩
      rw [← hR2] at p1 p2 p3 ⊢
      have P1 := Lib.hid p1
      have P2 := Lib.hid p2
      have P3 := Lib.hid p3
      have P4 := Lib.hid p4
      have HR2 := Lib.hid hR2
      clear p1 p2 p3 p4 ho7 hb7 hR2
      go_wp2_with (refine wpList_store_row rfl 29 _ _ rfl G R2 rfl rfl 29 _ P4.out P1.out P2.out P3.out ?_)
      have hres : ∀ tmps : Array Value, tmps.getD 2 undef = .pointer (some ⟨G, 0, none⟩) → (results Tryd.f23 tmps).run Tryd.prog (w7.setRow G R2) = .ok (.agg R2) (w7.setRow G R2) :=
        fun tmps hp => results_cell_row (fn := Tryd.f23) (p := 2) (ty := 29) Tryd.results23 tmps _ G 29 R2 (0, 0) _ hp (setRow_heap _ _ _ _ _ _ P4.out) Tryd.underlying29 rfl P1.out
      refine bodyPost_ret (hres _ rfl) rfl ?_
      refine ⟨?_, by rw [← HL'.out]; exact hh7.rowOther (by omega) _, ?_⟩
      · rw [HR2.out]
        unfold sumL
        rw [← HE.out, ← HN.out, HM.out, show 64 * k / 64 = k from by omega]
      · rw [← HG.out]; exact bb7.setRow (.inl (by omega)) _

end Go.Proofs.YtaknkiejjnilnaaDoor

namespace Go.Proofs.YtaknkiejjnilnaaDoor
open Go.RowKit

def rowT (L : List Value) (B : List Nat) (n : Nat) : List Value :=
  (L.set 139 (.int .u64 (n : Int))).take 75 ++ (B.map byv ++ (L.set 139 (.int .u64 (n : Int))).drop (75 + B.length))

theorem rowT_low (L : List Value) (B : List Nat) (n j : Nat) (hL : L.length = 140) (hj : j < 75) : (rowT L B n)[j]? = L[j]? := by
  unfold rowT
  rw [List.getElem?_append_left (by simp [hL]; omega), List.getElem?_take_of_lt hj, List.getElem?_set_ne (by omega)]

theorem rowT_mid (L : List Value) (B : List Nat) (n i : Nat) (hL : L.length = 140) (hi : i < B.length) : (rowT L B n)[75 + i]? = some (byv (B.getD i 0)) := by
  unfold rowT
  have e : 75 + i - ((L.set 139 (.int .u64 (n : Int))).take 75).length = i := by simp [hL]
  rw [List.getElem?_append_right (by simp [hL]), e, List.getElem?_append_left (by simpa using hi)]
  exact map_get byv B i hi

theorem rowT_high (L : List Value) (B : List Nat) (n j : Nat) (hL : L.length = 140) (hB : B.length ≤ 64) (hj : 75 + B.length ≤ j) : (rowT L B n)[j]? = (L.set 139 (.int .u64 (n : Int)))[j]? := by
  unfold rowT
  rw [List.getElem?_append_right (by simp [hL]; omega), List.getElem?_append_right (by simp [hL]; omega), List.getElem?_drop]
  congr 1
  simp [hL]; omega

theorem rowT_length (L : List Value) (B : List Nat) (n : Nat) (hL : L.length = 140) (hB : B.length ≤ 64) : (rowT L B n).length = 140 := by
  simp [rowT, hL]; omega

theorem rowT_holds {L : List Value} {S T B : List Nat} {N : Nat} (h : Holds L S T N) (h0 : L[0]? = some (.int .u32 0)) (hB : B.length < 64) (hb : ∀ x ∈ B, x < 256) (hN : N + B.length < 18446744073709551616) :
    Holds (rowT L B (N + B.length)) S (B ++ T.drop B.length) (N + B.length) := by
  have hL := h.ready.1
  refine ⟨⟨rowT_length _ _ _ hL (by omega), (rowT_low _ _ _ _ hL (by omega)).trans h.ready.2.1, .inl ((rowT_low _ _ _ _ hL (by omega)).trans h0)⟩, fun j hj => (rowT_low _ _ _ _ hL (by omega)).trans (h.state j hj), ?_, ?_, h.sl, h.ss, by simp [h.tl]; omega, ?_, hN⟩
  · intro i hi
    by_cases hlt : i < B.length
    · rw [rowT_mid _ _ _ _ hL hlt]
      simp [List.getD, List.getElem?_append_left hlt]
    · rw [rowT_high _ _ _ _ hL (by omega) (by omega), List.getElem?_set_ne (by omega), h.tail i hi]
      congr 2
      rw [List.getD_eq_getElem?_getD, List.getD_eq_getElem?_getD, List.getElem?_append_right (by omega), List.getElem?_drop]
      congr 2
      omega
  · rw [rowT_high _ _ _ _ hL (by omega) (by omega), List.getElem?_set_self (by omega)]
  · intro x hx
    rcases List.mem_append.1 hx with hx | hx
    · exact hb x hx
    · exact h.ts x (List.mem_of_mem_drop hx)

set_option maxRecDepth 100000 in
set_option maxHeartbeats 2000000 in
theorem write_short (h b off cap : Nat) (L : List Value) (S T B : List Nat) (N : Nat) (w : World) (hh : Has w h L 80) (hH : Holds L S T N) (hN0 : N % 64 = 0)
    (hB0 : 0 < B.length) (hB : B.length < 64) (hN : N + B.length < 18446744073709551616) (hby : Bys w b off B) (hne : b ≠ h) :
    Calls Tryd.prog 22 #[.pointer (some ⟨h, 0, none⟩), .slice (some ⟨b, off, none⟩) B.length cap] w fun e w' => e = .returned (.tuple #[]) ∧ Has w' h (rowT L B (N + B.length)) 80 ∧ But w.heap.size h w w' := by
  have hL := hH.ready.1
  obtain ⟨n, hn⟩ : ∃ n, n = B.length := ⟨_, rfl⟩
  have cN := hh.cellAt hH.num
  have zN := hh.frozen 139
  have hR : (N : Int) % 64 = 0 := by omega
  have hR2 : (N : Int).tmod 64 = 0 := by rw [Int.tmod_eq_emod_of_nonneg (by omega)]; exact hR
  have RS : IntKind.u64.wrap ((N : Int) + (n : Int)) = ((N + n : Nat) : Int) := by rw [wrap_mod]; omega
  have hs1 : Has (w.setCell ⟨h, 139, none⟩ (.int .u64 ((N + n : Nat) : Int))) h (L.set 139 (.int .u64 ((N + n : Nat) : Int))) 80 := hh.set 139 _
  have hsz : (Tryd.prog.info? 5).map (·.size) = some 1 := by kernel_rfl
  have hby2 : ∀ v : Value, ∀ j u, (B.map byv)[j]? = some u → (w.setCell ⟨h, 139, none⟩ v).cell? ((⟨b, off, none⟩ : Addr).add j) = some u := by
    intro v j u hj
    have hjl : j < B.length := by have := (List.getElem?_eq_some_iff.1 hj).1; simpa using this
    rw [Addr.add_mid, World.cell?_setCell_other _ ⟨h, 139, none⟩ ⟨b, off + j, none⟩ _ (fun e => hne (congrArg Addr.block e).symm), hby j hjl, ← hj, map_get byv B j hjl]
    rfl
  rw [← hn] at hB0 hB hN ⊢
  have hBl : (B.map byv).length = n := by rw [List.length_map, hn]
  have hmin : (B.map byv).length = Nat.min n 64 := by rw [hBl]; exact (Nat.min_eq_left (by omega)).symm
  have hfit : 75 + (B.map byv).length ≤ (L.set 139 (.int .u64 ((N + n : Nat) : Int))).toArray.size := by rw [hBl]; simp [hL]; omega
  have hone : ∀ v ∈ B.map byv, v.oneCell' = true := by
    intro v hv
    obtain ⟨x, _, rfl⟩ := List.mem_map.1 hv
    rfl
  obtain ⟨X, hX⟩ : ∃ X, X = B.map byv := ⟨_, rfl⟩
  rw [← hX] at hBl hmin hfit hone hby2
  have HS1 := Lib.hid hs1
  have HSZ := Lib.hid hsz
  have HBY := Lib.hid hby2
  have HBL := Lib.hid hBl
  have HMIN := Lib.hid hmin
  have HFIT := Lib.hid hfit
  have HONE := Lib.hid hone
  have HX := Lib.hid hX
  have HH := Lib.hid hh
  have HNN := Lib.hid hn
  have hn64 : ¬ (64 : Int) ≤ (n : Int) := by omega
  clear hby hby2 hs1 hsz hmin hfit hone hX hh hn hH hBl
  go_enter Tryd.func22, Tryd.ntmps22
  go_upto_block 0 with fail
  obtain ⟨w1, hw1⟩ : ∃ w1, w1 = w.setCell ⟨h, 139, none⟩ (.int .u64 ((N : Int) + (n : Int))) := ⟨_, rfl⟩
  rw [← hw1]
  have hs2 : w1.heap[h]? = some (.cells (L.set 139 (.int .u64 ((N + n : Nat) : Int))).toArray 80 (0, 0)) := by rw [hw1]; exact HS1.out
  have hsrc : ∀ j u, X[j]? = some u → w1.cell? ((⟨b, off, none⟩ : Addr).add j) = some u := by rw [hw1]; exact HBY.out _
  have bb1 : But w.heap.size h w w1 := by rw [hw1]; exact (But.refl _ _ _).setB 139 _
  have HS2 := Lib.hid hs2
  have HSRC := Lib.hid hsrc
  clear hw1 hs2 hsrc cN zN
  go_wp2_with fail
  go_loopw [1] (fun pp wr => pp = .slice (some ⟨b, off, none⟩) n cap ∧ wr = w1) (fun _ _ => 0)
  case atStart => exact ⟨rfl, rfl⟩
  case round =>
    obtain ⟨rfl, rfl⟩ := hrel
    go_wp2_with (refine wpList_copy_own rfl (.tmp 72) (.tmp 73) 22 22 rfl 5 Tryd.underlying22 HSZ.out h 75 64 64 ⟨b, off, none⟩ n cap rfl rfl (L.set 139 (.int .u64 ((N + n : Nat) : Int))).toArray 80 HS2.out X HMIN.out HSRC.out HFIT.out HONE.out ?_)
    go_end0
    refine ⟨rfl, ?_, bb1.setRow (.inr rfl) _⟩
    have := setRow_heap wr h _ (rowT L B (N + n)).toArray _ _ HS2.out
    unfold rowT at this
    rw [← HX.out, ← HNN.out, ← HBL.out] at this
    have e := HBL.out
    unfold Has rowT
    rw [← HX.out, ← HNN.out]
    rw [e]
    rw [e] at this
    exact this

end Go.Proofs.YtaknkiejjnilnaaDoor

namespace Go.Proofs.YtaknkiejjnilnaaDoor
open Go.RowKit

theorem LaidW.but {w w' : World} {h B : Nat} (l : LaidW w) (hb : But B h w w') (h1 : 1 < h) (hB : 1 < B) : LaidW w' :=
  ⟨l.start.imp fun _ h => h.imp fun _ h => (hb.block 0 (by omega) (by omega)).trans h, fun i hi => (World.cell?_of_block (w := w) (hb.block 1 (by omega) (by omega))).trans (l.primes i hi), Nat.le_trans l.two hb.size⟩

theorem LaidW.below {w w' : World} {B : Nat} (l : LaidW w) (hb : Below B w w') (hB : 1 < B) : LaidW w' :=
  ⟨l.start.imp fun _ h => h.imp fun _ h => (hb.block 0 (by omega)).trans h, fun i hi => (hb.cell (p := ⟨1, i, none⟩) (show 1 < B by omega)).trans (l.primes i hi), Nat.le_trans l.two hb.size⟩

set_option maxRecDepth 100000 in
set_option maxHeartbeats 2000000 in
theorem of_short (b off cap : Nat) (B : List Nat) (w : World) (hB0 : 0 < B.length) (hB : B.length < 64) (hb : ∀ x ∈ B, x < 256) (hby : Bys w b off B) (hlt : b < w.heap.size) (hl : LaidW w) :
    Calls Tryd.prog 12 #[.slice (some ⟨b, off, none⟩) B.length cap] w fun e w' => e = .returned (.agg ((sumL startL (B ++ (List.replicate 64 0).drop B.length) (0 + B.length)).map byv).toArray) ∧ Below w.heap.size w w' := by
  have h2 := hl.two
  have HBY := Lib.hid hby
  have HL := Lib.hid hl
  clear hby hl
  go_enter Tryd.func12, Tryd.ntmps12
  go_wp2_with fail
  rw [zeros32]
  obtain ⟨w1, hw1⟩ : ∃ w1, w1 = w.alloc (.cells ((List.replicate 32 0).map byv).toArray 29) := ⟨_, rfl⟩
  have o1 : Has w1 w.heap.size ((List.replicate 32 0).map byv) 29 := by rw [hw1]; exact Has.new w _ _
  have s1 : w1.heap.size = w.heap.size + 1 := by rw [hw1]; simp
  have b1 : Below w.heap.size w w1 := by rw [hw1]; exact (Below.refl _ _).alloc (by omega) _
  rw [← hw1]
  have l1 := HL.out.below b1 h2
  refine (new_any w1 l1).mono ?_
  rintro e w2 ⟨rfl, hw2⟩
  obtain ⟨h, hh⟩ : ∃ h, h = w1.heap.size := ⟨_, rfl⟩
  have n2 : Has w2 h newRow 80 := by rw [hw2, hh]; exact Has.new w1 _ _
  have o2 : Has w2 w.heap.size ((List.replicate 32 0).map byv) 29 := by rw [hw2]; exact o1.alloc _
  have b2 : Below w.heap.size w w2 := by rw [hw2]; exact b1.alloc (by omega) _
  have s2 : w2.heap.size = w.heap.size + 2 := by rw [hw2]; simp [s1]
  rw [← hh]
  rw [s1] at hh
  have HHH := Lib.hid hh
  clear hw1 hw2 o1 b1 l1 s1 hh
  go_wp2_with fail
  refine (write_short h b off cap newRow startL (List.replicate 64 0) B 0 w2 n2 newRow_holds rfl hB0 hB (by omega) (HBY.out.below b2 hlt) (by have := HHH.out; omega)).mono ?_
  rintro e w3 ⟨rfl, n3, bb3⟩
  have hh3 := rowT_holds newRow_holds rfl hB hb (by omega)
  have o3 := o2.but bb3 (by omega) (by have := HHH.out; omega)
  have l3 : LaidW w3 := (HL.out.below b2 h2).but bb3 (by have := HHH.out; omega) (by omega)
  have s3 := bb3.size
  have L3 := Lib.hid l3
  have H3 := Lib.hid hh3
  clear hh3 l3
  go_wp2_with fail
  refine (sum_any h _ startL _ _ w3 n3 H3.out L3.out (by have := HHH.out; omega)).mono ?_
  rintro e w4 ⟨rfl, n4, bb4⟩
  have o4 := o3.but bb4 (by omega) (by have := HHH.out; omega)
  have bl : (sumL startL (B ++ (List.replicate 64 0).drop B.length) (0 + B.length)).length = 32 := bytesL_length _ 32
  have p1 : (Tryd.prog.info? 29).map (·.size) = some ((sumL startL (B ++ (List.replicate 64 0).drop B.length) (0 + B.length)).map byv).toArray.size := by rw [List.size_toArray, List.length_map, bl]; kernel_rfl
  have p2 : ((List.replicate 32 0).map byv).toArray.size = ((sumL startL (B ++ (List.replicate 64 0).drop B.length) (0 + B.length)).map byv).toArray.size := by rw [List.size_toArray, List.length_map, List.size_toArray, List.length_map, bl]; rfl
  have p3 : ((sumL startL (B ++ (List.replicate 64 0).drop B.length) (0 + B.length)).map byv).toArray.all (·.oneCell') = true := by
    refine all_oneCell_toArray ?_
    intro v hv
    obtain ⟨x, _, rfl⟩ := List.mem_map.1 hv
    rfl
  have p4 : w4.heap[w.heap.size]? = some (.cells ((List.replicate 32 0).map byv).toArray 29 (0, 0)) := o4
  obtain ⟨R2, hR2⟩ : ∃ R2, R2 = ((sumL startL (B ++ (List.replicate 64 0).drop B.length) (0 + B.length)).map byv).toArray := ⟨_, rfl⟩
  rw [← hR2] at p1 p2 p3 ⊢
  have P1 := Lib.hid p1
  have P2 := Lib.hid p2
  have P3 := Lib.hid p3
  have P4 := Lib.hid p4
  have HR2 := Lib.hid hR2
  clear p1 p2 p3 p4 hR2
  go_wp2_with (refine wpList_store_row rfl 29 _ _ rfl w.heap.size R2 rfl rfl 29 _ P4.out P1.out P2.out P3.out ?_)
  have hres : ∀ tmps : Array Value, tmps.getD 2 undef = .pointer (some ⟨w.heap.size, 0, none⟩) → (results Tryd.f12 tmps).run Tryd.prog (w4.setRow w.heap.size R2) = .ok (.agg R2) (w4.setRow w.heap.size R2) :=
    fun tmps hp => results_cell_row (fn := Tryd.f12) (p := 2) (ty := 29) Tryd.results12 tmps _ w.heap.size 29 R2 (0, 0) _ hp (setRow_heap _ _ _ _ _ _ P4.out) Tryd.underlying29 rfl P1.out
  refine bodyPost_ret (hres _ rfl) rfl ?_
  refine ⟨by rw [HR2.out], ?_⟩
  have c3 : Below w.heap.size w2 w3 := (bb3.mono (by omega)).below (by have := HHH.out; omega)
  have c4 : Below w.heap.size w3 w4 := (bb4.mono (by omega)).below (by have := HHH.out; omega)
  exact below_setRow ((b2.trans c3).trans c4) (Nat.le_refl _) _

/-- The digest of abc, at five places. -/
theorem abc_digest : (sumL startL ([97, 98, 99] ++ (List.replicate 64 0).drop 3) (0 + 3)) = [0xba, 0x78, 0x16, 0xbf, 0x8f, 0x01, 0xcf, 0xea, 0x41, 0x41, 0x40, 0xde, 0x5d, 0xae, 0x22, 0x23, 0xb0, 0x03, 0x61, 0xa3, 0x96, 0x17, 0x7a, 0x9c, 0xb4, 0x10, 0xff, 0x61, 0xf2, 0x00, 0x15, 0xad] := by decide +kernel

end Go.Proofs.YtaknkiejjnilnaaDoor

/-
  The contract of Write: whatever bytes come, behind whatever the hasher has taken. Conditions: less than 2^64 bytes in all; the bytes lie outside the hasher.
-/
import Derived.Test.YtgjckddcnmbceaaGreatDoorWriteN
import Derived.StillTailTactics
import Derived.Deep.RegionHeld3
import Derived.Deep.MidRow
import Derived.IntWalk
import Derived.Deep.DeepCutAuto
import Derived.Deep.CutBlock
namespace Go.Proofs.YtgjckddcnmbceaaGreatDoor
open Go.RowKit
set_option linter.unusedVariables false

/-- The hasher has taken these bytes; all else that was there is as it was. -/
def Wrote (h : Nat) (M : List Nat) (w w' : World) : Prop := ∃ L', Has w' h L' 134 ∧ Took L' M ∧ But w.heap.size h w w'

/-- Somewhere on the way: d of the bytes are in the state. -/
structure WL (w0 : World) (h : Nat) (M B : List Nat) (d : Nat) (wr : World) : Prop where
  at_ : ∃ L' T', Has wr h L' 134 ∧ Holds L' (stAt startL (M ++ B) ((M.length + d) / 64)) T' (M.length + B.length)
  but : But w0.heap.size h w0 wr

def sliceLen : Value → Nat
  | .slice _ n _ => n
  | _ => 0

/-- What is left of the bytes. -/
def Left (w0 : World) (h : Nat) (B : List Nat) (d : Nat) (v : Value) : Prop := ∃ ad cp, v = .slice ad (B.length - d) cp ∧ B.length - d ≤ cp ∧ cp ≤ maxLen ∧ (d < B.length → ∃ b off, ad = some ⟨b, off, none⟩ ∧ b < w0.heap.size ∧ b ≠ h ∧ Bys w0 b off (B.drop d))

theorem list8 (S : List Nat) (h : S.length = 8) : ∃ a b c d e f g i, S = [a, b, c, d, e, f, g, i] := by
  match S, h with
  | [a, b, c, d, e, f, g, i], _ => exact ⟨a, b, c, d, e, f, g, i, rfl⟩

/-- mixed, its words laid out. -/
theorem mixed_lit (h b off cap : Nat) (L : List Value) (S B T : List Nat) (N : Nat) (w : World) (hH : Holds L S T N) (hh : Has w h L 134) (h1 : 3 < h)
    (hL : B.length = 64) (hB : ∀ x ∈ B, x < 256) (hc : 64 ≤ cap) (hb : Bys w b off B) (hlt : b < w.heap.size) (hap : b ≠ h ∨ 67 ≤ off) (hl : LaidW w) :
    ∃ e0 e1 e2 e3 e4 e5 e6 e7 m0 m1 m2 m3 m4 m5 m6 m7 : Nat, S = [e0, e1, e2, e3, e4, e5, e6, e7] ∧ mixL S B = [m0, m1, m2, m3, m4, m5, m6, m7] ∧
      Calls Tryz.prog 77 #[.pointer (some ⟨h, 0, none⟩), .agg #[.int .u32 (e0 : Int), .int .u32 (e1 : Int), .int .u32 (e2 : Int), .int .u32 (e3 : Int), .int .u32 (e4 : Int), .int .u32 (e5 : Int), .int .u32 (e6 : Int), .int .u32 (e7 : Int)], .slice (some ⟨b, off, none⟩) 64 cap] w
        fun e w' => e = .returned (.agg #[.int .u32 (m0 : Int), .int .u32 (m1 : Int), .int .u32 (m2 : Int), .int .u32 (m3 : Int), .int .u32 (m4 : Int), .int .u32 (m5 : Int), .int .u32 (m6 : Int), .int .u32 (m7 : Int)]) ∧ Has w' h (Go.Proofs.YtgjckddcnmbceaaGreatDoor.rowD L) 134 ∧ But w.heap.size h w w' := by
  obtain ⟨e0, e1, e2, e3, e4, e5, e6, e7, hS⟩ := list8 S hH.sl
  obtain ⟨m0, m1, m2, m3, m4, m5, m6, m7, hm⟩ := list8 (mixL S B) (mixL_length S B)
  refine ⟨e0, e1, e2, e3, e4, e5, e6, e7, m0, m1, m2, m3, m4, m5, m6, m7, hS, hm, ?_⟩
  have hc := mixed_any h b off cap L S B w hH.ready hh h1 hH.sl hH.ss hL hB hc hb hlt hap hl.primes
  rw [hm] at hc
  rw [show (S.map wv).toArray = #[.int .u32 (e0 : Int), .int .u32 (e1 : Int), .int .u32 (e2 : Int), .int .u32 (e3 : Int), .int .u32 (e4 : Int), .int .u32 (e5 : Int), .int .u32 (e6 : Int), .int .u32 (e7 : Int)] from by rw [hS]; rfl] at hc
  exact hc

/-- The state's eight cells. -/
theorem Holds.cells {L : List Value} {T : List Nat} {N : Nat} {e0 e1 e2 e3 e4 e5 e6 e7 : Nat} (h : Holds L [e0, e1, e2, e3, e4, e5, e6, e7] T N) {w : World} {b : Nat} {t : TypeId} (hh : Has w b L t) :
    w.cell? ⟨b, 67, none⟩ = some (.int .u32 (e0 : Int)) ∧ w.cell? ⟨b, 68, none⟩ = some (.int .u32 (e1 : Int)) ∧ w.cell? ⟨b, 69, none⟩ = some (.int .u32 (e2 : Int)) ∧ w.cell? ⟨b, 70, none⟩ = some (.int .u32 (e3 : Int)) ∧
    w.cell? ⟨b, 71, none⟩ = some (.int .u32 (e4 : Int)) ∧ w.cell? ⟨b, 72, none⟩ = some (.int .u32 (e5 : Int)) ∧ w.cell? ⟨b, 73, none⟩ = some (.int .u32 (e6 : Int)) ∧ w.cell? ⟨b, 74, none⟩ = some (.int .u32 (e7 : Int)) :=
  ⟨hh.cellAt (h.state 0 (by omega)), hh.cellAt (h.state 1 (by omega)), hh.cellAt (h.state 2 (by omega)), hh.cellAt (h.state 3 (by omega)), hh.cellAt (h.state 4 (by omega)), hh.cellAt (h.state 5 (by omega)), hh.cellAt (h.state 6 (by omega)), hh.cellAt (h.state 7 (by omega))⟩

theorem Has.free8 {L : List Value} {w : World} {b : Nat} {t : TypeId} (hh : Has w b L t) :
    w.frozen? ⟨b, 67, none⟩ = false ∧ w.frozen? ⟨b, 68, none⟩ = false ∧ w.frozen? ⟨b, 69, none⟩ = false ∧ w.frozen? ⟨b, 70, none⟩ = false ∧
    w.frozen? ⟨b, 71, none⟩ = false ∧ w.frozen? ⟨b, 72, none⟩ = false ∧ w.frozen? ⟨b, 73, none⟩ = false ∧ w.frozen? ⟨b, 74, none⟩ = false :=
  ⟨hh.frozen _, hh.frozen _, hh.frozen _, hh.frozen _, hh.frozen _, hh.frozen _, hh.frozen _, hh.frozen _⟩

set_option maxRecDepth 100000 in
set_option maxHeartbeats 4000000 in
theorem write_n (h : Nat) (a : Option Addr) (n cap : Nat) (L : List Value) (M B : List Nat) (w : World) (hh : Has w h L 134) (hT : Took L M) (hB : IsN w a n cap B)
    (hap : n ≠ 0 → ∀ b off, a = some ⟨b, off, none⟩ → b ≠ h) (hN : M.length + n < 18446744073709551616) (hl : LaidW w) (h1 : 3 < h) :
    Calls Tryz.prog 69 #[.pointer (some ⟨h, 0, none⟩), .slice a n cap] w fun e w' => e = .returned (.tuple #[]) ∧ Wrote h (M ++ B) w w' := by
  obtain ⟨S, T, hH, hS, hTt⟩ := hT
  have hlth := hh.lt
  have hBl := hB.length
  have hroom := hB.room
  unfold maxLen at hroom
  obtain ⟨N, hNd⟩ : ∃ N, N = M.length := ⟨_, rfl⟩
  obtain ⟨u, hud⟩ : ∃ u, u = N % 64 := ⟨_, rfl⟩
  have cN := hh.cellAt (by rw [← hNd] at hH; exact hH.num)
  have zN := hh.frozen 139
  have hR : (N : Int) % 64 = (u : Int) := by omega
  have hu64 : u < 64 := by omega
  have RS : IntKind.u64.wrap ((N : Int) + (n : Int)) = ((N + n : Nat) : Int) := by rw [wrap_mod]; omega
  have hs1 : Has (w.setCell ⟨h, 139, none⟩ (.int .u64 ((N + n : Nat) : Int))) h (L.set 139 (.int .u64 ((N + n : Nat) : Int))) 134 := hh.set 139 _
  have hH1 : Holds (L.set 139 (.int .u64 ((N + n : Nat) : Int))) S T (N + n) := hH.counted (N + n) (by omega)
  have HS1 := Lib.hid hs1
  have HH1 := Lib.hid hH1
  have HB := Lib.hid hB
  have HL := Lib.hid hl
  have HS := Lib.hid hS
  have HT := Lib.hid hTt
  have HND := Lib.hid hNd
  have HUD := Lib.hid hud
  have HBL := Lib.hid hBl
  have HAP := Lib.hid hap
  have hsz : (Tryz.prog.info? 5).map (·.size) = some 1 := by kernel_rfl
  have HSZ := Lib.hid hsz
  clear hh hH hs1 hH1 hB hl hS hTt hBl hap hsz hNd hud
  have hK : ∃ K, K = B.take (64 - u) := ⟨_, rfl⟩
  obtain ⟨K, hK⟩ := hK
  have hKl : K.length = Nat.min n (64 - u) := by rw [hK, List.length_take, HBL.out]; exact Nat.min_comm _ _
  have hKs : ∀ x ∈ K, x < 256 := by rw [hK]; exact fun x hx => HB.out.small x (List.mem_of_mem_take hx)
  obtain ⟨X, hX⟩ : ∃ X, X = K.map byv := ⟨_, rfl⟩
  obtain ⟨L1, hL1⟩ : ∃ L1, L1 = L.set 139 (.int .u64 ((N + n : Nat) : Int)) := ⟨_, rfl⟩
  rw [← hL1] at HS1 HH1
  have hXl : X.length = Nat.min n (64 - u) := by rw [hX, List.length_map, hKl]
  have hfit : 75 + u + X.length ≤ L1.length := by rw [hXl, HH1.out.ready.1]; have : Nat.min n (64 - u) ≤ 64 - u := Nat.min_le_right _ _; omega
  have hone : ∀ v ∈ X, v.oneCell' = true := by
    intro v hv
    rw [hX] at hv
    obtain ⟨x, _, rfl⟩ := List.mem_map.1 hv
    rfl
  have hpos : ∀ w1, w1 = w.setCell ⟨h, 139, none⟩ (.int .u64 ((N : Int) + (n : Int))) → 0 < X.length → (some ⟨h, 75 + u, none⟩ : Option Addr) = some ⟨h, 75 + u, none⟩ ∧ ∃ ad, a = some ad ∧ ∀ j v, X[j]? = some v → w1.cell? (ad.add j) = some v := by
    intro w1 hw1 hx
    refine ⟨rfl, ?_⟩
    rcases HB.out.at_ with h0 | ⟨b, off, rfl, hlt, hby⟩
    · exfalso; rw [hXl, h0] at hx; simp at hx
    · refine ⟨_, rfl, fun j v hj => ?_⟩
      have hjl : j < X.length := (List.getElem?_eq_some_iff.1 hj).1
      have hjn : j < n := by rw [hXl] at hjl; exact Nat.lt_of_lt_of_le hjl (Nat.min_le_left _ _)
      have hjk : j < K.length := by rw [hKl, ← hXl]; exact hjl
      have hne := HAP.out (by omega) b off rfl
      rw [Addr.add_mid, hw1, World.cell?_setCell_other _ ⟨h, 139, none⟩ ⟨b, off + j, none⟩ _ (fun e => hne (congrArg Addr.block e).symm), hby j (by rw [HBL.out]; exact hjn), ← hj, hX, map_get byv K j hjk]
      rw [hK]
      unfold byv
      congr 3
      have hjq : j < 64 - u := by rw [hXl] at hjl; exact Nat.lt_of_lt_of_le hjl (Nat.min_le_right _ _)
      simp [List.getD, List.getElem?_take_of_lt hjq]
  have HXL := Lib.hid hXl
  have HFIT := Lib.hid hfit
  have HONE := Lib.hid hone
  have HPOS := Lib.hid hpos
  have HX := Lib.hid hX
  have HK := Lib.hid hK
  have HKL := Lib.hid hKl
  have HKS := Lib.hid hKs
  have HL1 := Lib.hid hL1
  clear hXl hfit hone hpos hX hK hKl hKs hL1
  have case : u = 0 ∨ (0 < u ∧ u + n < 64) ∨ (0 < u ∧ 64 ≤ u + n) := by omega
  rcases case with hu | ⟨hu, hlt⟩ | ⟨hu, hge⟩
  rotate_left
  · have hu0 : (0 : Int) < (u : Int) := by omega
    have hu1 : (u : Int) ≤ 64 := by omega
    have hu2 : (0 : Int) ≤ (u : Int) := by omega
    have hlt2 : (u : Int) + (n : Int) < 64 := by omega
    have hmin : X.length = n := by rw [HXL.out]; exact Nat.min_eq_left (by omega)
    have HM := Lib.hid hmin
    clear hmin
    go_enter Tryz.func69, Tryz.ntmps69
    go_upto_region 4 with fail
    obtain ⟨w1, hw1⟩ : ∃ w1, w1 = w.setCell ⟨h, 139, none⟩ (.int .u64 ((N : Int) + (n : Int))) := ⟨_, rfl⟩
    rw [← hw1]
    have hs2 : w1.heap[h]? = some (.cells L1.toArray 134 (0, 0)) := by rw [hw1]; exact HS1.out
    have bb1 : But w.heap.size h w w1 := by rw [hw1]; exact (But.refl _ _ _).setB 139 _
    have HP := Lib.hid (HPOS.out w1 hw1)
    have HS2 := Lib.hid hs2
    have hsz1 : w.heap.size ≤ w1.heap.size := bb1.size
    clear hw1 hs2 cN zN
    go_upto_region 5 with (refine hcopy_but rfl (.tmp 30) (.tmp 31) 33 33 rfl 5 Tryz.underlying33 HSZ.out (some ⟨h, 75 + u, none⟩) a (64 - u) (64 - u) n cap rfl rfl h (75 + u) L1 134 HS2.out X HXL.out HP.out HFIT.out HONE.out ?_; intro w2 hg2 hb2)
    rw [HM.out]
    go_wp2_with fail
    refine bodyPost_ret (v := .tuple #[]) (by simp [results, Tryz.results69, go_sem]) rfl ?_
    have eK : K = B := by rw [HK.out]; exact List.take_of_length_le (by rw [HBL.out]; omega)
    have hKl : K.length = n := by rw [eK]; exact HBL.out
    have hT2 := HH1.out.tailed u K HKS.out (by omega)
    rw [← HX.out, eK, HND.out] at hT2
    obtain ⟨e1, e2⟩ := tail_short (B := B) HH1.out.tl HT.out (by rw [← HND.out, ← HUD.out, HBL.out]; exact hlt)
    rw [← HND.out, ← HUD.out] at e2
    refine ⟨rfl, _, hg2.out, ⟨S, _, ?_, ?_, e2⟩, bb1.trans (hb2.out.mono hsz1)⟩
    · rw [List.length_append, HBL.out]; exact hT2
    · rw [e1, HS.out, stAt_append _ _ _ _ (by omega)]
  focus
    obtain ⟨q, hq⟩ : ∃ q, q + u = 64 := ⟨64 - u, by omega⟩
    have hq' : 64 - u = q := by omega
    have hqn : q ≤ n := by omega
    have hmin : X.length = q := by rw [HXL.out, hq']; exact Nat.min_eq_right hqn
    have HM := Lib.hid hmin
    rcases HB.out.at_ with h0 | ⟨b, off, rfl, hlt, hby⟩
    · omega
    have hbh : b ≠ h := HAP.out (by omega) b off rfl
    have HBY := Lib.hid hby
    have hu0 : (0 : Int) < (u : Int) := by omega
    have hu1 : (u : Int) ≤ 64 := by omega
    have hu2 : (0 : Int) ≤ (u : Int) := by omega
    have hqq : (u : Int) + (q : Int) = 64 := by omega
    have hqi : (q : Int) ≤ (n : Int) := by omega
    have hqi0 : (0 : Int) ≤ (q : Int) := by omega
    have HQ := Lib.hid hq
    have HQ' := Lib.hid hq'
    clear hmin hby hq hq'
    go_enter Tryz.func69, Tryz.ntmps69
    go_upto_region 4 with fail
    obtain ⟨w1, hw1⟩ : ∃ w1, w1 = w.setCell ⟨h, 139, none⟩ (.int .u64 ((N : Int) + (n : Int))) := ⟨_, rfl⟩
    rw [← hw1]
    have hs2 : w1.heap[h]? = some (.cells L1.toArray 134 (0, 0)) := by rw [hw1]; exact HS1.out
    have bb1 : But w.heap.size h w w1 := by rw [hw1]; exact (But.refl _ _ _).setB 139 _
    have HP := Lib.hid (HPOS.out w1 hw1)
    have HS2 := Lib.hid hs2
    have hsz1 : w.heap.size ≤ w1.heap.size := bb1.size
    clear hw1 hs2 cN zN
    go_upto_region 5 with (refine hcopy_but rfl (.tmp 30) (.tmp 31) 33 33 rfl 5 Tryz.underlying33 HSZ.out (some ⟨h, 75 + u, none⟩) (some ⟨b, off, none⟩) (64 - u) (64 - u) n cap rfl rfl h (75 + u) L1 134 HS2.out X HXL.out HP.out HFIT.out HONE.out ?_; intro w2 hg2 hb2)
    rw [HM.out]
    have bb2 : But w.heap.size h w w2 := bb1.trans (hb2.out.mono hsz1)
    have hKl : K.length = q := by rw [HKL.out, HQ'.out]; exact Nat.min_eq_right hqn
    have hT2 := HH1.out.tailed u K HKS.out (by have := HQ.out; omega)
    rw [← HX.out] at hT2
    obtain ⟨L2, hL2⟩ : ∃ L2, L2 = splice L1 (75 + u) X := ⟨_, rfl⟩
    obtain ⟨T2, hT2d⟩ : ∃ T2, T2 = splice T u K := ⟨_, rfl⟩
    rw [← hL2, ← hT2d] at hT2
    have hg2' : Has w2 h L2 134 := by rw [hL2]; exact hg2.out
    have hT2l : T2.length = 64 := hT2.tl
    have hby2 : Bys w2 h 75 T2 := fun i hi => hg2'.cellAt (hT2.tail i (by rw [← hT2l]; exact hi))
    have hl2 : LaidW w2 := HL.out.but bb2 h1 (HL.out.two)
    have hlt2 : h < w2.heap.size := hg2'.lt
    obtain ⟨e0, e1, e2, e3, e4, e5, e6, e7, m0, m1, m2, m3, m4, m5, m6, m7, hSe, hme, hmix⟩ := mixed_lit h h 75 64 L2 S T2 T2 (N + n) w2.drew hT2 hg2' h1 hT2l hT2.ts (Nat.le_refl _) hby2 hlt2 (.inr (by omega)) ⟨hl2.start, hl2.primes, hl2.two⟩
    have hT2e := hT2
    rw [hSe] at hT2e
    obtain ⟨c0, c1, c2, c3, c4, c5, c6, c7⟩ := hT2e.cells hg2'
    have HT2 := Lib.hid hT2
    have HT2E := Lib.hid hT2e
    have HT2D := Lib.hid hT2d
    have HL2 := Lib.hid hL2
    have HMIX := Lib.hid hmix
    have HSE := Lib.hid hSe
    have HME := Lib.hid hme
    have HBB2 := Lib.hid bb2
    clear hL2 hT2d hT2 hT2e hg2' hg2 hb2 HM hmix hSe hme hby2 hl2 bb1 bb2
    go_upto_region 6 with fail
    go_region_with ((go_at_call 77; refine HMIX.out.mono ?_; rintro e w3 ⟨rfl, hh3, hb3⟩; obtain ⟨d0, d1, d2, d3, d4, d5, d6, d7⟩ := (HT2E.out.rowD).cells hh3; obtain ⟨z0, z1, z2, z3, z4, z5, z6, z7⟩ := hh3.free8; have HH3 := Lib.hid hh3; have HB3 := Lib.hid hb3; clear hh3 hb3))
    obtain ⟨w4, hw4⟩ : ∃ w4, w4 = w3.setCells h 67 [.int .u32 (m0 : Int), .int .u32 (m1 : Int), .int .u32 (m2 : Int), .int .u32 (m3 : Int), .int .u32 (m4 : Int), .int .u32 (m5 : Int), .int .u32 (m6 : Int), .int .u32 (m7 : Int)] := ⟨_, rfl⟩
    rw [show ((((((((w3.setCell ⟨h, 67, none⟩ (.int .u32 (m0 : Int))).setCell ⟨h, 68, none⟩ (.int .u32 (m1 : Int))).setCell ⟨h, 69, none⟩ (.int .u32 (m2 : Int))).setCell ⟨h, 70, none⟩ (.int .u32 (m3 : Int))).setCell ⟨h, 71, none⟩ (.int .u32 (m4 : Int))).setCell ⟨h, 72, none⟩ (.int .u32 (m5 : Int))).setCell ⟨h, 73, none⟩ (.int .u32 (m6 : Int))).setCell ⟨h, 74, none⟩ (.int .u32 (m7 : Int))) = w4 from by rw [hw4]; rfl]
    have hh4 : Has w4 h (setL (Go.Proofs.YtgjckddcnmbceaaGreatDoor.rowD L2) 67 ((mixL S T2).map wv)) 134 := by rw [hw4, HME.out]; exact Has.setCells _ 67 HH3.out
    have hH4 := HT2.out.rowD.stated (mixL S T2) (mixL_length S T2) (mixL_lt _ _)
    have hu' : M.length % 64 = u := by have := HND.out; have := HUD.out; omega
    have hd1 : (M.length + q) / 64 = M.length / 64 + 1 := by have := HQ.out; omega
    have hd2 : (M.length + q) % 64 = 0 := by have := HQ.out; omega
    have hst : stAt startL (M ++ B) ((M.length + q) / 64) = mixL S T2 := by
      rw [hd1]
      show mixL (stAt startL (M ++ B) (M.length / 64)) (((M ++ B).drop (64 * (M.length / 64))).take 64) = _
      rw [stAt_append _ _ _ _ (by omega), ← HS.out, ← tail_full HH1.out.tl HT.out (by rw [hu', HBL.out]; exact hge), hu', HT2D.out, HK.out]
    have bb4 : But w.heap.size h w w4 := by rw [hw4]; exact But.setCells _ 67 (HBB2.out.drew.trans (HB3.out.mono HBB2.out.size))
    have WW := Lib.hid (show WL w h M B q w4 from ⟨⟨_, T2, hh4, by rw [hst, HBL.out, ← HND.out]; exact hH4⟩, bb4⟩)
    have HD2 := Lib.hid hd2
    clear hw4 hh4 hH4 hu' hd1 hd2 hst bb4 HH3 HB3 HMIX c0 c1 c2 c3 c4 c5 c6 c7 d0 d1 d2 d3 d4 d5 d6 d7 z0 z1 z2 z3 z4 z5 z6 z7 HME HSE HT2 HT2E HT2D HL2 HBB2
    go_upto_block 0 with fail
    obtain ⟨ad, had⟩ : ∃ ad, ad = (if cap = q then some (⟨b, off, none⟩ : Addr) else some ⟨b, off + q, none⟩) := ⟨_, rfl⟩
    rw [← had]
    have LF := Lib.hid (show Left w h B q (.slice ad (n - q) (cap - q)) from by
      refine ⟨ad, cap - q, by rw [HBL.out], by rw [HBL.out]; omega, by unfold maxLen; omega, fun hqb => ⟨b, off + q, ?_, hlt, hbh, HBY.out.drop q⟩⟩
      rw [HBL.out] at hqb
      rw [had, if_neg (by omega)])
    have HDB := Lib.hid (show q ≤ B.length from by rw [HBL.out]; exact hqn)
    clear had HBY hqq hqi hqi0 HQ HQ' HP HS2
  rotate_left
  have hu0 : ¬ (0 : Int) < (u : Int) := by omega
  go_enter Tryz.func69, Tryz.ntmps69
  go_upto_block 0 with fail
  obtain ⟨w4, hw1⟩ : ∃ w1, w1 = w.setCell ⟨h, 139, none⟩ (.int .u64 ((N : Int) + (n : Int))) := ⟨_, rfl⟩
  rw [← hw1]
  have hs2 : Has w4 h L1 134 := by rw [hw1]; exact HS1.out
  have bb1 : But w.heap.size h w w4 := by rw [hw1]; exact (But.refl _ _ _).setB 139 _
  have hst : stAt startL (M ++ B) ((M.length + 0) / 64) = S := by
    rw [Nat.add_zero, stAt_append _ _ _ _ (by omega), ← HS.out]
  have WW := Lib.hid (show WL w h M B 0 w4 from ⟨⟨_, T, hs2, by rw [hst, HBL.out, ← HND.out]; exact HH1.out⟩, bb1⟩)
  have HD2 := Lib.hid (show (M.length + 0) % 64 = 0 from by have := HND.out; have := HUD.out; omega)
  have LF := Lib.hid (show Left w h B 0 (.slice a n cap) from by
    refine ⟨a, cap, by rw [HBL.out]; rfl, by rw [HBL.out]; omega, by unfold maxLen; omega, fun hqb => ?_⟩
    rcases HB.out.at_ with h0 | ⟨b, off, rfl, hlt, hby⟩
    · rw [HBL.out] at hqb; omega
    · exact ⟨b, off, rfl, hlt, HAP.out (by rw [HBL.out] at hqb; omega) b off rfl, hby⟩)
  have HDB := Lib.hid (Nat.zero_le B.length)
  clear hw1 hs2 bb1 hst cN zN
  all_goals
    clear hu0 HPOS
    go_wp2_with fail
    go_loopw [1] (fun pp wr => ∃ d, d ≤ B.length ∧ (M.length + d) % 64 = 0 ∧ Left w h B d pp ∧ WL w h M B d wr) (fun pp _ => sliceLen pp)
    case atStart => exact ⟨_, HDB.out, HD2.out, LF.out, WW.out⟩
    case round =>
      clear HDB HD2 LF WW
      obtain ⟨d, hd, hdm, ⟨ad, cp, rfl, hl1, hl2, hbys⟩, ⟨⟨L', T', hh', hH'⟩, hbut⟩⟩ := hrel
      obtain ⟨r, hr⟩ : ∃ r, r = B.length - d := ⟨_, rfl⟩
      rw [← hr] at hl1
      rw [← hr]
      unfold maxLen at hl2
      have HR := Lib.hid hr
      have hlth' := hh'.lt
      by_cases h64 : 64 ≤ r
      · obtain ⟨b2, off2, rfl, hlt2, hbh2, hby2⟩ := hbys (by omega)
        have hDl : ((B.drop d).take 64).length = 64 := by rw [List.length_take, List.length_drop, ← hr]; omega
        have hDs : ∀ x ∈ (B.drop d).take 64, x < 256 := fun x hx => HB.out.small x (List.mem_of_mem_drop (List.mem_of_mem_take hx))
        have hl3 : LaidW wr.drew := ⟨(HL.out.but hbut h1 HL.out.two).start, (HL.out.but hbut h1 HL.out.two).primes, (HL.out.but hbut h1 HL.out.two).two⟩
        have hbyD : Bys wr.drew b2 off2 ((B.drop d).take 64) := (hby2.but hbut hlt2 hbh2).take 64
        obtain ⟨e0, e1, e2, e3, e4, e5, e6, e7, m0, m1, m2, m3, m4, m5, m6, m7, hSe, hme, hmix⟩ := mixed_lit h b2 off2 cp L' (stAt startL (M ++ B) ((M.length + d) / 64)) ((B.drop d).take 64) T' (M.length + B.length) wr.drew hH' hh' h1 hDl hDs (by omega) hbyD (Nat.lt_of_lt_of_le hlt2 hbut.size) (.inl hbh2) hl3
        have hHe := hH'
        rw [hSe] at hHe
        obtain ⟨c0, c1, c2, c3, c4, c5, c6, c7⟩ := hHe.cells hh'
        have HH' := Lib.hid hH'
        have HHE := Lib.hid hHe
        have HMIX := Lib.hid hmix
        have HME := Lib.hid hme
        have HBUT := Lib.hid hbut
        have HBY2 := Lib.hid hby2
        have HDM := Lib.hid hdm
        have i1 : (64 : Int) ≤ (r : Int) := by omega
        have i2 : (64 : Int) ≤ (cp : Int) := by omega
        have i3 : (r : Int) ≤ (cp : Int) := by omega
        have i4 : 64 ≤ cp := by omega
        clear hH' hHe hmix hme hSe hbut hby2 hdm hDl hDs hl3 hbyD hbys hh' hr
        go_wp2_with fail
        go_region_with ((go_at_call 77; refine HMIX.out.mono ?_; rintro e w3 ⟨rfl, hh3, hb3⟩; obtain ⟨d0, d1, d2, d3, d4, d5, d6, d7⟩ := (HHE.out.rowD).cells hh3; obtain ⟨z0, z1, z2, z3, z4, z5, z6, z7⟩ := hh3.free8; have HH3 := Lib.hid hh3; have HB3 := Lib.hid hb3; clear hh3 hb3))
        obtain ⟨w4, hw4⟩ : ∃ w4, w4 = w3.setCells h 67 [.int .u32 (m0 : Int), .int .u32 (m1 : Int), .int .u32 (m2 : Int), .int .u32 (m3 : Int), .int .u32 (m4 : Int), .int .u32 (m5 : Int), .int .u32 (m6 : Int), .int .u32 (m7 : Int)] := ⟨_, rfl⟩
        rw [show ((((((((w3.setCell ⟨h, 67, none⟩ (.int .u32 (m0 : Int))).setCell ⟨h, 68, none⟩ (.int .u32 (m1 : Int))).setCell ⟨h, 69, none⟩ (.int .u32 (m2 : Int))).setCell ⟨h, 70, none⟩ (.int .u32 (m3 : Int))).setCell ⟨h, 71, none⟩ (.int .u32 (m4 : Int))).setCell ⟨h, 72, none⟩ (.int .u32 (m5 : Int))).setCell ⟨h, 73, none⟩ (.int .u32 (m6 : Int))).setCell ⟨h, 74, none⟩ (.int .u32 (m7 : Int))) = w4 from by rw [hw4]; rfl]
        have hh4 : Has w4 h (setL (Go.Proofs.YtgjckddcnmbceaaGreatDoor.rowD L') 67 ((mixL (stAt startL (M ++ B) ((M.length + d) / 64)) ((B.drop d).take 64)).map wv)) 134 := by rw [hw4, HME.out]; exact Has.setCells _ 67 HH3.out
        have hH4 := HH'.out.rowD.stated (mixL (stAt startL (M ++ B) ((M.length + d) / 64)) ((B.drop d).take 64)) (mixL_length _ _) (mixL_lt _ _)
        have hst : stAt startL (M ++ B) ((M.length + (d + 64)) / 64) = mixL (stAt startL (M ++ B) ((M.length + d) / 64)) ((B.drop d).take 64) := by
          rw [show (M.length + (d + 64)) / 64 = (M.length + d) / 64 + 1 from by omega]
          show mixL (stAt startL (M ++ B) ((M.length + d) / 64)) (((M ++ B).drop (64 * ((M.length + d) / 64))).take 64) = _
          rw [block_at d HDM.out]
        have bb4 : But w.heap.size h w w4 := by rw [hw4]; exact But.setCells _ 67 (HBUT.out.drew.trans (HB3.out.mono HBUT.out.size))
        have WW := Lib.hid (show WL w h M B (d + 64) w4 from ⟨⟨_, T', hh4, by rw [hst]; exact hH4⟩, bb4⟩)
        clear hw4 hh4 hH4 hst bb4 HH3 HB3 HMIX c0 c1 c2 c3 c4 c5 c6 c7 d0 d1 d2 d3 d4 d5 d6 d7 z0 z1 z2 z3 z4 z5 z6 z7 HME HHE HH' HBUT
        go_wp2_with fail
        all_goals
          go_roundw
          case rel =>
            refine ⟨d + 64, by have := HR.out; omega, by have := HDM.out; omega, ⟨_, _, congrArg (fun x => Value.slice _ x _) (show r - 64 = B.length - (d + 64) from by have := HR.out; omega), by have := HR.out; omega, by unfold maxLen; omega, fun hlt3 => ?_⟩, WW.out⟩
            refine ⟨b2, off2 + 64, ?_, hlt2, hbh2, by rw [← List.drop_drop]; exact HBY2.out.drop 64⟩
            first | rfl | (exfalso; have := HR.out; omega) | (rw [if_neg (by have := HR.out; omega)])
          case measure => simp [sliceLen]; omega
      · have hrI : ¬ (64 : Int) ≤ (r : Int) := by omega
        obtain ⟨Y, hY⟩ : ∃ Y, Y = (B.drop d).map byv := ⟨_, rfl⟩
        have hYl : Y.length = r := by rw [hY, List.length_map, List.length_drop, hr]
        have hmin : Y.length = Nat.min r 64 := by rw [hYl]; exact (Nat.min_eq_left (by omega)).symm
        have hfit : 75 + Y.length ≤ L'.length := by rw [hYl, hH'.ready.1]; omega
        have hone : ∀ v ∈ Y, v.oneCell' = true := by
          intro v hv
          rw [hY] at hv
          obtain ⟨x, _, rfl⟩ := List.mem_map.1 hv
          rfl
        have hpos : 0 < Y.length → (some ⟨h, 75, none⟩ : Option Addr) = some ⟨h, 75, none⟩ ∧ ∃ x, ad = some x ∧ ∀ j v, Y[j]? = some v → wr.cell? (x.add j) = some v := by
          intro hp
          refine ⟨rfl, ?_⟩
          obtain ⟨b2, off2, rfl, hlt2, hbh2, hby2⟩ := hbys (by omega)
          refine ⟨_, rfl, fun j v hj => ?_⟩
          have hjl : j < Y.length := (List.getElem?_eq_some_iff.1 hj).1
          have hjd : j < (B.drop d).length := by rw [List.length_drop]; omega
          rw [Addr.add_mid, (hby2.but hbut hlt2 hbh2) j hjd, ← hj, hY, map_get byv _ j hjd]
          rfl
        have hT' := hH'.tailed 0 (B.drop d) (fun x hx => HB.out.small x (List.mem_of_mem_drop hx)) (by rw [List.length_drop]; omega)
        obtain ⟨t1, t2⟩ := tail_rest (B := B) d hH'.tl hd hdm (by omega)
        have HYM := Lib.hid hmin
        have HYF := Lib.hid hfit
        have HYO := Lib.hid hone
        have HYP := Lib.hid hpos
        have HHH := Lib.hid (show wr.heap[h]? = some (.cells L'.toArray 134 (0, 0)) from hh')
        have HTT := Lib.hid hT'
        have HT1 := Lib.hid t1
        have HT2 := Lib.hid t2
        have HYY := Lib.hid hY
        have HBUT := Lib.hid hbut
        clear hmin hfit hone hpos hh' hT' t1 t2 hY hbut hYl hbys hH' hdm hr
        go_wp2_with (refine hcopy_but rfl (.tmp 72) (.tmp 73) 33 33 rfl 5 Tryz.underlying33 HSZ.out (some ⟨h, 75, none⟩) ad 64 64 r cp rfl rfl h 75 L' 134 HHH.out Y HYM.out HYP.out HYF.out HYO.out ?_; intro w5 hg5 hb5)
        go_end0
        refine ⟨rfl, _, hg5.out, ⟨stAt startL (M ++ B) ((M.length + d) / 64), _, ?_, ?_, HT2.out⟩, HBUT.out.trans (hb5.out.mono HBUT.out.size)⟩
        · rw [List.length_append, HYY.out]; exact HTT.out
        · rw [HT1.out]

end Go.Proofs.YtgjckddcnmbceaaGreatDoor

namespace Go.Proofs.YtgjckddcnmbceaaGreatDoor
open Go.RowKit
set_option linter.unusedVariables false

theorem sum_took (h : Nat) (L : List Value) (M : List Nat) (w : World) (hh : Has w h L 134) (hT : Took L M) (hl : LaidW w) (h1 : 3 < h) :
    Calls Tryz.prog 71 #[.pointer (some ⟨h, 0, none⟩)] w fun e w' => e = .returned (.agg ((dig M).map byv).toArray) ∧ Has w' h (Go.Proofs.YtgjckddcnmbceaaGreatDoor.rowD L) 134 ∧ But w.heap.size h w w' := by
  obtain ⟨S, T, hH, hS, hTt⟩ := hT
  have e := Took.dig (L := L) hS hTt
  exact (sum_any h L S T M.length w hh hH hl h1).mono fun _ _ ⟨he, hr⟩ => ⟨by rw [he, e], hr⟩

theorem IsN.below {w w' : World} {a : Option Addr} {len cap : Nat} {l : List Nat} (h : IsN w a len cap l) {g : Nat} (hb : Below g w w') (hg : w.heap.size ≤ g) : IsN w' a len cap l :=
  h.later (hb.mono hg)

theorem IsN.apart {w w' : World} {a : Option Addr} {len cap : Nat} {l : List Nat} {h g : Nat} (H : IsN w a len cap l) (hb : But g h w w') (hg : w.heap.size ≤ g) (hne : ∀ b off, a = some ⟨b, off, none⟩ → b ≠ h) : IsN w' a len cap l := by
  refine ⟨H.length, ?_, H.nil, H.room, H.small⟩
  rcases H.at_ with h0 | ⟨b, off, rfl, hlt, hby⟩
  · exact .inl h0
  · exact .inr ⟨b, off, rfl, Nat.lt_of_lt_of_le hlt hb.size, hby.but hb (Nat.lt_of_lt_of_le hlt hg) (hne b off rfl)⟩

/-- Bytes that lay there ahead of a block are not in it. -/
theorem IsN.old {w : World} {a : Option Addr} {len cap : Nat} {l : List Nat} (H : IsN w a len cap l) (h0 : len ≠ 0) {h : Nat} (hh : w.heap.size ≤ h) : ∀ b off, a = some ⟨b, off, none⟩ → b ≠ h := by
  intro b off e
  rcases H.at_ with h | ⟨b', off', rfl, hlt, _⟩
  · exact absurd h h0
  · cases e; omega

end Go.Proofs.YtgjckddcnmbceaaGreatDoor

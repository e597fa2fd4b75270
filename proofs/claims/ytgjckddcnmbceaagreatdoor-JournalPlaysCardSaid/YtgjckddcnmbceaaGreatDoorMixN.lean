/-
  What a state becomes behind one block more. Plain functions on naturals, and the hasher's row. No program text but the types.
-/
import Derived.Test.YtgjckddcnmbceaaGreatDoorSchedN
import Derived.Test.YtgjckddcnmbceaaGreatDoorOnceN
import Derived.Deep.WholeRow
import Derived.Laws.BitsAllLaws
namespace Go.Proofs.YtgjckddcnmbceaaGreatDoor
open Go.RowKit

structure S8 where
  s : Nat
  t : Nat
  u : Nat
  v : Nat
  w : Nat
  x : Nat
  y : Nat
  z : Nat

def choice (w x y : Nat) : Nat := (w &&& x) ^^^ ((4294967295 - w) &&& y)
def major (s t u : Nat) : Nat := ((s &&& t) ^^^ (s &&& u)) ^^^ (t &&& u)
def firstOf (a : S8) (k p : Nat) : Nat := ((((a.z + turn3 a.w 6 11 25) % 4294967296 + choice a.w a.x a.y) % 4294967296 + k) % 4294967296 + p) % 4294967296
def secondOf (a : S8) : Nat := (turn3 a.s 2 13 22 + major a.s a.t a.u) % 4294967296
def S8.next (a : S8) (k p : Nat) : S8 := ⟨(firstOf a k p + secondOf a) % 4294967296, a.s, a.t, a.u, (a.v + firstOf a k p) % 4294967296, a.w, a.x, a.y⟩
def S8.of (S : List Nat) : S8 := ⟨S.getD 0 0, S.getD 1 0, S.getD 2 0, S.getD 3 0, S.getD 4 0, S.getD 5 0, S.getD 6 0, S.getD 7 0⟩
def rounds (S P : List Nat) : Nat → S8
  | 0 => S8.of S
  | k + 1 => (rounds S P k).next (wordsK.getD k 0) (P.getD k 0)
def S8.small (a : S8) : Prop := a.s < 4294967296 ∧ a.t < 4294967296 ∧ a.u < 4294967296 ∧ a.v < 4294967296 ∧ a.w < 4294967296 ∧ a.x < 4294967296 ∧ a.y < 4294967296 ∧ a.z < 4294967296

theorem rounds_small (S P : List Nat) (hS : ∀ x ∈ S, x < 4294967296) : ∀ k, (rounds S P k).small
  | 0 => ⟨getD_all hS (by omega) _, getD_all hS (by omega) _, getD_all hS (by omega) _, getD_all hS (by omega) _, getD_all hS (by omega) _, getD_all hS (by omega) _, getD_all hS (by omega) _, getD_all hS (by omega) _⟩
  | k + 1 => by
    obtain ⟨h1, h2, h3, h4, h5, h6, h7, h8⟩ := rounds_small S P hS k
    exact ⟨Nat.mod_lt _ (by omega), h1, h2, h3, Nat.mod_lt _ (by omega), h5, h6, h7⟩

/-- A state behind a block. -/
def mixL (S B : List Nat) : List Nat :=
  let r := rounds S (sched B 64) 64
  [(S.getD 0 0 + r.s) % 4294967296, (S.getD 1 0 + r.t) % 4294967296, (S.getD 2 0 + r.u) % 4294967296, (S.getD 3 0 + r.v) % 4294967296,
   (S.getD 4 0 + r.w) % 4294967296, (S.getD 5 0 + r.x) % 4294967296, (S.getD 6 0 + r.y) % 4294967296, (S.getD 7 0 + r.z) % 4294967296]

theorem mixL_length (S B : List Nat) : (mixL S B).length = 8 := rfl
theorem mixL_lt (S B : List Nat) : ∀ x ∈ mixL S B, x < 4294967296 := by
  intro x hx
  simp only [mixL, List.mem_cons, List.not_mem_nil, or_false] at hx
  rcases hx with h | h | h | h | h | h | h | h <;> (rw [h]; exact Nat.mod_lt _ (by omega))

theorem and_lt {a b : Nat} (ha : a < 4294967296) : a &&& b < 4294967296 := Nat.lt_of_le_of_lt Nat.and_le_left ha
theorem choice_lt {w x y : Nat} (hw : w < 4294967296) : choice w x y < 4294967296 := xor_lt _ _ (and_lt hw) (and_lt (by omega))
theorem major_lt {s t u : Nat} (hs : s < 4294967296) (ht : t < 4294967296) : major s t u < 4294967296 := xor_lt _ _ (xor_lt _ _ (and_lt hs) (and_lt hs)) (and_lt ht)

theorem choice_bits {w x y : Nat} (hw : w < 4294967296) :
    bits .xor .u32 ((w &&& x : Nat) : Int) (((4294967295 - w) &&& y : Nat) : Int) = (choice w x y : Int) := u32_xor_nat _ _ (and_lt hw) (and_lt (by omega))

theorem not32 (a : Nat) (ha : a < 4294967296) : bits .xor .u32 4294967295 (a : Int) = ((4294967295 - a : Nat) : Int) := by
  show IntKind.u32.wrap ((BitVec.ofInt 32 4294967295 ^^^ BitVec.ofInt 32 (a : Int)).toNat : Int) = _
  have h1 : BitVec.ofInt 32 4294967295 = BitVec.allOnes 32 := by decide
  rw [h1, BitVec.allOnes_xor, BitVec.toNat_not, ofInt_u32 a ha]
  simp [IntKind.wrap, IntKind.bits, IntKind.signed]
  omega

theorem not32' (a b : Nat) (ha : a < 4294967296) (hb : b = 4294967295 - a) : bits .xor .u32 (if IntKind.u32.signed = true then -1 else IntKind.u32.max) (a : Int) = (b : Int) := by
  rw [hb]; exact not32 a ha

theorem turned_6 (x : Nat) (w : World) (hx : x < 4294967296) : Calls Tryz.prog 85 #[.int .u32 (x : Int), .int .i64 6, .int .i64 11, .int .i64 25] w fun e w' => e = .returned (.int .u32 (turn3 x 6 11 25 : Int)) ∧ w' = w :=
  (turned_any x 6 11 25 w hx (by omega) (by omega) (by omega) (by omega) (by omega) (by omega)).mono fun _ _ h => ⟨h.1, h.2.symm⟩
theorem turned_2 (x : Nat) (w : World) (hx : x < 4294967296) : Calls Tryz.prog 85 #[.int .u32 (x : Int), .int .i64 2, .int .i64 13, .int .i64 22] w fun e w' => e = .returned (.int .u32 (turn3 x 2 13 22 : Int)) ∧ w' = w :=
  (turned_any x 2 13 22 w hx (by omega) (by omega) (by omega) (by omega) (by omega) (by omega)).mono fun _ _ h => ⟨h.1, h.2.symm⟩

theorem add32 (a b c : Nat) (h : c = (a + b) % 4294967296) : IntKind.u32.wrap ((a : Int) + (b : Int)) = (c : Int) := by
  simp [IntKind.wrap, IntKind.bits, IntKind.signed]; omega

/-- The hasher's row behind the words' making. -/
def rowD (L : List Value) : List Value := (rowW L 64).set 0 (.int .u32 1)

/-- The hasher's row is ready: the lock is free; the words are not made yet, or lie there. -/
def Ready (L : List Value) : Prop := L.length = 140 ∧ L[1]? = some (.int .i32 0) ∧ (L[0]? = some (.int .u32 0) ∨ (L[0]? = some (.int .u32 1) ∧ rowD L = L))

theorem rowW_twice (L : List Value) (hL : L.length = 140) (v : Value) : rowW ((rowW L 64).set 0 v) 64 = (rowW L 64).set 0 v := by
  match L, hL with
  | a :: c :: d :: M, hM =>
    simp [rowW] at hM ⊢
    rw [List.drop_append]
    simp [wordsK_length]

theorem rowD_length {L : List Value} (hL : L.length = 140) : (rowD L).length = 140 := by simp [rowD, rowW_length L 64 (by omega) hL]

theorem rowD_ready {L : List Value} (h : Ready L) : Ready (rowD L) := by
  obtain ⟨hL, h1, h0⟩ := h
  have hr : (rowW L 64).length = 140 := rowW_length L 64 (by omega) hL
  refine ⟨by simp [rowD, hr], ?_, .inr ⟨?_, ?_⟩⟩
  · unfold rowD; rw [List.getElem?_set_ne (by omega), rowW_get1 L hL, h1]
  · unfold rowD; simp [hr]
  · unfold rowD; rw [rowW_twice L hL]; simp

theorem rowD_get (L : List Value) (hL : L.length = 140) (j : Nat) (hj : 67 ≤ j) : (rowD L)[j]? = L[j]? := by
  unfold rowD
  rw [List.getElem?_set_ne (by omega)]
  unfold rowW
  rw [List.getElem?_append_right (by simp; omega), List.getElem?_append_right (by simp [wordsK_length]; omega), List.getElem?_drop]
  congr 1
  simp [wordsK_length]; omega

theorem rowD_word (L : List Value) (hL : L.length = 140) (j : Nat) (hj : j < 64) : (rowD L)[3 + j]? = some (wv (wordsK.getD j 0)) := by
  unfold rowD
  rw [List.getElem?_set_ne (by omega)]
  unfold rowW
  rw [List.getElem?_append_right (by simp; omega), List.getElem?_append_left (by simp [wordsK_length]; omega)]
  have e : 3 + j - (List.take (67 - 64) L).length = j := by simp; omega
  rw [e, show 64 - 64 = 0 from rfl, List.drop_zero]
  exact map_get wv wordsK j (by rw [wordsK_length]; omega)

theorem do_any (b : Nat) (L : List Value) (t : TypeId) (w : World) (hr : Ready L) (hb : Has w b L t) (hb1 : 3 < b)
    (hP : ∀ i, i < 64 → w.cell? ⟨3, i, none⟩ = some (.int .u64 ((primesL.getD i 0 : Nat) : Int))) :
    Calls Tryz.prog 82 #[.pointer (some ⟨b, 0, none⟩), .func (.func 83) #[.pointer (some ⟨b, 0, none⟩)] #[]] w fun e w' => e = .returned (.tuple #[]) ∧ Has w' b (rowD L) t ∧ But w.heap.size b w w' := by
  obtain ⟨hL, h1, h0 | ⟨h0, he⟩⟩ := hr
  · exact do_first b L t w hL hb hb1 h0 h1 hP
  · refine (do_done ⟨b, 0, none⟩ 1 (by omega) _ w (hb.cellAt h0)).mono ?_
    rintro e w' ⟨rfl, rfl⟩
    exact ⟨rfl, by rw [he]; exact hb, But.refl _ _ _⟩

end Go.Proofs.YtgjckddcnmbceaaGreatDoor

namespace Go.Proofs.YtgjckddcnmbceaaGreatDoor
open Go.RowKit

set_option maxRecDepth 100000 in
set_option maxHeartbeats 4000000 in
theorem mixed_any (h b off cap : Nat) (L : List Value) (S B : List Nat) (w : World) (hr : Ready L) (hh : Has w h L 134) (h1 : 3 < h)
    (hSl : S.length = 8) (hS : ∀ x ∈ S, x < 4294967296) (hL : B.length = 64) (hB : ∀ x ∈ B, x < 256) (hc : 64 ≤ cap)
    (hb : Bys w b off B) (hlt : b < w.heap.size) (hap : b ≠ h ∨ 67 ≤ off)
    (hP : ∀ i, i < 64 → w.cell? ⟨3, i, none⟩ = some (.int .u64 ((primesL.getD i 0 : Nat) : Int))) :
    Calls Tryz.prog 77 #[.pointer (some ⟨h, 0, none⟩), .agg (S.map wv).toArray, .slice (some ⟨b, off, none⟩) 64 cap] w fun e w' => e = .returned (.agg ((mixL S B).map wv).toArray) ∧ Has w' h (rowD L) 134 ∧ But w.heap.size h w w' := by
  obtain ⟨C, hC⟩ : ∃ C, C = (S.map wv).toArray := ⟨_, rfl⟩
  rw [← hC]
  have hmf : ∀ (fn : Fn) (first cap : Array Value) (w : World), (Instr.makeFunc fn first cap).run Tryz.prog w = .ok (.func fn first cap) w := fun _ _ _ _ => rfl
  have HC := Lib.hid hC
  have HBY := Lib.hid hb
  have HP := Lib.hid hP
  have HR := Lib.hid hr
  have HH := Lib.hid hh
  clear hC hb hP hr hh
  go_enter Tryz.func77, Tryz.ntmps77
  go_wp2_with fail
  have hlth := HH.out.lt
  obtain ⟨w2, hw2⟩ : ∃ w2, w2 = w.alloc (.cells C 121) := ⟨_, rfl⟩
  have a2 : Has w2 w.heap.size (S.map wv) 121 := by rw [hw2, HC.out]; exact Has.new w _ _
  have s2 : w2.heap.size = w.heap.size + 1 := by rw [hw2]; simp
  have b2 : Below w.heap.size w w2 := by rw [hw2]; exact (Below.refl _ _).alloc (by omega) _
  rw [← hw2]
  obtain ⟨w3, hw3⟩ : ∃ w3, w3 = w2.alloc (.cells ((List.replicate 8 0).map wv).toArray 121) := ⟨_, rfl⟩
  have a3 : Has w3 w.heap.size (S.map wv) 121 := by rw [hw3]; exact a2.alloc _
  have o3 : Has w3 (w.heap.size + 1) ((List.replicate 8 0).map wv) 121 := by rw [hw3, ← s2]; exact Has.new w2 _ _
  have s3 : w3.heap.size = w.heap.size + 2 := by rw [hw3]; simp [s2]
  have b3 : Below w.heap.size w w3 := by rw [hw3]; exact b2.alloc (by omega) _
  rw [show w2.alloc (.cells #[.int .u32 0, .int .u32 0, .int .u32 0, .int .u32 0, .int .u32 0, .int .u32 0, .int .u32 0, .int .u32 0] 121) = w3 from by rw [hw3]; rfl]
  have hh3 := HH.out.below b3 hlth
  have hby3 := HBY.out.below b3 hlt
  have hP3 : ∀ i, i < 64 → w3.cell? ⟨3, i, none⟩ = some (.int .u64 ((primesL.getD i 0 : Nat) : Int)) := fun i hi => (b3.cell (p := ⟨3, i, none⟩) (show 3 < w.heap.size by omega)).trans (HP.out i hi)
  clear hw2 a2 s2 b2 hw3
  obtain ⟨G, hG⟩ : ∃ G, G = w.heap.size := ⟨_, rfl⟩
  rw [← hG] at a3 o3 s3 b3 hlth hlt ⊢
  have HG := Lib.hid hG
  clear hG
  refine (do_any h L _ w3 HR.out hh3 h1 hP3).mono ?_
  rintro e w4 ⟨rfl, hh4, hbut4⟩
  rw [s3] at hbut4
  have a4 := a3.but hbut4 (by omega) (by omega)
  have o4 := o3.but hbut4 (by omega) (by omega)
  have hby4 : Bys w4 b off B := by
    intro i hi
    by_cases hbh : b = h
    · subst hbh
      have c := hby3 i hi
      rw [cell_of_row w3 b _ _ _ _ hh3] at c
      refine hh4.cellAt ?_
      rw [rowD_get L HR.out.1 _ (by omega)]
      simpa using c
    · exact (World.cell?_of_block (w := w3) (hbut4.block b (by omega) hbh)).trans (hby3 i hi)
  have s4 := hbut4.size
  rw [s3] at s4
  have bb4 : But G h w w4 := (But.of_below b3).trans (hbut4.mono (by omega))
  clear a3 o3 s3 b3 hh3 hby3 hP3 hbut4
  go_wp2_with fail
  refine (sched_any b off cap B w4 hL hB hc hby4 (by omega)).mono ?_
  rintro e w5 ⟨rfl, hb5⟩
  have a5 := a4.below hb5 (by omega)
  have o5 := o4.below hb5 (by omega)
  have hh5 := hh4.below hb5 (by omega)
  have s5 := hb5.size
  have bb5 : But G h w w5 := bb4.trans (But.of_below (hb5.mono (by omega)))
  have hi : (Tryz.prog.info? 131).map (·.size) = some 64 := by kernel_rfl
  have e1 : some 64 = some ((sched B 64).map wv).toArray.size := by simp [sched_length]
  have e2 : (((List.replicate 64 0).map wv).toArray : Array Value).size = ((sched B 64).map wv).toArray.size := by simp [sched_length]
  have e3 : ((sched B 64).map wv).toArray.all (·.oneCell') = true := by simp [wv, Value.oneCell']
  have HI := Lib.hid (hi.trans e1)
  have E2 := Lib.hid e2
  have E3 := Lib.hid e3
  clear hi e1 e2 e3 a4 o4 hh4 hby4 bb4 hb5
  obtain ⟨R, hR⟩ : ∃ R, R = ((sched B 64).map wv).toArray := ⟨_, rfl⟩
  rw [← hR] at HI E2 E3 ⊢
  have HRR := Lib.hid hR
  clear hR
  go_upto_block 3 with (first
    | (rw [zeros64]; refine wpList_store_row rfl 131 _ _ rfl w5.heap.size R rfl rfl 131 _ (heap_alloc_last _ _) HI.out E2.out E3.out ?_))
  obtain ⟨w6, hw6⟩ : ∃ w6, w6 = (w5.alloc (.cells (((List.replicate 64 0).map wv).toArray) 131)).setRow w5.heap.size R := ⟨_, rfl⟩
  have hw7 : w6 = w5.alloc (.cells R 131) := by rw [hw6]; exact World.setRow_alloc_new w5 _ _ _
  have a6 : Has w6 G (S.map wv) 121 := by rw [hw7]; exact a5.alloc _
  have o6 : Has w6 (G + 1) ((List.replicate 8 0).map wv) 121 := by rw [hw7]; exact o5.alloc _
  have hh6 : Has w6 h (rowD L) 134 := by rw [hw7]; exact hh5.alloc _
  have p6 : Has w6 w5.heap.size ((sched B 64).map wv) 131 := by rw [hw7, HRR.out]; exact Has.new w5 _ _
  have bb6 : But G h w w6 := by rw [hw7]; exact bb5.alloc (by omega) _
  have hGP : G + 1 < w5.heap.size := by omega
  rw [← hw6]
  generalize w5.heap.size = P at *
  clear hw6 hw7 a5 o5 hh5 bb5 HRR HI E2 E3 s4 s5 HC hmf HBY HP HH
  have c0 := a6.cellAt (map_get wv S 0 (by omega))
  have c1 := a6.cellAt (map_get wv S 1 (by omega))
  have c2 := a6.cellAt (map_get wv S 2 (by omega))
  have c3 := a6.cellAt (map_get wv S 3 (by omega))
  have c4 := a6.cellAt (map_get wv S 4 (by omega))
  have c5 := a6.cellAt (map_get wv S 5 (by omega))
  have c6 := a6.cellAt (map_get wv S 6 (by omega))
  have c7 := a6.cellAt (map_get wv S 7 (by omega))
  simp only [wv] at c0 c1 c2 c3 c4 c5 c6 c7
  obtain ⟨e0, he0⟩ : ∃ e, e = S.getD 0 0 := ⟨_, rfl⟩
  rw [← he0] at c0
  have HE0 := Lib.hid he0
  obtain ⟨e1, he1⟩ : ∃ e, e = S.getD 1 0 := ⟨_, rfl⟩
  rw [← he1] at c1
  have HE1 := Lib.hid he1
  obtain ⟨e2, he2⟩ : ∃ e, e = S.getD 2 0 := ⟨_, rfl⟩
  rw [← he2] at c2
  have HE2 := Lib.hid he2
  obtain ⟨e3, he3⟩ : ∃ e, e = S.getD 3 0 := ⟨_, rfl⟩
  rw [← he3] at c3
  have HE3 := Lib.hid he3
  obtain ⟨e4, he4⟩ : ∃ e, e = S.getD 4 0 := ⟨_, rfl⟩
  rw [← he4] at c4
  have HE4 := Lib.hid he4
  obtain ⟨e5, he5⟩ : ∃ e, e = S.getD 5 0 := ⟨_, rfl⟩
  rw [← he5] at c5
  have HE5 := Lib.hid he5
  obtain ⟨e6, he6⟩ : ∃ e, e = S.getD 6 0 := ⟨_, rfl⟩
  rw [← he6] at c6
  have HE6 := Lib.hid he6
  obtain ⟨e7, he7⟩ : ∃ e, e = S.getD 7 0 := ⟨_, rfl⟩
  rw [← he7] at c7
  have HE7 := Lib.hid he7
  clear he0 he1 he2 he3 he4 he5 he6 he7
  go_quiet (fail)
  go_wp2_with fail
  go_loopw [8, 9, 10, 11, 12, 13, 14, 15, 45] (fun v1 v2 v3 v4 v5 v6 v7 v8 ii wr => ∃ k n : Nat, k ≤ 64 ∧ ii = .int .i64 k ∧ v1 = wv (rounds S (sched B 64) k).s ∧ v2 = wv (rounds S (sched B 64) k).t ∧ v3 = wv (rounds S (sched B 64) k).u ∧ v4 = wv (rounds S (sched B 64) k).v ∧ v5 = wv (rounds S (sched B 64) k).w ∧ v6 = wv (rounds S (sched B 64) k).x ∧ v7 = wv (rounds S (sched B 64) k).y ∧ v8 = wv (rounds S (sched B 64) k).z ∧ wr = w6.drewN n) (fun _ _ _ _ _ _ _ _ ii _ => 64 - (intOf ii).toNat)
  case atStart => exact ⟨0, _, Nat.zero_le _, rfl, by rw [HE0.out]; rfl, by rw [HE1.out]; rfl, by rw [HE2.out]; rfl, by rw [HE3.out]; rfl, by rw [HE4.out]; rfl, by rw [HE5.out]; rfl, by rw [HE6.out]; rfl, by rw [HE7.out]; rfl, rfl⟩
  case round =>
    obtain ⟨k, n, hk, rfl, rfl, rfl, rfl, rfl, rfl, rfl, rfl, rfl, hwr⟩ := hrel
    have HWR := Lib.hid hwr
    clear hwr
    by_cases hk64 : k < 64
    · have hkl : (k : Int) < 64 := by omega
      have cw : wr.cell? ⟨h, 3 + k, none⟩ = some (wv (wordsK.getD k 0)) := by
        rw [HWR.out]; exact hh6.cellAt (rowD_word L HR.out.1 k hk64)
      have cp : wr.cell? ⟨P, k, none⟩ = some (wv ((sched B 64).getD k 0)) := by
        rw [HWR.out]; exact p6.cellAt (map_get wv (sched B 64) k (by rw [sched_length]; omega))
      have hkw : wordsK.getD k 0 < 4294967296 := getD_all (l := wordsK) (by decide) (by omega) k
      have hkp : (sched B 64).getD k 0 < 4294967296 := getD_all (sched_lt B hB 64) (by omega) k
      obtain ⟨g1, g2, g3, g4, g5, g6, g7, g8⟩ := rounds_small S (sched B 64) hS k
      have HN : Hid (rounds S (sched B 64) (k + 1) = (rounds S (sched B 64) k).next (wordsK.getD k 0) ((sched B 64).getD k 0)) := Lib.hid rfl
      generalize wordsK.getD k 0 = kw at *
      generalize (sched B 64).getD k 0 = pw at *
      generalize rounds S (sched B 64) k = a at *
      obtain ⟨s, t, u, v, q, x, y, z⟩ := a
      simp only at g1 g2 g3 g4 g5 g6 g7 g8 HN
      simp only [wv] at cw cp
      have Q1 : bits .and .u32 (q : Int) (x : Int) = ((q &&& x : Nat) : Int) := u32_and_nat _ _ g5 g6
      obtain ⟨nq, hnq⟩ : ∃ nq, nq = 4294967295 - q := ⟨_, rfl⟩
      have Q2 := not32' q nq g5 hnq
      have Q3 : bits .and .u32 (nq : Int) (y : Int) = ((nq &&& y : Nat) : Int) := u32_and_nat _ _ (by omega) g7
      have Q4 := choice_bits (x := x) (y := y) g5
      rw [← hnq] at Q4
      have Q5 : bits .and .u32 (s : Int) (t : Int) = ((s &&& t : Nat) : Int) := u32_and_nat _ _ g1 g2
      have Q6 : bits .and .u32 (s : Int) (u : Int) = ((s &&& u : Nat) : Int) := u32_and_nat _ _ g1 g3
      have Q7 : bits .and .u32 (t : Int) (u : Int) = ((t &&& u : Nat) : Int) := u32_and_nat _ _ g2 g3
      have Q8 : bits .xor .u32 ((s &&& t : Nat) : Int) ((s &&& u : Nat) : Int) = (((s &&& t) ^^^ (s &&& u) : Nat) : Int) := u32_xor_nat _ _ (and_lt g1) (and_lt g1)
      have Q9 : bits .xor .u32 (((s &&& t) ^^^ (s &&& u) : Nat) : Int) ((t &&& u : Nat) : Int) = (major s t u : Int) := u32_xor_nat _ _ (xor_lt _ _ (and_lt g1) (and_lt g1)) (and_lt g2)
      have m1 := choice_lt (x := x) (y := y) g5
      have m2 := major_lt (u := u) g1 g2
      have m3 := turn3_lt q 6 11 25 g5
      have m4 := turn3_lt s 2 13 22 g1
      obtain ⟨ch, hch⟩ : ∃ ch, ch = choice q x y := ⟨_, rfl⟩
      obtain ⟨mj, hmj⟩ : ∃ mj, mj = major s t u := ⟨_, rfl⟩
      rw [← hch] at Q4 m1
      rw [← hmj] at Q9 m2
      have HCH := Lib.hid hch
      have HMJ := Lib.hid hmj
      clear hch hmj
      obtain ⟨n1, h1'⟩ : ∃ n1, n1 = (z + turn3 q 6 11 25) % 4294967296 := ⟨_, rfl⟩
      obtain ⟨n2, h2'⟩ : ∃ n2, n2 = (n1 + ch) % 4294967296 := ⟨_, rfl⟩
      obtain ⟨n3, h3'⟩ : ∃ n3, n3 = (n2 + kw) % 4294967296 := ⟨_, rfl⟩
      obtain ⟨n4, h4'⟩ : ∃ n4, n4 = (n3 + pw) % 4294967296 := ⟨_, rfl⟩
      obtain ⟨n5, h5'⟩ : ∃ n5, n5 = (turn3 s 2 13 22 + mj) % 4294967296 := ⟨_, rfl⟩
      obtain ⟨n6, h6'⟩ : ∃ n6, n6 = (n4 + n5) % 4294967296 := ⟨_, rfl⟩
      obtain ⟨n7, h7'⟩ : ∃ n7, n7 = (v + n4) % 4294967296 := ⟨_, rfl⟩
      have Z1 := add32 _ _ _ h1'
      have Z2 := add32 _ _ _ h2'
      have Z3 := add32 _ _ _ h3'
      have Z4 := add32 _ _ _ h4'
      have Z5 := add32 _ _ _ h5'
      have Z6 := add32 _ _ _ h6'
      have Z7 := add32 _ _ _ h7'
      have HN2 : Hid (rounds S (sched B 64) (k + 1) = ⟨n6, s, t, u, n7, q, x, y⟩) := Lib.hid (by
        rw [HN.out, h7', h6', h5', h4', h3', h2', h1', HCH.out, HMJ.out]; rfl)
      clear hnq h1' h2' h3' h4' h5' h6' h7' HN
      simp only [wv]
      go_upto_region 8 with fail
      go_quiet ((go_at_call 85; exact Calls.quiet_of_same (turned_6 q _ g5)))
      go_wp2_with fail
      refine (turned_2 s _ g1).mono ?_
      rintro e w' ⟨rfl, rfl⟩
      go_wp2_with fail
      go_roundw
      case rel =>
        exact ⟨k + 1, n + nq, by omega, by go_num, by rw [HN2.out], by rw [HN2.out], by rw [HN2.out], by rw [HN2.out], by rw [HN2.out], by rw [HN2.out], by rw [HN2.out], by rw [HN2.out], by rw [HWR.out, World.drewN_drewN]⟩
      case measure => simp [intOf]; omega
    · obtain rfl : k = 64 := by omega
      have d0 : wr.cell? ⟨G, 0, none⟩ = some (.int .u32 (e0 : Int)) := by rw [HWR.out]; exact c0
      have d1 : wr.cell? ⟨G, 1, none⟩ = some (.int .u32 (e1 : Int)) := by rw [HWR.out]; exact c1
      have d2 : wr.cell? ⟨G, 2, none⟩ = some (.int .u32 (e2 : Int)) := by rw [HWR.out]; exact c2
      have d3 : wr.cell? ⟨G, 3, none⟩ = some (.int .u32 (e3 : Int)) := by rw [HWR.out]; exact c3
      have d4 : wr.cell? ⟨G, 4, none⟩ = some (.int .u32 (e4 : Int)) := by rw [HWR.out]; exact c4
      have d5 : wr.cell? ⟨G, 5, none⟩ = some (.int .u32 (e5 : Int)) := by rw [HWR.out]; exact c5
      have d6 : wr.cell? ⟨G, 6, none⟩ = some (.int .u32 (e6 : Int)) := by rw [HWR.out]; exact c6
      have d7 : wr.cell? ⟨G, 7, none⟩ = some (.int .u32 (e7 : Int)) := by rw [HWR.out]; exact c7
      have ho : wr.heap[G + 1]? = some (.cells ((List.replicate 8 0).map wv).toArray 121 (0, 0)) := by rw [HWR.out]; exact o6
      have hi8 : (Tryz.prog.info? 121).map (·.size) = some 8 := by kernel_rfl
      have HO := Lib.hid ho
      have HI8 := Lib.hid hi8
      clear ho hi8
      have hhr : Has wr h (rowD L) 134 := by rw [HWR.out]; exact hh6.drewN _
      have bbr : But G h w wr := by rw [HWR.out]; exact bb6.trans ⟨rfl, rfl, rfl, Nat.le_refl _, fun _ _ _ => rfl⟩
      obtain ⟨r0, hr0⟩ : ∃ r, r = (rounds S (sched B 64) 64).s := ⟨_, rfl⟩
      obtain ⟨m0, hm0⟩ : ∃ m, m = (e0 + r0) % 4294967296 := ⟨_, rfl⟩
      have Z0 := add32 _ _ _ hm0
      obtain ⟨r1, hr1⟩ : ∃ r, r = (rounds S (sched B 64) 64).t := ⟨_, rfl⟩
      obtain ⟨m1, hm1⟩ : ∃ m, m = (e1 + r1) % 4294967296 := ⟨_, rfl⟩
      have Z1 := add32 _ _ _ hm1
      obtain ⟨r2, hr2⟩ : ∃ r, r = (rounds S (sched B 64) 64).u := ⟨_, rfl⟩
      obtain ⟨m2, hm2⟩ : ∃ m, m = (e2 + r2) % 4294967296 := ⟨_, rfl⟩
      have Z2 := add32 _ _ _ hm2
      obtain ⟨r3, hr3⟩ : ∃ r, r = (rounds S (sched B 64) 64).v := ⟨_, rfl⟩
      obtain ⟨m3, hm3⟩ : ∃ m, m = (e3 + r3) % 4294967296 := ⟨_, rfl⟩
      have Z3 := add32 _ _ _ hm3
      obtain ⟨r4, hr4⟩ : ∃ r, r = (rounds S (sched B 64) 64).w := ⟨_, rfl⟩
      obtain ⟨m4, hm4⟩ : ∃ m, m = (e4 + r4) % 4294967296 := ⟨_, rfl⟩
      have Z4 := add32 _ _ _ hm4
      obtain ⟨r5, hr5⟩ : ∃ r, r = (rounds S (sched B 64) 64).x := ⟨_, rfl⟩
      obtain ⟨m5, hm5⟩ : ∃ m, m = (e5 + r5) % 4294967296 := ⟨_, rfl⟩
      have Z5 := add32 _ _ _ hm5
      obtain ⟨r6, hr6⟩ : ∃ r, r = (rounds S (sched B 64) 64).y := ⟨_, rfl⟩
      obtain ⟨m6, hm6⟩ : ∃ m, m = (e6 + r6) % 4294967296 := ⟨_, rfl⟩
      have Z6 := add32 _ _ _ hm6
      obtain ⟨r7, hr7⟩ : ∃ r, r = (rounds S (sched B 64) 64).z := ⟨_, rfl⟩
      obtain ⟨m7, hm7⟩ : ∃ m, m = (e7 + r7) % 4294967296 := ⟨_, rfl⟩
      have Z7 := add32 _ _ _ hm7
      have HM : Hid (mixL S B = [m0, m1, m2, m3, m4, m5, m6, m7]) := Lib.hid (by
        rw [hm0, hr0, HE0.out, hm1, hr1, HE1.out, hm2, hr2, HE2.out, hm3, hr3, HE3.out, hm4, hr4, HE4.out, hm5, hr5, HE5.out, hm6, hr6, HE6.out, hm7, hr7, HE7.out]; rfl)
      rw [← hr0, ← hr1, ← hr2, ← hr3, ← hr4, ← hr5, ← hr6, ← hr7]
      clear hm0 hr0 hm1 hr1 hm2 hr2 hm3 hr3 hm4 hr4 hm5 hr5 hm6 hr6 hm7 hr7
      simp only [wv]
      have u1 : (Tryz.prog.info? 121).map (·.size) = some (#[.int .u32 (m0 : Int), .int .u32 (m1 : Int), .int .u32 (m2 : Int), .int .u32 (m3 : Int), .int .u32 (m4 : Int), .int .u32 (m5 : Int), .int .u32 (m6 : Int), .int .u32 (m7 : Int)] : Array Value).size := HI8.out
      have u2 : (((List.replicate 8 0).map wv).toArray : Array Value).size = (#[.int .u32 (m0 : Int), .int .u32 (m1 : Int), .int .u32 (m2 : Int), .int .u32 (m3 : Int), .int .u32 (m4 : Int), .int .u32 (m5 : Int), .int .u32 (m6 : Int), .int .u32 (m7 : Int)] : Array Value).size := rfl
      have u3 : (#[.int .u32 (m0 : Int), .int .u32 (m1 : Int), .int .u32 (m2 : Int), .int .u32 (m3 : Int), .int .u32 (m4 : Int), .int .u32 (m5 : Int), .int .u32 (m6 : Int), .int .u32 (m7 : Int)] : Array Value).all (·.oneCell') = true := by simp [Value.oneCell']
      have U1 := Lib.hid u1
      have U2 := Lib.hid u2
      have U3 := Lib.hid u3
      clear u1 u2 u3
      go_wp2_with (refine wpList_store_row rfl 121 _ _ rfl (G + 1) #[.int .u32 (m0 : Int), .int .u32 (m1 : Int), .int .u32 (m2 : Int), .int .u32 (m3 : Int), .int .u32 (m4 : Int), .int .u32 (m5 : Int), .int .u32 (m6 : Int), .int .u32 (m7 : Int)] rfl rfl 121 _ HO.out U1.out U2.out U3.out ?_)
      have hres : ∀ tmps : Array Value, tmps.getD 6 undef = .pointer (some ⟨G + 1, 0, none⟩) → (results Tryz.f77 tmps).run Tryz.prog (wr.setRow (G + 1) #[.int .u32 (m0 : Int), .int .u32 (m1 : Int), .int .u32 (m2 : Int), .int .u32 (m3 : Int), .int .u32 (m4 : Int), .int .u32 (m5 : Int), .int .u32 (m6 : Int), .int .u32 (m7 : Int)]) = .ok (.agg #[.int .u32 (m0 : Int), .int .u32 (m1 : Int), .int .u32 (m2 : Int), .int .u32 (m3 : Int), .int .u32 (m4 : Int), .int .u32 (m5 : Int), .int .u32 (m6 : Int), .int .u32 (m7 : Int)]) (wr.setRow (G + 1) #[.int .u32 (m0 : Int), .int .u32 (m1 : Int), .int .u32 (m2 : Int), .int .u32 (m3 : Int), .int .u32 (m4 : Int), .int .u32 (m5 : Int), .int .u32 (m6 : Int), .int .u32 (m7 : Int)]) :=
        fun tmps hp => results_cell_row (fn := Tryz.f77) (p := 6) (ty := 121) Tryz.results77 tmps _ (G + 1) 121 #[.int .u32 (m0 : Int), .int .u32 (m1 : Int), .int .u32 (m2 : Int), .int .u32 (m3 : Int), .int .u32 (m4 : Int), .int .u32 (m5 : Int), .int .u32 (m6 : Int), .int .u32 (m7 : Int)] (0, 0) _ hp (setRow_heap _ _ _ _ _ _ HO.out) Tryz.underlying121 rfl U1.out
      refine bodyPost_ret (hres _ rfl) rfl ?_
      refine ⟨by rw [HM.out]; rfl, hhr.rowOther (by omega) _, ?_⟩
      rw [← HG.out]
      exact bbr.setRow (.inl (by omega)) _

end Go.Proofs.YtgjckddcnmbceaaGreatDoor

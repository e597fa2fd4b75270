/-
  slices.Insert and slices.Delete at []api.Tree, one element, at a row of one's own: elements of five cells. Conditions: the row is owned; the element lies in a block of its own.
-/
import Derived.Test.YtbempgdndmchlaaDoorEMem
import Derived.Test.YtbempgdndmchlaaDoorEOwn
import Derived.Laws.CopyRow
import Derived.Laws.IdiomCopy
import Derived.Lib.Overlaps
import Derived.Lib.AppendZeros
import Derived.Lib.AppendZerosOnto
import Derived.Deep.AppendLies
import Derived.Shelf.Spec.SlicesInsert
import Derived.WalkSpells
namespace Go.Proofs.YtbempgdndmchlaaDoor
open Go.RowKit
set_option linter.unusedVariables false

abbrev tT : TypeId := 26

/-- copy at elements of any size, into a block that is known. -/
theorem run_copy_n {P : Program} (w : World) (dT sT ty elem : TypeId) (sz g o dLen dCap : Nat) (a : Addr) (sLen sCap : Nat) (cur : Array Value) (t : TypeId) (cs : List Value)
    (hu : P.underlying dT = some (.slice elem)) (hs : (P.info? elem).map (·.size) = some sz)
    (hg : w.heap[g]? = some (.cells cur t (0, 0))) (hn : cs.length = Nat.min sLen dLen * sz)
    (hsrc : ∀ j v, cs[j]? = some v → w.cell? (a.add j) = some v) (hfit : o + cs.length ≤ cur.size) (h1 : ∀ v ∈ cs, v.oneCell' = true) :
    (Builtin.copy_ #[dT, sT] ty #[.slice (some ⟨g, o, none⟩) dLen dCap, .slice (some a) sLen sCap]).run P w =
      .ok (goInt (Nat.min sLen dLen)) (w.setRow g (cur.toList.take o ++ cs ++ cur.toList.drop (o + cs.length)).toArray) := by
  have hl := run_loadCells_list (P := P) w a cs hsrc
  have hst := run_storeCells_at P g o t cs 0 cur w hg (by simpa using hfit) h1
  cases hq : P.info? elem with
  | none => simp [hq] at hs
  | some i =>
    have hi : i.size = sz := by simpa [hq] using hs
    simp only [Nat.min_def] at hn ⊢
    simp [Builtin.copy_, run_underlying hu, Builtin.lenOf, Builtin.firstCells, sizeOf, typeInfo, hq, hi, Nat.min_def, ← hn, hl, hst]

/-- append within the room of a block that is known. -/
theorem run_append_in {P : Program} (w : World) (t ty elem : TypeId) (sz g n cap : Nat) (x : Option Addr) (m c : Nat) (cur : Array Value) (tt : TypeId) (cs : List Value)
    (hu : P.underlying t = some (.slice elem)) (hs : (P.info? elem).map (·.size) = some sz)
    (hg : w.heap[g]? = some (.cells cur tt (0, 0))) (hn : cs.length = m * sz) (hroom : n + m ≤ cap)
    (hsrc : ∀ a, x = some a → ∀ j v, cs[j]? = some v → w.cell? (a.add j) = some v) (hx : x = none → m = 0) (hfit : n * sz + cs.length ≤ cur.size) (h1 : ∀ v ∈ cs, v.oneCell' = true) :
    (Builtin.append_ #[t, t] ty #[.slice (some ⟨g, 0, none⟩) n cap, .slice x m c]).run P w =
      .ok (.slice (some ⟨g, 0, none⟩) (n + m) cap) (w.setRow g (cur.toList.take (n * sz) ++ cs ++ cur.toList.drop (n * sz + cs.length)).toArray) := by
  have hst := run_storeCells_at P g (n * sz) tt cs 0 cur w hg (by simpa using hfit) h1
  have hadd : (⟨g, 0, none⟩ : Addr).add (n * sz) = ⟨g, n * sz, none⟩ := by rw [Addr.add_mid, Nat.zero_add]
  cases hq : P.info? elem with
  | none => simp [hq] at hs
  | some i =>
    have hi : i.size = sz := by simpa [hq] using hs
    cases x with
    | none =>
      obtain rfl := hx rfl
      obtain rfl : cs = [] := List.eq_nil_of_length_eq_zero (by simpa using hn)
      simp only [Nat.add_zero] at hroom
      simp at hst
      simp [Builtin.append_, run_underlying hu, Builtin.lenOf, Builtin.firstCells, sizeOf, typeInfo, hq, hi, hroom, hadd, hst]
    | some a =>
      have hl := run_loadCells_list (P := P) w a cs (hsrc a rfl)
      simp at hst
      simp [Builtin.append_, run_underlying hu, Builtin.lenOf, Builtin.firstCells, sizeOf, typeInfo, hq, hi, hroom, hadd, ← hn, hl, hst]

theorem info_T : (Tryd.prog.info? tT).map (·.size) = some 5 := by kernel_rfl
theorem getD_cell {w : World} {g : Nat} {cur : Array Value} {t : TypeId} {L : List Value} {n : Nat} (hg : w.heap[g]? = some (.cells cur t (0, 0))) (hL : cur.toList.take n = L) {j : Nat} {v : Value} (h : L[j]? = some v) : w.cell? ⟨g, j, none⟩ = some v := by
  rw [cell_of_row w g j cur t (0, 0) hg]
  rw [← hL, List.getElem?_take] at h
  split at h
  · rw [← h]; simp
  · cases h
theorem shape_of {w : World} {g : Nat} {cur : Array Value} {t : TypeId} (hg : w.heap[g]? = some (.cells cur t (0, 0))) : w.shape? g = some (t, cur.size) := by
  unfold World.shape?; rw [hg]
theorem frozen_of {w : World} {g o : Nat} {cur : Array Value} {t : TypeId} (hg : w.heap[g]? = some (.cells cur t (0, 0))) : w.frozen? ⟨g, o, none⟩ = false := by
  simp [World.frozen?, hg]

theorem row_ins {A D E ct : List Value} {k : Nat} (hA : A.length = k + 5) : (A ++ D ++ E).take k ++ ct ++ (A ++ D ++ E).drop (k + 5) = A.take k ++ ct ++ D ++ E := by
  rw [List.append_assoc A D E, List.take_append_of_le_length (by omega), List.drop_left' hA]
  simp [List.append_assoc]

set_option maxRecDepth 100000 in
set_option maxHeartbeats 4000000 in
/-- Insert where there is room. -/
theorem insT_in {w : World} {g n cap i vb : Nat} {cur : Array Value} {L ct : List Value} (hg : w.heap[g]? = some (.cells cur tT (0, 0))) (hcs : cur.size = cap * 5) (hL : cur.toList.take (n * 5) = L) (hroom : n + 1 ≤ cap) (hi : i < n) (hn : n ≤ 1000000) (hmx : cap ≤ maxLen)
    (hv : w.heap[vb]? = some (.cells ct.toArray tT (0, 0))) (hct : ct.length = 5) (hne : vb ≠ g) (h1L : ∀ u ∈ L, u.oneCell' = true) (h1c : ∀ u ∈ ct, u.oneCell' = true) :
    Calls Tryd.prog 56 #[.slice (some ⟨g, 0, none⟩) n cap, .int .i64 (i : Int), .slice (some ⟨vb, 0, none⟩) 1 1] w fun e w' =>
      e = .returned (.slice (some ⟨g, 0, none⟩) (n + 1) cap) ∧ ∃ q, w' = (w.drewN q).setRow g (L.take (i * 5) ++ ct ++ L.drop (i * 5) ++ cur.toList.drop ((n + 1) * 5)).toArray := by
  have hLl : L.length = n * 5 := by rw [← hL, List.length_take]; simp [hcs]; omega
  have hov : ∀ lb cb, (callFunc 69 #[.slice (some ⟨vb, 0, none⟩) 1 1, .slice (some ⟨g, (i + 1) * 5, none⟩) lb cb]).run Tryd.prog w = .ok (.value (.bool false)) w := fun lb cb => by
    rw [run_callFunc_extern Tryd.func69 (by kernel_rfl) (by kernel_rfl) (by kernel_rfl) (e := Extern.SlicesOverlaps.overlaps #[24, 24] #[4]) (by kernel_rfl),
      Lib.run_overlaps_apart w 24 4 tT Tryd.underlying24 5 Tryd.sizeOf26 ⟨vb, 0, none⟩ ⟨g, (i + 1) * 5, none⟩ 1 1 lb cb hne tT tT ct.toArray.size cur.size (shape_of hv) (shape_of hg) (by rw [hcs]; omega) (frozen_of hv) (frozen_of hv)]
    rfl
  obtain ⟨R1, hR1⟩ : ∃ R1 : Array Value, R1 = (cur.toList.take ((i + 1) * 5) ++ L.drop (i * 5) ++ cur.toList.drop ((n + 1) * 5)).toArray := ⟨_, rfl⟩
  obtain ⟨R2, hR2⟩ : ∃ R2 : Array Value, R2 = (L.take (i * 5) ++ ct ++ L.drop (i * 5) ++ cur.toList.drop ((n + 1) * 5)).toArray := ⟨_, rfl⟩
  have hcl : cur.toList.length = cap * 5 := by simp [hcs]
  have hdl : (L.drop (i * 5)).length = (n - i) * 5 := by rw [List.length_drop, hLl]; omega
  have hR1s : R1.size = cap * 5 := by rw [hR1]; simp [hcl, hLl]; omega
  have hcp1 : ∀ ty dl dc sl sc o1 o2 (W : World), W.heap[g]? = some (.cells cur tT (0, 0)) → dl = n - i → n - i ≤ sl → o1 = (i + 1) * 5 → o2 = i * 5 → (Builtin.copy_ #[24, 24] ty #[.slice (some ⟨g, o1, none⟩) dl dc, .slice (some ⟨g, o2, none⟩) sl sc]).run Tryd.prog W = .ok (goInt ((n - i : Nat) : Int)) (W.setRow g R1) := by
    rintro ty dl dc sl sc o1 o2 W hW rfl h2 rfl rfl
    have hmin : Nat.min sl (n - i) = n - i := Nat.min_eq_right h2
    rw [run_copy_n W _ _ ty tT 5 g ((i + 1) * 5) (n - i) dc ⟨g, i * 5, none⟩ sl sc cur tT (L.drop (i * 5)) Tryd.underlying24 info_T hW (by rw [hmin, hdl])
      (fun j v hj => by rw [Addr.add_mid]; rw [List.getElem?_drop] at hj; exact getD_cell hW hL hj) (by rw [hdl, hcs]; omega) (fun u hu => h1L u (List.mem_of_mem_drop hu)), hmin, hR1, hdl, show (i + 1) * 5 + (n - i) * 5 = (n + 1) * 5 by omega]
  have hcp2 : ∀ ty dl dc o1 (W : World), W.heap[g]? = some (.cells R1 tT (0, 0)) → W.heap[vb]? = some (.cells ct.toArray tT (0, 0)) → 1 ≤ dl → o1 = i * 5 → (Builtin.copy_ #[24, 24] ty #[.slice (some ⟨g, o1, none⟩) dl dc, .slice (some ⟨vb, 0, none⟩) 1 1]).run Tryd.prog W = .ok (goInt 1) (W.setRow g R2) := by
    rintro ty dl dc o1 W hW hWv h2 rfl
    have hmin : Nat.min 1 dl = 1 := Nat.min_eq_left h2
    rw [run_copy_n W _ _ ty tT 5 g (i * 5) dl dc ⟨vb, 0, none⟩ 1 1 R1 tT ct Tryd.underlying24 info_T hW (by rw [hmin, hct])
      (fun j v hj => by rw [Addr.add_mid, Nat.zero_add]; exact getD_cell hWv (n := 5) (L := ct) (by simp [← hct]) hj) (by rw [hct, hR1s]; omega) h1c, hmin, hR2, hct, hR1]
    have e1 : (cur.toList.take ((i + 1) * 5)).length = i * 5 + 5 := by rw [List.length_take, hcl]; omega
    have e2 : (cur.toList.take ((i + 1) * 5)).take (i * 5) = L.take (i * 5) := by rw [← hL, List.take_take, List.take_take, Nat.min_eq_left (by omega), Nat.min_eq_left (by omega)]
    show Result.ok (goInt 1) (W.setRow g ((cur.toList.take ((i + 1) * 5) ++ L.drop (i * 5) ++ cur.toList.drop ((n + 1) * 5)).take (i * 5) ++ ct ++ (cur.toList.take ((i + 1) * 5) ++ L.drop (i * 5) ++ cur.toList.drop ((n + 1) * 5)).drop (i * 5 + 5)).toArray) = _
    rw [row_ins e1, e2]
  have hR2e := Lib.hid hR2.symm
  have hcapi : (cap : Int) ≤ 9223372036854775807 := by unfold maxLen at hmx; omega
  have hin : (i : Int) ≤ (n : Int) := by omega
  have hw1 : IntKind.i64.wrap ((i : Int) + 1) = (i : Int) + 1 := by rw [IntKind.wrap_i64]; omega
  have hw2 : IntKind.i64.wrap ((n : Int) + 1) = (n : Int) + 1 := by rw [IntKind.wrap_i64]; omega
  have hz2 : ¬ ((i : Int) = (n : Int)) := by omega
  have hz3 : ¬ (cap : Int) < (n : Int) + 1 := by omega
  have hb2 : ¬ (cap = i + 1) := by omega
  have hb4 : ¬ (cap = i) := by omega
  have hb1 : (0 : Int) ≤ (i : Int) + 1 := by omega
  have hb3 : (i : Int) ≤ (n : Int) + 1 := by omega
  have mixed : Tryd.prog.follows .mixedOrders = true := by kernel_rfl
  have HG := Lib.hid hg
  have HV := Lib.hid hv
  have HC1 := Lib.hid (fun ty dc sc => hcp1 ty (n - i) dc (n + 1 - i) sc _ _ w.drew hg rfl (by omega) rfl rfl)
  obtain ⟨W1, hW1⟩ : ∃ W1, W1 = w.drew.setRow g R1 := ⟨_, rfl⟩
  have hg1 : W1.heap[g]? = some (.cells R1 tT (0, 0)) := by rw [hW1]; exact setRow_heap w.drew g cur R1 tT (0, 0) hg
  have hv1 : W1.heap[vb]? = some (.cells ct.toArray tT (0, 0)) := by rw [hW1]; exact (setRow_other w.drew g vb R1 hne).trans hv
  have HC2 := Lib.hid (fun ty dc => hcp2 ty (n + 1 - i) dc _ W1 hg1 hv1 (by omega) rfl)
  have HC2d := Lib.hid (fun ty dc => hcp2 ty (n + 1 - i) dc _ W1.drew hg1 hv1 (by omega) rfl)
  rw [← hW1] at HC1
  have HFIN : Hid (∃ q, W1.setRow g R2 = (w.drewN q).setRow g R2) := Lib.hid ⟨1, by rw [hW1, setRow_setRow]; rfl⟩
  clear hW1 hg1 hv1
  have HOV := Lib.hid hov
  clear hg hv hcp1 hcp2 hov hcs hL h1L h1c hLl hR1 hR2 hcl hdl hR1s hct hmx
  go_enter Tryd.func56, Tryd.ntmps56
  have hov := HOV.out
  go_upto_region 15 with (simp only [hov])
  go_region_law_o (refine step_copy_runI rfl _ _ 24 24 rfl _ _ (by simp [Act.eval, Act.put]) (by simp [Act.eval, Act.put]) (HC1.out 3 (cap - (i + 1)) (cap - i)) ?_)
  have hc2 := HC2.out 3 (cap - i)
  go_wp2_with fail
  go_ret
  obtain ⟨q, hq⟩ := HFIN.out
  refine ⟨rfl, q, ?_⟩
  rw [hq, ← hR2e.out]
  simp only [List.append_assoc]

theorem zeroT_size (k : Nat) (z : Value) (hz : z.cells.size = 5) : (Builtin.zeroCells z.cells k).size = k * 5 := by
  unfold Builtin.zeroCells
  simp [hz]

theorem grow_nums (n i : Nat) (hn : n ≤ 1000000) (hi : i < n) : IntKind.i64.wrap ((i : Int) + 1) = (i : Int) + 1 ∧ IntKind.i64.wrap ((n : Int) + 1) = (n : Int) + 1 ∧ IntKind.i64.wrap ((n : Int) + 1 - (i : Int)) = (n : Int) + 1 - (i : Int) := by
  refine ⟨?_, ?_, ?_⟩ <;> (rw [IntKind.wrap_i64]; omega)

set_option maxRecDepth 100000 in
set_option maxHeartbeats 4000000 in
/-- Insert where there is no room. -/
theorem insT_grow {w : World} {g n cap i vb : Nat} {cur : Array Value} {L ct : List Value} (hg : w.heap[g]? = some (.cells cur tT (0, 0))) (hcs : cur.size = cap * 5) (hL : cur.toList.take (n * 5) = L) (hnc : n ≤ cap) (hroom : cap < n + 1) (hi : i < n) (hn : n ≤ 1000000)
    (hv : w.heap[vb]? = some (.cells ct.toArray tT (0, 0))) (hct : ct.length = 5) (h1L : ∀ u ∈ L, u.oneCell' = true) (h1c : ∀ u ∈ ct, u.oneCell' = true) :
    Calls Tryd.prog 56 #[.slice (some ⟨g, 0, none⟩) n cap, .int .i64 (i : Int), .slice (some ⟨vb, 0, none⟩) 1 1] w fun e w' =>
      ∃ gc cur', e = .returned (.slice (some ⟨w.heap.size, 0, none⟩) (n + 1) gc) ∧ w'.heap[w.heap.size]? = some (.cells cur' tT (0, 0)) ∧ cur'.size = gc * 5 ∧ cur'.toList.take ((n + 1) * 5) = L.take (i * 5) ++ ct ++ L.drop (i * 5) ∧ n + 1 ≤ gc ∧ gc ≤ maxLen ∧ Below w.heap.size w w' := by
  have hLl : L.length = n * 5 := by rw [← hL, List.length_take]; simp [hcs]; omega
  obtain ⟨i0, hi0, hz0, hz1, hz2⟩ := info_tree_parts
  obtain ⟨z, hz⟩ : ∃ z : Value, z = .agg #[.int .u8 0, .bool false, .slice none 0 0, .slice none 0 0, .slice none 0 0] := ⟨_, rfl⟩
  have hzc : z.cells.size = 5 := by rw [hz]; rfl
  rw [← hz] at hz0
  obtain ⟨gc, hgc⟩ : ∃ gc, gc = grownCap w (n + 1) cap tT := ⟨_, rfl⟩
  have hge : n + 1 ≤ gc := by rw [hgc]; exact grownCap_ge _ _ _ _
  have hgm : gc ≤ maxLen := by rw [hgc]; exact grownCap_le_maxLen _ _ _ _ (by unfold maxLen; omega)
  obtain ⟨NB, hNB⟩ : ∃ NB, NB = w.heap.size := ⟨_, rfl⟩
  obtain ⟨R0, hR0⟩ : ∃ R0 : Array Value, R0 = (L.take (i * 5)).toArray ++ Builtin.zeroCells z.cells (n + 1 - i) ++ Builtin.zeroCells z.cells (gc - (n + 1)) := ⟨_, rfl⟩
  have hR0s : R0.size = gc * 5 := by
    rw [hR0, Array.size_append, Array.size_append, zeroT_size _ _ hzc, zeroT_size _ _ hzc]
    simp [hLl]; omega
  obtain ⟨W1, hW1⟩ : ∃ W1, W1 = w.drew.alloc (.cells R0 tT) := ⟨_, rfl⟩
  have hap : (Builtin.append_ #[24, 3] 24 #[.slice (some ⟨g, 0, none⟩) i cap, .int .i64 ((n : Int) + 1 - (i : Int))]).run Tryd.prog w = .ok (.slice (some ⟨NB, 0, none⟩) (n + 1) gc) W1 := by
    have hold : (Builtin.firstCells i0.size i (.slice (some ⟨g, 0, none⟩) i cap)).run Tryd.prog w.drew = .ok (L.take (i * 5)).toArray w.drew := by
      rw [hz1]
      exact run_firstCells_some w.drew 5 i ⟨g, 0, none⟩ i cap (L.take (i * 5)) (by rw [List.length_take]; omega) (fun j v hj => by
        rw [Addr.add_mid, Nat.zero_add]
        rw [List.getElem?_take] at hj
        split at hj
        · exact getD_cell (w := w.drew) hg hL hj
        · cases hj)
    have h := Lib.run_append_grow_zeros w 24 3 24 tT i0 z .i64 .i64 Tryd.underlying24 Tryd.underlying3 hi0 hz0 (some ⟨g, 0, none⟩) i cap (L.take (i * 5)) hold (n + 1 - i) (by omega) (by omega) (by omega) (by omega) (by rw [hz2]; omega) (by rw [hz2, show i + (n + 1 - i) = n + 1 by omega]; exact growslice_fits hroom (by omega))
    rw [show i + (n + 1 - i) = n + 1 by omega, ← hgc, show ((n + 1 - i : Nat) : Int) = (n : Int) + 1 - (i : Int) by omega, ← hNB, ← hR0, ← hW1] at h
    exact h
  have hgw : g < w.heap.size := (Array.getElem?_eq_some_iff.1 hg).1
  have hvw : vb < w.heap.size := (Array.getElem?_eq_some_iff.1 hv).1
  have hN1 : W1.heap[NB]? = some (.cells R0 tT (0, 0)) := by rw [hW1, hNB]; exact heap_alloc_new w.drew _
  have hG1 : W1.heap[g]? = some (.cells cur tT (0, 0)) := by rw [hW1]; exact (heap_alloc_old w.drew _ hgw).trans hg
  have hV1 : W1.heap[vb]? = some (.cells ct.toArray tT (0, 0)) := by rw [hW1]; exact (heap_alloc_old w.drew _ hvw).trans hv
  obtain ⟨R1, hR1⟩ : ∃ R1 : Array Value, R1 = (R0.toList.take (i * 5) ++ ct ++ R0.toList.drop (i * 5 + 5)).toArray := ⟨_, rfl⟩
  have hR1s : R1.size = gc * 5 := by rw [hR1]; simp [hR0s, hct]; omega
  have hR0t : R0.toList.take (i * 5) = L.take (i * 5) := by
    rw [hR0]
    simp only [Array.toList_append, List.append_assoc]
    rw [List.take_left' (by rw [List.length_take]; omega)]
  obtain ⟨R2, hR2⟩ : ∃ R2 : Array Value, R2 = (R1.toList.take ((i + 1) * 5) ++ L.drop (i * 5) ++ R1.toList.drop ((n + 1) * 5)).toArray := ⟨_, rfl⟩
  have hdl : (L.drop (i * 5)).length = (n - i) * 5 := by rw [List.length_drop, hLl]; omega
  have hR2s : R2.size = gc * 5 := by rw [hR2]; simp [hR1s, hLl]; omega
  have hR2t : R2.toList.take ((n + 1) * 5) = L.take (i * 5) ++ ct ++ L.drop (i * 5) := by
    have e1 : (R1.toList.take ((i + 1) * 5)) = L.take (i * 5) ++ ct := by
      rw [hR1, ← hR0t]
      exact List.take_left' (by rw [List.length_append, List.length_take]; simp [hR0s, hct]; omega)
    rw [hR2, e1]
    exact List.take_left' (by rw [List.length_append, hdl, List.length_append, List.length_take, hLl, hct]; omega)
  have hcp1 : ∀ ty dc, (Builtin.copy_ #[24, 24] ty #[.slice (some ⟨NB, i * 5, none⟩) (n + 1 - i) dc, .slice (some ⟨vb, 0, none⟩) 1 1]).run Tryd.prog W1 = .ok (goInt 1) (W1.setRow NB R1) := by
    intro ty dc
    have hmin : Nat.min 1 (n + 1 - i) = 1 := Nat.min_eq_left (by omega)
    rw [run_copy_n W1 _ _ ty tT 5 NB (i * 5) (n + 1 - i) dc ⟨vb, 0, none⟩ 1 1 R0 tT ct Tryd.underlying24 info_T hN1 (by rw [hmin, hct])
      (fun j v hj => by rw [Addr.add_mid, Nat.zero_add]; exact getD_cell hV1 (n := 5) (L := ct) (by simp [← hct]) hj) (by rw [hct, hR0s]; omega) h1c, hmin, hR1, hct]
    rfl
  obtain ⟨W2, hW2⟩ : ∃ W2, W2 = W1.setRow NB R1 := ⟨_, rfl⟩
  rw [← hW2] at hcp1
  have hgN : g ≠ NB := by omega
  have hN2 : W2.heap[NB]? = some (.cells R1 tT (0, 0)) := by rw [hW2]; exact setRow_heap W1 NB R0 R1 tT (0, 0) hN1
  have hG2 : W2.heap[g]? = some (.cells cur tT (0, 0)) := by rw [hW2]; exact (setRow_other W1 NB g R1 hgN).trans hG1
  have hcp2 : ∀ ty dc sc, (Builtin.copy_ #[24, 24] ty #[.slice (some ⟨NB, (i + 1) * 5, none⟩) (n - i) dc, .slice (some ⟨g, i * 5, none⟩) (n - i) sc]).run Tryd.prog W2.drew = .ok (goInt ((n - i : Nat) : Int)) (W2.drew.setRow NB R2) := by
    intro ty dc sc
    have hmin : Nat.min (n - i) (n - i) = n - i := Nat.min_self _
    rw [run_copy_n W2.drew _ _ ty tT 5 NB ((i + 1) * 5) (n - i) dc ⟨g, i * 5, none⟩ (n - i) sc R1 tT (L.drop (i * 5)) Tryd.underlying24 info_T hN2 (by rw [hmin, hdl])
      (fun j v hj => by rw [Addr.add_mid]; rw [List.getElem?_drop] at hj; exact getD_cell (w := W2.drew) hG2 hL hj) (by rw [hdl, hR1s]; omega) (fun u hu => h1L u (List.mem_of_mem_drop hu)), hmin, hR2, hdl, show (i + 1) * 5 + (n - i) * 5 = (n + 1) * 5 by omega]
  obtain ⟨W3, hW3⟩ : ∃ W3, W3 = W2.drew.setRow NB R2 := ⟨_, rfl⟩
  rw [← hW3] at hcp2
  have HEND : Hid (∃ cur', W3.heap[NB]? = some (.cells cur' tT (0, 0)) ∧ cur'.size = gc * 5 ∧ cur'.toList.take ((n + 1) * 5) = L.take (i * 5) ++ ct ++ L.drop (i * 5) ∧ n + 1 ≤ gc ∧ gc ≤ maxLen ∧ Below w.heap.size w W3) := Lib.hid
    ⟨R2, by rw [hW3]; exact setRow_heap W2.drew NB R1 R2 tT (0, 0) hN2, hR2s, hR2t, hge, hgm, by
      have b1 : Below w.heap.size w W1 := by rw [hW1]; exact (Below.refl _ _).drew.alloc (Nat.le_refl _) _
      have b2 : Below w.heap.size w W2 := by rw [hW2]; exact below_setRow b1 (by omega) _
      rw [hW3]; exact below_setRow b2.drew (by omega) _⟩
  have HAP := Lib.hid hap
  have HC1 := Lib.hid hcp1
  have HC2 := Lib.hid hcp2
  have HNB := Lib.hid hNB
  clear hg hv hcp1 hcp2 hap hcs hL h1L h1c hLl hR1 hR2 hR0 hdl hR1s hR2s hR2t hR0t hR0s hct hW1 hW2 hW3 hN1 hN2 hG1 hG2 hV1 hgc hNB hi0 hz0 hz1 hz2 hz hzc hgw hvw hgm hgN
  obtain ⟨hw1, hw2, hw3⟩ := grow_nums n i hn hi
  have hin : (i : Int) ≤ (n : Int) := by omega
  have hz2' : ¬ ((i : Int) = (n : Int)) := by omega
  have hz3 : (cap : Int) < (n : Int) + 1 := by omega
  have hb2 : ¬ (gc = i + 1) := by omega
  have hb4 : ¬ (cap = i) := by omega
  have hb5 : ¬ (gc = i) := by omega
  have hb1 : (0 : Int) ≤ (i : Int) + 1 := by omega
  have hb3 : (i : Int) ≤ (n : Int) + 1 := by omega
  have mixed : Tryd.prog.follows .mixedOrders = true := by kernel_rfl
  clear hge
  go_enter Tryd.func56, Tryd.ntmps56
  have hc1 := HC1.out 3 (gc - i)
  go_upto_region 11 with (at_builtin; refine Lib.wpList_append_run _ rfl _ _ _ _ rfl _ _ rfl rfl _ _ HAP.out ?_)
  go_region_law_o (refine step_copy_runI rfl _ _ 24 24 rfl _ _ (by simp [Act.eval, Act.put]) (by simp [Act.eval, Act.put]) (HC2.out 3 (gc - (i + 1)) (cap - i)) ?_)
  go_wp2_with fail
  go_ret
  obtain ⟨cur', q1, q2, q3, q4, q5, q6⟩ := HEND.out
  rw [← HNB.out]
  exact ⟨gc, cur', rfl, q1, q2, q3, q4, q5, by rw [HNB.out]; exact q6⟩

theorem insT_nums (n : Nat) (hn : n ≤ 1000000) : IntKind.i64.wrap ((n : Int) + 1) = (n : Int) + 1 := by rw [IntKind.wrap_i64]; omega

set_option maxRecDepth 100000 in
set_option maxHeartbeats 4000000 in
/-- Insert at the end. -/
theorem insT_end {w : World} {B n vb : Nat} {v : Value} {L ct : List Value} (ho : w.ownsRow B tT 5 v n L) (hB : B ≤ w.heap.size) (hn : n ≤ 1000000) (hv : w.heap[vb]? = some (.cells ct.toArray tT (0, 0))) (hct : ct.length = 5) (hne : v.ownBlock ≠ some vb) (h1c : ∀ u ∈ ct, u.oneCell' = true) :
    Calls Tryd.prog 56 #[v, .int .i64 (n : Int), .slice (some ⟨vb, 0, none⟩) 1 1] w fun e w' =>
      ∃ v', e = .returned v' ∧ w'.ownsRow B tT 5 v' (n + 1) (L ++ ct) ∧ w.grownBy w' v.ownBlock ∧ (∀ g, v'.ownBlock = some g → v.ownBlock = some g ∨ w.heap.size ≤ g) := by
  obtain ⟨i0, hi0, hz0, hz1, hz2⟩ := info_tree_parts
  have HO := Lib.hid ho
  have HI := Lib.hid hi0
  have HZ0 := Lib.hid hz0
  have HZ1 := Lib.hid hz1
  have HZ2 := Lib.hid hz2
  have HV : Hid (∀ ad : Addr, some (⟨vb, 0, none⟩ : Addr) = some ad → ∀ j u, ct[j]? = some u → w.cell? (ad.add j) = some u) := Lib.hid (fun ad had j u hj => by
    cases had
    rw [Addr.add_mid, Nat.zero_add]
    exact getD_cell hv (n := 5) (L := ct) (by simp [← hct]) hj)
  have HCT := Lib.hid hct
  have H1C := Lib.hid h1c
  have HN := Lib.hid hn
  have HB := Lib.hid hB
  have ho2 := ho.2
  clear ho hi0 hz0 hz1 hz2 hv hct h1c hB hne
  rcases ho2 with ⟨rfl, h0⟩ | ⟨g, cap, cur, rfl, _, _, hle, hmx, _⟩
  · subst h0
    clear hn
    go_enter Tryd.func56, Tryd.ntmps56
    go_upto_region 7 with fail
    go_wp2_with (at_builtin; refine wpList_append_lies w rfl _ _ 24 rfl B tT i0 (.agg #[.int .u8 0, .bool false, .slice none 0 0, .slice none 0 0, .slice none 0 0]) 5 80 Tryd.underlying24 HI.out HZ0.out HZ1.out HZ2.out rfl (by omega) (.slice none 0 0) 0 L rfl HO.out ⟨vb, 0, none⟩ 1 1 ct rfl HCT.out (HV.out _ rfl) H1C.out (by omega) (by have := HN.out; unfold maxLen; omega) (by have := HN.out; omega) HB.out w.heap.size rfl ?_)
    intro g' cap' w1 ho1 hg1 hb1 hl1
    have HO1 := Lib.hid ho1
    have HG1 := Lib.hid hg1
    have HB1 := Lib.hid hb1
    clear ho1 hg1 hb1 hl1
    go_wp2_with fail
    go_ret
    refine ⟨_, rfl, HO1.out, HG1.out, fun q hq => ?_⟩
    cases hq
    rcases HB1.out with h | h
    · exact .inl h
    · exact .inr (Nat.le_of_eq h.symm)
  · have hcm : cap ≤ 9223372036854775807 := by unfold maxLen at hmx; omega
    clear hmx hn
    by_cases hvc : cap = n
    · subst hvc
      go_enter Tryd.func56, Tryd.ntmps56
      go_upto_region 7 with fail
      go_wp2_with (at_builtin; refine wpList_append_lies w rfl _ _ 24 rfl B tT i0 (.agg #[.int .u8 0, .bool false, .slice none 0 0, .slice none 0 0, .slice none 0 0]) 5 80 Tryd.underlying24 HI.out HZ0.out HZ1.out HZ2.out rfl (by omega) (.slice (some ⟨g, 0, none⟩) cap cap) cap L rfl HO.out ⟨vb, 0, none⟩ 1 1 ct rfl HCT.out (HV.out _ rfl) H1C.out (by omega) (by have := HN.out; unfold maxLen; omega) (by have := HN.out; omega) HB.out w.heap.size rfl ?_)
      intro g' cap' w1 ho1 hg1 hb1 hl1
      have HO1 := Lib.hid ho1
      have HG1 := Lib.hid hg1
      have HB1 := Lib.hid hb1
      clear ho1 hg1 hb1 hl1
      go_wp2_with fail
      go_ret
      refine ⟨_, rfl, HO1.out, HG1.out, fun q hq => ?_⟩
      cases hq
      rcases HB1.out with h | h
      · exact .inl h
      · exact .inr (Nat.le_of_eq h.symm)
    · have hvc2 : ¬ (cap = n) := hvc
      clear hvc
      go_enter Tryd.func56, Tryd.ntmps56
      go_upto_region 7 with fail
      go_wp2_with (at_builtin; refine wpList_append_lies w rfl _ _ 24 rfl B tT i0 (.agg #[.int .u8 0, .bool false, .slice none 0 0, .slice none 0 0, .slice none 0 0]) 5 80 Tryd.underlying24 HI.out HZ0.out HZ1.out HZ2.out rfl (by omega) (.slice (some ⟨g, 0, none⟩) n cap) n L rfl HO.out ⟨vb, 0, none⟩ 1 1 ct rfl HCT.out (HV.out _ rfl) H1C.out (by omega) (by have := HN.out; unfold maxLen; omega) (by have := HN.out; omega) HB.out w.heap.size rfl ?_)
      intro g' cap' w1 ho1 hg1 hb1 hl1
      have HO1 := Lib.hid ho1
      have HG1 := Lib.hid hg1
      have HB1 := Lib.hid hb1
      clear ho1 hg1 hb1 hl1
      go_wp2_with fail
      go_ret
      refine ⟨_, rfl, HO1.out, HG1.out, fun q hq => ?_⟩
      cases hq
      rcases HB1.out with h | h
      · exact .inl h
      · exact .inr (Nat.le_of_eq h.symm)

/-- Insert of one tree into a row of one's own. -/
theorem insT_any {w : World} {B n i vb : Nat} {v : Value} {L ct : List Value} (ho : w.ownsRow B tT 5 v n L) (hB : B ≤ w.heap.size) (hn : n ≤ 1000000) (hi : i ≤ n) (hv : w.heap[vb]? = some (.cells ct.toArray tT (0, 0))) (hct : ct.length = 5) (hne : v.ownBlock ≠ some vb) (h1L : ∀ u ∈ L, u.oneCell' = true) (h1c : ∀ u ∈ ct, u.oneCell' = true) :
    Calls Tryd.prog 56 #[v, .int .i64 (i : Int), .slice (some ⟨vb, 0, none⟩) 1 1] w fun e w' =>
      ∃ v', e = .returned v' ∧ w'.ownsRow B tT 5 v' (n + 1) (L.take (i * 5) ++ ct ++ L.drop (i * 5)) ∧ w.grownBy w' v.ownBlock ∧ (∀ g, v'.ownBlock = some g → v.ownBlock = some g ∨ w.heap.size ≤ g) := by
  have hLl : L.length = n * 5 := ho.1
  by_cases hin : i = n
  · subst hin
    rw [List.take_of_length_le (by omega), List.drop_eq_nil_of_le (by omega), List.append_nil]
    exact insT_end ho hB hn hv hct hne h1c
  · rcases ho.2 with ⟨rfl, h0⟩ | ⟨g, cap, cur, rfl, hgB, hgg, hle, hmx, hsz, htk⟩
    · omega
    · have hgv : vb ≠ g := fun e => hne (by rw [e]; rfl)
      by_cases hr : n + 1 ≤ cap
      · refine (insT_in hgg hsz htk hr (by omega) hn (by assumption) hv hct hgv h1L h1c).mono ?_
        rintro e w' ⟨rfl, q, rfl⟩
        have hgq : (w.drewN q).heap[g]? = some (.cells cur tT (0, 0)) := hgg
        have hd5 : (L.drop (i * 5)).length = n * 5 - i * 5 := by rw [List.length_drop, hLl]
        have ht5 : (L.take (i * 5)).length = i * 5 := by rw [List.length_take, hLl]; omega
        refine ⟨_, rfl, ⟨by rw [List.length_append, List.length_append, hd5, ht5, hct]; omega, .inr ⟨g, cap, _, rfl, hgB, setRow_heap _ g cur _ tT (0, 0) hgq, hr, hmx, ?_, ?_⟩⟩, ⟨rfl, rfl, rfl, by simp [World.setRow], fun k hk hne' => setRow_other _ g k _ (fun e => hne' (by rw [e]; rfl))⟩, fun q' hq' => .inl hq'⟩
        · simp [hd5, ht5, hct, hsz]; omega
        · exact List.take_left' (by rw [List.length_append, List.length_append, hd5, ht5, hct]; omega)
      · refine (insT_grow hgg hsz htk hle (by omega) (by omega) hn hv hct h1L h1c).mono ?_
        rintro e w' ⟨gc, cur', rfl, h1, h2, h3, h4, h5, h6⟩
        have hd5 : (L.drop (i * 5)).length = n * 5 - i * 5 := by rw [List.length_drop, hLl]
        have ht5 : (L.take (i * 5)).length = i * 5 := by rw [List.length_take, hLl]; omega
        refine ⟨_, rfl, ⟨by rw [List.length_append, List.length_append, hd5, ht5, hct]; omega, .inr ⟨w.heap.size, gc, cur', rfl, hB, h1, h4, h5, h2, h3⟩⟩, ⟨h6.os, h6.tape, h6.output, h6.size, fun k hk _ => h6.block k hk⟩, fun q' hq' => ?_⟩
        cases hq'
        exact .inr (Nat.le_refl _)

end Go.Proofs.YtbempgdndmchlaaDoor

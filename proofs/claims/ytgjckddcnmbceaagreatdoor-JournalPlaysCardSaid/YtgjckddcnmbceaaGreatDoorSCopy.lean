/-
  A copy into a block that is the only one that turns; the contract of land. Conditions: the device's block, its row, and a write's cells.
-/
import Derived.Test.YtgjckddcnmbceaaGreatDoorSLowN
import Derived.Laws.CopyOwn
import Derived.Deep.DeepCutAuto
import Derived.Deep.CutBlock
namespace Go.Proofs.YtgjckddcnmbceaaGreatDoor
open Go.RowKit
set_option linter.unusedVariables false

theorem wpList_copy_but {P : Program} {w : World} {ops : Array Oper} {rest : List Oper} {o : Oper} {a : Act} {Q : Exit → Act → World → Prop} (hgd : o.guard = none) (d s : Operand) (dT sT : TypeId)
    (ho : o.op = .call { callee := .builtin .copy, args := #[d, s], argTypes := #[dT, sT] }) (elem : TypeId) (hu : P.underlying dT = some (.slice elem)) (hsz : (P.info? elem).map (·.size) = some 1)
    (dp sp : Option Addr) (dLen dCap sLen sCap : Nat) (hd : a.eval d = .slice dp dLen dCap) (hs : a.eval s = .slice sp sLen sCap)
    (g off : Nat) (cur : List Value) (t : TypeId) (hg : w.heap[g]? = some (.cells cur.toArray t (0, 0))) (cs : List Value) (hn : cs.length = Nat.min sLen dLen)
    (hpos : 0 < cs.length → dp = some ⟨g, off, none⟩ ∧ ∃ ad, sp = some ad ∧ ∀ j v, cs[j]? = some v → w.cell? (ad.add j) = some v)
    (hfit : off + cs.length ≤ cur.length) (h1 : ∀ v ∈ cs, v.oneCell' = true)
    (h : ∀ w', Hid (w'.heap[g]? = some (.cells (splice cur off cs).toArray t (0, 0))) → Hid (But w.heap.size g w w') → wpList P ops Q rest (a.put o.dst (goInt cs.length)) w') :
    wpList P ops Q (o :: rest) a w := by
  by_cases h0 : cs.length = 0
  · obtain rfl : cs = [] := List.eq_nil_of_length_eq_zero h0
    refine wpList_copy_nothing hgd d s dT sT ho elem hu hsz dp sp dLen dCap sLen sCap hd hs (by simpa using hn.symm) ?_
    exact h w (show _ = _ by simpa [splice] using hg) (show But _ _ _ _ from But.refl _ _ _)
  · obtain ⟨rfl, ad, rfl, hsrc⟩ := hpos (by omega)
    refine wpList_copy_own hgd d s dT sT ho elem hu hsz g off dLen dCap ad sLen sCap hd hs cur.toArray t hg cs hn hsrc (by simpa using hfit) h1 ?_
    exact h _ (show _ = _ by simpa [splice] using setRow_heap w g _ _ t _ hg) (show But _ _ _ _ from (But.refl _ _ _).setRow (.inr rfl) _)

theorem step_copy_but {P : Program} {ops : Array Oper} {o : Oper} {a : Act} {w : World} {K : Act → World → Prop} {Q : Exit → Act → World → Prop} {E : Prop} (hgd : o.guard = none) (d s : Operand) (dT sT : TypeId)
    (ho : o.op = .call { callee := .builtin .copy, args := #[d, s], argTypes := #[dT, sT] }) (elem : TypeId) (hu : P.underlying dT = some (.slice elem)) (hsz : (P.info? elem).map (·.size) = some 1)
    (dp sp : Option Addr) (dLen dCap sLen sCap : Nat) (hd : a.eval d = .slice dp dLen dCap) (hs : a.eval s = .slice sp sLen sCap)
    (g off : Nat) (cur : List Value) (t : TypeId) (hg : w.heap[g]? = some (.cells cur.toArray t (0, 0))) (cs : List Value) (hn : cs.length = Nat.min sLen dLen)
    (hpos : 0 < cs.length → dp = some ⟨g, off, none⟩ ∧ ∃ ad, sp = some ad ∧ ∀ j v, cs[j]? = some v → w.cell? (ad.add j) = some v)
    (hfit : off + cs.length ≤ cur.length) (h1 : ∀ v ∈ cs, v.oneCell' = true)
    (h : ∀ w', Hid (w'.heap[g]? = some (.cells (splice cur off cs).toArray t (0, 0))) → Hid (But w.heap.size g w w') → K (a.put o.dst (goInt cs.length)) w') :
    if Region.wanted o (yielded ops a.tmps) = true then Oper.wp P o a w K Q else E := by
  have hw : Region.wanted o (yielded ops a.tmps) = true := by simp [Region.wanted, hgd]
  rw [if_pos hw]
  by_cases h0 : cs.length = 0
  · obtain rfl : cs = [] := List.eq_nil_of_length_eq_zero h0
    have hrun := run_copy_none (P := P) w dT sT o.type elem dp sp dLen dCap sLen sCap hu hsz (by simpa using hn.symm)
    unfold Oper.wp
    simp [execOp, ho, resolve, invoke, builtin, hd, hs, hrun, Result.andThen]
    exact h w (show _ = _ by simpa [splice] using hg) (show But _ _ _ _ from But.refl _ _ _)
  · obtain ⟨rfl, ad, rfl, hsrc⟩ := hpos (by omega)
    have hrun := run_copy_row (P := P) w dT sT o.type elem g off dLen dCap ad sLen sCap cur.toArray t cs hu hsz hg hn hsrc (by simpa using hfit) h1
    unfold Oper.wp
    simp [execOp, ho, resolve, invoke, builtin, hd, hs, hrun, Result.andThen]
    exact h _ (show _ = _ by simpa [splice] using setRow_heap w g _ _ t _ hg) (show But _ _ _ _ from (But.refl _ _ _).setRow (.inr rfl) _)

set_option maxRecDepth 100000 in
set_option maxHeartbeats 2000000 in
theorem land_any (pb bd bw o n i c : Nat) (D p : List UInt8) (w : World) (hc : w.cell? ⟨pb, 0, none⟩ = some (.slice (some ⟨bd, 0, none⟩) n n)) (hd : Has w bd (D.map bv) 75)
    (hi : w.cell? ⟨bw, o, none⟩ = some (.int .i64 (i : Int))) (hp : ∀ j, j < 256 → w.cell? ⟨bw, o + 1 + j, none⟩ = some (bv (p.getD j 0))) (hin : i < n) (hn : n ≤ 8192) (hD : D.length = 256 * n) (hpl : p.length = 256) (hcc : c ≤ 256) :
    Calls Tryz.prog 33 #[.pointer (some ⟨pb, 0, none⟩), .pointer (some ⟨bw, o, none⟩), .int .i64 (c : Int)] w fun e w' => e = .returned (.tuple #[]) ∧ Has w' bd ((landL D (i, p) c).map bv) 75 ∧ But w.heap.size bd w w' := by
  have hii : (i : Int) < (n : Int) := by omega
  have hci : (c : Int) ≤ 256 := by omega
  have hfit : i * 256 + c ≤ D.length := by omega
  obtain ⟨X, hX⟩ : ∃ X, X = (p.take c).map bv := ⟨_, rfl⟩
  have hXl : X.length = c := by rw [hX]; simp; omega
  have hsrc : ∀ j v, X[j]? = some v → w.cell? ((⟨bw, o + 1, none⟩ : Addr).add j) = some v := by
    intro j v hj
    have hjl : j < c := by rw [← hXl]; exact (List.getElem?_eq_some_iff.1 hj).1
    rw [Addr.add_mid, hp j (by omega), ← hj, hX, map_bv_get _ _ (by simp; omega)]
    simp [List.getD, List.getElem?_take_of_lt hjl]
  have hone : ∀ v ∈ X, v.oneCell' = true := by rw [hX]; exact bv_one _
  have HSRC := Lib.hid hsrc
  have HONE := Lib.hid hone
  have HX := Lib.hid hX
  have HXL := Lib.hid hXl
  have HFIT : Hid (i * 256 + X.length ≤ (D.map bv).length) := Lib.hid (by rw [hXl, List.length_map]; exact hfit)
  have HMIN : Hid (X.length = Nat.min c c) := Lib.hid (by rw [hXl]; exact (Nat.min_self c).symm)
  have HD := Lib.hid hd
  have HG : Hid (w.heap[bd]? = some (.cells (D.map bv).toArray 75 (0, 0))) := Lib.hid hd
  have HU := Lib.hid infoU
  clear hsrc hone hX hXl hp hd hD hpl hfit
  go_enter Tryz.func33, Tryz.ntmps33
  go_wp2_with fail
  go_region_law ((refine step_copy_but (by rfl) (.tmp 16) (.tmp 21) 33 33 (by rfl) 5 Tryz.underlying33 HU.out (some ⟨bd, i * 256, none⟩) (some ⟨bw, o + 1, none⟩) c 256 c 256 (by rfl) (by rfl) bd (i * 256) (D.map bv) 75 HG.out X HMIN.out (fun _ => ⟨rfl, _, rfl, HSRC.out⟩) HFIT.out HONE.out ?_; intro w4 hg4 hb4))
  all_goals
    go_end0
    refine ⟨rfl, ?_, ((But.refl _ _ _).drew).trans hb4.out⟩
    have h := hg4.out
    rw [HX.out, splice_map, Nat.mul_comm] at h
    exact h

end Go.Proofs.YtgjckddcnmbceaaGreatDoor

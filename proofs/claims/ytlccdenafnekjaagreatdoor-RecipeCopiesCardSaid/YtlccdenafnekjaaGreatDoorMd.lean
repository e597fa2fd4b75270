/-
  What the laws of recipe rest on, part 4: the code's functions as functions on lists and trees, and what each call does.
-/
import Derived.Shelf.Strings.Builder1
import Derived.Shelf.Strings.Trim
import Derived.Shelf.Small.Utf8
import Derived.Shelf.Small.Strs
import Derived.Shelf.Strings.BuilderF
import Derived.Shelf.Strings.BuilderK
import Derived.Shelf.Strings.Search1
import Derived.Shelf.Strings.Search2
import Derived.Shelf.Strings.Search3
import Derived.Shelf.Strings.Cut
import Derived.Shelf.Strings.Count
import Derived.Shelf.LaysM
import Derived.Shelf.Strings.Shaped
import Derived.Shelf.Strings.Prefix
import Derived.Shelf.Strings.Split
import Derived.Shelf.Strings.SplitShaped
import Derived.Shelf.Strings.Runes
import Derived.Shelf.Strings.AsciiSet
import Derived.Shelf.Unicode.DecodeSlow
import Derived.Shelf.Strings.BuilderCap
import Derived.Shelf.Slices.Turned
import Derived.Shelf.Slices.Equal
import Derived.Ground.Names2Prog
import Derived.Shelf.Slices.ReverseS
import Derived.Shelf.Slices.Delete
import Derived.Shelf.Slices.Cells
import Derived.Shelf.Bytes.SlIndexSmall
import Derived.Ground.SlbNamesProg
import Derived.Shelf.Bytes.SlCountOne
import Derived.Shelf.Bytes.SlIndexAt
import Derived.Shelf.Slices.Empties2
import Derived.Shelf.Bytes.SlSearch0
import Derived.Shelf.Bytes.SlSearch1
import Derived.Shelf.Bytes.SlSearch2
import Derived.Shelf.Bytes.SlIndexWhole
import Derived.Shelf.Bytes.SlCountWhole
import Derived.Shelf.Bytes.SlEqualAll
import Derived.Shelf.Bytes.Small
import Derived.Shelf.Bytes.IndexByte
import Derived.Test.YtlccdenafnekjaaGreatDoorProg
import Derived.Deep.RegionHeld3
import Derived.Deep.AppendLies
import Derived.BigFrame
import Derived.Test.YtlccdenafnekjaaGreatDoorMc
namespace Go.Proofs.YtlccdenafnekjaaGreatDoor
open Go.RowKit
set_option linter.unusedVariables false

theorem step_append_runI {P : Program} {ops : Array Oper} {o : Oper} {a : Act} {w : World} {K : Act → World → Prop} {Q : Exit → Act → World → Prop} {E : Prop}
    (hg : o.guard = none) (d x : Operand) (dT sT : TypeId) (hop : o.op = Op.call { callee := Callee.builtin Builtin.append, args := #[d, x], argTypes := #[dT, sT] })
    (v u : Value) (hd : a.eval d = v) (hx : a.eval x = u) {v' : Value} {w' : World} (hr : (Builtin.append_ #[dT, sT] o.type #[v, u]).run P w = .ok v' w') (hK : K (a.put o.dst v') w') :
    if Region.wanted o (yielded ops a.tmps) = true then Oper.wp P o a w K Q else E := by
  have hw : Region.wanted o (yielded ops a.tmps) = true := by simp [Region.wanted, hg]
  rw [if_pos hw]
  exact Lib.wp_append_run w d x dT sT hop v u hd hx v' w' hr hK
theorem run_clear_one {P : Program} (w : World) (t elem : TypeId) (z : Value) (g o c : Nat) (cur : Array Value) (tt : TypeId) (ty : TypeId)
    (hu : P.underlying t = some (.slice elem)) (hz : ∀ w, (zeroValue elem).run P w = .ok z w) (hg : w.heap[g]? = some (.cells cur tt (0, 0)))
    (hfit : o + (Builtin.zeroCells z.cells 1).size ≤ cur.size) (h1 : ∀ v ∈ (Builtin.zeroCells z.cells 1).toList, v.oneCell' = true) :
    (Builtin.clear_ #[t] ty #[.slice (some ⟨g, o, none⟩) 1 c]).run P w = .ok (.tuple #[]) (w.setRow g (cur.toList.take o ++ (Builtin.zeroCells z.cells 1).toList ++ cur.toList.drop (o + (Builtin.zeroCells z.cells 1).size)).toArray) := by
  have hst := run_storeCells_at P g o tt (Builtin.zeroCells z.cells 1).toList 0 cur w hg (by simpa using hfit) h1
  simp at hst
  simp [Builtin.clear_, run_underlying hu, hz, hst]
theorem del_nums (n i : Nat) (hn : n ≤ 1000000) (hi : i < n) : IntKind.i64.wrap ((i : Int) + 1) = (i : Int) + 1 := by rw [IntKind.wrap_i64]; omega

set_option maxRecDepth 100000 in
set_option maxHeartbeats 4000000 in
theorem delT_any {w : World} {B n i : Nat} {v : Value} {L : List Value} (ho : w.ownsRow B tT 5 v n L) (hn : n ≤ 1000000) (hi : i < n) (h1L : ∀ u ∈ L, u.oneCell' = true) :
    Calls Tryz.prog 145 #[v, .int .i64 (i : Int), .int .i64 ((i + 1 : Nat) : Int)] w fun e w' =>
      ∃ v', e = .returned v' ∧ w'.ownsRow B tT 5 v' (n - 1) (L.take (i * 5) ++ L.drop ((i + 1) * 5)) ∧ w.grownBy w' v.ownBlock ∧ v'.ownBlock = v.ownBlock := by
  have hLl : L.length = n * 5 := ho.1
  rcases ho.2 with ⟨rfl, h0⟩ | ⟨g, cap, cur, rfl, hgB, hg, hle, hmx, hcs, hL⟩
  · omega
  obtain ⟨m, hm⟩ : ∃ m, m = n - (i + 1) := ⟨_, rfl⟩
  obtain ⟨z, hz⟩ : ∃ z : Value, z = .agg #[.int .u8 0, .bool false, .slice none 0 0, .slice none 0 0, .slice none 0 0] := ⟨_, rfl⟩
  have hzs : (Builtin.zeroCells z.cells 1).size = 5 := by rw [zeroT_size 1 z (by rw [hz]; rfl)]
  have hz1 : ∀ v ∈ (Builtin.zeroCells z.cells 1).toList, v.oneCell' = true := by
    have e : (Builtin.zeroCells (Value.agg #[.int .u8 0, .bool false, .slice none 0 0, .slice none 0 0, .slice none 0 0]).cells 1).toList = [.int .u8 0, .bool false, .slice none 0 0, .slice none 0 0, .slice none 0 0] := by kernel_rfl
    rw [hz, e]
    intro v hv
    simp at hv
    rcases hv with rfl | rfl | rfl <;> rfl
  have hdl : (L.drop ((i + 1) * 5)).length = m * 5 := by rw [List.length_drop, hLl]; omega
  have htl : (L.take (i * 5)).length = i * 5 := by rw [List.length_take, hLl]; omega
  obtain ⟨R1, hR1⟩ : ∃ R1 : Array Value, R1 = (cur.toList.take (i * 5) ++ L.drop ((i + 1) * 5) ++ cur.toList.drop (i * 5 + m * 5)).toArray := ⟨_, rfl⟩
  have hR1s : R1.size = cap * 5 := by rw [hR1]; simp [hcs, hLl]; omega
  have hap : ∀ x, (m ≠ 0 → x = some ⟨g, (i + 1) * 5, none⟩) → (Builtin.append_ #[35, 35] 35 #[.slice (some ⟨g, 0, none⟩) i cap, .slice x m (cap - (i + 1))]).run Tryz.prog w.drew = .ok (.slice (some ⟨g, 0, none⟩) (i + m) cap) (w.drew.setRow g R1) := by
    intro x hx
    rw [run_append_in w.drew 35 35 tT 5 g i cap x m (cap - (i + 1)) cur tT (L.drop ((i + 1) * 5)) Tryz.underlying35 info_T hg hdl (by omega)
      (fun a ha j u hj => by
        have hm0 : m ≠ 0 := fun e => by
          have : (L.drop ((i + 1) * 5)).length = 0 := by rw [hdl, e]
          rw [List.eq_nil_of_length_eq_zero this] at hj
          cases hj
        rw [hx hm0] at ha
        cases ha
        rw [Addr.add_mid]
        rw [List.getElem?_drop] at hj
        exact getD_cell (w := w.drew) hg hL hj)
      (fun e => by
        by_cases hm0 : m = 0
        · exact hm0
        · rw [hx hm0] at e; cases e) (by rw [hdl, hcs]; omega) (fun u hu => h1L u (List.mem_of_mem_drop hu)), hR1, hdl]
  obtain ⟨W1, hW1⟩ : ∃ W1, W1 = w.drew.setRow g R1 := ⟨_, rfl⟩
  rw [← hW1] at hap
  have hG1 : W1.heap[g]? = some (.cells R1 tT (0, 0)) := by rw [hW1]; exact setRow_heap w.drew g cur R1 tT (0, 0) hg
  obtain ⟨R2, hR2⟩ : ∃ R2 : Array Value, R2 = (R1.toList.take ((n - 1) * 5) ++ (Builtin.zeroCells z.cells 1).toList ++ R1.toList.drop ((n - 1) * 5 + 5)).toArray := ⟨_, rfl⟩
  have hcl : ∀ ty c, (Builtin.clear_ #[35] ty #[.slice (some ⟨g, (n - 1) * 5, none⟩) 1 c]).run Tryz.prog W1 = .ok (.tuple #[]) (W1.setRow g R2) := by
    intro ty c
    rw [run_clear_one W1 35 tT z g ((n - 1) * 5) c R1 tT ty Tryz.underlying35 (by rw [hz]; exact Tryz.zeroValue37) hG1 (by rw [hzs, hR1s]; omega) hz1, hzs, hR2]
  have hR1t : R1.toList.take ((n - 1) * 5) = L.take (i * 5) ++ L.drop ((i + 1) * 5) := by
    have e2 : cur.toList.take (i * 5) = L.take (i * 5) := by rw [← hL, List.take_take, Nat.min_eq_left (by omega)]
    rw [hR1, e2]
    exact List.take_left' (by rw [List.length_append, htl, hdl]; omega)
  have hR2t : R2.toList.take ((n - 1) * 5) = L.take (i * 5) ++ L.drop ((i + 1) * 5) := by
    rw [← hR1t, hR2]
    simp only [List.append_assoc]
    rw [List.take_left' (by rw [List.length_take]; simp [hR1s]; omega)]
  have hR2s : R2.size = cap * 5 := by
    have : (Builtin.zeroCells z.cells 1).toList.length = 5 := by simpa using hzs
    rw [hR2]; simp [hR1s, hzs]; omega
  have HEND : Hid ((W1.setRow g R2).ownsRow B tT 5 (.slice (some ⟨g, 0, none⟩) (n - 1) cap) (n - 1) (L.take (i * 5) ++ L.drop ((i + 1) * 5)) ∧ w.grownBy (W1.setRow g R2) (some g)) := Lib.hid
    ⟨⟨by rw [List.length_append, htl, hdl]; omega, .inr ⟨g, cap, R2, rfl, hgB, setRow_heap W1 g R1 R2 tT (0, 0) hG1, by omega, hmx, hR2s, hR2t⟩⟩,
      ⟨by rw [hW1]; rfl, by rw [hW1]; rfl, by rw [hW1]; rfl, by rw [hW1]; simp [World.setRow], fun k hk hne => by
        have hkg : k ≠ g := fun e => hne (by rw [e])
        rw [setRow_other W1 g k R2 hkg, hW1, setRow_other w.drew g k R1 hkg]; rfl⟩⟩
  have HCL := Lib.hid hcl
  have HAP := Lib.hid hap
  have hcapm : cap ≤ 9223372036854775807 := by unfold maxLen at hmx; omega
  have hin1 : i + m = n - 1 := by omega
  have HI1 := Lib.hid hin1
  have hm1 : n - (i + 1) = m := hm.symm
  have HM := Lib.hid hm
  clear ho hg hcs hL hcl hap hR1 hR2 hR1s hR2s hR1t hR2t hdl htl hLl h1L hz hzs hz1 hG1 hW1 hmx hgB hin1 hm
  have hw1 := del_nums n i hn hi
  have b1 : (i : Int) ≤ (i : Int) + 1 := by omega
  have b2 : (i : Int) + 1 ≤ (n : Int) := by omega
  have b3 : (n : Int) ≤ (cap : Int) := by omega
  have b4 : (0 : Int) ≤ (i : Int) + 1 := by omega
  have b5 : (i : Int) ≤ (cap : Int) := by omega
  have hz2 : ¬ ((i : Int) = (i : Int) + 1) := by omega
  have mixed : Tryz.prog.follows .mixedOrders = true := by kernel_rfl
  clear hm1
  have hapm := HAP.out
  rw [HM.out] at hapm
  have HAPM := Lib.hid hapm
  have hi2 : i + (n - (i + 1)) = n - 1 := by omega
  have hn1 : n - (n - 1) = 1 := by omega
  have b6 : ((n - 1 : Nat) : Int) ≤ (n : Int) := by omega
  have b7 : ¬ (cap = n - 1) := by omega
  clear hapm
  by_cases hc : cap = i + 1
  · obtain rfl : n = i + 1 := by omega
    subst hc
    have HA := Lib.hid (HAPM.out (some ⟨g, 0, none⟩) (fun h => absurd (Nat.sub_self _) h))
    have hcl := HCL.out 0 1
    simp only [Nat.add_sub_cancel, Nat.sub_self, Nat.add_zero] at HA hcl HEND
    clear HAPM HCL HAP HM HI1 b6 b7 hn1 hi2 hle
    have d1 : (i : Int) ≤ (i : Int) + 1 := by omega
    have d2 : ¬ (i + 1 = i) := by omega
    go_enter Tryz.func145, Tryz.ntmps145
    go_upto_region 5 with fail
    go_region_law_o (refine step_append_runI rfl _ _ 35 35 rfl _ _ (by simp [Act.eval, Act.put]) (by simp [Act.eval, Act.put]) HA.out ?_)
    go_wp2_with fail
    go_ret
    exact ⟨_, rfl, HEND.out.1, HEND.out.2, rfl⟩
  · have hcl := HCL.out 0 (cap - (n - 1))
    have HA := Lib.hid (HAPM.out (some ⟨g, (i + 1) * 5, none⟩) (fun h => rfl))
    go_enter Tryz.func145, Tryz.ntmps145
    go_upto_region 5 with fail
    go_region_law_o (refine step_append_runI rfl _ _ 35 35 rfl _ _ (by simp [Act.eval, Act.put]) (by simp [Act.eval, Act.put]) HA.out ?_)
    go_wp2_with fail
    go_ret
    refine ⟨_, rfl, ?_, HEND.out.2, rfl⟩
    exact HEND.out.1

end Go.Proofs.YtlccdenafnekjaaGreatDoor

namespace Go.Proofs
open Go.Shelf
open Go.RowKit Go.Lib Go.Sort in
/-- slices.Delete at []string, of an argument, for i ≤ j ≤ n. (LAID: no walk: one application.) -/
theorem Tryz.slices_Delete_string_cells (b off n c i j : Nat) (Sx : Nat → ByteArray) (w : World) (hcap : n ≤ c) (hm : c ≤ 9223372036854775807) (hij : i ≤ j) (hj : j ≤ n) (hc : ∀ i, i < n → w.cell? ⟨b, off + i, none⟩ = some (.string (Sx i))) (hf : ∀ j, j < n → w.frozen? ⟨b, off + j, none⟩ = false) :
    Calls Tryz.prog 144 #[.slice (some ⟨b, off, none⟩) n c, .int .i64 i, .int .i64 j] w fun e w' => e = .returned (.slice (some ⟨b, off, none⟩) (n - (j - i)) c) ∧ ∃ q, w' = (w.drewN q).setCells b off (((Lib.strsOf Sx n).take i ++ (Lib.strsOf Sx n).drop j ++ List.replicate (j - i) []).map encStr) := Any.slices_Delete_string_cells Tryz.laysNm224 b off n c i j Sx w hcap hm hij hj hc hf
end Go.Proofs

namespace Go.Proofs.YtlccdenafnekjaaGreatDoor
open Go.RowKit
set_option linter.unusedVariables false

theorem delS_any {w : World} {B n i : Nat} {v : Value} {ns : List ByteArray} (ho : w.ownsRow B tS 1 v n (ns.map Value.string)) (hn : n ≤ 1000000) (hi : i < n) :
    Calls Tryz.prog 144 #[v, .int .i64 (i : Int), .int .i64 ((i + 1 : Nat) : Int)] w fun e w' =>
      ∃ v', e = .returned v' ∧ w'.ownsRow B tS 1 v' (n - 1) ((ns.take i ++ ns.drop (i + 1)).map Value.string) ∧ w.grownBy w' v.ownBlock ∧ v'.ownBlock = v.ownBlock := by
  have hl : ns.length = n := by have := ho.1; simpa using this
  rcases ho.2 with ⟨rfl, h0⟩ | ⟨g, cap, cur, rfl, hgB, hg, hle, hmx, hcs, hL⟩
  · omega
  have hL' : cur.toList.take n = ns.map Value.string := by simpa using hL
  have hcs' : cur.size = cap := by simpa using hcs
  have hcl : cur.toList.length = cap := by simpa using hcs'
  refine (Tryz.slices_Delete_string_cells g 0 n cap i (i + 1) (fun j => ns.getD j ⟨#[]⟩) w hle (by unfold maxLen at hmx; omega) (by omega) (by omega) (fun j hj => by
    rw [Nat.zero_add]
    refine getD_cell hg hL' ?_
    rw [List.getElem?_map, List.getElem?_eq_getElem (by omega), List.getD_eq_getElem?_getD, List.getElem?_eq_getElem (by omega)]; rfl) (fun j hj => frozen_of hg)).mono ?_
  rintro e w' ⟨rfl, q, rfl⟩
  have hst : (Lib.strsOf (fun j => ns.getD j ⟨#[]⟩) n).map encStr = ns.map Value.string := by
    refine List.ext_getElem (by simp [Lib.strsOf, hl]) fun j h1 h2 => ?_
    have hj : j < ns.length := by simpa using h2
    simp [Lib.strsOf, encStr, List.getD_eq_getElem?_getD, List.getElem?_eq_getElem hj]
  obtain ⟨vs, hvs⟩ : ∃ vs, vs = ((Lib.strsOf (fun j => ns.getD j ⟨#[]⟩) n).take i ++ (Lib.strsOf (fun j => ns.getD j ⟨#[]⟩) n).drop (i + 1) ++ List.replicate (i + 1 - i) []).map encStr := ⟨_, rfl⟩
  have hve : vs = (ns.take i ++ ns.drop (i + 1)).map Value.string ++ [encStr []] := by
    rw [hvs, List.map_append, List.map_append, List.map_take, List.map_drop, hst, show i + 1 - i = 1 by omega]
    simp
  have hml : ((ns.take i ++ ns.drop (i + 1)).map Value.string).length = n - 1 := by simp [hl]; omega
  have hvl : vs.length = n := by rw [hve, List.length_append, hml]; simp; omega
  rw [← hvs]
  have hgq : (w.drewN q).heap[g]? = some (.cells cur tS (0, 0)) := hg
  rw [setCells_row vs 0 cur (w.drewN q) hgq (by omega), show n - (i + 1 - i) = n - 1 by omega]
  refine ⟨_, rfl, ⟨by simpa using hml, .inr ⟨g, cap, _, rfl, hgB, setRow_heap _ g cur _ tS (0, 0) hgq, by omega, hmx, ?_, ?_⟩⟩, ⟨rfl, rfl, rfl, by simp [World.setRow], fun k hk hne' => by rw [setRow_other _ g k _ (fun e => hne' (by rw [e]; rfl))]; rfl⟩, rfl⟩
  · simp [hvl, hcs']; omega
  · rw [hve]
    simp only [List.take_zero, List.nil_append, Nat.mul_one, List.append_assoc]
    exact List.take_left' hml

/-- Where a text stands in a row of texts, or would stand. -/
theorem search_any {w : World} {a : Option Addr} {n c : Nat} {ns : List ByteArray} {x : ByteArray} (h : IsS w a n c ns) (hn : n ≤ 1000000) :
    Calls Tryz.prog 149 #[.slice a n c, .string x] w fun e w' =>
      e = .returned (.tuple #[.int .i64 (Lib.bsGo (fun t => Op.bytesLess (ns.getD t ⟨#[]⟩).toList x.toList) n 0 n : Nat), .bool (decide (Lib.bsGo (fun t => Op.bytesLess (ns.getD t ⟨#[]⟩).toList x.toList) n 0 n < n ∧ ns.getD (Lib.bsGo (fun t => Op.bytesLess (ns.getD t ⟨#[]⟩).toList x.toList) n 0 n) ⟨#[]⟩ = x))]) ∧ Below w.heap.size w w' := by
  have hl := h.length
  rcases h.at_ with h0 | ⟨b, off, rfl, hb, hc⟩
  · subst h0
    refine (Any2.slices_BinarySearch_string_empty bsLay a c x w).mono ?_
    rintro e w' ⟨rfl, rfl⟩
    exact ⟨rfl, Below.refl _ _⟩
  · refine (Any2.slices_BinarySearch_string bsLay b off n c (fun t => ns.getD t ⟨#[]⟩) x w (by omega) hc).mono ?_
    rintro e w' ⟨rfl, q, rfl⟩
    exact ⟨rfl, ⟨rfl, rfl, rfl, Nat.le_refl _, fun _ _ => rfl⟩⟩

end Go.Proofs.YtlccdenafnekjaaGreatDoor
namespace Go.Proofs.YtlccdenafnekjaaGreatDoor
open Go.RowKit
set_option linter.unusedVariables false

/-- Behind take. -/
def TakeP (w : World) (B p db o : Nat) (X L : List Value) (ty : TypeId) (vn vk c0 c1 c2 c3 c4 : Value) (ns : List ByteArray) (i a b x y : Nat) (e : Ending) (w' : World) : Prop :=
  ∃ un uk, e = .returned (.agg (five L i).toArray) ∧
    (p = db → Has w' p (wkC c0 c1 c2 un uk ((a : Int) + -(x : Int)) ((b : Int) + -(y : Int))) 140) ∧
    (p ≠ db → Has w' db ((X.set (o + 3) un).set (o + 4) uk) ty ∧ Has w' p (wkC c0 c1 c2 c3 c4 ((a : Int) + -(x : Int)) ((b : Int) + -(y : Int))) 140) ∧
    w'.ownsRow B tS 1 un (ns.length - 1) ((ns.take i ++ ns.drop (i + 1)).map Value.string) ∧ w'.ownsRow B tT 5 uk (ns.length - 1) (L.take (i * 5) ++ L.drop ((i + 1) * 5)) ∧
    Fr (p :: db :: (blk vn ++ blk vk)) w w' ∧ un.ownBlock = vn.ownBlock ∧ uk.ownBlock = vk.ownBlock

theorem take_nums (n i : Nat) (hn : n ≤ 100000) (hi : i < n) : IntKind.i64.wrap ((i : Int) + 1) = (i : Int) + 1 := by rw [IntKind.wrap_i64]; omega
/-- The cells of no tree. -/
def zK : List Value := [.int .u8 0, .bool false, .slice none 0 0, .slice none 0 0, .slice none 0 0]

set_option maxRecDepth 100000 in
set_option maxHeartbeats 20000000 in
theorem take_w {w : World} {B p db o i dep a b x y : Nat} {tk : Bool} {nm : ByteArray} {X L : List Value} {ty : TypeId} {vn vk c0 c1 c2 c3 c4 : Value} {ns : List ByteArray} {tt : T} {lv : Nat}
    (hX : Has w db X ty) (hx3 : X[o + 3]? = some vn) (hx4 : X[o + 4]? = some vk) (hn : w.ownsRow B tS 1 vn ns.length (ns.map Value.string)) (hk : w.ownsRow B tT 5 vk ns.length L)
    (hi : i < ns.length) (hl : ns.length ≤ 100000) (hnd : vn.ownBlock ≠ some db) (hkd : vk.ownBlock ≠ some db) (h1L : ∀ u ∈ L, u.oneCell' = true)
    (hpp : (p = db ∧ ty = 140 ∧ o = 0 ∧ X = wkC c0 c1 c2 vn vk (a : Int) (b : Int)) ∨ (p ≠ db ∧ Has w p (wkC c0 c1 c2 c3 c4 (a : Int) (b : Int)) 140))
    (hT : ∀ W, Fr (p :: db :: (blk vn ++ blk vk)) w W → IsT W lv (five L i) tt) (hz : sizeT tt = some (x, y)) (ha : a ≤ 1000000) (hb : b ≤ 1000000) :
    Calls Tryz.prog 132 #[.pointer (some ⟨p, 0, none⟩), .agg (spC db o nm i dep tk).toArray] w (TakeP w B p db o X L ty vn vk c0 c1 c2 c3 c4 ns i a b x y) := by
  have HXX := Lib.hid hX
  have HX3 := Lib.hid hx3
  have HX4 := Lib.hid hx4
  have HN := Lib.hid hn
  have HK := Lib.hid hk
  have HI := Lib.hid hi
  have HL := Lib.hid hl
  have HND := Lib.hid hnd
  have HKD := Lib.hid hkd
  have H1L := Lib.hid h1L
  have HPP := Lib.hid hpp
  have HTT := Lib.hid hT
  have HZZ := Lib.hid hz
  have HBA : Hid (-1000000 ≤ (a : Int) ∧ (a : Int) ≤ 1000000) := Lib.hid ⟨by omega, by omega⟩
  have HBB : Hid (-1000000 ≤ (b : Int) ∧ (b : Int) ≤ 1000000) := Lib.hid ⟨by omega, by omega⟩
  obtain ⟨na, nl, nc, hvn⟩ := slice_owned hn
  have hnn : nl = ns.length := by
    rcases hn.2 with ⟨h1, h2⟩ | ⟨g, cap, cur, h1, _⟩
    · rw [hvn] at h1; cases h1; omega
    · rw [hvn] at h1; cases h1; rfl
  obtain ⟨kb, cap, cur, hvk, hkg, hle, hmx, hcs, hLc⟩ : ∃ kb cap cur, vk = .slice (some ⟨kb, 0, none⟩) ns.length cap ∧ w.heap[kb]? = some (.cells cur tT (0, 0)) ∧ ns.length ≤ cap ∧ cap ≤ maxLen ∧ cur.size = cap * 5 ∧ cur.toList.take (ns.length * 5) = L := by
    rcases hk.2 with ⟨h1, h2⟩ | ⟨g, cap, cur, h1, h2, h3, h4, h5, h6, h7⟩
    · omega
    · exact ⟨g, cap, cur, h1, h3, h4, h5, h6, h7⟩
  obtain ⟨ct, hct⟩ : ∃ ct, ct = five L i := ⟨_, rfl⟩
  have hct5 : ct.length = 5 := by
    rw [hct]; unfold five
    rw [List.length_take, List.length_drop, hk.1]; omega
  have HCE := Lib.hid hct
  have H1C : Hid (ct.toArray.all (·.oneCell') = true) := Lib.hid (by
    rw [Array.all_eq_true_iff_forall_mem]
    intro u hu
    have hu' : u ∈ five L i := by rw [← hct]; simpa using hu
    exact h1L u (List.mem_of_mem_drop (List.mem_of_mem_take hu')))
  have HKG : Hid (Has w kb cur.toList tT) := Lib.hid (show w.heap[kb]? = some (.cells cur.toList.toArray tT (0, 0)) by simpa using hkg)
  have HRG : Hid (∀ W, Has W kb cur.toList tT → W.rangeAt kb (i * 5) ct) := Lib.hid (fun W hW => by rw [hct]; exact range_five hW hLc hi)
  have HI5 : Hid ((Tryz.prog.info? 37).map (·.size) = some ct.length) := Lib.hid (by rw [info5, hct5])
  have HIA : Hid ((Tryz.prog.info? 37).map (·.size) = some ct.toArray.size) := Lib.hid (by rw [info5]; simp [hct5])
  have HC5 := Lib.hid hct5
  have hdl : Hid (db < w.heap.size) := Lib.hid hX.lt
  have HVK := Lib.hid hvk
  have HWI := Lib.hid (take_nums ns.length i hl hi)
  have hnl : nl = ns.length := hnn
  have HVN : Hid (vn = .slice na ns.length nc) := Lib.hid (by rw [hvn, hnl])
  have hin : (i : Int) < (ns.length : Int) := by omega
  clear hX hx3 hx4 hn hk hl hnd hkd h1L hpp hT hz ha hb hct hct5 hkg hle hmx hcs hLc hvk hvn hnn hnl hi
  go_enter Tryz.func132, Tryz.ntmps132
  go_upto_region 1 with fail
  obtain ⟨w1, hw1⟩ : ∃ w1, w1 = (w.alloc (.cells (spC db o nm i dep tk).toArray 180)).alloc (.cells #[.int .u8 0, .bool false, .slice none 0 0, .slice none 0 0, .slice none 0 0] 37) := ⟨_, rfl⟩
  have F1 : Hid (Fr [db] w w1) := Lib.hid (by rw [hw1]; exact ((Fr.refl _ _).alloc _).alloc _)
  have g1 : Has w1 w.heap.size (spC db o nm i dep tk) 180 := by rw [hw1]; exact (Has.new w _ _).alloc _
  have t1 : Has w1 (w.heap.size + 1) zK 37 := by
    have e : (w.alloc (.cells (spC db o nm i dep tk).toArray 180)).heap.size = w.heap.size + 1 := by simp
    rw [hw1, ← e]
    exact Has.new _ zK _
  have S1 : Hid (w1.heap.size = w.heap.size + 1 + 1) := Lib.hid (by rw [hw1]; simp)
  first | rw [← hw1] | skip
  have G1 := Lib.hid g1
  have R1 := Lib.hid t1
  have X1 : Hid (Has w1 db X ty) := Lib.hid (by rw [hw1]; exact (HXX.out.alloc _).alloc _)
  have Q1 : Hid (Has w1 kb cur.toList tT) := Lib.hid (by rw [hw1]; exact (HKG.out.alloc _).alloc _)
  have N1 : Hid (w1.ownsRow B tS 1 vn ns.length (ns.map Value.string)) := Lib.hid (by rw [hw1]; exact owns_alloc (owns_alloc HN.out _) _)
  have K1 : Hid (w1.ownsRow B tT 5 vk ns.length L) := Lib.hid (by rw [hw1]; exact owns_alloc (owns_alloc HK.out _) _)
  clear hw1 g1 t1
  refine wp_region_held_drew (S := fun W => Has W w.heap.size (spC db o nm i dep tk) 180 ∧ Has W db X ty ∧ Has W kb cur.toList tT) (by kernel_rfl) ⟨G1.out.drew, X1.out.drew, Q1.out.drew⟩ (fun hHeld => ?_)
  refine wpAnyH_take (i := 0) (v := .pointer (some ⟨w.heap.size, 0, none⟩)) rfl (by kernel_rfl) (by kernel_rfl) (by kernel_rfl) (fun _ _ _ h => h)
    (Or.inl ⟨by rfl, by intro w hSw;  clear hSw; go_simp⟩) hHeld ?_
  refine wpAnyH_take (i := 1) (v := .pointer (some ⟨db, o, none⟩)) rfl (by kernel_rfl) (by kernel_rfl) (by kernel_rfl) (fun _ _ _ h => h)
    (Or.inl ⟨by rfl, by intro w hSw; have hq := Has.cellAt hSw.1 (i := 0) rfl; clear hSw; go_simp⟩) hHeld ?_
  refine wpAnyH_take (i := 2) (v := .pointer (some ⟨db, o, none⟩)) rfl (by kernel_rfl) (by kernel_rfl) (by kernel_rfl) (fun _ _ _ h => h)
    (Or.inl ⟨by rfl, by intro w hSw;  clear hSw; go_simp⟩) hHeld ?_
  refine wpAnyH_take (i := 3) (v := .pointer (some ⟨db, o + 4, none⟩)) rfl (by kernel_rfl) (by kernel_rfl) (by kernel_rfl) (fun _ _ _ h => h)
    (Or.inl ⟨by rfl, by intro w hSw;  clear hSw; go_simp⟩) hHeld ?_
  refine wpAnyH_take (i := 4) (v := vk) rfl (by kernel_rfl) (by kernel_rfl) (by kernel_rfl) (fun _ _ _ h => h)
    (Or.inl ⟨by rfl, by intro w hSw; have hq := Has.cellAt hSw.2.1 HX4.out; clear hSw; go_simp⟩) hHeld ?_
  refine wpAnyH_take (i := 5) (v := .pointer (some ⟨w.heap.size, 2, none⟩)) rfl (by kernel_rfl) (by kernel_rfl) (by kernel_rfl) (fun _ _ _ h => h)
    (Or.inl ⟨by rfl, by intro w hSw;  clear hSw; go_simp⟩) hHeld ?_
  refine wpAnyH_take (i := 6) (v := .int .i64 (i : Int)) rfl (by kernel_rfl) (by kernel_rfl) (by kernel_rfl) (fun _ _ _ h => h)
    (Or.inl ⟨by rfl, by intro w hSw; have hq := Has.cellAt hSw.1 (i := 2) rfl; clear hSw; go_simp⟩) hHeld ?_
  refine wpAnyH_take (i := 7) (v := .pointer (some ⟨kb, i * 5, none⟩)) rfl (by kernel_rfl) (by kernel_rfl) (by kernel_rfl) (fun _ _ _ h => h)
    (Or.inl ⟨by rfl, by intro w hSw; have hq := HVK.out; clear hSw; go_simp⟩) hHeld ?_
  refine wpAnyH_take (i := 8) rfl (by kernel_rfl) (by kernel_rfl) (by kernel_rfl) (fun _ _ _ h => h)
    (yieldsIf_load_mid (by rfl) 37 (.tmp 13) rfl kb (i * 5) rfl ct _ (fun _ h => HRG.out _ h.2.2) Tryz.underlying37 rfl HI5.out) hHeld ?_
  refine wpAnyH_ready (rs := [9]) (by kernel_rfl) (by simp) ?_
  refine AllReadyH.cons rfl (fun K hK => ?_) AllReadyH.nil
  go_simp
  obtain ⟨w2, hw2⟩ : ∃ w2, w2 = (w1.alloc (.cells #[.int .u8 0, .bool false, .slice none 0 0, .slice none 0 0, .slice none 0 0] 37)).drew := ⟨_, rfl⟩
  have X2 : Hid (Has w2 db X ty) := Lib.hid (by rw [hw2]; exact (X1.out.alloc _).drew)
  have Q2 : Hid (Has w2 kb cur.toList tT) := Lib.hid (by rw [hw2]; exact (Q1.out.alloc _).drew)
  have G2 : Hid (Has w2 w.heap.size (spC db o nm i dep tk) 180) := Lib.hid (by rw [hw2]; exact (G1.out.alloc _).drew)
  have R2 : Hid (Has w2 (w.heap.size + 1) zK 37) := Lib.hid (by rw [hw2]; exact (R1.out.alloc _).drew)
  have N2 : Hid (w2.ownsRow B tS 1 vn ns.length (ns.map Value.string)) := Lib.hid (by rw [hw2]; exact owns_drew (owns_alloc N1.out _))
  have K2 : Hid (w2.ownsRow B tT 5 vk ns.length L) := Lib.hid (by rw [hw2]; exact owns_drew (owns_alloc K1.out _))
  have V2 : Hid (Has w2 w1.heap.size zK 37) := Lib.hid (by rw [hw2]; exact (Has.new w1 zK _).drew)
  have F2 : Hid (Fr [db] w w2) := Lib.hid (by rw [hw2]; exact (F1.out.alloc _).drew)
  have S2 : Hid (w2.heap.size = w.heap.size + 1 + 1 + 1) := Lib.hid (by rw [hw2]; simp [S1.out])
  first | rw [← hw2] | skip
  clear hw2
  refine hK.out _ _ ⟨G2.out, X2.out, Q2.out⟩ (fun hHw1 => ?_)
  clear hK K hHeld
  refine wpAnyH_ready (rs := [10]) (by kernel_rfl) (by simp) ?_
  refine AllReadyH.cons rfl (fun K hK => ?_) AllReadyH.nil
  rw [if_pos (by rfl)]
  refine wp_store_row 37 (.tmp 5) (.tmp 14) rfl w1.heap.size ct.toArray rfl rfl 37 zK.toArray V2.out HIA.out (by simp [zK, HC5.out]) H1C.out ?_
  obtain ⟨w3, hw3⟩ : ∃ w3, w3 = w2.setRow w1.heap.size ct.toArray := ⟨_, rfl⟩
  have X3 : Hid (Has w3 db X ty) := Lib.hid (by rw [hw3]; exact has_setRow_other X2.out (by have := S1.out; have := hdl.out; omega) _)
  have Q3 : Hid (Has w3 kb cur.toList tT) := Lib.hid (by rw [hw3]; exact has_setRow_other Q2.out (by have := S1.out; have := HKG.out.lt; omega) _)
  have G3 : Hid (Has w3 w.heap.size (spC db o nm i dep tk) 180) := Lib.hid (by rw [hw3]; exact has_setRow_other G2.out (by have := S1.out; omega) _)
  have R3 : Hid (Has w3 (w.heap.size + 1) zK 37) := Lib.hid (by rw [hw3]; exact has_setRow_other R2.out (by have := S1.out; omega) _)
  have V3 : Hid (Has w3 w1.heap.size ct 37) := Lib.hid (by rw [hw3]; exact has_setRow V2.out)
  have NB1 : Hid (∀ g, g < w.heap.size → g ≠ w1.heap.size) := Lib.hid (fun g hg => by have := S1.out; omega)
  have N3 : Hid (w3.ownsRow B tS 1 vn ns.length (ns.map Value.string)) := Lib.hid (by rw [hw3]; exact owns_fr N2.out ((Fr.refl [w1.heap.size] w2).setRow (.inl (by simp)) _) (fun g hg hm => NB1.out g (blk_lt HN.out (mem_blk.1 hg)) (by simpa using hm)))
  have K3 : Hid (w3.ownsRow B tT 5 vk ns.length L) := Lib.hid (by rw [hw3]; exact owns_fr K2.out ((Fr.refl [w1.heap.size] w2).setRow (.inl (by simp)) _) (fun g hg hm => NB1.out g (blk_lt HK.out (mem_blk.1 hg)) (by simpa using hm)))
  have F3 : Hid (Fr [db] w w3) := Lib.hid (by rw [hw3]; exact F2.out.setRow (.inr (by have := S1.out; omega)) _)
  have S3 : Hid (w3.heap.size = w.heap.size + 1 + 1 + 1) := Lib.hid (by rw [hw3]; simpa [World.setRow] using S2.out)
  first | rw [← hw3] | skip
  clear hw3 X2 Q2 G2 R2 N2 K2 V2 F2 S2 X1 Q1 G1 R1 N1 K1 F1
  refine hK.out _ _ ⟨G3.out, X3.out, Q3.out⟩ (fun hHw2 => ?_)
  clear hK K hHw1
  try simp only [Act.put]
  refine wpAnyH_done (by kernel_rfl) ?_ _
  clear hHw2
  go_upto_region 2 with fail
  refine wp_region_held_drew (S := fun W => Has W w.heap.size (spC db o nm i dep tk) 180) (by kernel_rfl) G3.out.drew (fun hHeld2 => ?_)
  refine wpAnyH_take (i := 0) (v := .pointer (some ⟨w.heap.size, 0, none⟩)) rfl (by kernel_rfl) (by kernel_rfl) (by kernel_rfl) (fun _ _ _ h => h)
    (Or.inl ⟨by rfl, by intro w hSw;  clear hSw; go_simp⟩) hHeld2 ?_
  refine wpAnyH_take (i := 1) (v := .pointer (some ⟨db, o, none⟩)) rfl (by kernel_rfl) (by kernel_rfl) (by kernel_rfl) (fun _ _ _ h => h)
    (Or.inl ⟨by rfl, by intro w hSw; have hq := Has.cellAt hSw (i := 0) rfl; clear hSw; go_simp⟩) hHeld2 ?_
  refine wpAnyH_take (i := 2) (v := .pointer (some ⟨w.heap.size, 0, none⟩)) rfl (by kernel_rfl) (by kernel_rfl) (by kernel_rfl) (fun _ _ _ h => h)
    (Or.inl ⟨by rfl, by intro w hSw;  clear hSw; go_simp⟩) hHeld2 ?_
  refine wpAnyH_take (i := 3) (v := .pointer (some ⟨db, o, none⟩)) rfl (by kernel_rfl) (by kernel_rfl) (by kernel_rfl) (fun _ _ _ h => h)
    (Or.inl ⟨by rfl, by intro w hSw; have hq := Has.cellAt hSw (i := 0) rfl; clear hSw; go_simp⟩) hHeld2 ?_
  refine wpAnyH_take (i := 4) (v := .pointer (some ⟨db, o, none⟩)) rfl (by kernel_rfl) (by kernel_rfl) (by kernel_rfl) (fun _ _ _ h => h)
    (Or.inl ⟨by rfl, by intro w hSw;  clear hSw; go_simp⟩) hHeld2 ?_
  refine wpAnyH_take (i := 5) (v := .pointer (some ⟨db, o + 3, none⟩)) rfl (by kernel_rfl) (by kernel_rfl) (by kernel_rfl) (fun _ _ _ h => h)
    (Or.inl ⟨by rfl, by intro w hSw;  clear hSw; go_simp⟩) hHeld2 ?_
  refine wpAnyH_take (i := 7) (v := .pointer (some ⟨w.heap.size, 2, none⟩)) rfl (by kernel_rfl) (by kernel_rfl) (by kernel_rfl) (fun _ _ _ h => h)
    (Or.inl ⟨by rfl, by intro w hSw;  clear hSw; go_simp⟩) hHeld2 ?_
  refine wpAnyH_take (i := 8) (v := .int .i64 (i : Int)) rfl (by kernel_rfl) (by kernel_rfl) (by kernel_rfl) (fun _ _ _ h => h)
    (Or.inl ⟨by rfl, by intro w hSw; have hq := Has.cellAt hSw (i := 2) rfl; clear hSw; go_simp⟩) hHeld2 ?_
  refine wpAnyH_take (i := 9) (v := .pointer (some ⟨w.heap.size, 2, none⟩)) rfl (by kernel_rfl) (by kernel_rfl) (by kernel_rfl) (fun _ _ _ h => h)
    (Or.inl ⟨by rfl, by intro w hSw;  clear hSw; go_simp⟩) hHeld2 ?_
  refine wpAnyH_take (i := 10) (v := .int .i64 (i : Int)) rfl (by kernel_rfl) (by kernel_rfl) (by kernel_rfl) (fun _ _ _ h => h)
    (Or.inl ⟨by rfl, by intro w hSw; have hq := Has.cellAt hSw (i := 2) rfl; clear hSw; go_simp⟩) hHeld2 ?_
  refine wpAnyH_take (i := 11) (v := .int .i64 ((i : Int) + 1)) rfl (by kernel_rfl) (by kernel_rfl) (by kernel_rfl) (fun _ _ _ h => h)
    (Or.inl ⟨by rfl, by intro w hSw;  clear hSw; go_simp <;> exact HWI.out⟩) hHeld2 ?_
  refine wpAnyH_ready (rs := [6]) (by kernel_rfl) (by simp) ?_
  refine AllReadyH.cons rfl (fun K hK => ?_) AllReadyH.nil
  have q3 : World.cell? w3.drew ⟨db, o + 3, none⟩ = some vn := Has.cellAt (X3.out.drew) HX3.out
  go_simp
  clear q3
  refine hK.out _ _ (G3.out.drew) (fun hHw1 => ?_)
  clear hK K hHeld2
  refine wpAnyH_ready (rs := [12]) (by kernel_rfl) (by simp) ?_
  refine AllReadyH.cons rfl (fun K hK => ?_) AllReadyH.nil
  go_simp
  have hcl := delS_any (w := w3.drew) (owns_drew N3.out) (by have := HL.out; omega) HI.out
  rw [show ((i + 1 : Nat) : Int) = (i : Int) + 1 by omega] at hcl
  refine hcl.mono ?_
  rintro e w4 ⟨VN0, rfl, ho4, hg4, hb4⟩
  obtain ⟨va, vl, vc, rfl⟩ := slice_owned ho4
  have N4 := Lib.hid ho4
  have HUN : Hid ((Value.slice va vl vc).ownBlock = vn.ownBlock) := Lib.hid hb4
  have K4 : Hid (w4.ownsRow B tT 5 vk ns.length L) := Lib.hid (owns_grown3 (owns_drew K3.out) (owns_drew N3.out) (by decide) hg4)
  have GR4 : Hid (Fr (blk vn) w3.drew w4) := Lib.hid (Fr.of_grown hg4 (fun g h => mem_blk.2 h))
  have NB : Hid (∀ g, w.heap.size ≤ g → g ∉ blk vn) := Lib.hid (fun g h2 h3 => by have := blk_lt HN.out (mem_blk.1 h3); omega)
  have X4 : Hid (Has w4 db X ty) := Lib.hid (has_fr X3.out.drew GR4.out (fun h => HND.out (mem_blk.1 h)))
  have G4 : Hid (Has w4 w.heap.size (spC db o nm i dep tk) 180) := Lib.hid (has_fr G3.out.drew GR4.out (NB.out _ (by omega)))
  have R4 : Hid (Has w4 (w.heap.size + 1) zK 37) := Lib.hid (has_fr R3.out.drew GR4.out (NB.out _ (by omega)))
  have V4 : Hid (Has w4 w1.heap.size ct 37) := Lib.hid (has_fr V3.out.drew GR4.out (NB.out _ (by have := S1.out; omega)))
  have F4 : Hid (Fr (db :: blk vn) w w4) := Lib.hid (((F3.out.drew).mono (S' := db :: blk vn) (fun g hg _ => by simp only [List.mem_cons, List.not_mem_nil, or_false] at hg; simp [hg])).trans GR4.out (fun g hg _ => by simp [hg]))
  have S4 : Hid (w.heap.size + 1 + 1 + 1 ≤ w4.heap.size) := Lib.hid (by have h1 := GR4.out.size; have h2 := S3.out; have h3 : w3.drew.heap.size = w3.heap.size := rfl; omega)
  clear ho4 hg4 hb4 hcl
  go_wp2_with fail
  refine hK.out _ _ (G4.out) (fun hHw2 => ?_)
  clear hK K hHw1
  refine wpAnyH_take (i := 13) (v := .pointer (some ⟨db, o, none⟩)) rfl (by kernel_rfl) (by kernel_rfl) (by kernel_rfl) (fun _ _ _ h => h)
    (Or.inl ⟨by rfl, by intro w hSw;  clear hSw; go_simp⟩) hHw2 ?_
  refine wpAnyH_take (i := 14) (v := .pointer (some ⟨db, o + 3, none⟩)) rfl (by kernel_rfl) (by kernel_rfl) (by kernel_rfl) (fun _ _ _ h => h)
    (Or.inl ⟨by rfl, by intro w hSw;  clear hSw; go_simp⟩) hHw2 ?_
  refine wpAnyH_ready (rs := [15]) (by kernel_rfl) (by simp) ?_
  refine AllReadyH.cons rfl (fun K hK => ?_) AllReadyH.nil
  have q3 : w4.cell? ⟨db, o + 3, none⟩ = some vn := Has.cellAt X4.out HX3.out
  have f3 : w4.frozen? ⟨db, o + 3, none⟩ = false := X4.out.frozen (o + 3)
  go_simp
  clear q3 f3
  obtain ⟨w5, hw5⟩ : ∃ w5, w5 = w4.setCell ⟨db, o + 3, none⟩ (.slice va vl vc) := ⟨_, rfl⟩
  have X5 : Hid (Has w5 db (X.set (o + 3) (.slice va vl vc)) ty) := Lib.hid (by rw [hw5]; exact X4.out.set (o + 3) _)
  have ND5 : Hid ((Value.slice va vl vc).ownBlock ≠ some db) := Lib.hid (by rw [HUN.out]; exact HND.out)
  have N5 : Hid (w5.ownsRow B tS 1 (.slice va vl vc) (ns.length - 1) ((ns.take i ++ ns.drop (i + 1)).map Value.string)) := Lib.hid (by rw [hw5]; exact owns_set2 N4.out ND5.out _ _)
  have K5 : Hid (w5.ownsRow B tT 5 vk ns.length L) := Lib.hid (by rw [hw5]; exact owns_set2 K4.out HKD.out _ _)
  have G5 : Hid (Has w5 w.heap.size (spC db o nm i dep tk) 180) := Lib.hid (by rw [hw5]; exact G4.out.setOther (a := ⟨db, o + 3, none⟩) (by have := hdl.out; show w.heap.size ≠ db; omega) _)
  have R5 : Hid (Has w5 (w.heap.size + 1) zK 37) := Lib.hid (by rw [hw5]; exact R4.out.setOther (a := ⟨db, o + 3, none⟩) (by have := hdl.out; show w.heap.size + 1 ≠ db; omega) _)
  have V5 : Hid (Has w5 w1.heap.size ct 37) := Lib.hid (by rw [hw5]; exact V4.out.setOther (a := ⟨db, o + 3, none⟩) (by have := hdl.out; have := S1.out; show w1.heap.size ≠ db; omega) _)
  have F5 : Hid (Fr (db :: blk vn) w w5) := Lib.hid (by rw [hw5]; exact F4.out.setCell (.inl (by simp)) _ _)
  have S5 : Hid (w.heap.size + 1 + 1 + 1 ≤ w5.heap.size) := Lib.hid (by have h2 := S4.out; have h3 : w5.heap.size = w4.heap.size := (by rw [hw5]; simp [World.setCell]); omega)
  first | rw [← hw5] | skip
  clear hw5 X4 N4 K4 G4 R4 V4 F4 S4 GR4 X3 Q3 N3 K3 G3 R3 V3 F3 S3
  refine hK.out _ _ (G5.out) (fun hHw3 => ?_)
  clear hK K hHw2
  refine wpAnyH_done (by kernel_rfl) ?_ _
  clear hHw3
  have X44 : Hid ((X.set (o + 3) (.slice va vl vc))[o + 4]? = some vk) := Lib.hid (by rw [List.getElem?_set, if_neg (by omega)]; exact HX4.out)
  go_upto_region 3 with fail
  refine wp_region_held_drew (S := fun W => Has W w.heap.size (spC db o nm i dep tk) 180) (by kernel_rfl) G5.out.drew (fun hHeld3 => ?_)
  refine wpAnyH_take (i := 0) (v := .pointer (some ⟨w.heap.size, 0, none⟩)) rfl (by kernel_rfl) (by kernel_rfl) (by kernel_rfl) (fun _ _ _ h => h)
    (Or.inl ⟨by rfl, by intro w hSw;  clear hSw; go_simp⟩) hHeld3 ?_
  refine wpAnyH_take (i := 1) (v := .pointer (some ⟨db, o, none⟩)) rfl (by kernel_rfl) (by kernel_rfl) (by kernel_rfl) (fun _ _ _ h => h)
    (Or.inl ⟨by rfl, by intro w hSw; have hq := Has.cellAt hSw (i := 0) rfl; clear hSw; go_simp⟩) hHeld3 ?_
  refine wpAnyH_take (i := 2) (v := .pointer (some ⟨w.heap.size, 0, none⟩)) rfl (by kernel_rfl) (by kernel_rfl) (by kernel_rfl) (fun _ _ _ h => h)
    (Or.inl ⟨by rfl, by intro w hSw;  clear hSw; go_simp⟩) hHeld3 ?_
  refine wpAnyH_take (i := 3) (v := .pointer (some ⟨db, o, none⟩)) rfl (by kernel_rfl) (by kernel_rfl) (by kernel_rfl) (fun _ _ _ h => h)
    (Or.inl ⟨by rfl, by intro w hSw; have hq := Has.cellAt hSw (i := 0) rfl; clear hSw; go_simp⟩) hHeld3 ?_
  refine wpAnyH_take (i := 4) (v := .pointer (some ⟨db, o, none⟩)) rfl (by kernel_rfl) (by kernel_rfl) (by kernel_rfl) (fun _ _ _ h => h)
    (Or.inl ⟨by rfl, by intro w hSw;  clear hSw; go_simp⟩) hHeld3 ?_
  refine wpAnyH_take (i := 5) (v := .pointer (some ⟨db, o + 4, none⟩)) rfl (by kernel_rfl) (by kernel_rfl) (by kernel_rfl) (fun _ _ _ h => h)
    (Or.inl ⟨by rfl, by intro w hSw;  clear hSw; go_simp⟩) hHeld3 ?_
  refine wpAnyH_take (i := 7) (v := .pointer (some ⟨w.heap.size, 2, none⟩)) rfl (by kernel_rfl) (by kernel_rfl) (by kernel_rfl) (fun _ _ _ h => h)
    (Or.inl ⟨by rfl, by intro w hSw;  clear hSw; go_simp⟩) hHeld3 ?_
  refine wpAnyH_take (i := 8) (v := .int .i64 (i : Int)) rfl (by kernel_rfl) (by kernel_rfl) (by kernel_rfl) (fun _ _ _ h => h)
    (Or.inl ⟨by rfl, by intro w hSw; have hq := Has.cellAt hSw (i := 2) rfl; clear hSw; go_simp⟩) hHeld3 ?_
  refine wpAnyH_take (i := 9) (v := .pointer (some ⟨w.heap.size, 2, none⟩)) rfl (by kernel_rfl) (by kernel_rfl) (by kernel_rfl) (fun _ _ _ h => h)
    (Or.inl ⟨by rfl, by intro w hSw;  clear hSw; go_simp⟩) hHeld3 ?_
  refine wpAnyH_take (i := 10) (v := .int .i64 (i : Int)) rfl (by kernel_rfl) (by kernel_rfl) (by kernel_rfl) (fun _ _ _ h => h)
    (Or.inl ⟨by rfl, by intro w hSw; have hq := Has.cellAt hSw (i := 2) rfl; clear hSw; go_simp⟩) hHeld3 ?_
  refine wpAnyH_take (i := 11) (v := .int .i64 ((i : Int) + 1)) rfl (by kernel_rfl) (by kernel_rfl) (by kernel_rfl) (fun _ _ _ h => h)
    (Or.inl ⟨by rfl, by intro w hSw;  clear hSw; go_simp <;> exact HWI.out⟩) hHeld3 ?_
  refine wpAnyH_ready (rs := [6]) (by kernel_rfl) (by simp) ?_
  refine AllReadyH.cons rfl (fun K hK => ?_) AllReadyH.nil
  have q3 : World.cell? w5.drew ⟨db, o + 4, none⟩ = some vk := Has.cellAt (X5.out.drew) X44.out
  go_simp
  clear q3
  refine hK.out _ _ (G5.out.drew) (fun hHw1 => ?_)
  clear hK K hHeld3
  refine wpAnyH_ready (rs := [12]) (by kernel_rfl) (by simp) ?_
  refine AllReadyH.cons rfl (fun K hK => ?_) AllReadyH.nil
  go_simp
  have hcl := delT_any (w := w5.drew) (owns_drew K5.out) (by have := HL.out; omega) HI.out H1L.out
  rw [show ((i + 1 : Nat) : Int) = (i : Int) + 1 by omega] at hcl
  refine hcl.mono ?_
  rintro e w6 ⟨VK0, rfl, ho6, hg6, hb6⟩
  obtain ⟨ua, ul, uc, rfl⟩ := slice_owned ho6
  have K6 := Lib.hid ho6
  have HUK : Hid ((Value.slice ua ul uc).ownBlock = vk.ownBlock) := Lib.hid hb6
  have N6 : Hid (w6.ownsRow B tS 1 (.slice va vl vc) (ns.length - 1) ((ns.take i ++ ns.drop (i + 1)).map Value.string)) := Lib.hid (owns_grown3 (owns_drew N5.out) (owns_drew K5.out) (by decide) hg6)
  have GR6 : Hid (Fr (blk vk) w5.drew w6) := Lib.hid (Fr.of_grown hg6 (fun g h => mem_blk.2 h))
  have NK : Hid (∀ g, w.heap.size ≤ g → g ∉ blk vk) := Lib.hid (fun g h2 h3 => by have := blk_lt HK.out (mem_blk.1 h3); omega)
  have X6 : Hid (Has w6 db (X.set (o + 3) (.slice va vl vc)) ty) := Lib.hid (has_fr X5.out.drew GR6.out (fun h => HKD.out (mem_blk.1 h)))
  have G6 : Hid (Has w6 w.heap.size (spC db o nm i dep tk) 180) := Lib.hid (has_fr G5.out.drew GR6.out (NK.out _ (by omega)))
  have R6 : Hid (Has w6 (w.heap.size + 1) zK 37) := Lib.hid (has_fr R5.out.drew GR6.out (NK.out _ (by omega)))
  have V6 : Hid (Has w6 w1.heap.size ct 37) := Lib.hid (has_fr V5.out.drew GR6.out (NK.out _ (by have := S1.out; omega)))
  have F6 : Hid (Fr (db :: (blk vn ++ blk vk)) w w6) := Lib.hid (((F5.out.drew).mono (S' := db :: (blk vn ++ blk vk)) (fun g hg _ => by
    rcases List.mem_cons.1 hg with h | h
    · simp [h]
    · simp [h])).trans GR6.out (fun g hg _ => by simp [hg]))
  have S6 : Hid (w.heap.size + 1 + 1 + 1 ≤ w6.heap.size) := Lib.hid (by have h1 := GR6.out.size; have h2 := S5.out; have h3 : w5.drew.heap.size = w5.heap.size := rfl; omega)
  clear ho6 hg6 hb6 hcl
  go_wp2_with fail
  refine hK.out _ _ (G6.out) (fun hHw2 => ?_)
  clear hK K hHw1
  refine wpAnyH_take (i := 13) (v := .pointer (some ⟨db, o, none⟩)) rfl (by kernel_rfl) (by kernel_rfl) (by kernel_rfl) (fun _ _ _ h => h)
    (Or.inl ⟨by rfl, by intro w hSw;  clear hSw; go_simp⟩) hHw2 ?_
  refine wpAnyH_take (i := 14) (v := .pointer (some ⟨db, o + 4, none⟩)) rfl (by kernel_rfl) (by kernel_rfl) (by kernel_rfl) (fun _ _ _ h => h)
    (Or.inl ⟨by rfl, by intro w hSw;  clear hSw; go_simp⟩) hHw2 ?_
  refine wpAnyH_ready (rs := [15]) (by kernel_rfl) (by simp) ?_
  refine AllReadyH.cons rfl (fun K hK => ?_) AllReadyH.nil
  have q3 : w6.cell? ⟨db, o + 4, none⟩ = some vk := Has.cellAt X6.out X44.out
  have f3 : w6.frozen? ⟨db, o + 4, none⟩ = false := X6.out.frozen (o + 4)
  go_simp
  clear q3 f3
  obtain ⟨w7, hw7⟩ : ∃ w7, w7 = w6.setCell ⟨db, o + 4, none⟩ (.slice ua ul uc) := ⟨_, rfl⟩
  have X7 : Hid (Has w7 db ((X.set (o + 3) (.slice va vl vc)).set (o + 4) (.slice ua ul uc)) ty) := Lib.hid (by rw [hw7]; exact X6.out.set (o + 4) _)
  have KD7 : Hid ((Value.slice ua ul uc).ownBlock ≠ some db) := Lib.hid (by rw [HUK.out]; exact HKD.out)
  have K7 : Hid (w7.ownsRow B tT 5 (.slice ua ul uc) (ns.length - 1) (L.take (i * 5) ++ L.drop ((i + 1) * 5))) := Lib.hid (by rw [hw7]; exact owns_set2 K6.out KD7.out _ _)
  have N7 : Hid (w7.ownsRow B tS 1 (.slice va vl vc) (ns.length - 1) ((ns.take i ++ ns.drop (i + 1)).map Value.string)) := Lib.hid (by rw [hw7]; exact owns_set2 N6.out ND5.out _ _)
  have R7 : Hid (Has w7 (w.heap.size + 1) zK 37) := Lib.hid (by rw [hw7]; exact R6.out.setOther (a := ⟨db, o + 4, none⟩) (by have := hdl.out; show w.heap.size + 1 ≠ db; omega) _)
  have V7 : Hid (Has w7 w1.heap.size ct 37) := Lib.hid (by rw [hw7]; exact V6.out.setOther (a := ⟨db, o + 4, none⟩) (by have := hdl.out; have := S1.out; show w1.heap.size ≠ db; omega) _)
  have G7 : Hid (Has w7 w.heap.size (spC db o nm i dep tk) 180) := Lib.hid (by rw [hw7]; exact G6.out.setOther (a := ⟨db, o + 4, none⟩) (by have := hdl.out; show w.heap.size ≠ db; omega) _)
  have F7 : Hid (Fr (db :: (blk vn ++ blk vk)) w w7) := Lib.hid (by rw [hw7]; exact F6.out.setCell (.inl (by simp)) _ _)
  have S7 : Hid (w.heap.size + 1 + 1 + 1 ≤ w7.heap.size) := Lib.hid (by have h2 := S6.out; have h3 : w7.heap.size = w6.heap.size := (by rw [hw7]; simp [World.setCell]); omega)
  first | rw [← hw7] | skip
  clear hw7 X5 N5 K5 G5 R5 V5 F5 S5 X6 N6 K6 G6 R6 V6 F6 S6 GR6
  refine hK.out _ _ (G7.out) (fun hHw3 => ?_)
  clear hK K hHw2
  refine wpAnyH_done (by kernel_rfl) ?_ _
  clear hHw3
  have PP : Hid (∃ e3 e4, Has w7 p (wkC c0 c1 c2 e3 e4 (a : Int) (b : Int)) 140 ∧ (p = db → e3 = .slice va vl vc ∧ e4 = .slice ua ul uc) ∧ (p ≠ db → e3 = c3 ∧ e4 = c4)) := Lib.hid (by
    rcases HPP.out with ⟨rfl, rfl, rfl, rfl⟩ | ⟨h1, h2⟩
    · exact ⟨_, _, X7.out, fun _ => ⟨rfl, rfl⟩, fun h => absurd rfl h⟩
    · refine ⟨c3, c4, has_fr h2 F7.out (fun hm => ?_), fun h => absurd h h1, fun _ => ⟨rfl, rfl⟩⟩
      rcases List.mem_cons.1 hm with h3 | h3
      · exact h1 h3
      · rcases List.mem_append.1 h3 with h4 | h4
        · exact own_type2 HN.out h2 (by decide) (mem_blk.1 h4)
        · exact own_type2 HK.out h2 (by decide) (mem_blk.1 h4))
  obtain ⟨e3, e4, hp7, he1, he2⟩ := PP.out
  have P7 := Lib.hid hp7
  have HE1 := Lib.hid he1
  have HE2 := Lib.hid he2
  have HTC := Lib.hid (show IsT w7 lv ct tt by rw [HCE.out]; exact HTT.out w7 (F7.out.mono (fun g hg _ => List.mem_cons_of_mem _ hg)))
  have V7r : Hid (w7.heap[w1.heap.size]? = some (.cells ct.toArray 37 (0, 0))) := Lib.hid (show _ from V7.out)
  have PW : Hid (p < w.heap.size) := Lib.hid (by
    rcases HPP.out with ⟨rfl, _, _, _⟩ | ⟨h1, h2⟩
    · exact hdl.out
    · exact h2.lt)
  clear hp7 he1 he2 PP
  go_wp2_with (refine wpList_load_row rfl 37 _ rfl w1.heap.size rfl 37 ct.toArray (0, 0) _ V7r.out Tryz.underlying37 rfl HIA.out ?_)
  refine (count_w lv ct tt w7 p c0 c1 c2 e3 e4 (a : Int) (b : Int) (-1) x y HTC.out P7.out HZZ.out (.inr rfl) HBA.out HBB.out).mono ?_
  rintro e w8 ⟨rfl, hp8, hb8⟩
  rw [Int.neg_mul, Int.one_mul, Int.neg_mul, Int.one_mul] at hp8
  have P8 := Lib.hid hp8
  have B8 := Lib.hid hb8
  have F8 : Hid (Fr (p :: db :: (blk vn ++ blk vk)) w w8) := Lib.hid ((F7.out.mono (S' := p :: db :: (blk vn ++ blk vk)) (fun g hg _ => List.mem_cons_of_mem _ hg)).trans (Fr.of_but (S := [p]) hb8 (.inl (by simp))) (fun g hg _ => by simp only [List.mem_cons, List.not_mem_nil, or_false] at hg; simp [hg]))
  have R8 : Hid (Has w8 (w.heap.size + 1) zK 37) := Lib.hid (R7.out.but hb8 R7.out.lt (by have := PW.out; omega))
  have V8 : Hid (Has w8 w1.heap.size ct 37) := Lib.hid (V7.out.but hb8 V7.out.lt (by have := PW.out; have := S1.out; omega))
  have V8r : Hid (w8.heap[w1.heap.size]? = some (.cells ct.toArray 37 (0, 0))) := Lib.hid (show _ from V8.out)
  have R8r : Hid (w8.heap[w.heap.size + 1]? = some (.cells zK.toArray 37 (0, 0))) := Lib.hid (show _ from R8.out)
  have HZ5 : Hid (zK.toArray.size = ct.toArray.size) := Lib.hid (by simp [zK, HC5.out])
  have RES : Hid (TakeP w B p db o X L ty vn vk c0 c1 c2 c3 c4 ns i a b x y (.returned (.agg ct.toArray)) (w8.setRow (w.heap.size + 1) ct.toArray)) := Lib.hid (by
    have hl0 : Fr [w.heap.size + 1] w8 (w8.setRow (w.heap.size + 1) ct.toArray) := (Fr.refl _ _).setRow (.inl (by simp)) _
    have hP8 : Has (w8.setRow (w.heap.size + 1) ct.toArray) p (wkC c0 c1 c2 e3 e4 ((a : Int) + -(x : Int)) ((b : Int) + -(y : Int))) 140 := has_setRow_other P8.out (by have := PW.out; omega) _
    have hl8 : Fr [p, w.heap.size + 1] w7 (w8.setRow (w.heap.size + 1) ct.toArray) := ((Fr.of_but (S := [p]) B8.out (.inl (by simp))).mono (S' := [p, w.heap.size + 1]) (fun g hg _ => by simp only [List.mem_cons, List.not_mem_nil, or_false] at hg; simp [hg])).trans hl0 (fun g hg _ => by simp only [List.mem_cons, List.not_mem_nil, or_false] at hg; simp [hg])
    have hpn : p ∉ blk (Value.slice va vl vc) := fun h => own_type2 N7.out P7.out (by decide) (mem_blk.1 h)
    have hpk : p ∉ blk (Value.slice ua ul uc) := fun h => own_type2 K7.out P7.out (by decide) (mem_blk.1 h)
    refine ⟨.slice va vl vc, .slice ua ul uc, by rw [HCE.out], fun h => ?_, fun h => ⟨has_fr X7.out hl8 (by simp only [List.mem_cons, List.not_mem_nil, or_false]; rintro (e | e); exact h e.symm; have := hdl.out; omega), ?_⟩, owns_fr N7.out hl8 (fun g hg hm => ?_), owns_fr K7.out hl8 (fun g hg hm => ?_), F8.out.setRow (.inr (by omega)) _, HUN.out, HUK.out⟩
    · obtain ⟨rfl, rfl⟩ := HE1.out h
      exact hP8
    · obtain ⟨rfl, rfl⟩ := HE2.out h
      exact hP8
    · simp only [List.mem_cons, List.not_mem_nil, or_false] at hm
      rcases hm with rfl | rfl
      · exact hpn hg
      · have hq := mem_blk.1 hg
        rw [HUN.out] at hq
        have := blk_lt HN.out hq
        omega
    · simp only [List.mem_cons, List.not_mem_nil, or_false] at hm
      rcases hm with rfl | rfl
      · exact hpk hg
      · have hq := mem_blk.1 hg
        rw [HUK.out] at hq
        have := blk_lt HK.out hq
        omega)
  clear hp8 hb8 P7 V7r HTC B8 N7 K7 X7 G7 R7 V7 F7 S7 P8 F8 HE1 HE2
  go_wp2_with (first
    | (refine wpList_load_row rfl 37 _ rfl w1.heap.size rfl 37 ct.toArray (0, 0) _ V8r.out Tryz.underlying37 rfl HIA.out ?_)
    | (refine wpList_store_row rfl 37 _ _ rfl (w.heap.size + 1) ct.toArray rfl rfl 37 zK.toArray R8r.out HIA.out HZ5.out H1C.out ?_))
  refine bodyPost_ret (results_cell_row (fn := Tryz.f132) (p := 4) (ty := 37) Tryz.results132 _ _ (w.heap.size + 1) 37 ct.toArray (0, 0) _ rfl (setRow_heap _ _ _ _ _ _ R8r.out) Tryz.underlying37 rfl HIA.out) rfl ?_
  exact RES.out

end Go.Proofs.YtlccdenafnekjaaGreatDoor
namespace Go.Proofs.YtlccdenafnekjaaGreatDoor
open Go.RowKit
set_option linter.unusedVariables false

/-! Lists of kids. -/
theorem e5_left {A C : List Value} {i m : Nat} (hA : A.length = m * 5) (hi : i < m) : five (A ++ C) i = five A i := by
  refine List.ext_getElem? fun j => ?_
  by_cases hj : j < 5
  · rw [five_get j hj, five_get j hj, List.getElem?_append_left (by omega)]
  · have h1 : ∀ L : List Value, (five L i)[j]? = none := fun L => List.getElem?_eq_none (by unfold five; rw [List.length_take]; omega)
    rw [h1, h1]
theorem e5_right {A C : List Value} {i m : Nat} (hA : A.length = m * 5) (hi : m ≤ i) : five (A ++ C) i = five C (i - m) := by
  refine List.ext_getElem? fun j => ?_
  by_cases hj : j < 5
  · rw [five_get j hj, five_get j hj, List.getElem?_append_right (by omega)]
    congr 1; omega
  · have h1 : ∀ (L : List Value) (q : Nat), (five L q)[j]? = none := fun L q => List.getElem?_eq_none (by unfold five; rw [List.length_take]; omega)
    rw [h1, h1]
theorem e5_drop (L : List Value) (i j : Nat) : five (L.drop (i * 5)) j = five L (i + j) := by
  unfold five
  rw [List.drop_drop]
  congr 2; omega
theorem e5_take {L : List Value} {i j : Nat} (h : j < i) : five (L.take (i * 5)) j = five L j := five_take h
theorem e5_self {ct : List Value} (h : ct.length = 5) : five ct 0 = ct := by unfold five; simp [← h]
theorem five_ins {L ct : List Value} {i n : Nat} (hL : L.length = n * 5) (hct : ct.length = 5) (hi : i ≤ n) (j : Nat) :
    five (L.take (i * 5) ++ ct ++ L.drop (i * 5)) j = if j < i then five L j else if j = i then ct else five L (j - 1) := by
  have h1 : (L.take (i * 5)).length = i * 5 := by rw [List.length_take]; omega
  have h2 : (L.take (i * 5) ++ ct).length = (i + 1) * 5 := by rw [List.length_append, h1, hct]; omega
  by_cases a : j < i
  · rw [if_pos a, e5_left h2 (by omega), e5_left h1 a, e5_take a]
  · rw [if_neg a]
    by_cases b : j = i
    · rw [if_pos b, e5_left h2 (by omega), e5_right h1 (by omega), b, Nat.sub_self, e5_self hct]
    · rw [if_neg b, e5_right h2 (by omega), e5_drop]
      congr 1; omega
theorem five_del {L : List Value} {i n : Nat} (hL : L.length = n * 5) (hi : i < n) (j : Nat) :
    five (L.take (i * 5) ++ L.drop ((i + 1) * 5)) j = if j < i then five L j else five L (j + 1) := by
  have h1 : (L.take (i * 5)).length = i * 5 := by rw [List.length_take]; omega
  by_cases a : j < i
  · rw [if_pos a, e5_left h1 a, e5_take a]
  · rw [if_neg a, e5_right h1 (by omega), e5_drop]
    congr 1; omega
theorem getD_ins {α : Type} {l : List α} {i : Nat} (hi : i ≤ l.length) (k e : α) (j : Nat) : (l.take i ++ k :: l.drop i).getD j e = if j < i then l.getD j e else if j = i then k else l.getD (j - 1) e := by
  have h1 : (l.take i).length = i := by rw [List.length_take]; omega
  simp only [List.getD_eq_getElem?_getD]
  by_cases a : j < i
  · rw [if_pos a, List.getElem?_append_left (by omega), List.getElem?_take, if_pos a]
  · rw [if_neg a, List.getElem?_append_right (by omega), h1]
    by_cases b : j = i
    · rw [if_pos b, b, Nat.sub_self]; rfl
    · obtain ⟨q, hq⟩ : ∃ q, j - i = q + 1 := ⟨j - i - 1, by omega⟩
      rw [if_neg b, hq, List.getElem?_cons_succ, List.getElem?_drop]
      congr 2; omega
theorem getD_del {α : Type} {l : List α} {i : Nat} (hi : i < l.length) (e : α) (j : Nat) : (l.take i ++ l.drop (i + 1)).getD j e = if j < i then l.getD j e else l.getD (j + 1) e := by
  have h1 : (l.take i).length = i := by rw [List.length_take]; omega
  simp only [List.getD_eq_getElem?_getD]
  by_cases a : j < i
  · rw [if_pos a, List.getElem?_append_left (by omega), List.getElem?_take, if_pos a]
  · rw [if_neg a, List.getElem?_append_right (by omega), h1, List.getElem?_drop]
    congr 2; omega
theorem getD_set {α : Type} {l : List α} {i : Nat} (hi : i < l.length) (k e : α) (j : Nat) : (l.set i k).getD j e = if j = i then k else l.getD j e := by
  simp only [List.getD_eq_getElem?_getD, List.getElem?_set]
  by_cases a : i = j
  · subst a; simp [hi]
  · rw [if_neg a, if_neg (fun h => a h.symm)]

/-! Who is apart from whom. -/
theorem nd_iff {vn vk : Value} {n : Nat} {Ss : Nat → List Nat} : (blk vn ++ blk vk ++ (List.range n).flatMap Ss).Nodup ↔
    (∀ g ∈ blk vn, g ∉ blk vk ∧ ∀ i, i < n → g ∉ Ss i) ∧ (∀ g ∈ blk vk, ∀ i, i < n → g ∉ Ss i) ∧ (∀ i, i < n → (Ss i).Nodup) ∧ (∀ i j, i < n → j < n → i ≠ j → ∀ g, g ∈ Ss i → g ∉ Ss j) := by
  rw [List.nodup_append, List.nodup_append]
  constructor
  · rintro ⟨⟨_, _, h1⟩, h2, h3⟩
    have hf : ∀ i, i < n → ∀ g ∈ Ss i, g ∈ (List.range n).flatMap Ss := fun i hi g hg => List.mem_flatMap.2 ⟨i, List.mem_range.2 hi, hg⟩
    have h4 := (List.pairwise_flatMap.1 h2)
    refine ⟨fun g hg => ⟨fun hk => h1 g hg g hk rfl, fun i hi hm => h3 g (List.mem_append_left _ hg) g (hf i hi g hm) rfl⟩, fun g hg i hi hm => h3 g (List.mem_append_right _ hg) g (hf i hi g hm) rfl,
      fun i hi => h4.1 i (List.mem_range.2 hi), fun i j hi hj hij g hgi hgj => ?_⟩
    have h5 := List.pairwise_iff_getElem.1 h4.2
    rcases Nat.lt_or_gt_of_ne hij with h | h
    · have := h5 i j (by simpa using hi) (by simpa using hj) h
      simp only [List.getElem_range] at this
      exact this g hgi g hgj rfl
    · have := h5 j i (by simpa using hj) (by simpa using hi) h
      simp only [List.getElem_range] at this
      exact this g hgj g hgi rfl
  · rintro ⟨h1, h2, h3, h4⟩
    refine ⟨⟨blk_nodup _, blk_nodup _, fun a ha c hc e => (h1 a ha).1 (e ▸ hc)⟩, flatMap_nodup h3 h4, fun a ha c hc e => ?_⟩
    subst e
    obtain ⟨i, hi, hg⟩ := List.mem_flatMap.1 hc
    rcases List.mem_append.1 ha with h | h
    · exact (h1 a h).2 i (List.mem_range.1 hi) hg
    · exact h2 a h i (List.mem_range.1 hi) hg
theorem mem_S {vn vk : Value} {n : Nat} {Ss : Nat → List Nat} {g : Nat} : g ∈ blk vn ++ blk vk ++ (List.range n).flatMap Ss ↔ g ∈ blk vn ∨ g ∈ blk vk ∨ ∃ i, i < n ∧ g ∈ Ss i := by
  rw [List.mem_append, List.mem_append, List.mem_flatMap, or_assoc]
  constructor
  · rintro (h | h | ⟨i, hi, h⟩)
    · exact .inl h
    · exact .inr (.inl h)
    · exact .inr (.inr ⟨i, List.mem_range.1 hi, h⟩)
  · rintro (h | h | ⟨i, hi, h⟩)
    · exact .inl h
    · exact .inr (.inl h)
    · exact .inr (.inr ⟨i, List.mem_range.2 hi, h⟩)

/-- A right tree of so many parts is no greater than memory. -/
theorem small_of : ∀ (n : Nat) (t : T), sizeN t ≤ n → fmA t → bytesT t ≤ 65536 → sizeN t ≤ 1000000 → Small t
  | 0, t, hn, _, _, _ => by have := sizeN_pos t; omega
  | n + 1, .mk k x d ns ks, hn, hf, hb, hs => by
    rw [sizeN_mk] at hn hs
    rw [bytesT_mk] at hb
    rw [fmA_mk] at hf
    have hl := formed_lens hf.1
    have hkl := sizeNL_len ks
    refine Small.mk (fun i hi => by have := hl.2 i hi; omega) (fun i hi => ?_) ⟨by omega, by omega, by omega⟩
    have h1 := sizeNL_get hi
    have h2 := bytesL_kid hi
    exact small_of n _ (by omega) (fmL_getD hf.2 hi) (by omega) (by omega)

/-- What the limits leave: a tree that is right, within the counted. -/
def Lim (t : T) (dep a b : Nat) : Prop := fmA t ∧ 1 ≤ dep ∧ dep + heightT t ≤ 17 ∧ sizeN t ≤ a ∧ a ≤ 4096 ∧ bytesT t ≤ b ∧ b ≤ 65536
theorem height_get {l : List T} {i : Nat} (h : i < l.length) : 1 + heightT (l.getD i default) ≤ heightL l := by
  rw [heightL_kid h]
  exact Nat.le_trans (Nat.le_max_left _ _) (Nat.le_max_right _ _)
theorem Lim.kid {k : UInt8} {x : Bool} {d : List UInt8} {ns : List ByteArray} {ks : List T} {dep a b i : Nat} (h : Lim (.mk k x d ns ks) dep a b) (hi : i < ks.length) : Lim (ks.getD i default) (dep + 1) a b := by
  obtain ⟨h1, h2, h3, h4, h5, h6, h7⟩ := h
  rw [fmA_mk] at h1
  rw [heightT_mk] at h3
  rw [sizeN_mk] at h4
  rw [bytesT_mk] at h6
  have e1 := height_get hi
  have e2 := sizeNL_get hi
  have e3 := bytesL_kid hi
  exact ⟨fmL_getD h1.2 hi, by omega, by omega, by omega, h5, by omega, h7⟩
theorem Lim.size {t : T} {dep a b : Nat} (h : Lim t dep a b) : sizeT t = some (sizeN t, bytesT t) :=
  (sizeT_iff t _ _).2 ⟨h.1, by have := h.2.1; have := h.2.2.1; omega, by have := h.2.2.2.1; have := h.2.2.2.2.1; omega, by have := h.2.2.2.2.2.1; have := h.2.2.2.2.2.2; omega, rfl, rfl⟩
theorem Lim.small {t : T} {dep a b : Nat} (h : Lim t dep a b) : Small t ∧ sizeN t ≤ 4096 ∧ bytesT t ≤ 65536 :=
  have h1 : sizeN t ≤ 4096 := Nat.le_trans h.2.2.2.1 h.2.2.2.2.1
  have h2 : bytesT t ≤ 65536 := Nat.le_trans h.2.2.2.2.2.1 h.2.2.2.2.2.2
  ⟨small_of _ t (Nat.le_refl _) h.1 h2 (by omega), h1, h2⟩
theorem Lim.lens {k : UInt8} {x : Bool} {d : List UInt8} {ns : List ByteArray} {ks : List T} {dep a b : Nat} (h : Lim (.mk k x d ns ks) dep a b) : ns.length = ks.length := by
  have h1 := h.1
  rw [fmA_mk] at h1
  exact (formed_lens h1.1).1

theorem Rows.cons {w : World} {g : Nat} {S : List Nat} {L : List Value} {t : TypeId} (h : Has w g L t) (ht : t ≠ 5) (hS : Rows w S) : Rows w (g :: S) := fun q hq => by
  rcases List.mem_cons.1 hq with rfl | hq
  · exact ⟨_, _, h, ht⟩
  · exact hS q hq
theorem Rows.nil (w : World) : Rows w [] := fun q hq => by cases hq

/-- A spot: five cells at a place read as a tree in rows of its own; the work's block. -/
structure WS (w : World) (B p db o : Nat) (X cs : List Value) (ty : TypeId) (R : List Value) (a b : Nat) (t : T) (S : List Nat) : Prop where
  hX : Has w db X ty
  hc : ∀ j, j < 5 → X[o + j]? = cs[j]?
  mt : MT w B cs t S
  ndb : db ∉ S
  np : p ∉ S
  hR : Has w p (R ++ [.int .i64 (a : Int), .int .i64 (b : Int)]) 140
  r5 : R.length = 5
  hp : (p = db ∧ ty = 140 ∧ o = 0 ∧ X = R ++ [.int .i64 (a : Int), .int .i64 (b : Int)] ∧ R = cs) ∨ (p ≠ db ∧ ty = 37)

/-- What was there is in rows of its own. -/
def Got (w' : World) (B : Nat) (q : Option Nat) (gt : T) (S S' : List Nat) : Prop := ∀ qb, q = some qb → ∃ gcs Sg, Has w' qb gcs 37 ∧ MT w' B gcs gt Sg ∧ (∀ g ∈ Sg, g ∈ S) ∧ (∀ g ∈ Sg, g ∉ S')
theorem Got.none (w' : World) (B : Nat) (gt : T) (S S' : List Nat) : Got w' B none gt S S' := fun qb h => by cases h

/-- Behind a change at a spot, or below it. -/
def WQ (w : World) (B p db o : Nat) (X : List Value) (ty : TypeId) (R : List Value) (S Sx : List Nat) (q : Option Nat) (gt t' : T) (a' b' : Nat) (w' : World) : Prop :=
  ∃ X' cs' R' S', WS w' B p db o X' cs' ty R' a' b' t' S' ∧ X'.length = X.length ∧ (∀ j, j ≠ o + 3 → j ≠ o + 4 → p ≠ db → X'[j]? = X[j]?) ∧ (p ≠ db → R' = R) ∧
    (∀ g ∈ S', g ∈ S ∨ g ∈ Sx ∨ w.heap.size ≤ g) ∧ Got w' B q gt S S'
def WP (w : World) (B p db o : Nat) (X : List Value) (ty : TypeId) (R : List Value) (S Z Sx : List Nat) (q : Option Nat) (gt : T) (r : ER) (e : Ending) (w' : World) : Prop :=
  e = .returned (.int .i64 (r.1 : Int)) ∧ Fr (p :: db :: (S ++ Z)) w w' ∧ (r.1 ≠ 0 → Fr (p :: db :: S) w w') ∧ (r.1 = 0 → WQ w B p db o X ty R S Sx q gt r.2.1 r.2.2.1 r.2.2.2 w')

theorem WS.rows {w : World} {B p db o a b : Nat} {X cs : List Value} {ty : TypeId} {R : List Value} {t : T} {S : List Nat} (h : WS w B p db o X cs ty R a b t S) : Rows w (p :: db :: S) :=
  Rows.cons h.hR (by decide) (Rows.cons h.hX (by
    rcases h.hp with ⟨_, e, _⟩ | ⟨_, e⟩
    · rw [e]; decide
    · rw [e]; decide) h.mt.rows)
theorem MT.later {w w' : World} {B : Nat} {cs : List Value} {t : T} {S : List Nat} (h : MT w B cs t S) (hb : Below w.heap.size w w') : MT w' B cs t S :=
  h.frame (Fr.of_below (S := []) hb) (Rows.nil w) (fun g _ hm => by cases hm)
theorem WS.later {w w' : World} {B p db o a b : Nat} {X cs : List Value} {ty : TypeId} {R : List Value} {t : T} {S : List Nat} (h : WS w B p db o X cs ty R a b t S) (hb : Below w.heap.size w w') : WS w' B p db o X cs ty R a b t S :=
  ⟨has_fr h.hX (Fr.of_below (S := []) hb) (by simp), h.hc, h.mt.later hb, h.ndb, h.np, has_fr h.hR (Fr.of_below (S := []) hb) (by simp), h.r5, h.hp⟩

/-- What five cells that read as a directory are. -/
theorem mt_inv {w : World} {B : Nat} {cs : List Value} {k : UInt8} {x : Bool} {d : List UInt8} {ns : List ByteArray} {ks : List T} {S : List Nat} (h : MT w B cs (.mk k x d ns ks) S) :
    ∃ vd vn vk L Ss, cs = [.int .u8 (k.toNat : Int), .bool x, vd, vn, vk] ∧ S = blk vn ++ blk vk ++ (List.range ks.length).flatMap Ss ∧ w.ownsRow B 5 1 vd d.length (d.map bv) ∧
      w.ownsRow B 9 1 vn ns.length (ns.map Value.string) ∧ w.ownsRow B 37 5 vk ks.length L ∧ (∀ i, i < ks.length → MT w B (five L i) (ks.getD i default) (Ss i)) ∧ (blk vn ++ blk vk ++ (List.range ks.length).flatMap Ss).Nodup := by
  cases h with
  | mk hd hn hk hs hnd => exact ⟨_, _, _, _, _, rfl, rfl, hd, hn, hk, hs, hnd⟩

end Go.Proofs.YtlccdenafnekjaaGreatDoor
namespace Go.Proofs.YtlccdenafnekjaaGreatDoor
open Go.RowKit
set_option linter.unusedVariables false

theorem max_le' {a b c : Nat} (h1 : a ≤ c) (h2 : b ≤ c) : Nat.max a b ≤ c := Nat.max_le.2 ⟨h1, h2⟩
theorem le_max1 (a b : Nat) : a ≤ Nat.max a b := Nat.le_max_left a b
theorem le_max2 (a b : Nat) : b ≤ Nat.max a b := Nat.le_max_right a b

theorem ins_height (ks : List T) (i : Nat) (k : T) : heightL (ks.take i ++ k :: ks.drop i) = Nat.max (heightL ks) (1 + heightT k) := by
  rw [heightL_append, heightL_cons, heightL_split ks i]
  show max _ (max _ _) = max (max _ _) _
  omega
theorem ins_size (ks : List T) (i : Nat) (k : T) : sizeNL (ks.take i ++ k :: ks.drop i) = sizeNL ks + sizeN k := by
  rw [sizeNL_append, sizeNL_cons, sizeNL_split ks i]; omega
theorem ins_bytes (ks : List T) (i : Nat) (k : T) : bytesL (ks.take i ++ k :: ks.drop i) = bytesL ks + bytesT k := by
  rw [bytesL_append, bytesL_cons, bytesL_split ks i]; omega
theorem ins_fm {ks : List T} {i : Nat} {k : T} (h : fmL ks) (hk : fmA k) : fmL (ks.take i ++ k :: ks.drop i) := by
  rw [fmL_append, fmL_cons]
  have := (fmL_split ks i).1 h
  exact ⟨this.1, hk, this.2⟩
theorem del_height {ks : List T} {i : Nat} (hi : i < ks.length) : heightL (ks.take i ++ ks.drop (i + 1)) ≤ heightL ks := by
  rw [heightL_append, heightL_kid hi]
  exact max_le' (le_max1 _ _) (Nat.le_trans (le_max2 _ _) (le_max2 _ _))
theorem del_size {ks : List T} {i : Nat} (hi : i < ks.length) : sizeNL ks = sizeNL (ks.take i ++ ks.drop (i + 1)) + sizeN (ks.getD i default) := by
  rw [sizeNL_append, sizeNL_kid hi]; omega
theorem del_bytes {ks : List T} {i : Nat} (hi : i < ks.length) : bytesL ks = bytesL (ks.take i ++ ks.drop (i + 1)) + bytesT (ks.getD i default) := by
  rw [bytesL_append, bytesL_kid hi]; omega
theorem del_fm {ks : List T} {i : Nat} (hi : i < ks.length) (h : fmL ks) : fmL (ks.take i ++ ks.drop (i + 1)) := by
  rw [fmL_append]
  have := (fmL_kid hi).1 h
  exact ⟨this.1, this.2.2⟩
theorem set_height {ks : List T} {i : Nat} (hi : i < ks.length) (k : T) : heightL (ks.set i k) ≤ Nat.max (heightL ks) (1 + heightT k) := by
  rw [set_at hi, heightL_append, heightL_cons, heightL_kid hi]
  show max _ (max _ _) ≤ max (max _ (max _ _)) _
  omega
theorem set_size {ks : List T} {i : Nat} (hi : i < ks.length) (k : T) : sizeNL (ks.set i k) + sizeN (ks.getD i default) = sizeNL ks + sizeN k := by
  rw [set_at hi, sizeNL_append, sizeNL_cons, sizeNL_kid hi]; omega
theorem set_bytes {ks : List T} {i : Nat} (hi : i < ks.length) (k : T) : bytesL (ks.set i k) + bytesT (ks.getD i default) = bytesL ks + bytesT k := by
  rw [set_at hi, bytesL_append, bytesL_cons, bytesL_kid hi]; omega
theorem set_fm {ks : List T} {i : Nat} (hi : i < ks.length) {k : T} (h : fmL ks) (hk : fmA k) : fmL (ks.set i k) := by
  rw [set_at hi, fmL_append, fmL_cons]
  have := (fmL_kid hi).1 h
  exact ⟨this.1, hk, this.2.2⟩

/-- A directory's form: its names and how many. -/
theorem dir_form {x : Bool} {d : List UInt8} {ns : List ByteArray} {ks : List T} (h : formedT (.mk 3 x d ns ks) = true) : ns.length = ks.length ∧ risingT ns = true ∧ ∀ ns' (ks' : List T), ns'.length = ks'.length → risingT ns' = true → formedT (.mk 3 x d ns' ks') = true := by
  rw [formedT_dir] at h
  simp only [Bool.and_eq_true, decide_eq_true_eq] at h
  refine ⟨h.1.2, h.2, fun ns' ks' h1 h2 => ?_⟩
  rw [formedT_dir]
  simp only [Bool.and_eq_true, decide_eq_true_eq]
  exact ⟨⟨h.1.1, h1⟩, h2⟩

/-- What is put in the place of what is there. -/
theorem put_there {k : UInt8} {x : Bool} {d : List UInt8} {ns : List ByteArray} {ks : List T} {nm : ByteArray} (hl : ns.length = ks.length) (ht : tkn ns nm = true) (tt : T) : insT (delT (.mk k x d ns ks) (plc ns nm)) (plc ns nm) nm tt = .mk k x d ns (ks.set (plc ns nm) tt) := by
  obtain ⟨h1, h2⟩ := tkn_spec ht
  obtain ⟨i, hi⟩ : ∃ i, i = plc ns nm := ⟨_, rfl⟩
  rw [← hi] at h1 h2 ⊢
  have t1 : (ns.take i).length = i := by rw [List.length_take]; omega
  have t2 : (ks.take i).length = i := by rw [List.length_take]; omega
  show T.mk k x d ((ns.take i ++ ns.drop (i + 1)).take i ++ nm :: (ns.take i ++ ns.drop (i + 1)).drop i) ((ks.take i ++ ks.drop (i + 1)).take i ++ tt :: (ks.take i ++ ks.drop (i + 1)).drop i) = _
  rw [List.take_left' t1, List.drop_left' t1, List.take_left' t2, List.drop_left' t2, set_at (by omega)]
  congr 1
  have e : nm = ns[i] := by rw [← h2, List.getD_eq_getElem?_getD, List.getElem?_eq_getElem h1]; rfl
  rw [e, ← List.drop_eq_getElem_cons h1, List.take_append_drop]

/-- What a change that is done leaves. -/
structure Done2 (t : T) (dep a b : Nat) (r : ER) : Prop where
  fm : fmA r.2.1
  hgt : dep + heightT r.2.1 ≤ 17
  num : r.2.2.1 + sizeN t = a + sizeN r.2.1
  byt : r.2.2.2 + bytesT t = b + bytesT r.2.1
  most : r.2.2.1 ≤ 4096
  much : r.2.2.2 ≤ 65536

theorem Done2.lim {t : T} {dep a b : Nat} {r : ER} (h : Done2 t dep a b r) (hl : Lim t dep a b) : Lim r.2.1 dep r.2.2.1 r.2.2.2 := by
  obtain ⟨h1, h2, h3, h4, h5, h6, h7⟩ := hl
  have e1 := h.num
  have e2 := h.byt
  exact ⟨h.fm, h2, h.hgt, by omega, h.most, by omega, h.much⟩

theorem act_done (e : Ed) (hput : ∀ k, e = .put k → fmA k) {nm : ByteArray} (hnm : tName nm.data.toList = true) {x : Bool} {d : List UInt8} {ns : List ByteArray} {ks : List T} {dep a b : Nat} (hl : Lim (.mk 3 x d ns ks) dep a b) (h0 : (actE e nm dep (.mk 3 x d ns ks) a b).1 = 0) : Done2 (.mk 3 x d ns ks) dep a b (actE e nm dep (.mk 3 x d ns ks) a b) := by
  obtain ⟨h1, h2, h3, h4, h5, h6, h7⟩ := hl
  rw [fmA_mk] at h1
  rw [heightT_mk] at h3
  rw [sizeN_mk] at h4
  rw [bytesT_mk] at h6
  obtain ⟨hlen, hris, hform⟩ := dir_form h1.1
  have hpl := plc_le ns nm
  -- laying at a place that isn't taken
  have hlay : ∀ k, fmA k → tkn ns nm = false → (layE nm (plc ns nm) dep (.mk 3 x d ns ks) k a b).1 = 0 → Done2 (.mk 3 x d ns ks) dep a b (layE nm (plc ns nm) dep (.mk 3 x d ns ks) k a b) := fun k hk ht h0 => by
    have hc : ¬ (4096 < a + sizeN k ∨ 65536 < b + bytesT k ∨ 16 < dep + heightT k) := fun hc => by
      unfold layE at h0
      simp only [if_pos hc] at h0
      cases h0
    have hm : Nat.max (heightL ks) (1 + heightT k) ≤ 17 - dep := max_le' (by omega) (by omega)
    refine ⟨?_, ?_, ?_, ?_, ?_, ?_⟩
    · show fmA (.mk 3 x d (ns.take (plc ns nm) ++ nm :: ns.drop (plc ns nm)) (ks.take (plc ns nm) ++ k :: ks.drop (plc ns nm)))
      rw [fmA_mk]
      exact ⟨hform _ _ (by simp only [List.length_append, List.length_cons, List.length_take, List.length_drop]; omega) (rising_ins hris hnm ht), ins_fm h1.2 hk⟩
    · show dep + heightT (.mk 3 x d (ns.take (plc ns nm) ++ nm :: ns.drop (plc ns nm)) (ks.take (plc ns nm) ++ k :: ks.drop (plc ns nm))) ≤ 17
      rw [heightT_mk, ins_height]; omega
    · show a + sizeN k + sizeN (.mk 3 x d ns ks) = a + sizeN (.mk 3 x d (ns.take (plc ns nm) ++ nm :: ns.drop (plc ns nm)) (ks.take (plc ns nm) ++ k :: ks.drop (plc ns nm)))
      rw [sizeN_mk, sizeN_mk, ins_size]; omega
    · show b + bytesT k + bytesT (.mk 3 x d ns ks) = b + bytesT (.mk 3 x d (ns.take (plc ns nm) ++ nm :: ns.drop (plc ns nm)) (ks.take (plc ns nm) ++ k :: ks.drop (plc ns nm)))
      rw [bytesT_mk, bytesT_mk, ins_bytes]; omega
    · show a + sizeN k ≤ 4096
      omega
    · show b + bytesT k ≤ 65536
      omega
  cases e with
  | mk =>
    unfold actE at h0 ⊢
    by_cases ht : tkn (namesT (.mk 3 x d ns ks)) nm = true
    · simp only [if_pos ht] at h0; cases h0
    · simp only [if_neg ht] at h0 ⊢
      exact hlay emptyDir (by unfold emptyDir; rw [fmA_mk]; exact ⟨by decide +kernel, trivial⟩) (by simpa [namesT] using ht) h0
  | put k =>
    unfold actE at h0 ⊢
    by_cases ht : tkn (namesT (.mk 3 x d ns ks)) nm = true
    · simp only [if_pos ht] at h0 ⊢
      have ht' : tkn ns nm = true := ht
      have hi : plc ns nm < ks.length := by rw [← hlen]; exact (tkn_spec ht').1
      have hkid : kidT (.mk 3 x d ns ks) (plc ns nm) = ks.getD (plc ns nm) default := rfl
      have hs1 := sizeNL_get hi
      have hs2 := bytesL_kid hi
      show Done2 _ _ _ _ (layE nm (plc ns nm) dep (delT (.mk 3 x d ns ks) (plc ns nm)) k (a - sizeN (ks.getD (plc ns nm) default)) (b - bytesT (ks.getD (plc ns nm) default)))
      have h0' : (layE nm (plc ns nm) dep (delT (.mk 3 x d ns ks) (plc ns nm)) k (a - sizeN (ks.getD (plc ns nm) default)) (b - bytesT (ks.getD (plc ns nm) default))).1 = 0 := h0
      have hc : ¬ (4096 < a - sizeN (ks.getD (plc ns nm) default) + sizeN k ∨ 65536 < b - bytesT (ks.getD (plc ns nm) default) + bytesT k ∨ 16 < dep + heightT k) := fun hc => by
        unfold layE at h0'
        simp only [if_pos hc] at h0'
        cases h0'
      have hm : Nat.max (heightL ks) (1 + heightT k) ≤ 17 - dep := max_le' (by omega) (by omega)
      have hset := put_there (k := 3) (x := x) (d := d) hlen ht' k
      have z1 := set_size hi k
      have z2 := set_bytes hi k
      have z3 := set_height hi k
      refine ⟨?_, ?_, ?_, ?_, ?_, ?_⟩
      · show fmA (insT (delT (.mk 3 x d ns ks) (plc ns nm)) (plc ns nm) nm k)
        rw [hset, fmA_mk]
        exact ⟨hform _ _ (by rw [List.length_set]; exact hlen) hris, set_fm hi h1.2 (hput k rfl)⟩
      · show dep + heightT (insT (delT (.mk 3 x d ns ks) (plc ns nm)) (plc ns nm) nm k) ≤ 17
        rw [hset, heightT_mk]; omega
      · show a - sizeN (ks.getD (plc ns nm) default) + sizeN k + sizeN (.mk 3 x d ns ks) = a + sizeN (insT (delT (.mk 3 x d ns ks) (plc ns nm)) (plc ns nm) nm k)
        rw [hset, sizeN_mk, sizeN_mk]; omega
      · show b - bytesT (ks.getD (plc ns nm) default) + bytesT k + bytesT (.mk 3 x d ns ks) = b + bytesT (insT (delT (.mk 3 x d ns ks) (plc ns nm)) (plc ns nm) nm k)
        rw [hset, bytesT_mk, bytesT_mk]; omega
      · show a - sizeN (ks.getD (plc ns nm) default) + sizeN k ≤ 4096
        omega
      · show b - bytesT (ks.getD (plc ns nm) default) + bytesT k ≤ 65536
        omega
    · simp only [if_neg ht] at h0 ⊢
      exact hlay k (hput k rfl) (by simpa [namesT] using ht) h0
  | drop =>
    unfold actE at h0 ⊢
    by_cases ht : tkn (namesT (.mk 3 x d ns ks)) nm = true
    · simp only [if_pos ht] at h0 ⊢
      have ht' : tkn ns nm = true := ht
      have hi : plc ns nm < ks.length := by rw [← hlen]; exact (tkn_spec ht').1
      have hs1 := del_size hi
      have hs2 := del_bytes hi
      have hs3 := del_height hi
      refine ⟨?_, ?_, ?_, ?_, ?_, ?_⟩
      · show fmA (.mk 3 x d (ns.take (plc ns nm) ++ ns.drop (plc ns nm + 1)) (ks.take (plc ns nm) ++ ks.drop (plc ns nm + 1)))
        rw [fmA_mk]
        exact ⟨hform _ _ (by simp only [List.length_append, List.length_take, List.length_drop]; omega) (rising_del hris _), del_fm hi h1.2⟩
      · show dep + heightT (.mk 3 x d (ns.take (plc ns nm) ++ ns.drop (plc ns nm + 1)) (ks.take (plc ns nm) ++ ks.drop (plc ns nm + 1))) ≤ 17
        rw [heightT_mk]; omega
      · show a - sizeN (ks.getD (plc ns nm) default) + sizeN (.mk 3 x d ns ks) = a + sizeN (.mk 3 x d (ns.take (plc ns nm) ++ ns.drop (plc ns nm + 1)) (ks.take (plc ns nm) ++ ks.drop (plc ns nm + 1)))
        rw [sizeN_mk, sizeN_mk]; omega
      · show b - bytesT (ks.getD (plc ns nm) default) + bytesT (.mk 3 x d ns ks) = b + bytesT (.mk 3 x d (ns.take (plc ns nm) ++ ns.drop (plc ns nm + 1)) (ks.take (plc ns nm) ++ ks.drop (plc ns nm + 1)))
        rw [bytesT_mk, bytesT_mk]; omega
      · show a - sizeN (ks.getD (plc ns nm) default) ≤ 4096
        omega
      · show b - bytesT (ks.getD (plc ns nm) default) ≤ 65536
        omega
    · simp only [if_neg ht] at h0; cases h0

theorem chg_done (e : Ed) (hput : ∀ k, e = .put k → fmA k) : ∀ (l : List ByteArray), (∀ x ∈ l, tName x.data.toList = true) → ∀ (t : T) (dep a b : Nat), Lim t dep a b → (chgE e l dep t a b).1 = 0 → Done2 t dep a b (chgE e l dep t a b)
  | [], _, t, dep, a, b, _, h0 => by rw [chgE] at h0; cases h0
  | nm :: r, hn, .mk k x d ns ks, dep, a, b, hl, h0 => by
    rw [chgE] at h0 ⊢
    by_cases hk : kindT (.mk k x d ns ks) ≠ 3
    · simp only [if_pos hk] at h0; cases h0
    · rw [if_neg hk] at h0 ⊢
      have hk3 : k = 3 := by simpa [kindT] using hk
      subst hk3
      by_cases hr : r = []
      · rw [if_pos hr] at h0 ⊢
        exact act_done e hput (hn nm (by simp)) hl h0
      · rw [if_neg hr] at h0 ⊢
        by_cases ht : tkn (namesT (.mk 3 x d ns ks)) nm = true
        · rw [if_pos ht] at h0 ⊢
          have ht' : tkn ns nm = true := ht
          have h1 := hl.1
          rw [fmA_mk] at h1
          obtain ⟨hlen, hris, hform⟩ := dir_form h1.1
          have hi : plc ns nm < ks.length := by rw [← hlen]; exact (tkn_spec ht').1
          have hq := chg_done e hput r (fun x hx => hn x (List.mem_cons_of_mem _ hx)) _ (dep + 1) a b (hl.kid hi) h0
          have z1 := set_size hi (chgE e r (dep + 1) (ks.getD (plc ns nm) default) a b).2.1
          have z2 := set_bytes hi (chgE e r (dep + 1) (ks.getD (plc ns nm) default) a b).2.1
          have z3 := set_height hi (chgE e r (dep + 1) (ks.getD (plc ns nm) default) a b).2.1
          have hh := hl.2.2.1
          rw [heightT_mk] at hh
          have hm : Nat.max (heightL ks) (1 + heightT (chgE e r (dep + 1) (ks.getD (plc ns nm) default) a b).2.1) ≤ 17 - dep := max_le' (by omega) (by have := hq.hgt; omega)
          refine ⟨?_, ?_, ?_, ?_, hq.most, hq.much⟩
          · show fmA (.mk 3 x d ns (ks.set (plc ns nm) (chgE e r (dep + 1) (ks.getD (plc ns nm) default) a b).2.1))
            rw [fmA_mk]
            exact ⟨hform _ _ (by rw [List.length_set]; exact hlen) hris, set_fm hi h1.2 hq.fm⟩
          · show dep + heightT (.mk 3 x d ns (ks.set (plc ns nm) (chgE e r (dep + 1) (ks.getD (plc ns nm) default) a b).2.1)) ≤ 17
            rw [heightT_mk]; omega
          · show (chgE e r (dep + 1) (ks.getD (plc ns nm) default) a b).2.2.1 + sizeN (.mk 3 x d ns ks) = a + sizeN (.mk 3 x d ns (ks.set (plc ns nm) (chgE e r (dep + 1) (ks.getD (plc ns nm) default) a b).2.1))
            have := hq.num
            rw [sizeN_mk, sizeN_mk]; omega
          · show (chgE e r (dep + 1) (ks.getD (plc ns nm) default) a b).2.2.2 + bytesT (.mk 3 x d ns ks) = b + bytesT (.mk 3 x d ns (ks.set (plc ns nm) (chgE e r (dep + 1) (ks.getD (plc ns nm) default) a b).2.1))
            have := hq.byt
            rw [bytesT_mk, bytesT_mk]; omega
        · simp only [if_neg ht] at h0; cases h0

/-- What is dropped is right. -/
theorem get_lim : ∀ (l : List ByteArray) (t : T) (dep a b : Nat), Lim t dep a b → (chgE .drop l dep t a b).1 = 0 → ∃ dep', Lim (getE l t) dep' a b
  | [], t, dep, a, b, _, h0 => by rw [chgE] at h0; cases h0
  | nm :: r, .mk k x d ns ks, dep, a, b, hl, h0 => by
    rw [chgE] at h0
    by_cases hk : kindT (.mk k x d ns ks) ≠ 3
    · simp only [if_pos hk] at h0; cases h0
    · rw [if_neg hk] at h0
      have hlen := hl.lens
      by_cases hr : r = []
      · rw [if_pos hr] at h0
        unfold actE at h0
        by_cases ht : tkn (namesT (.mk k x d ns ks)) nm = true
        · have hi : plc ns nm < ks.length := by rw [← hlen]; exact (tkn_spec (show tkn ns nm = true from ht)).1
          subst hr
          exact ⟨_, hl.kid hi⟩
        · simp only [if_neg ht] at h0; cases h0
      · rw [if_neg hr] at h0
        by_cases ht : tkn (namesT (.mk k x d ns ks)) nm = true
        · rw [if_pos ht] at h0
          have hi : plc ns nm < ks.length := by rw [← hlen]; exact (tkn_spec (show tkn ns nm = true from ht)).1
          exact get_lim r _ (dep + 1) a b (hl.kid hi) h0
        · simp only [if_neg ht] at h0; cases h0

end Go.Proofs.YtlccdenafnekjaaGreatDoor
namespace Go.Proofs.YtlccdenafnekjaaGreatDoor
open Go.RowKit
set_option linter.unusedVariables false

theorem blk_types {w : World} {B B' n n' size size' : Nat} {t t' : TypeId} {v v' : Value} {xs xs' : List Value} (h : w.ownsRow B t size v n xs) (h' : w.ownsRow B' t' size' v' n' xs') (ht : t ≠ t') {g : Nat} (hg : g ∈ blk v) : g ∉ blk v' := fun hg' => by
  rw [mem_blk] at hg hg'
  rcases h.2 with ⟨rfl, _⟩ | ⟨q, cap, cur, rfl, _, hq, _⟩
  · cases hg
  · rcases h'.2 with ⟨rfl, _⟩ | ⟨q', cap', cur', rfl, _, hq', _⟩
    · cases hg'
    · cases hg; cases hg'
      rw [hq] at hq'
      cases hq'
      exact ht rfl
theorem mem_blk_lt {w : World} {B size n : Nat} {t : TypeId} {v : Value} {xs : List Value} (h : w.ownsRow B t size v n xs) {g : Nat} (hg : g ∈ blk v) : g < w.heap.size := blk_lt h (mem_blk.1 hg)
theorem MT.lt {w : World} {B : Nat} {cs : List Value} {t : T} {S : List Nat} (h : MT w B cs t S) {g : Nat} (hg : g ∈ S) : g < w.heap.size := h.rows.lt hg

/-- A change elsewhere. -/
theorem WS.fr {w w' : World} {F : List Nat} {B p db o a b : Nat} {X cs : List Value} {ty : TypeId} {R : List Value} {t : T} {S : List Nat} (h : WS w B p db o X cs ty R a b t S) (hf : Fr F w w') (hF : Rows w F) (h1 : p ∉ F) (h2 : db ∉ F) (h3 : ∀ g ∈ S, g ∉ F) :
    WS w' B p db o X cs ty R a b t S :=
  ⟨has_fr h.hX hf h2, h.hc, h.mt.frame hf hF h3, h.ndb, h.np, has_fr h.hR hf h1, h.r5, h.hp⟩

/-- A spot's kid is a spot, and what is done there is done to the whole. -/
theorem ws_down {w : World} {B p db o a b i : Nat} {X cs : List Value} {ty : TypeId} {R : List Value} {k : UInt8} {x : Bool} {d : List UInt8} {ns : List ByteArray} {ks : List T} {S Z Sx : List Nat} {q : Option Nat}
    (h : WS w B p db o X cs ty R a b (.mk k x d ns ks) S) (hi : i < ks.length) (hZ : ∀ g ∈ Z, g ∉ S ∧ g ≠ db ∧ g ≠ p) (hZr : Rows w Z) (hSx : ∀ g ∈ Sx, g ∉ S ∧ g ≠ db ∧ g ≠ p) :
    ∃ vd vn kb cap cur Si, cs = [.int .u8 (k.toNat : Int), .bool x, vd, vn, .slice (some ⟨kb, 0, none⟩) ks.length cap] ∧ w.ownsRow B 9 1 vn ns.length (ns.map Value.string) ∧ ks.length ≤ cap ∧ cap ≤ maxLen ∧ kb ∈ S ∧ (∀ g ∈ Si, g ∈ S) ∧
      WS w B p kb (i * 5) cur (five cur i) 37 R a b (ks.getD i default) Si ∧
      (∀ w' t' a' b' gt, Fr (p :: kb :: (Si ++ Z)) w w' → WQ w B p kb (i * 5) cur 37 R Si Sx q gt t' a' b' w' → WQ w B p db o X ty R S Sx q gt (.mk k x d ns (ks.set i t')) a' b' w') := by
  obtain ⟨vd, vn, vk, L, Ss, rfl, rfl, hd, hn, hk, hs, hnd⟩ := mt_inv h.mt
  obtain ⟨kb, cap, cur, rfl, hkB, hkg, hle, hmx, hcs, hL⟩ : ∃ kb cap cur, vk = .slice (some ⟨kb, 0, none⟩) ks.length cap ∧ B ≤ kb ∧ w.heap[kb]? = some (.cells cur tT (0, 0)) ∧ ks.length ≤ cap ∧ cap ≤ maxLen ∧ cur.size = cap * 5 ∧ cur.toList.take (ks.length * 5) = L := by
    rcases hk.2 with ⟨h1, h2⟩ | ⟨g, cap, cur, h1, h2, h3, h4, h5, h6, h7⟩
    · omega
    · exact ⟨g, cap, cur, h1, h2, h3, h4, h5, h6, h7⟩
  have hnd2 := nd_iff.1 hnd
  have hkb : kb ∈ blk vn ++ blk (.slice (some ⟨kb, 0, none⟩) ks.length cap) ++ (List.range ks.length).flatMap Ss := mem_S.2 (.inr (.inl (mem_blk.2 rfl)))
  have hSi : ∀ j, j < ks.length → ∀ g ∈ Ss j, g ∈ blk vn ++ blk (.slice (some ⟨kb, 0, none⟩) ks.length cap) ++ (List.range ks.length).flatMap Ss := fun j hj g hg => mem_S.2 (.inr (.inr ⟨j, hj, hg⟩))
  have hpk : p ≠ kb := fun e => h.np (e ▸ hkb)
  have hdk : db ≠ kb := fun e => h.ndb (e ▸ hkb)
  have hcl : cur.toList.length = cap * 5 := by simpa using hcs
  have hHk : Has w kb cur.toList tT := show w.heap[kb]? = some (.cells cur.toList.toArray tT (0, 0)) by simpa using hkg
  have hfc : ∀ j, j < ks.length → five L j = five cur.toList j := fun j hj => by rw [← hL, five_take hj]
  have hkS : ∀ j, j < ks.length → kb ∉ Ss j := fun j hj hm => hnd2.2.1 kb (mem_blk.2 rfl) j hj hm
  refine ⟨vd, vn, kb, cap, cur.toList, Ss i, rfl, hn, hle, hmx, hkb, hSi i hi, ⟨hHk, fun j hj => by rw [five_get j hj], by rw [← hfc i hi]; exact hs i hi, hkS i hi, fun hm => h.np (hSi i hi p hm), h.hR, h.r5, .inr ⟨hpk, rfl⟩⟩, ?_⟩
  rintro w' t' a' b' gt hf ⟨X', cs', R', S', hw, hxl, hxe, hr, hsub, hgot⟩
  obtain rfl := hr hpk
  have hpl : p < w.heap.size := h.hR.lt
  have hdl : db < w.heap.size := h.hX.lt
  -- the footprint
  have hFr : Rows w (p :: kb :: (Ss i ++ Z)) := Rows.cons h.hR (by decide) (Rows.cons hHk (by decide) ((hs i hi).rows.append hZr))
  have hF : ∀ g, g ∈ (p :: kb :: (Ss i ++ Z)) → g = p ∨ g = kb ∨ g ∈ Ss i ∨ g ∈ Z := fun g hg => by
    simpa [List.mem_cons, List.mem_append] using hg
  have hvnF : ∀ g ∈ blk vn, g ∉ (p :: kb :: (Ss i ++ Z)) := fun g hg hm => by
    have hgS : g ∈ blk vn ++ blk (.slice (some ⟨kb, 0, none⟩) ks.length cap) ++ (List.range ks.length).flatMap Ss := mem_S.2 (.inl hg)
    rcases hF g hm with rfl | rfl | hm | hm
    · exact h.np hgS
    · exact (hnd2.1 g hg).1 (mem_blk.2 rfl)
    · exact (hnd2.1 g hg).2 i hi hm
    · exact (hZ g hm).1 hgS
  have hsF : ∀ j, j < ks.length → j ≠ i → ∀ g ∈ Ss j, g ∉ (p :: kb :: (Ss i ++ Z)) := fun j hj hji g hg hm => by
    rcases hF g hm with rfl | rfl | hm | hm
    · exact h.np (hSi j hj g hg)
    · exact hkS j hj hg
    · exact hnd2.2.2.2 j i hj hi hji g hg hm
    · exact (hZ g hm).1 (hSi j hj g hg)
  have hdF : p ≠ db → db ∉ (p :: kb :: (Ss i ++ Z)) := fun hpd hm => by
    rcases hF db hm with e | e | hm | hm
    · exact hpd e.symm
    · exact hdk e
    · exact h.ndb (hSi i hi db hm)
    · exact (hZ db hm).2.1 rfl
  -- the row of the kids
  have hxc : X'.length = cap * 5 := by rw [hxl, hcl]
  have hLl : (X'.take (ks.length * 5)).length = ks.length * 5 := by rw [List.length_take, hxc]; omega
  have hrow : w'.ownsRow B tT 5 (.slice (some ⟨kb, 0, none⟩) ks.length cap) ks.length (X'.take (ks.length * 5)) := ⟨hLl, .inr ⟨kb, cap, X'.toArray, rfl, hkB, hw.hX, hle, hmx, by simpa using hxc, by simp⟩⟩
  have hfi : five X' i = cs' := by
    refine List.ext_getElem? fun j => ?_
    by_cases hj : j < 5
    · rw [five_get j hj]; exact hw.hc j hj
    · rw [List.getElem?_eq_none (by unfold five; rw [List.length_take]; omega), List.getElem?_eq_none (by rw [hw.mt.five]; omega)]
  have hfj : ∀ j, j ≠ i → five X' j = five cur.toList j := fun j hj => by
    refine List.ext_getElem? fun m => ?_
    by_cases hm : m < 5
    · rw [five_get m hm, five_get m hm]; exact hxe _ (by omega) (by omega) hpk
    · rw [List.getElem?_eq_none (by unfold five; rw [List.length_take]; omega), List.getElem?_eq_none (by unfold five; rw [List.length_take]; omega)]
  obtain ⟨Sn, hSn⟩ : ∃ Sn : Nat → List Nat, Sn = fun j => if j = i then S' else Ss j := ⟨_, rfl⟩
  have hSn1 : Sn i = S' := by rw [hSn]; simp
  have hSn2 : ∀ j, j ≠ i → Sn j = Ss j := fun j hj => by rw [hSn]; simp [hj]
  have hln : (ks.set i t').length = ks.length := List.length_set
  have hnd' : (blk vn ++ blk (.slice (some ⟨kb, 0, none⟩) ks.length cap) ++ (List.range ks.length).flatMap Sn).Nodup := by
    refine nd_iff.2 ⟨fun g hg => ⟨(hnd2.1 g hg).1, fun j hj hm => ?_⟩, fun g hg j hj hm => ?_, fun j hj => ?_, fun j m hj hm hjm g hg hg' => ?_⟩
    · have hgS : g ∈ blk vn ++ blk (.slice (some ⟨kb, 0, none⟩) ks.length cap) ++ (List.range ks.length).flatMap Ss := mem_S.2 (.inl hg)
      by_cases e : j = i
      · subst e
        rw [hSn1] at hm
        rcases hsub g hm with h1 | h1 | h1
        · exact (hnd2.1 g hg).2 j hj h1
        · exact (hSx g h1).1 hgS
        · have := mem_blk_lt hn hg; omega
      · rw [hSn2 j e] at hm; exact (hnd2.1 g hg).2 j hj hm
    · have hgS : g ∈ blk vn ++ blk (.slice (some ⟨kb, 0, none⟩) ks.length cap) ++ (List.range ks.length).flatMap Ss := mem_S.2 (.inr (.inl hg))
      by_cases e : j = i
      · subst e
        rw [hSn1] at hm
        rcases hsub g hm with h1 | h1 | h1
        · exact hnd2.2.1 g hg j hj h1
        · exact (hSx g h1).1 hgS
        · have := mem_blk_lt hk hg; omega
      · rw [hSn2 j e] at hm; exact hnd2.2.1 g hg j hj hm
    · by_cases e : j = i
      · subst e; rw [hSn1]; exact hw.mt.nodup
      · rw [hSn2 j e]; exact hnd2.2.2.1 j hj
    · have hcross : ∀ j, j < ks.length → j ≠ i → ∀ g ∈ Ss j, g ∉ S' := fun j hj hji g hg hm' => by
        rcases hsub g hm' with h1 | h1 | h1
        · exact hnd2.2.2.2 j i hj hi hji g hg h1
        · exact (hSx g h1).1 (hSi j hj g hg)
        · have := (hs j hj).lt hg; omega
      by_cases e : j = i
      · subst e
        rw [hSn1] at hg
        rw [hSn2 m (fun e => hjm e.symm)] at hg'
        exact hcross m hm (fun e => hjm e.symm) g hg' hg
      · rw [hSn2 j e] at hg
        by_cases e' : m = i
        · subst e'
          rw [hSn1] at hg'
          exact hcross j hj e g hg hg'
        · rw [hSn2 m e'] at hg'
          exact hnd2.2.2.2 j m hj hm hjm g hg hg'
  have hmt : MT w' B [.int .u8 (k.toNat : Int), .bool x, vd, vn, .slice (some ⟨kb, 0, none⟩) ks.length cap] (.mk k x d ns (ks.set i t')) (blk vn ++ blk (.slice (some ⟨kb, 0, none⟩) ks.length cap) ++ (List.range (ks.set i t').length).flatMap Sn) := by
    refine MT.mk (L := X'.take (ks.length * 5)) (owns_bytes hd hf hFr) (owns_fr hn hf hvnF) (by rw [hln]; exact hrow) (fun j hj => ?_) (by rw [hln]; exact hnd')
    rw [hln] at hj
    rw [five_take hj, getD_set hi]
    by_cases e : j = i
    · subst e
      rw [if_pos rfl, hfi, hSn1]
      exact hw.mt
    · rw [if_neg e, hfj j e, hSn2 j e, ← hfc j hj]
      exact (hs j hj).frame hf hFr (hsF j hj e)
  rw [hln] at hmt
  have hsub' : ∀ g ∈ blk vn ++ blk (.slice (some ⟨kb, 0, none⟩) ks.length cap) ++ (List.range ks.length).flatMap Sn, g ∈ (blk vn ++ blk (.slice (some ⟨kb, 0, none⟩) ks.length cap) ++ (List.range ks.length).flatMap Ss) ∨ g ∈ Sx ∨ w.heap.size ≤ g := fun g hg => by
    rcases mem_S.1 hg with h1 | h1 | ⟨j, hj, h1⟩
    · exact .inl (mem_S.2 (.inl h1))
    · exact .inl (mem_S.2 (.inr (.inl h1)))
    · by_cases e : j = i
      · subst e
        rw [hSn1] at h1
        rcases hsub g h1 with h2 | h2 | h2
        · exact .inl (hSi j hj g h2)
        · exact .inr (.inl h2)
        · exact .inr (.inr h2)
      · rw [hSn2 j e] at h1; exact .inl (hSi j hj g h1)
  have hnew : ∀ z, z ∉ (blk vn ++ blk (.slice (some ⟨kb, 0, none⟩) ks.length cap) ++ (List.range ks.length).flatMap Ss) → z ∉ Sx → z < w.heap.size → z ∉ blk vn ++ blk (.slice (some ⟨kb, 0, none⟩) ks.length cap) ++ (List.range ks.length).flatMap Sn := fun z h1 h2 h3 hm => by
    rcases hsub' z hm with h4 | h4 | h4
    · exact h1 h4
    · exact h2 h4
    · omega
  have hgot' : Got w' B q gt (blk vn ++ blk (.slice (some ⟨kb, 0, none⟩) ks.length cap) ++ (List.range ks.length).flatMap Ss) (blk vn ++ blk (.slice (some ⟨kb, 0, none⟩) ks.length cap) ++ (List.range ks.length).flatMap Sn) := fun qb hq => by
    obtain ⟨gcs, Sg, g1, g2, g3, g4⟩ := hgot qb hq
    refine ⟨gcs, Sg, g1, g2, fun g hg => hSi i hi g (g3 g hg), fun g hg hm => ?_⟩
    rcases mem_S.1 hm with h1 | h1 | ⟨j, hj, h1⟩
    · exact (hnd2.1 g h1).2 i hi (g3 g hg)
    · exact hnd2.2.1 g h1 i hi (g3 g hg)
    · by_cases e : j = i
      · subst e; rw [hSn1] at h1; exact g4 g hg h1
      · rw [hSn2 j e] at h1; exact hnd2.2.2.2 j i hj hi e g h1 (g3 g hg)
  have hnp := hnew p h.np (fun hm => (hSx p hm).2.2 rfl) hpl
  have hndb := hnew db h.ndb (fun hm => (hSx db hm).2.1 rfl) hdl
  rcases h.hp with ⟨rfl, e2, e3, e4, e5⟩ | ⟨e1, e2⟩
  · refine ⟨R' ++ [.int .i64 (a' : Int), .int .i64 (b' : Int)], _, R', _, ⟨by rw [e2]; exact hw.hR, fun j hj => ?_, hmt, hndb, hnp, hw.hR, hw.r5, .inl ⟨rfl, e2, e3, rfl, e5⟩⟩, by rw [e4]; simp, fun j _ _ hne => absurd rfl hne, fun hne => absurd rfl hne, hsub', hgot'⟩
    rw [e3, Nat.zero_add, List.getElem?_append_left (by rw [hw.r5]; omega), e5]
  · exact ⟨X, _, R', _, ⟨has_fr h.hX hf (hdF e1), h.hc, hmt, hndb, hnp, hw.hR, hw.r5, .inr ⟨e1, e2⟩⟩, rfl, fun _ _ _ _ => rfl, fun _ => rfl, hsub', hgot'⟩

/-- A tree laid at a spot is in the whole. -/
theorem ws_lay {w w' : World} {B p db o a b i dep : Nat} {X cs L ct : List Value} {ty : TypeId} {c0 c1 c2 c3 c4 : Value} {k : UInt8} {x : Bool} {d : List UInt8} {ns : List ByteArray} {ks : List T} {S Sx : List Nat} {vd vn vk : Value} {Ss : Nat → List Nat} {nm : ByteArray} {xx yy : Nat} {tt : T} {e : Ending}
    (h : WS w B p db o X cs ty [c0, c1, c2, c3, c4] a b (.mk k x d ns ks) S) (hcs : cs = [.int .u8 (k.toNat : Int), .bool x, vd, vn, vk]) (hS : S = blk vn ++ blk vk ++ (List.range ks.length).flatMap Ss) (hd : w.ownsRow B 5 1 vd d.length (d.map bv))
    (hn : w.ownsRow B 9 1 vn ns.length (ns.map Value.string)) (hk : w.ownsRow B 37 5 vk ks.length L) (hs : ∀ i, i < ks.length → MT w B (five L i) (ks.getD i default) (Ss i)) (hl : ns.length = ks.length) (hi : i ≤ ks.length)
    (hm : MT w B ct tt Sx) (hSx : ∀ g ∈ Sx, g ∉ S ∧ g ≠ db ∧ g ≠ p) (hP : LayP w B p db o X L ct ty vn vk c0 c1 c2 c3 c4 ns nm i a b xx yy dep tt e w') :
    e = .returned (.int .i64 (if 4096 < a + xx ∨ 65536 < b + yy ∨ 16 < dep + heightT tt then 2 else 0)) ∧ Fr (p :: db :: S) w w' ∧ ∀ gt, WQ w B p db o X ty [c0, c1, c2, c3, c4] S Sx none gt (insT (.mk k x d ns ks) i nm tt) (a + xx) (b + yy) w' := by
  obtain ⟨un, uk, he, hp1, hp2, hun, huk, hf, hbn, hbk⟩ := hP
  have hf' : Fr (p :: db :: S) w w' := hf.mono (fun g hg _ => by
    rcases List.mem_cons.1 hg with h1 | h1
    · simp [h1]
    · rcases List.mem_cons.1 h1 with h2 | h2
      · simp [h2]
      · refine List.mem_cons_of_mem _ (List.mem_cons_of_mem _ ?_)
        rw [hS]
        exact List.mem_append_left _ h2)
  refine ⟨he, hf', fun gt => ?_⟩
  have hnd := h.mt.nodup
  rw [hS] at hnd
  have hnd2 := nd_iff.1 hnd
  have hpl : p < w.heap.size := h.hR.lt
  have hdl : db < w.heap.size := h.hX.lt
  have hmS : ∀ {g : Nat}, g ∈ S ↔ g ∈ blk vn ∨ g ∈ blk vk ∨ ∃ i, i < ks.length ∧ g ∈ Ss i := fun {g} => by rw [hS]; exact mem_S
  have hdn : db ∉ blk vn ++ blk vk := fun hm => h.ndb (by rw [hS]; exact List.mem_append_left _ hm)
  have hFr : Rows w (p :: db :: (blk vn ++ blk vk)) := Rows.cons h.hR (by decide) (Rows.cons h.hX (by
    rcases h.hp with ⟨_, e, _⟩ | ⟨_, e⟩
    · rw [e]; decide
    · rw [e]; decide) ((Rows.of_owns hn (by decide)).append (Rows.of_owns hk (by decide))))
  have hF : ∀ g, g ∈ (p :: db :: (blk vn ++ blk vk)) → g = p ∨ g = db ∨ g ∈ blk vn ∨ g ∈ blk vk := fun g hg => by
    simpa [List.mem_cons, List.mem_append] using hg
  have hsF : ∀ j, j < ks.length → ∀ g ∈ Ss j, g ∉ (p :: db :: (blk vn ++ blk vk)) := fun j hj g hg hm => by
    rcases hF g hm with rfl | rfl | h1 | h1
    · exact h.np (hmS.2 (.inr (.inr ⟨j, hj, hg⟩)))
    · exact h.ndb (hmS.2 (.inr (.inr ⟨j, hj, hg⟩)))
    · exact (hnd2.1 g h1).2 j hj hg
    · exact hnd2.2.1 g h1 j hj hg
  have hxF : ∀ g ∈ Sx, g ∉ (p :: db :: (blk vn ++ blk vk)) := fun g hg hm => by
    obtain ⟨q1, q2, q3⟩ := hSx g hg
    rcases hF g hm with h1 | h1 | h1 | h1
    · exact q3 h1
    · exact q2 h1
    · exact q1 (hmS.2 (.inl h1))
    · exact q1 (hmS.2 (.inr (.inl h1)))
  have hxS : ∀ g ∈ Sx, g < w.heap.size := fun g hg => hm.lt hg
  have hsS : ∀ j, j < ks.length → ∀ g ∈ Ss j, g < w.heap.size := fun j hj g hg => (hs j hj).lt hg
  have hLl : L.length = ks.length * 5 := hk.1
  have hNl : (ns.take i ++ nm :: ns.drop i).length = ns.length + 1 := by simp; omega
  have hKl : (ks.take i ++ tt :: ks.drop i).length = ks.length + 1 := by simp; omega
  have hct : ct.length = 5 := hm.five
  obtain ⟨Sn, hSn⟩ : ∃ Sn : Nat → List Nat, Sn = fun j => if j < i then Ss j else if j = i then Sx else Ss (j - 1) := ⟨_, rfl⟩
  have hSn1 : ∀ j, j < i → Sn j = Ss j := fun j hj => by rw [hSn]; simp [hj]
  have hSn2 : Sn i = Sx := by rw [hSn]; simp
  have hSn3 : ∀ j, ¬ j < i → j ≠ i → Sn j = Ss (j - 1) := fun j hj hj' => by rw [hSn]; simp [hj, hj']
  have hbnS : ∀ g ∈ blk un, g ∈ blk vn ∨ w.heap.size ≤ g := fun g hg => by
    rcases hbn g (mem_blk.1 hg) with h1 | h1
    · exact .inl (mem_blk.2 h1)
    · exact .inr h1
  have hbkS : ∀ g ∈ blk uk, g ∈ blk vk ∨ w.heap.size ≤ g := fun g hg => by
    rcases hbk g (mem_blk.1 hg) with h1 | h1
    · exact .inl (mem_blk.2 h1)
    · exact .inr h1
  have hcase : ∀ j, j < ks.length + 1 → (∃ m, m < ks.length ∧ Sn j = Ss m ∧ (m = j ∧ j < i ∨ m + 1 = j ∧ i < j)) ∨ (j = i ∧ Sn j = Sx) := fun j hj => by
    by_cases h1 : j < i
    · exact .inl ⟨j, by omega, hSn1 j h1, .inl ⟨rfl, h1⟩⟩
    · by_cases h2 : j = i
      · exact .inr ⟨h2, by rw [h2]; exact hSn2⟩
      · exact .inl ⟨j - 1, by omega, hSn3 j h1 h2, .inr ⟨by omega, by omega⟩⟩
  have hnk : ∀ g, (g ∈ blk vn ∨ g ∈ blk vk ∨ w.heap.size ≤ g) → ∀ j, j < ks.length + 1 → g ∉ Sn j := fun g hg j hj hm' => by
    rcases hcase j hj with ⟨m, h1, h2, _⟩ | ⟨h1, h2⟩
    · rw [h2] at hm'
      rcases hg with hg | hg | hg
      · exact (hnd2.1 g hg).2 m h1 hm'
      · exact hnd2.2.1 g hg m h1 hm'
      · have := hsS m h1 g hm'; omega
    · rw [h2] at hm'
      rcases hg with hg | hg | hg
      · exact (hSx g hm').1 (hmS.2 (.inl hg))
      · exact (hSx g hm').1 (hmS.2 (.inr (.inl hg)))
      · have := hxS g hm'; omega
  have hnd' : (blk un ++ blk uk ++ (List.range (ks.length + 1)).flatMap Sn).Nodup := by
    refine nd_iff.2 ⟨fun g hg => ⟨blk_types hun huk (by decide) hg, fun j hj => hnk g ?_ j hj⟩, fun g hg j hj => hnk g ?_ j hj, fun j hj => ?_, fun j m hj hm' hjm g hg hg' => ?_⟩
    · rcases hbnS g hg with h1 | h1
      · exact .inl h1
      · exact .inr (.inr h1)
    · rcases hbkS g hg with h1 | h1
      · exact .inr (.inl h1)
      · exact .inr (.inr h1)
    · rcases hcase j hj with ⟨m, h1, h2, _⟩ | ⟨h1, h2⟩
      · rw [h2]; exact hnd2.2.2.1 m h1
      · rw [h2]; exact hm.nodup
    · rcases hcase j hj with ⟨m1, h1, h2, h3⟩ | ⟨h1, h2⟩
      · rw [h2] at hg
        rcases hcase m hm' with ⟨m2, k1, k2, k3⟩ | ⟨k1, k2⟩
        · rw [k2] at hg'
          exact hnd2.2.2.2 m1 m2 h1 k1 (by omega) g hg hg'
        · rw [k2] at hg'
          exact (hSx g hg').1 (hmS.2 (.inr (.inr ⟨m1, h1, hg⟩)))
      · rw [h2] at hg
        rcases hcase m hm' with ⟨m2, k1, k2, k3⟩ | ⟨k1, k2⟩
        · rw [k2] at hg'
          exact (hSx g hg).1 (hmS.2 (.inr (.inr ⟨m2, k1, hg'⟩)))
        · omega
  have hmt : MT w' B [.int .u8 (k.toNat : Int), .bool x, vd, un, uk] (insT (.mk k x d ns ks) i nm tt) (blk un ++ blk uk ++ (List.range (ks.take i ++ tt :: ks.drop i).length).flatMap Sn) := by
    refine MT.mk (L := L.take (i * 5) ++ ct ++ L.drop (i * 5)) (owns_bytes hd hf hFr) (by rw [hNl]; exact hun) (by rw [hKl, ← hl]; exact huk) (fun j hj => ?_) (by rw [hKl]; exact hnd')
    rw [hKl] at hj
    rw [five_ins hLl hct hi, getD_ins hi]
    by_cases h1 : j < i
    · rw [if_pos h1, if_pos h1, hSn1 j h1]
      exact (hs j (by omega)).frame hf hFr (hsF j (by omega))
    · rw [if_neg h1, if_neg h1]
      by_cases h2 : j = i
      · rw [if_pos h2, if_pos h2, h2, hSn2]
        exact hm.frame hf hFr hxF
      · rw [if_neg h2, if_neg h2, hSn3 j h1 h2]
        exact (hs (j - 1) (by omega)).frame hf hFr (hsF (j - 1) (by omega))
  rw [hKl] at hmt
  have hsub' : ∀ g ∈ blk un ++ blk uk ++ (List.range (ks.length + 1)).flatMap Sn, g ∈ S ∨ g ∈ Sx ∨ w.heap.size ≤ g := fun g hg => by
    rcases mem_S.1 hg with h1 | h1 | ⟨j, hj, h1⟩
    · rcases hbnS g h1 with h2 | h2
      · exact .inl (hmS.2 (.inl h2))
      · exact .inr (.inr h2)
    · rcases hbkS g h1 with h2 | h2
      · exact .inl (hmS.2 (.inr (.inl h2)))
      · exact .inr (.inr h2)
    · rcases hcase j hj with ⟨m, k1, k2, _⟩ | ⟨k1, k2⟩
      · rw [k2] at h1; exact .inl (hmS.2 (.inr (.inr ⟨m, k1, h1⟩)))
      · rw [k2] at h1; exact .inr (.inl h1)
  have hnew : ∀ z, z ∉ S → z ∉ Sx → z < w.heap.size → z ∉ blk un ++ blk uk ++ (List.range (ks.length + 1)).flatMap Sn := fun z h1 h2 h3 hm => by
    rcases hsub' z hm with h4 | h4 | h4
    · exact h1 h4
    · exact h2 h4
    · omega
  have hnp := hnew p h.np (fun hm => (hSx p hm).2.2 rfl) hpl
  have hndb := hnew db h.ndb (fun hm => (hSx db hm).2.1 rfl) hdl
  rcases h.hp with ⟨e1, e2, e3, e4, e5⟩ | ⟨e1, e2⟩
  · have hh := hp1 e1
    subst e1
    rw [hcs] at e5
    simp only [List.cons.injEq, and_true] at e5
    obtain ⟨rfl, rfl, rfl, rfl, rfl⟩ := e5
    have hh' : Has w' p ([.int .u8 (k.toNat : Int), .bool x, c2, un, uk] ++ [.int .i64 ((a + xx : Nat) : Int), .int .i64 ((b + yy : Nat) : Int)]) 140 := hh
    refine ⟨_, _, [.int .u8 (k.toNat : Int), .bool x, c2, un, uk], _, ⟨by rw [e2]; exact hh', fun j hj => ?_, hmt, hndb, hnp, hh', rfl, .inl ⟨rfl, e2, e3, rfl, rfl⟩⟩, by rw [e4]; rfl, fun j _ _ hne => absurd rfl hne, fun hne => absurd rfl hne, hsub', Got.none _ _ _ _ _⟩
    rw [e3, Nat.zero_add, List.getElem?_append_left (by simp; omega)]
  · obtain ⟨hh, hh2⟩ := hp2 e1
    have hc3 := h.hc 3 (by omega)
    have hc4 := h.hc 4 (by omega)
    rw [hcs] at hc3 hc4
    have l3 : o + 3 < X.length := (List.getElem?_eq_some_iff.1 hc3).1
    have l4 : o + 4 < X.length := (List.getElem?_eq_some_iff.1 hc4).1
    refine ⟨_, _, [c0, c1, c2, c3, c4], _, ⟨hh, fun j hj => ?_, hmt, hndb, hnp, hh2, rfl, .inr ⟨e1, e2⟩⟩, by simp, fun j h3 h4 _ => ?_, fun _ => rfl, hsub', Got.none _ _ _ _ _⟩
    · rw [List.getElem?_set, List.getElem?_set, List.length_set]
      have hcj := h.hc j hj
      rw [hcs] at hcj
      match j, hj with
      | 0, _ => rw [if_neg (by omega), if_neg (by omega), hcj]; rfl
      | 1, _ => rw [if_neg (by omega), if_neg (by omega), hcj]; rfl
      | 2, _ => rw [if_neg (by omega), if_neg (by omega), hcj]; rfl
      | 3, _ => rw [if_neg (by omega), if_pos rfl, if_pos l3]; rfl
      | 4, _ => rw [if_pos rfl, if_pos l4]; rfl
    · rw [List.getElem?_set, List.getElem?_set, if_neg (by omega), if_neg (by omega)]

/-- A tree taken from a spot is out of the whole, in rows of its own. -/
theorem ws_take {w w' : World} {B p db o a b i : Nat} {X cs L : List Value} {ty : TypeId} {c0 c1 c2 c3 c4 : Value} {k : UInt8} {x : Bool} {d : List UInt8} {ns : List ByteArray} {ks : List T} {S : List Nat} {vd vn vk : Value} {Ss : Nat → List Nat} {xx yy : Nat} {e : Ending}
    (h : WS w B p db o X cs ty [c0, c1, c2, c3, c4] a b (.mk k x d ns ks) S) (hcs : cs = [.int .u8 (k.toNat : Int), .bool x, vd, vn, vk]) (hS : S = blk vn ++ blk vk ++ (List.range ks.length).flatMap Ss) (hd : w.ownsRow B 5 1 vd d.length (d.map bv))
    (hn : w.ownsRow B 9 1 vn ns.length (ns.map Value.string)) (hk : w.ownsRow B 37 5 vk ks.length L) (hs : ∀ i, i < ks.length → MT w B (five L i) (ks.getD i default) (Ss i)) (hl : ns.length = ks.length) (hi : i < ks.length)
    (hxa : xx ≤ a) (hyb : yy ≤ b) (hP : TakeP w B p db o X L ty vn vk c0 c1 c2 c3 c4 ns i a b xx yy e w') :
    e = .returned (.agg (five L i).toArray) ∧ Fr (p :: db :: S) w w' ∧ ∃ X' cs' R' S', WS w' B p db o X' cs' ty R' (a - xx) (b - yy) (delT (.mk k x d ns ks) i) S' ∧ X'.length = X.length ∧ (∀ j, j ≠ o + 3 → j ≠ o + 4 → p ≠ db → X'[j]? = X[j]?) ∧ (p ≠ db → R' = [c0, c1, c2, c3, c4]) ∧
      (∀ g ∈ S', g ∈ S) ∧ MT w' B (five L i) (ks.getD i default) (Ss i) ∧ (∀ g ∈ Ss i, g ∈ S ∧ g ∉ S') := by
  obtain ⟨un, uk, he, hp1, hp2, hun, huk, hf, hbn, hbk⟩ := hP
  have ea : (a : Int) + -(xx : Int) = ((a - xx : Nat) : Int) := by omega
  have eb : (b : Int) + -(yy : Int) = ((b - yy : Nat) : Int) := by omega
  rw [ea, eb] at hp1 hp2
  have hf' : Fr (p :: db :: S) w w' := hf.mono (fun g hg _ => by
    rcases List.mem_cons.1 hg with h1 | h1
    · simp [h1]
    · rcases List.mem_cons.1 h1 with h2 | h2
      · simp [h2]
      · refine List.mem_cons_of_mem _ (List.mem_cons_of_mem _ ?_)
        rw [hS]
        exact List.mem_append_left _ h2)
  refine ⟨he, hf', ?_⟩
  have hnd := h.mt.nodup
  rw [hS] at hnd
  have hnd2 := nd_iff.1 hnd
  have hmS : ∀ {g : Nat}, g ∈ S ↔ g ∈ blk vn ∨ g ∈ blk vk ∨ ∃ i, i < ks.length ∧ g ∈ Ss i := fun {g} => by rw [hS]; exact mem_S
  have hFr : Rows w (p :: db :: (blk vn ++ blk vk)) := Rows.cons h.hR (by decide) (Rows.cons h.hX (by
    rcases h.hp with ⟨_, e, _⟩ | ⟨_, e⟩
    · rw [e]; decide
    · rw [e]; decide) ((Rows.of_owns hn (by decide)).append (Rows.of_owns hk (by decide))))
  have hF : ∀ g, g ∈ (p :: db :: (blk vn ++ blk vk)) → g = p ∨ g = db ∨ g ∈ blk vn ∨ g ∈ blk vk := fun g hg => by
    simpa [List.mem_cons, List.mem_append] using hg
  have hsF : ∀ j, j < ks.length → ∀ g ∈ Ss j, g ∉ (p :: db :: (blk vn ++ blk vk)) := fun j hj g hg hm => by
    rcases hF g hm with rfl | rfl | h1 | h1
    · exact h.np (hmS.2 (.inr (.inr ⟨j, hj, hg⟩)))
    · exact h.ndb (hmS.2 (.inr (.inr ⟨j, hj, hg⟩)))
    · exact (hnd2.1 g h1).2 j hj hg
    · exact hnd2.2.1 g h1 j hj hg
  have hLl : L.length = ks.length * 5 := hk.1
  have hNl : (ns.take i ++ ns.drop (i + 1)).length = ns.length - 1 := by simp; omega
  have hKl : (ks.take i ++ ks.drop (i + 1)).length = ks.length - 1 := by simp; omega
  have hbn' : blk un = blk vn := by unfold blk; rw [hbn]
  have hbk' : blk uk = blk vk := by unfold blk; rw [hbk]
  obtain ⟨Sn, hSn⟩ : ∃ Sn : Nat → List Nat, Sn = fun j => if j < i then Ss j else Ss (j + 1) := ⟨_, rfl⟩
  have hcase : ∀ j, j < ks.length - 1 → ∃ m, m < ks.length ∧ m ≠ i ∧ Sn j = Ss m ∧ (m = j ∧ j < i ∨ m = j + 1 ∧ i ≤ j) := fun j hj => by
    by_cases h1 : j < i
    · exact ⟨j, by omega, by omega, by rw [hSn]; simp [h1], .inl ⟨rfl, h1⟩⟩
    · exact ⟨j + 1, by omega, by omega, by rw [hSn]; simp [h1], .inr ⟨rfl, by omega⟩⟩
  have hnd' : (blk un ++ blk uk ++ (List.range (ks.length - 1)).flatMap Sn).Nodup := by
    rw [hbn', hbk']
    refine nd_iff.2 ⟨fun g hg => ⟨(hnd2.1 g hg).1, fun j hj => ?_⟩, fun g hg j hj => ?_, fun j hj => ?_, fun j m hj hm' hjm g hg hg' => ?_⟩
    · obtain ⟨m, k1, k2, k3, _⟩ := hcase j hj
      rw [k3]; exact (hnd2.1 g hg).2 m k1
    · obtain ⟨m, k1, k2, k3, _⟩ := hcase j hj
      rw [k3]; exact hnd2.2.1 g hg m k1
    · obtain ⟨m, k1, k2, k3, _⟩ := hcase j hj
      rw [k3]; exact hnd2.2.2.1 m k1
    · obtain ⟨m1, k1, k2, k3, k4⟩ := hcase j hj
      obtain ⟨m2, q1, q2, q3, q4⟩ := hcase m hm'
      rw [k3] at hg
      rw [q3] at hg'
      exact hnd2.2.2.2 m1 m2 k1 q1 (by omega) g hg hg'
  have hmt : MT w' B [.int .u8 (k.toNat : Int), .bool x, vd, un, uk] (delT (.mk k x d ns ks) i) (blk un ++ blk uk ++ (List.range (ks.take i ++ ks.drop (i + 1)).length).flatMap Sn) := by
    refine MT.mk (L := L.take (i * 5) ++ L.drop ((i + 1) * 5)) (owns_bytes hd hf hFr) (by rw [hNl]; exact hun) (by rw [hKl, ← hl]; exact huk) (fun j hj => ?_) (by rw [hKl]; exact hnd')
    rw [hKl] at hj
    rw [five_del hLl hi, getD_del hi]
    by_cases h1 : j < i
    · rw [if_pos h1, if_pos h1, show Sn j = Ss j by rw [hSn]; simp [h1]]
      exact (hs j (by omega)).frame hf hFr (hsF j (by omega))
    · rw [if_neg h1, if_neg h1, show Sn j = Ss (j + 1) by rw [hSn]; simp [h1]]
      exact (hs (j + 1) (by omega)).frame hf hFr (hsF (j + 1) (by omega))
  rw [hKl] at hmt
  have hsub' : ∀ g ∈ blk un ++ blk uk ++ (List.range (ks.length - 1)).flatMap Sn, g ∈ S := fun g hg => by
    rcases mem_S.1 hg with h1 | h1 | ⟨j, hj, h1⟩
    · rw [hbn'] at h1; exact hmS.2 (.inl h1)
    · rw [hbk'] at h1; exact hmS.2 (.inr (.inl h1))
    · obtain ⟨m, k1, k2, k3, _⟩ := hcase j hj
      rw [k3] at h1; exact hmS.2 (.inr (.inr ⟨m, k1, h1⟩))
  have hnp : p ∉ blk un ++ blk uk ++ (List.range (ks.length - 1)).flatMap Sn := fun hm => h.np (hsub' p hm)
  have hndb : db ∉ blk un ++ blk uk ++ (List.range (ks.length - 1)).flatMap Sn := fun hm => h.ndb (hsub' db hm)
  have hgot : MT w' B (five L i) (ks.getD i default) (Ss i) := (hs i hi).frame hf hFr (hsF i hi)
  have hgS : ∀ g ∈ Ss i, g ∈ S ∧ g ∉ blk un ++ blk uk ++ (List.range (ks.length - 1)).flatMap Sn := fun g hg => ⟨hmS.2 (.inr (.inr ⟨i, hi, hg⟩)), fun hm => by
    rcases mem_S.1 hm with h1 | h1 | ⟨j, hj, h1⟩
    · rw [hbn'] at h1; exact (hnd2.1 g h1).2 i hi hg
    · rw [hbk'] at h1; exact hnd2.2.1 g h1 i hi hg
    · obtain ⟨m, k1, k2, k3, _⟩ := hcase j hj
      rw [k3] at h1; exact hnd2.2.2.2 m i k1 hi k2 g h1 hg⟩
  rcases h.hp with ⟨e1, e2, e3, e4, e5⟩ | ⟨e1, e2⟩
  · have hh := hp1 e1
    subst e1
    rw [hcs] at e5
    simp only [List.cons.injEq, and_true] at e5
    obtain ⟨rfl, rfl, rfl, rfl, rfl⟩ := e5
    have hh' : Has w' p ([.int .u8 (k.toNat : Int), .bool x, c2, un, uk] ++ [.int .i64 ((a - xx : Nat) : Int), .int .i64 ((b - yy : Nat) : Int)]) 140 := hh
    refine ⟨_, _, [.int .u8 (k.toNat : Int), .bool x, c2, un, uk], _, ⟨by rw [e2]; exact hh', fun j hj => ?_, hmt, hndb, hnp, hh', rfl, .inl ⟨rfl, e2, e3, rfl, rfl⟩⟩, by rw [e4]; rfl, fun j _ _ hne => absurd rfl hne, fun hne => absurd rfl hne, hsub', hgot, hgS⟩
    rw [e3, Nat.zero_add, List.getElem?_append_left (by simp; omega)]
  · obtain ⟨hh, hh2⟩ := hp2 e1
    have hc3 := h.hc 3 (by omega)
    have hc4 := h.hc 4 (by omega)
    rw [hcs] at hc3 hc4
    have l3 : o + 3 < X.length := (List.getElem?_eq_some_iff.1 hc3).1
    have l4 : o + 4 < X.length := (List.getElem?_eq_some_iff.1 hc4).1
    refine ⟨_, _, [c0, c1, c2, c3, c4], _, ⟨hh, fun j hj => ?_, hmt, hndb, hnp, hh2, rfl, .inr ⟨e1, e2⟩⟩, by simp, fun j h3 h4 _ => ?_, fun _ => rfl, hsub', hgot, hgS⟩
    · rw [List.getElem?_set, List.getElem?_set, List.length_set]
      have hcj := h.hc j hj
      rw [hcs] at hcj
      match j, hj with
      | 0, _ => rw [if_neg (by omega), if_neg (by omega), hcj]; rfl
      | 1, _ => rw [if_neg (by omega), if_neg (by omega), hcj]; rfl
      | 2, _ => rw [if_neg (by omega), if_neg (by omega), hcj]; rfl
      | 3, _ => rw [if_neg (by omega), if_pos rfl, if_pos l3]; rfl
      | 4, _ => rw [if_pos rfl, if_pos l4]; rfl
    · rw [List.getElem?_set, List.getElem?_set, if_neg (by omega), if_neg (by omega)]

end Go.Proofs.YtlccdenafnekjaaGreatDoor
namespace Go.Proofs.YtlccdenafnekjaaGreatDoor
open Go.RowKit
set_option linter.unusedVariables false

theorem mt_shape {w : World} {B : Nat} {cs : List Value} {t : T} {S : List Nat} (h : MT w B cs t S) : ∃ (tk0 : UInt8) (tx0 : Bool) (a1 : Option Addr) (n1 m1 : Nat) (a2 : Option Addr) (n2 m2 : Nat) (a3 : Option Addr) (n3 m3 : Nat), cs = [.int .u8 (tk0.toNat : Int), .bool tx0, .slice a1 n1 m1, .slice a2 n2 m2, .slice a3 n3 m3] := by
  cases h with
  | @mk k x d ns ks vd vn vk L Ss hd hn hk hs hnd =>
    obtain ⟨a1, n1, m1, rfl⟩ := slice_owned hd
    obtain ⟨a2, n2, m2, rfl⟩ := slice_owned hn
    obtain ⟨a3, n3, m3, rfl⟩ := slice_owned hk
    exact ⟨_, _, _, _, _, _, _, _, _, _, _, rfl⟩
theorem row_one {L : List Value} {n : Nat} (hL : L.length = n * 5) (h : ∀ i, i < n → ∀ u ∈ five L i, u.oneCell' = true) : ∀ u ∈ L, u.oneCell' = true := fun u hu => by
  obtain ⟨m, hm, rfl⟩ := List.mem_iff_getElem.1 hu
  refine h (m / 5) (by omega) _ (List.mem_iff_getElem?.2 ⟨m % 5, ?_⟩)
  rw [five_get (m % 5) (by omega), show m / 5 * 5 + m % 5 = m by omega, List.getElem?_eq_getElem hm]
theorem five_of {R : List Value} (h : R.length = 5) : ∃ c0 c1 c2 c3 c4, R = [c0, c1, c2, c3, c4] := five_list h

theorem emptyDir_mt (w : World) (B : Nat) : MT w B [.int .u8 3, .bool false, .slice none 0 0, .slice none 0 0, .slice none 0 0] emptyDir [] :=
  MT.mk (k := 3) (x := false) (d := []) (ns := []) (ks := []) (L := []) (Ss := fun _ => []) (World.ownsRow_nil _ _ _ _) (World.ownsRow_nil _ _ _ _) (World.ownsRow_nil _ _ _ _) (fun i hi => by simp at hi) (by simp [blk, Value.ownBlock])
theorem emptyDir_size : sizeT emptyDir = some (1, 0) ∧ sizeN emptyDir = 1 ∧ bytesT emptyDir = 0 ∧ heightT emptyDir = 0 := ⟨by decide +kernel, by unfold emptyDir; rw [sizeN_mk]; rfl, by unfold emptyDir; rw [bytesT_mk]; rfl, by unfold emptyDir; rw [heightT_mk, heightL_nil]⟩

/-- The footprint of a spot holds no bytes. -/
theorem ws_foot {w : World} {B p db o a b : Nat} {X cs : List Value} {ty : TypeId} {R : List Value} {k : UInt8} {x : Bool} {d : List UInt8} {ns : List ByteArray} {ks : List T} {S : List Nat} {vn vk : Value} {L : List Value} (h : WS w B p db o X cs ty R a b (.mk k x d ns ks) S)
    (hn : w.ownsRow B 9 1 vn ns.length (ns.map Value.string)) (hk : w.ownsRow B 37 5 vk ks.length L) : Rows w (p :: db :: (blk vn ++ blk vk)) :=
  Rows.cons h.hR (by decide) (Rows.cons h.hX (by
    rcases h.hp with ⟨_, e, _⟩ | ⟨_, e⟩
    · rw [e]; decide
    · rw [e]; decide) ((Rows.of_owns hn (by decide)).append (Rows.of_owns hk (by decide))))

/-- What lay tells. -/
def layC (a b dep xx yy : Nat) (tt : T) : Nat := if 4096 < a + xx ∨ 65536 < b + yy ∨ 16 < dep + heightT tt then 2 else 0

/-- lay, at a spot. -/
theorem lay_s {w : World} {B p db o a b i dep : Nat} {X cs ct : List Value} {ty : TypeId} {R : List Value} {k : UInt8} {x : Bool} {d : List UInt8} {ns : List ByteArray} {ks : List T} {S Sx : List Nat} {nm : ByteArray} {xx yy : Nat} {tt : T} {tk : Bool}
    (h : WS w B p db o X cs ty R a b (.mk k x d ns ks) S) (hl : ns.length = ks.length) (hks : ks.length ≤ 100000) (hi : i ≤ ks.length) (hB : B ≤ w.heap.size) (hm : MT w B ct tt Sx) (hSx : ∀ g ∈ Sx, g ∉ S ∧ g ≠ db ∧ g ≠ p)
    (hsm : Small tt) (hz : sizeT tt = some (xx, yy)) (hN : sizeN tt ≤ 1000000) (ha : a ≤ 1000000) (hb : b ≤ 1000000) (hdep : dep ≤ 1000000) :
    Calls Tryz.prog 130 #[.pointer (some ⟨p, 0, none⟩), .agg (spC db o nm i dep tk).toArray, .agg ct.toArray] w fun e w' =>
      e = .returned (.int .i64 (layC a b dep xx yy tt : Int)) ∧ Fr (p :: db :: S) w w' ∧ ∀ gt, WQ w B p db o X ty R S Sx none gt (insT (.mk k x d ns ks) i nm tt) (a + xx) (b + yy) w' := by
  obtain ⟨vd, vn, vk, L, Ss, hcs, hS, hd, hn, hk, hs, hnd⟩ := mt_inv h.mt
  obtain ⟨c0, c1, c2, c3, c4, rfl⟩ := five_of h.r5
  have hX3 : X[o + 3]? = some vn := by rw [h.hc 3 (by omega), hcs]; rfl
  have hX4 : X[o + 4]? = some vk := by rw [h.hc 4 (by omega), hcs]; rfl
  have hnS : ∀ g ∈ blk vn, g ∈ S := fun g hg => by rw [hS]; exact mem_S.2 (.inl hg)
  have hkS : ∀ g ∈ blk vk, g ∈ S := fun g hg => by rw [hS]; exact mem_S.2 (.inr (.inl hg))
  have hFr := ws_foot h hn hk
  have hT : ∀ W, Fr (p :: db :: (blk vn ++ blk vk)) w W → IsT W (sizeN tt) ct tt := fun W hf => (hm.frame hf hFr (fun g hg hm' => by
    obtain ⟨q1, q2, q3⟩ := hSx g hg
    simp only [List.mem_cons, List.mem_append] at hm'
    rcases hm' with e | e | e | e
    · exact q3 e
    · exact q2 e
    · exact q1 (hnS g e)
    · exact q1 (hkS g e))).isT _ (Nat.le_refl _) hsm
  rw [← hl] at hk
  refine (lay_w (q := 0) (B := B) (X := X) (L := L) (ty := ty) (c0 := c0) (c1 := c1) (c2 := c2) (c3 := c3) (c4 := c4) (lv := sizeN tt) h.hX hX3 hX4 hn hk hB (by omega) (by omega) (fun e => h.ndb (hnS db (mem_blk.2 e))) (fun e => h.ndb (hkS db (mem_blk.2 e))) (mt_shape hm) hm.one
    (row_one (n := ks.length) (by rw [hk.1, hl]) (fun j hj u hu => (hs j hj).one u hu)) ?_ hT hz hN ha hb hdep).mono ?_
  · rcases h.hp with ⟨e1, e2, e3, e4, e5⟩ | ⟨e1, e2⟩
    · rw [hcs] at e5
      simp only [List.cons.injEq, and_true] at e5
      obtain ⟨rfl, rfl, rfl, rfl, rfl⟩ := e5
      exact .inl ⟨e1, e2, e3, e4⟩
    · exact .inr ⟨e1, h.hR⟩
  · intro e w' hP
    rw [hl] at hk
    obtain ⟨h1, h2, h3⟩ := ws_lay h hcs hS hd hn hk hs hl hi hm hSx hP
    refine ⟨?_, h2, h3⟩
    rw [h1]
    unfold layC
    by_cases hc : 4096 < a + xx ∨ 65536 < b + yy ∨ 16 < dep + heightT tt
    · rw [if_pos hc, if_pos hc]; rfl
    · rw [if_neg hc, if_neg hc]; rfl

/-- take, at a spot. -/
theorem take_s {w : World} {B p db o a b i dep : Nat} {X cs : List Value} {ty : TypeId} {R : List Value} {k : UInt8} {x : Bool} {d : List UInt8} {ns : List ByteArray} {ks : List T} {S : List Nat} {nm : ByteArray} {tk : Bool}
    (h : WS w B p db o X cs ty R a b (.mk k x d ns ks) S) (hl : ns.length = ks.length) (hks : ks.length ≤ 100000) (hi : i < ks.length) (hsm : Small (ks.getD i default)) (hz : sizeT (ks.getD i default) = some (sizeN (ks.getD i default), bytesT (ks.getD i default)))
    (ha : a ≤ 1000000) (hb : b ≤ 1000000) (hxa : sizeN (ks.getD i default) ≤ a) (hyb : bytesT (ks.getD i default) ≤ b) :
    Calls Tryz.prog 132 #[.pointer (some ⟨p, 0, none⟩), .agg (spC db o nm i dep tk).toArray] w fun e w' =>
      ∃ gcs Sg, e = .returned (.agg gcs.toArray) ∧ Fr (p :: db :: S) w w' ∧ ∃ X' cs' R' S', WS w' B p db o X' cs' ty R' (a - sizeN (ks.getD i default)) (b - bytesT (ks.getD i default)) (delT (.mk k x d ns ks) i) S' ∧ X'.length = X.length ∧ (∀ j, j ≠ o + 3 → j ≠ o + 4 → p ≠ db → X'[j]? = X[j]?) ∧ (p ≠ db → R' = R) ∧
        (∀ g ∈ S', g ∈ S) ∧ MT w' B gcs (ks.getD i default) Sg ∧ (∀ g ∈ Sg, g ∈ S ∧ g ∉ S') := by
  obtain ⟨vd, vn, vk, L, Ss, hcs, hS, hd, hn, hk, hs, hnd⟩ := mt_inv h.mt
  obtain ⟨c0, c1, c2, c3, c4, rfl⟩ := five_of h.r5
  have hX3 : X[o + 3]? = some vn := by rw [h.hc 3 (by omega), hcs]; rfl
  have hX4 : X[o + 4]? = some vk := by rw [h.hc 4 (by omega), hcs]; rfl
  have hnd2 : (blk vn ++ blk vk ++ (List.range ks.length).flatMap Ss).Nodup := hnd
  have hnd3 := nd_iff.1 hnd2
  have hnS : ∀ g ∈ blk vn, g ∈ S := fun g hg => by rw [hS]; exact mem_S.2 (.inl hg)
  have hkS : ∀ g ∈ blk vk, g ∈ S := fun g hg => by rw [hS]; exact mem_S.2 (.inr (.inl hg))
  have hsS : ∀ g ∈ Ss i, g ∈ S := fun g hg => by rw [hS]; exact mem_S.2 (.inr (.inr ⟨i, hi, hg⟩))
  have hFr := ws_foot h hn hk
  have hT : ∀ W, Fr (p :: db :: (blk vn ++ blk vk)) w W → IsT W (sizeN (ks.getD i default)) (five L i) (ks.getD i default) := fun W hf => ((hs i hi).frame hf hFr (fun g hg hm' => by
    simp only [List.mem_cons, List.mem_append] at hm'
    rcases hm' with e | e | e | e
    · exact h.np (e ▸ hsS g hg)
    · exact h.ndb (e ▸ hsS g hg)
    · exact (hnd3.1 g e).2 i hi hg
    · exact hnd3.2.1 g e i hi hg)).isT _ (Nat.le_refl _) hsm
  rw [← hl] at hk
  refine (take_w (B := B) (X := X) (L := L) (ty := ty) (c0 := c0) (c1 := c1) (c2 := c2) (c3 := c3) (c4 := c4) (lv := sizeN (ks.getD i default)) (tt := ks.getD i default) h.hX hX3 hX4 hn hk (by omega) (by omega) (fun e => h.ndb (hnS db (mem_blk.2 e))) (fun e => h.ndb (hkS db (mem_blk.2 e)))
    (row_one (n := ks.length) (by rw [hk.1, hl]) (fun j hj u hu => (hs j hj).one u hu)) ?_ hT hz ha hb).mono ?_
  · rcases h.hp with ⟨e1, e2, e3, e4, e5⟩ | ⟨e1, e2⟩
    · rw [hcs] at e5
      simp only [List.cons.injEq, and_true] at e5
      obtain ⟨rfl, rfl, rfl, rfl, rfl⟩ := e5
      exact .inl ⟨e1, e2, e3, e4⟩
    · exact .inr ⟨e1, h.hR⟩
  · intro e w' hP
    rw [hl] at hk
    obtain ⟨h1, h2, X', cs', R', S', h3⟩ := ws_take h hcs hS hd hn hk hs hl hi hxa hyb hP
    exact ⟨_, Ss i, h1, h2, X', cs', R', S', h3⟩

theorem WQ.frame {w w' w'' : World} {B p db o : Nat} {X : List Value} {ty : TypeId} {R : List Value} {S Sx : List Nat} {q : Option Nat} {gt t' : T} {a' b' : Nat} (hb : Below w.heap.size w w') (h : WQ w' B p db o X ty R S Sx q gt t' a' b' w'') : WQ w B p db o X ty R S Sx q gt t' a' b' w'' := by
  obtain ⟨X', cs', R', S', h1, h2, h3, h4, h5, h6⟩ := h
  refine ⟨X', cs', R', S', h1, h2, h3, h4, fun g hg => ?_, h6⟩
  rcases h5 g hg with h | h | h
  · exact .inl h
  · exact .inr (.inl h)
  · exact .inr (.inr (Nat.le_trans hb.size h))

theorem foot_more {p db g : Nat} {S Z : List Nat} (hg : g ∈ p :: db :: S) : g ∈ p :: db :: (S ++ Z) := by
  rcases List.mem_cons.1 hg with h1 | h1
  · exact List.mem_cons.2 (.inl h1)
  · rcases List.mem_cons.1 h1 with h2 | h2
    · exact List.mem_cons.2 (.inr (List.mem_cons.2 (.inl h2)))
    · exact List.mem_cons.2 (.inr (List.mem_cons.2 (.inr (List.mem_append_left _ h2))))
theorem foot_sub {p db g : Nat} {S S' : List Nat} (h : ∀ g ∈ S', g ∈ S) (hg : g ∈ p :: db :: S') : g ∈ p :: db :: S := by
  rcases List.mem_cons.1 hg with h1 | h1
  · exact List.mem_cons.2 (.inl h1)
  · rcases List.mem_cons.1 h1 with h2 | h2
    · exact List.mem_cons.2 (.inr (List.mem_cons.2 (.inl h2)))
    · exact List.mem_cons.2 (.inr (List.mem_cons.2 (.inr (h g h2))))

set_option maxRecDepth 100000 in
set_option maxHeartbeats 4000000 in
/-- A new directory at a spot. -/
theorem mkdir_act {w : World} {B p db o a b dep bw : Nat} {X cs : List Value} {ty : TypeId} {R : List Value} {k : UInt8} {x : Bool} {d : List UInt8} {ns : List ByteArray} {ks : List T} {S Z : List Nat} {nm : ByteArray} {gt : T}
    (hE : Has w bw [.pointer (some ⟨p, 0, none⟩)] 136) (h : WS w B p db o X cs ty R a b (.mk k x d ns ks) S) (hB : B ≤ w.heap.size) (hlim : Lim (.mk k x d ns ks) dep a b) :
    Calls Tryz.prog 129 #[.agg (spC db o nm (plc ns nm) dep (tkn ns nm)).toArray, .pointer (some ⟨bw, 0, none⟩)] w (WP w B p db o X ty R S Z [] none gt (actE .mk nm dep (.mk k x d ns ks) a b)) := by
  obtain ⟨i, hi⟩ : ∃ i, i = plc ns nm := ⟨_, rfl⟩
  obtain ⟨tk, htk⟩ : ∃ tk, tk = tkn ns nm := ⟨_, rfl⟩
  rw [← hi, ← htk]
  have hin : i ≤ ks.length := by rw [hi, ← hlim.lens]; exact plc_le _ _
  have hact : (tk = false → actE .mk nm dep (.mk k x d ns ks) a b = (layC a b dep 1 0 emptyDir, insT (.mk k x d ns ks) i nm emptyDir, a + 1, b + 0)) ∧ (tk = true → actE .mk nm dep (.mk k x d ns ks) a b = (7, .mk k x d ns ks, a, b)) := by
    constructor
    · intro e
      rw [e] at htk
      unfold actE
      show (if tkn ns nm = true then _ else _) = _
      rw [← htk, if_neg (by decide), hi]
      unfold layE layC
      rw [emptyDir_size.2.1, emptyDir_size.2.2.1]
      rfl
    · intro e
      rw [e] at htk
      unfold actE
      show (if tkn ns nm = true then _ else _) = _
      rw [← htk, if_pos rfl]
  have hks : ks.length ≤ 100000 := by have h1 := hlim.small.2.1; have h2 := sizeNL_len ks; rw [sizeN_mk] at h1; omega
  have hab : a ≤ 1000000 ∧ b ≤ 1000000 ∧ dep ≤ 1000000 := by obtain ⟨_, _, h3, _, h5, _, h7⟩ := hlim; omega
  have HE := Lib.hid hE
  have HW := Lib.hid h
  have HB := Lib.hid hB
  have HI := Lib.hid hin
  have HA := Lib.hid hact
  have HK := Lib.hid hks
  have HAB := Lib.hid hab
  have HL := Lib.hid hlim.lens
  have HDL : Hid (Has (w.alloc (.cells (spC db o nm i dep tk).toArray 180)) bw [.pointer (some ⟨p, 0, none⟩)] 136) := Lib.hid (hE.alloc _)
  clear hE h hB hlim hact hks hab hi htk hin
  cases tk
  · go_enter Tryz.func129, Tryz.ntmps129
    go_upto_region 1 with fail
    obtain ⟨w1, hw1⟩ : ∃ w1, w1 = w.alloc (.cells (spC db o nm i dep false).toArray 180) := ⟨_, rfl⟩
    have b1 : Below w.heap.size w w1 := by rw [hw1]; exact (Below.refl _ _).alloc (Nat.le_refl _) _
    have gg1 : Has w1 w.heap.size (spC db o nm i dep false) 180 := by rw [hw1]; exact Has.new w (spC db o nm i dep false) _
    have g1 : Hid (w1.heap[w.heap.size]? = some (.cells (spC db o nm i dep false).toArray 180 (0, 0))) := Lib.hid gg1
    have hq4 := Has.cellAt gg1 (i := 4) rfl
    have hbw := Has.cellAt (show Has w1 bw _ _ by rw [hw1]; exact HDL.out) (i := 0) rfl
    clear gg1
    first | rw [← hw1] | skip
    have WS1 := Lib.hid (HW.out.later b1)
    have B1 := Lib.hid b1
    have hS5 : Hid ((Tryz.prog.info? 180).map (·.size) = some (spC db o nm i dep false).toArray.size) := Lib.hid (by kernel_rfl)
    clear hw1 b1
    go_wp2_with (refine wpList_load_row rfl 180 _ rfl w.heap.size rfl 180 (spC db o nm i dep false).toArray (0, 0) _ g1.out Tryz.underlying180 rfl hS5.out ?_)
    refine (lay_s (tk := false) WS1.out HL.out HK.out HI.out (Nat.le_trans HB.out B1.out.size) (emptyDir_mt _ _) (fun g hg => by cases hg) (small_of 1 emptyDir (by rw [emptyDir_size.2.1]; omega) (by unfold emptyDir; rw [fmA_mk]; exact ⟨by decide +kernel, trivial⟩) (by rw [emptyDir_size.2.2.1]; omega) (by rw [emptyDir_size.2.1]; omega)) emptyDir_size.1 (by rw [emptyDir_size.2.1]; omega) HAB.out.1 HAB.out.2.1 HAB.out.2.2).mono ?_
    rintro e w2 ⟨rfl, hf, hq⟩
    have ha := HA.out.1 (by first | trivial | rfl)
    obtain ⟨C, hC⟩ : ∃ C, C = layC a b dep 1 0 emptyDir := ⟨_, rfl⟩
    rw [← hC] at ha ⊢
    have HA' := Lib.hid ha
    clear hC ha
    have HQ := Lib.hid hq
    have HF := Lib.hid hf
    clear hq hf hbw hq4
    go_wp2_with fail
    go_ret
    rw [HA'.out]
    have hfr : Fr (p :: db :: S) w w2 := ((Fr.of_below (S := []) B1.out).mono (fun g hg _ => by cases hg)).trans HF.out (fun g hg _ => hg)
    exact ⟨rfl, hfr.mono (fun g hg _ => foot_more hg), fun _ => hfr, fun _ => (HQ.out gt).frame B1.out⟩
  · go_enter Tryz.func129, Tryz.ntmps129
    go_upto_region 1 with fail
    have hq4 := Has.cellAt (Has.new w (spC db o nm i dep true) 180) (i := 4) rfl
    go_wp2_with fail
    go_ret
    rw [HA.out.2 (by first | trivial | rfl)]
    exact ⟨rfl, (Fr.of_below (S := []) ((Below.refl _ _).alloc (Nat.le_refl _) _)).mono (fun g hg _ => by cases hg), fun _ => (Fr.of_below (S := []) ((Below.refl _ _).alloc (Nat.le_refl _) _)).mono (fun g hg _ => by cases hg), fun h => by simp at h⟩

set_option maxRecDepth 100000 in
set_option maxHeartbeats 8000000 in
/-- A tree that is put at a spot. -/
theorem put_act {w : World} {B p db o a b dep bw bt : Nat} {X cs ct : List Value} {ty : TypeId} {R : List Value} {k : UInt8} {x : Bool} {d : List UInt8} {ns : List ByteArray} {ks : List T} {S Sx Z : List Nat} {nm : ByteArray} {gt tt : T}
    (hE : Has w bw [.pointer (some ⟨p, 0, none⟩)] 136) (hT : Has w bt ct 37) (hm : MT w B ct tt Sx) (hSx : ∀ g ∈ Sx, g ∉ S ∧ g ≠ db ∧ g ≠ p) (hbw : bw ∉ S ∧ bw ≠ db ∧ bw ≠ p) (hbt : bt ∉ S ∧ bt ≠ db ∧ bt ≠ p)
    (hsm : Small tt) (hz : sizeT tt = some (sizeN tt, bytesT tt)) (hN : sizeN tt ≤ 1000000) (h : WS w B p db o X cs ty R a b (.mk k x d ns ks) S) (hB : B ≤ w.heap.size) (hlim : Lim (.mk k x d ns ks) dep a b) :
    Calls Tryz.prog 131 #[.agg (spC db o nm (plc ns nm) dep (tkn ns nm)).toArray, .pointer (some ⟨bw, 0, none⟩), .pointer (some ⟨bt, 0, none⟩)] w (WP w B p db o X ty R S Z Sx none gt (actE (.put tt) nm dep (.mk k x d ns ks) a b)) := by
  obtain ⟨i, hi⟩ : ∃ i, i = plc ns nm := ⟨_, rfl⟩
  obtain ⟨tk, htk⟩ : ∃ tk, tk = tkn ns nm := ⟨_, rfl⟩
  rw [← hi, ← htk]
  have hin : i ≤ ks.length := by rw [hi, ← hlim.lens]; exact plc_le _ _
  have hilt : tk = true → i < ks.length := fun e => by rw [hi, ← hlim.lens]; exact (tkn_spec (htk ▸ e)).1
  obtain ⟨kd, hkd⟩ : ∃ kd, kd = ks.getD i default := ⟨_, rfl⟩
  have hact : (tk = false → actE (.put tt) nm dep (.mk k x d ns ks) a b = (layC a b dep (sizeN tt) (bytesT tt) tt, insT (.mk k x d ns ks) i nm tt, a + sizeN tt, b + bytesT tt)) ∧
      (tk = true → actE (.put tt) nm dep (.mk k x d ns ks) a b = (layC (a - sizeN kd) (b - bytesT kd) dep (sizeN tt) (bytesT tt) tt, insT (delT (.mk k x d ns ks) i) i nm tt, a - sizeN kd + sizeN tt, b - bytesT kd + bytesT tt)) := by
    constructor
    · intro e
      rw [e] at htk
      unfold actE
      show (if tkn ns nm = true then _ else _) = _
      rw [← htk, if_neg (by decide), hi]
      rfl
    · intro e
      rw [e] at htk
      unfold actE
      show (if tkn ns nm = true then _ else _) = _
      rw [← htk, if_pos rfl, hkd, hi]
      rfl
  have hks : ks.length ≤ 100000 := by have h1 := hlim.small.2.1; have h2 := sizeNL_len ks; rw [sizeN_mk] at h1; omega
  have hab : a ≤ 1000000 ∧ b ≤ 1000000 ∧ dep ≤ 1000000 := by obtain ⟨_, _, h3, _, h5, _, h7⟩ := hlim; omega
  have hkid : tk = true → Small kd ∧ sizeT kd = some (sizeN kd, bytesT kd) ∧ sizeN kd ≤ a ∧ bytesT kd ≤ b := fun e => by
    have hq := hlim.kid (hilt e)
    rw [← hkd] at hq
    exact ⟨hq.small.1, hq.size, hq.2.2.2.1, hq.2.2.2.2.2.1⟩
  have HE := Lib.hid hE
  have HT := Lib.hid hT
  have HM := Lib.hid hm
  have HSX := Lib.hid hSx
  have HBW := Lib.hid hbw
  have HBT := Lib.hid hbt
  have HSM := Lib.hid hsm
  have HZ := Lib.hid hz
  have HNN := Lib.hid hN
  have HW := Lib.hid h
  have HB := Lib.hid hB
  have HI := Lib.hid hin
  have HIL := Lib.hid hilt
  have HKD := Lib.hid hkid
  have HKE := Lib.hid hkd
  have HA := Lib.hid hact
  have HK := Lib.hid hks
  have HAB := Lib.hid hab
  have HL := Lib.hid hlim.lens
  have hS5 : Hid ((Tryz.prog.info? 180).map (·.size) = some (spC db o nm i dep tk).toArray.size) := Lib.hid (by show _ = some 5; kernel_rfl)
  have hT5 : Hid ((Tryz.prog.info? 37).map (·.size) = some ct.toArray.size) := Lib.hid (infoL hm.five)
  clear hE hT hm hSx hbw hbt hsm hz hN h hB hlim hact hks hab hi htk hin hilt hkid hkd
  go_enter Tryz.func131, Tryz.ntmps131
  go_upto_region 1 with fail
  obtain ⟨w1, hw1⟩ : ∃ w1, w1 = w.alloc (.cells (spC db o nm i dep tk).toArray 180) := ⟨_, rfl⟩
  have b1 : Below w.heap.size w w1 := by rw [hw1]; exact (Below.refl _ _).alloc (Nat.le_refl _) _
  have gg1 : Has w1 w.heap.size (spC db o nm i dep tk) 180 := by rw [hw1]; exact Has.new w (spC db o nm i dep tk) _
  have e1 : Has w1 bw [.pointer (some ⟨p, 0, none⟩)] 136 := by rw [hw1]; exact HE.out.alloc _
  have t1 : Has w1 bt ct 37 := by rw [hw1]; exact HT.out.alloc _
  first | rw [← hw1] | skip
  have G1 := Lib.hid gg1
  have E1 := Lib.hid e1
  have T1 := Lib.hid t1
  have B1 := Lib.hid b1
  have W1 := Lib.hid (HW.out.later b1)
  have M1 := Lib.hid (HM.out.later b1)
  have SZ1 : Hid (w.heap.size < w1.heap.size) := Lib.hid gg1.lt
  have FB1 : Hid (Fr (p :: db :: S) w w1) := Lib.hid ((Fr.of_below (S := []) b1).mono (fun g hg _ => by cases hg))
  have G1r : Hid (w1.heap[w.heap.size]? = some (.cells (spC db o nm i dep tk).toArray 180 (0, 0))) := Lib.hid gg1
  have T1r : Hid (w1.heap[bt]? = some (.cells ct.toArray 37 (0, 0))) := Lib.hid t1
  have hq4 := Has.cellAt gg1 (i := 4) rfl
  have hbw := Has.cellAt e1 (i := 0) rfl
  clear hw1 gg1 e1 t1 b1
  cases tk
  · go_wp2_with (first
      | refine wpList_load_row rfl 180 _ rfl w.heap.size rfl 180 (spC db o nm i dep false).toArray (0, 0) _ G1r.out Tryz.underlying180 rfl hS5.out ?_
      | refine wpList_load_row rfl 37 _ rfl bt rfl 37 ct.toArray (0, 0) _ T1r.out Tryz.underlying37 rfl hT5.out ?_)
    refine (lay_s (tk := false) W1.out HL.out HK.out HI.out (Nat.le_trans HB.out B1.out.size) M1.out HSX.out HSM.out HZ.out HNN.out HAB.out.1 HAB.out.2.1 HAB.out.2.2).mono ?_
    rintro e w2 ⟨rfl, hf, hq⟩
    have ha := HA.out.1 (by first | trivial | rfl)
    obtain ⟨C, hC⟩ : ∃ C, C = layC a b dep (sizeN tt) (bytesT tt) tt := ⟨_, rfl⟩
    rw [← hC] at ha ⊢
    have HA' := Lib.hid ha
    clear hC ha
    have HQ := Lib.hid hq
    have HF := Lib.hid hf
    clear hq hf hbw hq4
    go_wp2_with fail
    go_ret
    rw [HA'.out]
    exact ⟨rfl, (FB1.out.trans HF.out (fun g hg _ => hg)).mono (fun g hg _ => foot_more hg), fun _ => FB1.out.trans HF.out (fun g hg _ => hg), fun _ => (HQ.out gt).frame B1.out⟩
  · go_wp2_with (refine wpList_load_row rfl 180 _ rfl w.heap.size rfl 180 (spC db o nm i dep true).toArray (0, 0) _ G1r.out Tryz.underlying180 rfl hS5.out ?_)
    have hkd := HKD.out (by first | trivial | rfl)
    have hil := HIL.out (by first | trivial | rfl)
    rw [HKE.out] at hkd
    refine (take_s (tk := true) (nm := nm) W1.out HL.out HK.out hil hkd.1 hkd.2.1 HAB.out.1 HAB.out.2.1 hkd.2.2.1 hkd.2.2.2).mono ?_
    rintro e w2 ⟨gcs, Sg, rfl, hf, X', cs', R', S', hw2, hxl, hxe, hr, hsub, hgm, hgs⟩
    rw [← HKE.out] at hw2
    have ha := HA.out.2 (by first | trivial | rfl)
    obtain ⟨C, hC⟩ : ∃ C, C = layC (a - sizeN kd) (b - bytesT kd) dep (sizeN tt) (bytesT tt) tt := ⟨_, rfl⟩
    have HC := Lib.hid hC
    rw [← hC] at ha
    have HA' := Lib.hid ha
    have W2 := Lib.hid hw2
    have HR := Lib.hid hr
    have HXL := Lib.hid hxl
    have HXE := Lib.hid hxe
    have HSUB := Lib.hid hsub
    have F2 := Lib.hid hf
    have HIL2 := Lib.hid hil
    have hfr := W1.out.rows
    have hbo := HBW.out
    have hto := HBT.out
    have hnb : ∀ g, (g ∉ S ∧ g ≠ db ∧ g ≠ p) → g ∉ (p :: db :: S) := fun g hg hm => by
      simp only [List.mem_cons] at hm
      rcases hm with e | e | e
      · exact hg.2.2 e
      · exact hg.2.1 e
      · exact hg.1 e
    have e2 : Has w2 bw [.pointer (some ⟨p, 0, none⟩)] 136 := has_fr E1.out hf (hnb bw hbo)
    have t2 : Hid (w2.heap[bt]? = some (.cells ct.toArray 37 (0, 0))) := Lib.hid (has_fr T1.out hf (hnb bt hto))
    have M2 := Lib.hid (M1.out.frame hf hfr (fun g hg => hnb g (HSX.out g hg)))
    have hns : w.heap.size ∉ (p :: db :: S) := fun hm => by
      simp only [List.mem_cons] at hm
      rcases hm with e | e | e
      · have := HW.out.hR.lt; omega
      · have := HW.out.hX.lt; omega
      · have := HW.out.mt.lt e; omega
    have g2 : Hid (w2.heap[w.heap.size]? = some (.cells (spC db o nm i dep true).toArray 180 (0, 0))) := Lib.hid (has_fr G1.out hf hns)
    have hbw2 := Has.cellAt e2 (i := 0) rfl
    have HL2 : Hid ((ns.take i ++ ns.drop (i + 1)).length = (ks.take i ++ ks.drop (i + 1)).length ∧ (ks.take i ++ ks.drop (i + 1)).length ≤ 100000 ∧ i ≤ (ks.take i ++ ks.drop (i + 1)).length) := Lib.hid (by
      have q1 := HL.out
      have q2 := HK.out
      simp only [List.length_append, List.length_take, List.length_drop]
      omega)
    have SX2 : Hid (∀ g ∈ Sx, g ∉ S' ∧ g ≠ db ∧ g ≠ p) := Lib.hid (fun g hg => ⟨fun hm => (HSX.out g hg).1 (hsub g hm), (HSX.out g hg).2⟩)
    clear hC ha hw2 hr hxl hxe hsub hf hil hfr hbo hto hnb e2 hns hgm hgs hbw hq4 hkd
    go_wp2_with (first
      | refine wpList_load_row rfl 180 _ rfl w.heap.size rfl 180 (spC db o nm i dep true).toArray (0, 0) _ g2.out Tryz.underlying180 rfl hS5.out ?_
      | refine wpList_load_row rfl 37 _ rfl bt rfl 37 ct.toArray (0, 0) _ t2.out Tryz.underlying37 rfl hT5.out ?_)
    refine (lay_s (tk := true) (show WS w2 B p db o X' cs' ty R' (a - sizeN kd) (b - bytesT kd) (.mk k x d (ns.take i ++ ns.drop (i + 1)) (ks.take i ++ ks.drop (i + 1))) S' from W2.out) HL2.out.1 HL2.out.2.1 HL2.out.2.2 (Nat.le_trans HB.out (Nat.le_trans B1.out.size F2.out.size)) M2.out SX2.out HSM.out HZ.out HNN.out (by have := HAB.out; omega) (by have := HAB.out; omega) HAB.out.2.2).mono ?_
    rintro e w3 ⟨rfl, hf3, hq3⟩
    rw [← HC.out]
    have HQ := Lib.hid hq3
    have HF := Lib.hid hf3
    clear hq3 hf3 hbw2
    go_wp2_with fail
    go_ret
    rw [HA'.out]
    refine ⟨rfl, ((FB1.out.trans F2.out (fun g hg _ => hg)).trans HF.out (fun g hg _ => foot_sub HSUB.out hg)).mono (fun g hg _ => foot_more hg), fun _ => (FB1.out.trans F2.out (fun g hg _ => hg)).trans HF.out (fun g hg _ => foot_sub HSUB.out hg), fun _ => ?_⟩
    obtain ⟨X3, cs3, R3, S3, k1, k2, k3, k4, k5, k6⟩ := HQ.out gt
    refine ⟨X3, cs3, R3, S3, k1, k2.trans HXL.out, fun j h3 h4 hne => (k3 j h3 h4 hne).trans (HXE.out j h3 h4 hne), fun hne => (k4 hne).trans (HR.out hne), fun g hg => ?_, Got.none _ _ _ _ _⟩
    rcases k5 g hg with h1 | h1 | h1
    · exact .inl (HSUB.out g h1)
    · exact .inr (.inl h1)
    · exact .inr (.inr (by have := F2.out.size; have := B1.out.size; omega))

set_option maxRecDepth 100000 in
set_option maxHeartbeats 8000000 in
/-- What stands at a spot is dropped. -/
theorem drop_act {w : World} {B p db o a b dep bw qb : Nat} {X cs qc : List Value} {ty : TypeId} {R : List Value} {k : UInt8} {x : Bool} {d : List UInt8} {ns : List ByteArray} {ks : List T} {S Z : List Nat} {nm : ByteArray}
    (hE : Has w bw [.pointer (some ⟨p, 0, none⟩)] 136) (hQ : Has w qb qc 37) (hq5 : qc.length = 5) (hqb : qb ∉ S ∧ qb ≠ db ∧ qb ≠ p) (hZ : qb ∈ Z)
    (h : WS w B p db o X cs ty R a b (.mk k x d ns ks) S) (hlim : Lim (.mk k x d ns ks) dep a b) :
    Calls Tryz.prog 134 #[.agg (spC db o nm (plc ns nm) dep (tkn ns nm)).toArray, .pointer (some ⟨bw, 0, none⟩), .pointer (some ⟨qb, 0, none⟩)] w (WP w B p db o X ty R S Z [] (some qb) (ks.getD (plc ns nm) default) (actE .drop nm dep (.mk k x d ns ks) a b)) := by
  obtain ⟨i, hi⟩ : ∃ i, i = plc ns nm := ⟨_, rfl⟩
  obtain ⟨tk, htk⟩ : ∃ tk, tk = tkn ns nm := ⟨_, rfl⟩
  rw [← hi, ← htk]
  have hilt : tk = true → i < ks.length := fun e => by rw [hi, ← hlim.lens]; exact (tkn_spec (htk ▸ e)).1
  obtain ⟨kd, hkd⟩ : ∃ kd, kd = ks.getD i default := ⟨_, rfl⟩
  have hact : (tk = false → actE .drop nm dep (.mk k x d ns ks) a b = (6, .mk k x d ns ks, a, b)) ∧
      (tk = true → actE .drop nm dep (.mk k x d ns ks) a b = (0, delT (.mk k x d ns ks) i, a - sizeN kd, b - bytesT kd)) := by
    constructor
    · intro e
      rw [e] at htk
      unfold actE
      show (if tkn ns nm = true then _ else _) = _
      rw [← htk, if_neg (by decide)]
    · intro e
      rw [e] at htk
      unfold actE
      show (if tkn ns nm = true then _ else _) = _
      rw [← htk, if_pos rfl, hkd, hi]
      rfl
  have hks : ks.length ≤ 100000 := by have h1 := hlim.small.2.1; have h2 := sizeNL_len ks; rw [sizeN_mk] at h1; omega
  have hab : a ≤ 1000000 ∧ b ≤ 1000000 := by obtain ⟨_, _, h3, _, h5, _, h7⟩ := hlim; omega
  have hkid : tk = true → Small kd ∧ sizeT kd = some (sizeN kd, bytesT kd) ∧ sizeN kd ≤ a ∧ bytesT kd ≤ b := fun e => by
    have hq := hlim.kid (hilt e)
    rw [← hkd] at hq
    exact ⟨hq.small.1, hq.size, hq.2.2.2.1, hq.2.2.2.2.2.1⟩
  have HE := Lib.hid hE
  have HQB := Lib.hid hqb
  have HQC := Lib.hid hQ
  have HQ5 := Lib.hid hq5
  have HZ := Lib.hid hZ
  have HW := Lib.hid h
  have HIL := Lib.hid hilt
  have HKD := Lib.hid hkid
  have HKE := Lib.hid hkd
  have HA := Lib.hid hact
  have HK := Lib.hid hks
  have HAB := Lib.hid hab
  have HL := Lib.hid hlim.lens
  have hS5 : Hid ((Tryz.prog.info? 180).map (·.size) = some (spC db o nm i dep tk).toArray.size) := Lib.hid (by show _ = some 5; kernel_rfl)
  clear hE hQ hq5 hqb hZ h hlim hact hks hab hi htk hilt hkid hkd
  go_enter Tryz.func134, Tryz.ntmps134
  go_upto_region 1 with fail
  obtain ⟨w1, hw1⟩ : ∃ w1, w1 = w.alloc (.cells (spC db o nm i dep tk).toArray 180) := ⟨_, rfl⟩
  have b1 : Below w.heap.size w w1 := by rw [hw1]; exact (Below.refl _ _).alloc (Nat.le_refl _) _
  have gg1 : Has w1 w.heap.size (spC db o nm i dep tk) 180 := by rw [hw1]; exact Has.new w (spC db o nm i dep tk) _
  have e1 : Has w1 bw [.pointer (some ⟨p, 0, none⟩)] 136 := by rw [hw1]; exact HE.out.alloc _
  have q1 : Has w1 qb qc 37 := by rw [hw1]; exact HQC.out.alloc _
  first | rw [← hw1] | skip
  have Q1 := Lib.hid q1
  have B1 := Lib.hid b1
  have W1 := Lib.hid (HW.out.later b1)
  have FB1 : Hid (Fr (p :: db :: S) w w1) := Lib.hid ((Fr.of_below (S := []) b1).mono (fun g hg _ => by cases hg))
  have G1r : Hid (w1.heap[w.heap.size]? = some (.cells (spC db o nm i dep tk).toArray 180 (0, 0))) := Lib.hid gg1
  have hq4 := Has.cellAt gg1 (i := 4) rfl
  have hbw := Has.cellAt e1 (i := 0) rfl
  clear hw1 gg1 e1 q1 b1
  cases tk
  · go_wp2_with fail
    go_ret
    rw [HA.out.1 (by first | trivial | rfl)]
    exact ⟨rfl, FB1.out.mono (fun g hg _ => foot_more hg), fun _ => FB1.out, fun h => by simp at h⟩
  · go_wp2_with (refine wpList_load_row rfl 180 _ rfl w.heap.size rfl 180 (spC db o nm i dep true).toArray (0, 0) _ G1r.out Tryz.underlying180 rfl hS5.out ?_)
    have hkd := HKD.out (by first | trivial | rfl)
    have hil := HIL.out (by first | trivial | rfl)
    rw [HKE.out] at hkd
    refine (take_s (tk := true) (nm := nm) W1.out HL.out HK.out hil hkd.1 hkd.2.1 HAB.out.1 HAB.out.2 hkd.2.2.1 hkd.2.2.2).mono ?_
    rintro e w2 ⟨gcs, Sg, rfl, hf, X', cs', R', S', hw2, hxl, hxe, hr, hsub, hgm, hgs⟩
    rw [← HKE.out] at hw2
    have HA' := Lib.hid (HA.out.2 (by first | trivial | rfl))
    have hqF : qb ∉ (p :: db :: S) := fun hm => by
      have hg := HQB.out
      simp only [List.mem_cons] at hm
      rcases hm with e | e | e
      · exact hg.2.2 e
      · exact hg.2.1 e
      · exact hg.1 e
    have q2 : Has w2 qb qc 37 := has_fr Q1.out hf hqF
    have Q2r : Hid (w2.heap[qb]? = some (.cells qc.toArray 37 (0, 0))) := Lib.hid q2
    have hG5 : Hid ((Tryz.prog.info? 37).map (·.size) = some gcs.toArray.size) := Lib.hid (infoL hgm.five)
    have hGs : Hid (qc.toArray.size = gcs.toArray.size) := Lib.hid (by simp [HQ5.out, hgm.five])
    have hG1 : Hid (gcs.toArray.all (·.oneCell') = true) := Lib.hid (by
      rw [Array.all_eq_true_iff_forall_mem]
      intro u hu
      exact hgm.one u (by simpa using hu))
    have HFIN : Hid (WP w B p db o X ty R S Z [] (some qb) (ks.getD i default) (0, delT (.mk k x d ns ks) i, a - sizeN kd, b - bytesT kd) (.returned (.int .i64 0)) (w2.setRow qb gcs.toArray)) := Lib.hid (by
      have hf3 : Fr [qb] w2 (w2.setRow qb gcs.toArray) := (Fr.refl _ _).setRow (.inl (by simp)) _
      have hr3 : Rows w2 [qb] := Rows.cons q2 (by decide) (Rows.nil _)
      refine ⟨rfl, ((FB1.out.trans hf (fun g hg _ => hg)).mono (fun g hg _ => foot_more hg)).trans hf3 (fun g hg _ => by
        simp only [List.mem_cons, List.not_mem_nil, or_false] at hg
        subst hg
        exact List.mem_cons_of_mem _ (List.mem_cons_of_mem _ (List.mem_append_right _ HZ.out))), fun h => by simp at h, fun _ => ?_⟩
      refine ⟨X', cs', R', S', hw2.fr hf3 hr3 (by simp; exact fun e => HQB.out.2.2 e.symm) (by simp; exact fun e => HQB.out.2.1 e.symm) (fun g hg hm => by
        simp only [List.mem_cons, List.not_mem_nil, or_false] at hm
        subst hm
        exact HQB.out.1 (hsub g hg)), hxl, hxe, hr, fun g hg => .inl (hsub g hg), fun q0 hq0 => ?_⟩
      cases hq0
      exact ⟨gcs, Sg, has_setRow q2, hgm.frame hf3 hr3 (fun g hg hm => by
        simp only [List.mem_cons, List.not_mem_nil, or_false] at hm
        subst hm
        exact HQB.out.1 (hgs g hg).1), fun g hg => (hgs g hg).1, fun g hg => (hgs g hg).2⟩)
    clear hw2 hr hxl hxe hsub hf hil hqF q2 hgm hgs hbw hq4 hkd
    go_wp2_with (refine wpList_store_row rfl 37 _ _ rfl qb gcs.toArray rfl rfl 37 qc.toArray Q2r.out hG5.out hGs.out hG1.out ?_)
    go_ret
    rw [HA'.out]
    exact HFIN.out

end Go.Proofs.YtlccdenafnekjaaGreatDoor
namespace Go.Proofs.YtlccdenafnekjaaGreatDoor
open Go.RowKit
set_option linter.unusedVariables false

theorem search_p {w : World} {a : Option Addr} {n c : Nat} {ns : List ByteArray} {x : ByteArray} (h : IsS w a n c ns) (hn : n ≤ 1000000) :
    Calls Tryz.prog 149 #[.slice a n c, .string x] w fun e w' => e = .returned (.tuple #[.int .i64 (plc ns x : Nat), .bool (tkn ns x)]) ∧ Below w.heap.size w w' := by
  have hl := h.length
  subst hl
  refine (search_any h hn (x := x)).mono ?_
  rintro e w' ⟨rfl, hb⟩
  exact ⟨rfl, hb⟩

/-- The names behind the first one. -/
theorem isS_tail {w : World} {nb off n c : Nat} {nm : ByteArray} {l : List ByteArray} (h : IsS w (some ⟨nb, off, none⟩) n c (nm :: l)) (hlt : nb < w.heap.size) (hc : ∀ i, i < n → w.cell? ⟨nb, off + i, none⟩ = some (.string ((nm :: l).getD i ⟨#[]⟩))) : IsS w (some ⟨nb, off + 1, none⟩) (n - 1) (c - 1) l := by
  have hl := h.length
  have hr := h.room
  simp only [List.length_cons] at hl
  refine ⟨by omega, .inr ⟨nb, off + 1, rfl, hlt, fun i hi => ?_⟩, (fun e => by cases e), by omega, by have := hr.2; omega⟩
  have := hc (i + 1) (by omega)
  rw [show off + (i + 1) = off + 1 + i by omega] at this
  simpa using this

theorem WP.below {w w' w'' : World} {B p db o : Nat} {X : List Value} {ty : TypeId} {R : List Value} {S Z Sx : List Nat} {q : Option Nat} {gt : T} {r : ER} {e : Ending} (hb : Below w.heap.size w w') (h : WP w' B p db o X ty R S Z Sx q gt r e w'') : WP w B p db o X ty R S Z Sx q gt r e w'' :=
  ⟨h.1, ((Fr.of_below (S := []) hb).mono (fun g hg _ => by cases hg)).trans h.2.1 (fun g hg _ => hg), fun h0 => ((Fr.of_below (S := []) hb).mono (fun g hg _ => by cases hg)).trans (h.2.2.1 h0) (fun g hg _ => hg), fun h0 => (h.2.2.2 h0).frame hb⟩

theorem down_nums (dep : Nat) (h : dep ≤ 17) : IntKind.i64.wrap ((dep : Int) + 1) = ((dep + 1 : Nat) : Int) := by rw [IntKind.wrap_i64]; omega

set_option maxRecDepth 100000 in
set_option maxHeartbeats 20000000 in
theorem down_any {B p : Nat} (ed : Ed) (E : World → Prop) (hE : ∀ w w' : World, Below w.heap.size w w' → E w → E w') (f : Nat) (caps : Array Value) (he : ∀ args w, (callFunc f args).run Tryz.prog w = .ok (.enter f args) w) (Z Sx : List Nat) (q : Option Nat) (hZr : ∀ w, E w → Rows w Z)
    (hact : ∀ (w : World) (db o : Nat) (X cs : List Value) (ty : TypeId) (R : List Value) (a b : Nat) (k : UInt8) (x : Bool) (d : List UInt8) (ns : List ByteArray) (ks : List T) (S : List Nat) (nm : ByteArray) (dep : Nat), E w → WS w B p db o X cs ty R a b (.mk k x d ns ks) S → (∀ g ∈ Z, g ∉ S ∧ g ≠ db ∧ g ≠ p) → (∀ g ∈ Sx, g ∉ S ∧ g ≠ db ∧ g ≠ p) → B ≤ w.heap.size → Lim (.mk k x d ns ks) dep a b →
      Calls Tryz.prog f (#[.agg (spC db o nm (plc ns nm) dep (tkn ns nm)).toArray] ++ caps) w (WP w B p db o X ty R S Z Sx q (ks.getD (plc ns nm) default) (actE ed nm dep (.mk k x d ns ks) a b))) :
    ∀ (l : List ByteArray), l ≠ [] → ∀ (t : T) (w : World) (db o : Nat) (X cs : List Value) (ty : TypeId) (R : List Value) (a b : Nat) (S : List Nat) (dep : Nat) (na : Option Addr) (n c : Nat), E w → WS w B p db o X cs ty R a b t S → (∀ g ∈ Z, g ∉ S ∧ g ≠ db ∧ g ≠ p) → (∀ g ∈ Sx, g ∉ S ∧ g ≠ db ∧ g ≠ p) → B ≤ w.heap.size → Lim t dep a b → IsS w na n c l →
      Calls Tryz.prog 139 #[.pointer (some ⟨db, o, none⟩), .slice na n c, .int .i64 (dep : Int), .func (.func f) #[] caps] w (WP w B p db o X ty R S Z Sx q (getE l t) (chgE ed l dep t a b))
  | [], hne, _, _, _, _, _, _, _, _, _, _, _, _, _, _, _, _, _, _, _, _, _, _ => absurd rfl hne
  | nm :: l2, _, .mk k x d ns ks, w, db, o, X, cs, ty, R, a, b, S, dep, na, n, c, hEw, h, hZ, hSx, hB, hlim, hl => by
    obtain ⟨vd, vn, vk, L, Ss, hcs, hS, hd, hn, hk, hs, hnd⟩ := mt_inv h.mt
    obtain ⟨an, cn, rfl, iS⟩ := isS_owned hn
    have hx0 : X[o]? = some (.int .u8 (k.toNat : Int)) := by have := h.hc 0 (by omega); rw [hcs] at this; simpa using this
    have hx3 : X[o + 3]? = some (.slice an ns.length cn) := by rw [h.hc 3 (by omega), hcs]; rfl
    have hx4 : X[o + 4]? = some vk := by rw [h.hc 4 (by omega), hcs]; rfl
    have hnl : n = l2.length + 1 := by have := hl.length; simp only [List.length_cons] at this; omega
    obtain ⟨nb, off, rfl, hnb, hnc⟩ : ∃ nb off, na = some ⟨nb, off, none⟩ ∧ nb < w.heap.size ∧ ∀ i, i < n → w.cell? ⟨nb, off + i, none⟩ = some (.string ((nm :: l2).getD i ⟨#[]⟩)) := by
      rcases hl.at_ with h0 | ⟨nb, off, e, h1, h2⟩
      · omega
      · exact ⟨nb, off, e, h1, h2⟩
    have hc0 : w.cell? ⟨nb, off, none⟩ = some (.string nm) := by have := hnc 0 (by omega); simpa using this
    have hnc2 := hl.room
    have hdep : dep ≤ 17 := by have := hlim.2.2.1; omega
    have hns : ns.length ≤ 100000 := by have h1 := hlim.small.2.1; have h2 := sizeNL_len ks; rw [sizeN_mk] at h1; rw [hlim.lens]; omega
    have hkid : tkn ns nm = true → plc ns nm < ks.length := fun e => by rw [← hlim.lens]; exact (tkn_spec e).1
    have HW := Lib.hid h
    have HX0 := Lib.hid hx0
    have HX3 := Lib.hid hx3
    have HX4 := Lib.hid hx4
    have HIS := Lib.hid iS
    have HLS := Lib.hid hl
    have HNB := Lib.hid hnb
    have HNC := Lib.hid hnc
    have HC0 := Lib.hid hc0
    have HNL := Lib.hid hnl
    have HEW := Lib.hid hEw
    have HZ := Lib.hid hZ
    have HSX := Lib.hid hSx
    have HB := Lib.hid hB
    have HLM := Lib.hid hlim
    have HNS := Lib.hid hns
    have HKD := Lib.hid hkid
    have HDW := Lib.hid (down_nums dep hdep)
    have HCS := Lib.hid hcs
    have hcm : (n : Int) ≤ (c : Int) ∧ (c : Int) ≤ 9223372036854775807 := by have := hnc2.2; unfold maxLen at this; omega
    have HCM := Lib.hid hcm
    have hin : ¬ n = 0 := by omega
    have HE := Lib.hid hE
    have HACT := Lib.hid hact
    have HZR := Lib.hid (hZr w hEw)
    have HDL : Hid (db < w.heap.size) := Lib.hid h.hX.lt
    by_cases hk3 : k = 3
    · subst hk3
      have hchg : Hid (chgE ed (nm :: l2) dep (.mk 3 x d ns ks) a b = if l2 = [] then actE ed nm dep (.mk 3 x d ns ks) a b else if tkn ns nm then
          ((chgE ed l2 (dep + 1) (ks.getD (plc ns nm) default) a b).1, .mk 3 x d ns (ks.set (plc ns nm) (chgE ed l2 (dep + 1) (ks.getD (plc ns nm) default) a b).2.1), (chgE ed l2 (dep + 1) (ks.getD (plc ns nm) default) a b).2.2) else (6, .mk 3 x d ns ks, a, b)) := Lib.hid (by
        rw [chgE]
        show (if ((3 : UInt8) ≠ 3) then _ else _) = _
        rw [if_neg (by decide)]
        rfl)
      have hget : Hid (getE (nm :: l2) (.mk 3 x d ns ks) = getE l2 (ks.getD (plc ns nm) default)) := Lib.hid rfl
      have IH := Lib.hid (fun (hne : l2 ≠ []) => down_any ed E hE f caps he Z Sx q hZr hact l2 hne)
      clear h hx0 hx3 hx4 iS hl hnb hnc hc0 hnl hEw hZ hSx hB hlim hns hkid hcs hcm hact hE hZr hnc2 hd hn hk hs hnd hS hdep
      have hq0 : Hid (World.cell? w ⟨db, o, none⟩ = some (.int .u8 3)) := Lib.hid (Has.cellAt HW.out.hX HX0.out)
      go_enter Tryz.func139, Tryz.ntmps139
      have hq0' := hq0.out
      go_upto_region 3 with fail
      clear hq0'
      refine wp_region_held_drew (S := fun W => Has W db X ty ∧ W.cell? ⟨nb, off, none⟩ = some (.string nm)) (by kernel_rfl) ⟨HW.out.hX.drew, HC0.out⟩ (fun hHeld => ?_)
      refine wpAnyH_take (i := 0) (v := .pointer (some ⟨db, o, none⟩)) rfl (by kernel_rfl) (by kernel_rfl) (by kernel_rfl) (fun _ _ _ h => h)
        (Or.inl ⟨by rfl, by intro w hSw;  clear hSw; go_simp⟩) hHeld ?_
      refine wpAnyH_take (i := 1) (v := .pointer (some ⟨db, o, none⟩)) rfl (by kernel_rfl) (by kernel_rfl) (by kernel_rfl) (fun _ _ _ h => h)
        (Or.inl ⟨by rfl, by intro w hSw;  clear hSw; go_simp⟩) hHeld ?_
      refine wpAnyH_take (i := 2) (v := .pointer (some ⟨db, o + 3, none⟩)) rfl (by kernel_rfl) (by kernel_rfl) (by kernel_rfl) (fun _ _ _ h => h)
        (Or.inl ⟨by rfl, by intro w hSw;  clear hSw; go_simp⟩) hHeld ?_
      refine wpAnyH_take (i := 3) (v := .slice an ns.length cn) rfl (by kernel_rfl) (by kernel_rfl) (by kernel_rfl) (fun _ _ _ h => h)
        (Or.inl ⟨by rfl, by intro w hSw; have hq := Has.cellAt hSw.1 HX3.out; clear hSw; go_simp⟩) hHeld ?_
      refine wpAnyH_take (i := 4) (v := .slice (some ⟨nb, off, none⟩) n c) rfl (by kernel_rfl) (by kernel_rfl) (by kernel_rfl) (fun _ _ _ h => h)
        (Or.inl ⟨by rfl, by intro w hSw;  clear hSw; go_simp⟩) hHeld ?_
      refine wpAnyH_take (i := 5) (v := .pointer (some ⟨nb, off, none⟩)) rfl (by kernel_rfl) (by kernel_rfl) (by kernel_rfl) (fun _ _ _ h => h)
        (Or.inl ⟨by rfl, by intro w hSw;  clear hSw; go_simp⟩) hHeld ?_
      refine wpAnyH_take (i := 6) (v := .string nm) rfl (by kernel_rfl) (by kernel_rfl) (by kernel_rfl) (fun _ _ _ h => h)
        (Or.inl ⟨by rfl, by intro w hSw; have hq := hSw.2; clear hSw; go_simp⟩) hHeld ?_
      refine wpAnyH_ready (rs := [7]) (by kernel_rfl) (by simp) ?_
      refine AllReadyH.cons rfl (fun K hK => ?_) AllReadyH.nil
      go_simp
      refine (search_p (x := nm) (HIS.out.later (Below.refl _ _).drew) (by have := HNS.out; omega)).mono ?_
      rintro e w2 ⟨rfl, hb2⟩
      have B2 := Lib.hid ((Below.refl w.heap.size w).drew.trans hb2)
      have X2 : Hid (Has w2 db X ty) := Lib.hid (has_fr HW.out.hX (Fr.of_below (S := []) B2.out) (by simp))
      have C2 : Hid (w2.cell? ⟨nb, off, none⟩ = some (.string nm)) := Lib.hid ((B2.out.cell (p := ⟨nb, off, none⟩) HNB.out).trans HC0.out)
      clear hb2
      obtain ⟨i, hi⟩ : ∃ i, i = plc ns nm := ⟨_, rfl⟩
      obtain ⟨tk, htk⟩ : ∃ tk, tk = tkn ns nm := ⟨_, rfl⟩
      rw [← hi, ← htk]
      have HII := Lib.hid hi
      have HTK := Lib.hid htk
      clear hi htk
      go_wp2_with fail
      refine hK.out _ _ (⟨X2.out, C2.out⟩) (fun hHw1 => ?_)
      clear hK K hHeld
      refine wpAnyH_take (i := 8) (v := .tuple #[.int .i64 (i : Int), .bool tk]) rfl (by kernel_rfl) (by kernel_rfl) (by kernel_rfl) (fun _ _ _ h => h)
        (Or.inl ⟨by rfl, by intro w hSw;  clear hSw; go_simp⟩) hHw1 ?_
      refine wpAnyH_take (i := 9) (v := .int .i64 (i : Int)) rfl (by kernel_rfl) (by kernel_rfl) (by kernel_rfl) (fun _ _ _ h => h)
        (Or.inl ⟨by rfl, by intro w hSw;  clear hSw; go_simp⟩) hHw1 ?_
      refine wpAnyH_take (i := 10) (v := .bool tk) rfl (by kernel_rfl) (by kernel_rfl) (by kernel_rfl) (fun _ _ _ h => h)
        (Or.inl ⟨by rfl, by intro w hSw;  clear hSw; go_simp⟩) hHw1 ?_
      refine wpAnyH_take (i := 11) (v := .int .i64 (i : Int)) rfl (by kernel_rfl) (by kernel_rfl) (by kernel_rfl) (fun _ _ _ h => h)
        (Or.inl ⟨by rfl, by intro w hSw;  clear hSw; go_simp⟩) hHw1 ?_
      refine wpAnyH_take (i := 12) (v := .bool tk) rfl (by kernel_rfl) (by kernel_rfl) (by kernel_rfl) (fun _ _ _ h => h)
        (Or.inl ⟨by rfl, by intro w hSw;  clear hSw; go_simp⟩) hHw1 ?_
      refine wpAnyH_done (by kernel_rfl) ?_ _
      clear hHw1
      have W2 := Lib.hid (HW.out.later B2.out)
      have hlen : ((l2 = []) ∧ n = 1) ∨ (l2 ≠ [] ∧ ¬ n = 1) := by
        have := HNL.out
        rcases l2 with _ | ⟨y, r⟩
        · exact .inl ⟨rfl, by simpa using this⟩
        · refine .inr ⟨by simp, ?_⟩
          simp only [List.length_cons] at this
          omega
      rcases hlen with ⟨hl2, hn1⟩ | ⟨hl2, hn1⟩
      · have hn1i : (n : Int) = 1 := by omega
        have hc2 := C2.out
        clear hn1 hn1i
        have hn1' : n = 1 := by have := HNL.out; rw [hl2] at this; simpa using this
        subst hn1'
        go_upto_region 5 with fail
        go_wp2_with fail
        have hcl := HACT.out w2 db o X cs ty R a b 3 x d ns ks S nm dep (HE.out w w2 B2.out HEW.out) W2.out HZ.out HSX.out (Nat.le_trans HB.out B2.out.size) HLM.out
        rw [← HII.out, ← HTK.out] at hcl
        refine Calls.mono (show Calls Tryz.prog f (#[.agg #[.pointer (some ⟨db, o, none⟩), .string nm, .int .i64 (i : Int), .int .i64 (dep : Int), .bool tk]] ++ caps) w2 _ from hcl) ?_
        rintro e w3 ⟨rfl, hf3, hg3, hq3⟩
        obtain ⟨C3, hC3⟩ : ∃ C3, C3 = actE ed nm dep (.mk 3 x d ns ks) a b := ⟨_, rfl⟩
        rw [← hC3] at hq3 hg3 ⊢
        obtain ⟨D3, hD3⟩ : ∃ D3, D3 = C3.1 := ⟨_, rfl⟩
        rw [← hD3] at hq3 hg3 ⊢
        have HFIN : Hid (WP w B p db o X ty R S Z Sx q (ks.getD i default) C3 (.returned (.int .i64 (D3 : Int))) w3) := Lib.hid (WP.below B2.out ⟨by rw [hD3], hf3, by rw [← hD3]; exact hg3, by rw [← hD3]; exact hq3⟩)
        have HC3 := Lib.hid hC3
        clear hcl hf3 hq3 hg3 hC3 hD3 hc2
        go_wp2_with fail
        go_ret
        rw [hchg.out, hget.out, if_pos hl2, hl2, ← HC3.out, ← HII.out]
        exact HFIN.out
      · have hn1i : ¬ (n : Int) = 1 := by omega
        rcases Bool.eq_false_or_eq_true tk with htk | htk
        · subst htk
          have hkl : i < ks.length := by rw [HII.out]; exact HKD.out HTK.out.symm
          obtain ⟨vd', vn', kb, cap, cur, Si, hcs', hn', hle, hmx, hkb, hsi, hkw, hup⟩ := ws_down (Sx := Sx) (q := q) (Z := Z) W2.out hkl HZ.out (fun g hg => by
            obtain ⟨L0, t0, h0, h1⟩ := HZR.out g hg
            exact ⟨L0, t0, (B2.out.block g ((Array.getElem?_eq_some_iff.1 h0).1)).trans h0, h1⟩) HSX.out
          have hvk : vk = .slice (some ⟨kb, 0, none⟩) ks.length cap := by
            have e := HCS.out.symm.trans hcs'
            simp only [List.cons.injEq, and_true] at e
            exact e.2.2.2.2
          subst hvk
          have HX4' := HX4
          have HKB := Lib.hid hkb
          have HSI := Lib.hid hsi
          have HKW := Lib.hid hkw
          have HUP := Lib.hid hup
          have HKL := Lib.hid (HLM.out.kid hkl)
          have HTL := Lib.hid (isS_tail HLS.out HNB.out HNC.out)
          have BD : Hid (Below w.heap.size w w2.drew) := Lib.hid B2.out.drew
          have hki : (i : Int) < (ks.length : Int) := by omega
          have hcap1 : ¬ (c = 1) := by have := HCM.out; have := HNL.out; omega
          have hc1 : (1 : Int) ≤ (n : Int) ∧ (n : Int) ≤ (c : Int) := by have := HCM.out; omega
          obtain ⟨hc11, hc12⟩ := hc1
          clear hcs' hn' hle hmx hkb hsi hkw hup
          go_upto_region 8 with fail
          refine wp_region_held_drew (S := fun _ => True) (by kernel_rfl) trivial (fun hHeld8 => ?_)
          refine wpAnyH_take (i := 0) (v := .pointer (some ⟨db, o, none⟩)) rfl (by kernel_rfl) (by kernel_rfl) (by kernel_rfl) (fun _ _ _ h => h)
            (Or.inl ⟨by rfl, by intro w hSw;  clear hSw; go_simp⟩) hHeld8 ?_
          refine wpAnyH_take (i := 1) (v := .pointer (some ⟨db, o, none⟩)) rfl (by kernel_rfl) (by kernel_rfl) (by kernel_rfl) (fun _ _ _ h => h)
            (Or.inl ⟨by rfl, by intro w hSw;  clear hSw; go_simp⟩) hHeld8 ?_
          refine wpAnyH_take (i := 2) (v := .pointer (some ⟨db, o + 4, none⟩)) rfl (by kernel_rfl) (by kernel_rfl) (by kernel_rfl) (fun _ _ _ h => h)
            (Or.inl ⟨by rfl, by intro w hSw;  clear hSw; go_simp⟩) hHeld8 ?_
          refine wpAnyH_take (i := 4) (v := .int .i64 (i : Int)) rfl (by kernel_rfl) (by kernel_rfl) (by kernel_rfl) (fun _ _ _ h => h)
            (Or.inl ⟨by rfl, by intro w hSw;  clear hSw; go_simp⟩) hHeld8 ?_
          refine wpAnyH_take (i := 6) (v := .slice (some ⟨nb, off, none⟩) n c) rfl (by kernel_rfl) (by kernel_rfl) (by kernel_rfl) (fun _ _ _ h => h)
            (Or.inl ⟨by rfl, by intro w hSw;  clear hSw; go_simp⟩) hHeld8 ?_
          refine wpAnyH_take (i := 7) (v := .slice (some ⟨nb, off + 1, none⟩) (n - 1) (c - 1)) rfl (by kernel_rfl) (by kernel_rfl) (by kernel_rfl) (fun _ _ _ h => h)
            (Or.inl ⟨by rfl, by intro w hSw;  clear hSw; go_simp⟩) hHeld8 ?_
          refine wpAnyH_take (i := 8) (v := .int .i64 (dep : Int)) rfl (by kernel_rfl) (by kernel_rfl) (by kernel_rfl) (fun _ _ _ h => h)
            (Or.inl ⟨by rfl, by intro w hSw;  clear hSw; go_simp⟩) hHeld8 ?_
          refine wpAnyH_take (i := 9) (v := .int .i64 ((dep + 1 : Nat) : Int)) rfl (by kernel_rfl) (by kernel_rfl) (by kernel_rfl) (fun _ _ _ h => h)
            (Or.inl ⟨by rfl, by intro w hSw;  clear hSw; go_simp <;> exact HDW.out⟩) hHeld8 ?_
          refine wpAnyH_take (i := 10) (v := .func (.func f) #[] caps) rfl (by kernel_rfl) (by kernel_rfl) (by kernel_rfl) (fun _ _ _ h => h)
            (Or.inl ⟨by rfl, by intro w hSw;  clear hSw; go_simp⟩) hHeld8 ?_
          refine wpAnyH_ready (rs := [3]) (by kernel_rfl) (by simp) ?_
          refine AllReadyH.cons rfl (fun K hK => ?_) AllReadyH.nil
          have q3 : World.cell? w2.drew ⟨db, o + 4, none⟩ = some (.slice (some ⟨kb, 0, none⟩) ks.length cap) := Has.cellAt (X2.out.drew) HX4'.out
          go_simp
          clear q3
          refine hK.out _ _ trivial (fun hHw1 => ?_)
          clear hK K hHeld8
          refine wpAnyH_take (i := 5) (v := .pointer (some ⟨kb, i * 5, none⟩)) rfl (by kernel_rfl) (by kernel_rfl) (by kernel_rfl) (fun _ _ _ h => h)
            (Or.inl ⟨by rfl, by intro w hSw;  clear hSw; go_simp⟩) hHw1 ?_
          refine wpAnyH_ready (rs := [11]) (by kernel_rfl) (by simp) ?_
          refine AllReadyH.cons rfl (fun K hK => ?_) AllReadyH.nil
          go_simp
          have hcl := IH.out hl2 (ks.getD i default) w2.drew kb (i * 5) cur (five cur i) 37 R a b Si (dep + 1) (some ⟨nb, off + 1, none⟩) (n - 1) (c - 1) (HE.out w _ BD.out HEW.out) (HKW.out.later (Below.refl _ _).drew) (fun g hg => ⟨fun hm => (HZ.out g hg).1 (HSI.out g hm), fun e => (HZ.out g hg).1 (e ▸ HKB.out), (HZ.out g hg).2.2⟩) (fun g hg => ⟨fun hm => (HSX.out g hg).1 (HSI.out g hm), fun e => (HSX.out g hg).1 (e ▸ HKB.out), (HSX.out g hg).2.2⟩) (Nat.le_trans HB.out BD.out.size) HKL.out (HTL.out.later BD.out)
          refine hcl.mono ?_
          rintro e w3 ⟨rfl, hf3, hg3, hq3⟩
          obtain ⟨C3, hC3⟩ : ∃ C3, C3 = (chgE ed l2 (dep + 1) (ks.getD i default) a b).1 := ⟨_, rfl⟩
          rw [← hC3] at hq3 hg3 ⊢
          have HC3 := Lib.hid hC3
          have HF3 := Lib.hid hf3
          have HQ3 := Lib.hid hq3
          have HFIN : Hid (WP w B p db o X ty R S Z Sx q (getE l2 (ks.getD i default)) (C3, .mk 3 x d ns (ks.set i (chgE ed l2 (dep + 1) (ks.getD i default) a b).2.1), (chgE ed l2 (dep + 1) (ks.getD i default) a b).2.2) (.returned (.int .i64 (C3 : Int))) w3) := Lib.hid (by
            have hfd : Fr (p :: kb :: (Si ++ Z)) w2 w3 := ((Fr.of_below (S := []) ((Below.refl w2.heap.size w2).drew)).mono (fun g hg _ => by cases hg)).trans hf3 (fun g hg _ => hg)
            have hfw : Fr (p :: db :: (S ++ Z)) w w3 := ((Fr.of_below (S := []) B2.out).mono (fun g hg _ => by cases hg)).trans (hfd.mono (fun g hg _ => by
              simp only [List.mem_cons, List.mem_append] at hg
              rcases hg with h1 | h1 | h1 | h1
              · exact List.mem_cons.2 (.inl h1)
              · exact List.mem_cons_of_mem _ (List.mem_cons_of_mem _ (List.mem_append_left _ (h1 ▸ HKB.out)))
              · exact List.mem_cons_of_mem _ (List.mem_cons_of_mem _ (List.mem_append_left _ (HSI.out g h1)))
              · exact List.mem_cons_of_mem _ (List.mem_cons_of_mem _ (List.mem_append_right _ h1)))) (fun g hg _ => hg)
            have hfe : C3 ≠ 0 → Fr (p :: db :: S) w w3 := fun h0 => ((Fr.of_below (S := []) B2.out).mono (fun g hg _ => by cases hg)).trans ((((Fr.of_below (S := []) ((Below.refl w2.heap.size w2).drew)).mono (fun g hg _ => by cases hg)).trans (hg3 h0) (fun g hg _ => hg)).mono (fun g hg _ => by
              simp only [List.mem_cons] at hg
              rcases hg with h1 | h1 | h1
              · exact List.mem_cons.2 (.inl h1)
              · exact List.mem_cons_of_mem _ (List.mem_cons_of_mem _ (h1 ▸ HKB.out))
              · exact List.mem_cons_of_mem _ (List.mem_cons_of_mem _ (HSI.out g h1)))) (fun g hg _ => hg)
            exact ⟨rfl, hfw, hfe, fun h0 => (HUP.out w3 _ _ _ _ hfd ((hq3 h0).frame ((Below.refl w2.heap.size w2).drew))).frame B2.out⟩)
          clear hcl hf3 hq3 hg3 hC3
          go_wp2_with fail
          refine hK.out _ _ trivial (fun hHw2 => ?_)
          clear hK K hHw1
          refine wpAnyH_take (i := 12) (v := .int .i64 (C3 : Int)) rfl (by kernel_rfl) (by kernel_rfl) (by kernel_rfl) (fun _ _ _ h => h)
            (Or.inl ⟨by rfl, by intro w hSw;  clear hSw; go_simp⟩) hHw2 ?_
          refine wpAnyH_done (by kernel_rfl) ?_ _
          clear hHw2
          go_wp2_with fail
          go_ret
          rw [hchg.out, hget.out, if_neg hl2, ← HTK.out, if_pos rfl, ← HII.out, ← HC3.out]
          exact HFIN.out
        · subst htk
          go_wp2_with fail
          go_ret
          rw [hchg.out, if_neg hl2, ← HTK.out, if_neg (by decide)]
          exact ⟨rfl, (Fr.of_below (S := []) B2.out).mono (fun g hg _ => by cases hg), fun _ => (Fr.of_below (S := []) B2.out).mono (fun g hg _ => by cases hg), fun h => by simp at h⟩
    · have hk3i : ¬ ((k.toNat : Int) = 3) := fun e => hk3 (UInt8.toNat_inj.1 (show k.toNat = 3 by omega))
      have hchg : Hid (chgE ed (nm :: l2) dep (.mk k x d ns ks) a b = (8, .mk k x d ns ks, a, b)) := Lib.hid (by
        rw [chgE]
        show (if (k ≠ 3) then _ else _) = _
        rw [if_pos hk3])
      clear h hx0 hx3 hx4 iS hl hnb hnc hc0 hnl hEw hZ hSx hB hlim hns hkid hcs hcm hact hE hZr hnc2 hd hn hk hs hnd hS hdep hin hk3
      have hq0 := Has.cellAt HW.out.hX HX0.out
      go_enter Tryz.func139, Tryz.ntmps139
      go_wp2_with fail
      go_ret
      rw [hchg.out]
      exact ⟨rfl, Fr.refl _ _, fun _ => Fr.refl _ _, fun h => by simp at h⟩

end Go.Proofs.YtlccdenafnekjaaGreatDoor
namespace Go.Proofs.YtlccdenafnekjaaGreatDoor
open Go.RowKit
set_option linter.unusedVariables false

/-- A tree that is worked on, with how many trees and bytes it has. -/
def WK (w : World) (B p : Nat) (t : T) (a b : Nat) (S : List Nat) : Prop := ∃ R, WS w B p p 0 (R ++ [.int .i64 (a : Int), .int .i64 (b : Int)]) R 140 R a b t S
/-- Behind a change of it. -/
def TopP (w : World) (B p : Nat) (S Sx : List Nat) (q : Option Nat) (gt : T) (r : ER) (w' : World) : Prop :=
  Fr (p :: S) w w' ∧ (r.1 = 0 → ∃ S', WK w' B p r.2.1 r.2.2.1 r.2.2.2 S' ∧ (∀ g ∈ S', g ∈ S ∨ g ∈ Sx ∨ w.heap.size ≤ g) ∧ Got w' B q gt S S')

theorem WK.later {w w' : World} {B p a b : Nat} {t : T} {S : List Nat} (h : WK w B p t a b S) (hb : Below w.heap.size w w') : WK w' B p t a b S := by
  obtain ⟨R, h⟩ := h
  exact ⟨R, h.later hb⟩
theorem WK.lt {w : World} {B p a b : Nat} {t : T} {S : List Nat} (h : WK w B p t a b S) : p < w.heap.size ∧ ∀ g ∈ S, g < w.heap.size := by
  obtain ⟨R, h⟩ := h
  exact ⟨h.hX.lt, fun g hg => h.mt.lt hg⟩

theorem wk_of {wz w' : World} {B p : Nat} {X : List Value} {R : List Value} {S Sx : List Nat} {q : Option Nat} {gt t' : T} {a' b' : Nat} (h : WQ wz B p p 0 X 140 R S Sx q gt t' a' b' w') :
    ∃ S', WK w' B p t' a' b' S' ∧ (∀ g ∈ S', g ∈ S ∨ g ∈ Sx ∨ wz.heap.size ≤ g) ∧ Got w' B q gt S S' := by
  obtain ⟨X', cs', R', S', k1, k2, k3, k4, k5, k6⟩ := h
  refine ⟨S', ⟨R', ?_⟩, k5, k6⟩
  rcases k1.hp with ⟨_, _, _, e4, e5⟩ | ⟨e1, _⟩
  · rw [e4, ← e5] at k1
    exact k1
  · exact absurd rfl e1
theorem fr_dup {p : Nat} {S : List Nat} {w w' : World} (h : Fr (p :: p :: S) w w') : Fr (p :: S) w w' := h.mono (fun g hg _ => by
  rcases List.mem_cons.1 hg with h | h
  · exact List.mem_cons.2 (.inl h)
  · exact h)
theorem top_fr {w wz w' : World} {p : Nat} {S Z : List Nat} (hb : Below w.heap.size w wz) (hZ : ∀ g ∈ Z, w.heap.size ≤ g) (h : Fr (p :: p :: (S ++ Z)) wz w') : Fr (p :: S) w w' :=
  ((Fr.of_below (S := []) hb).mono (S' := p :: S) (fun g hg _ => by cases hg)).trans (fr_dup h) (fun g hg hl => by
      simp only [List.mem_cons, List.mem_append] at hg
      rcases hg with h | h | h
      · exact List.mem_cons.2 (.inl h)
      · exact List.mem_cons_of_mem _ h
      · have := hZ g h; omega)
theorem top_of {w wz w' : World} {B p : Nat} {X : List Value} {R : List Value} {S Z Sx : List Nat} {q : Option Nat} {gt : T} {r : ER} {e : Ending} (hb : Below w.heap.size w wz) (hZ : ∀ g ∈ Z, w.heap.size ≤ g) (h : WP wz B p p 0 X 140 R S Z Sx q gt r e w') :
    e = .returned (.int .i64 (r.1 : Int)) ∧ TopP w B p S Sx q gt r w' := by
  obtain ⟨h1, h2, h3, h4⟩ := h
  refine ⟨h1, top_fr hb hZ h2, fun h0 => ?_⟩
  obtain ⟨S', k1, k2, k3⟩ := wk_of (h4 h0)
  refine ⟨S', k1, fun g hg => ?_, k3⟩
  rcases k2 g hg with h | h | h
  · exact .inl h
  · exact .inr (.inl h)
  · exact .inr (.inr (Nat.le_trans hb.size h))

set_option maxRecDepth 100000 in
set_option maxHeartbeats 2000000 in
theorem change_any {B p : Nat} (ed : Ed) (E : World → Prop) (hE : ∀ w w' : World, Below w.heap.size w w' → E w → E w') (f : Nat) (caps : Array Value) (he : ∀ args w, (callFunc f args).run Tryz.prog w = .ok (.enter f args) w) (Z Sx : List Nat) (q : Option Nat) (hZr : ∀ w, E w → Rows w Z)
    (hact : ∀ (w : World) (db o : Nat) (X cs : List Value) (ty : TypeId) (R : List Value) (a b : Nat) (k : UInt8) (x : Bool) (d : List UInt8) (ns : List ByteArray) (ks : List T) (S : List Nat) (nm : ByteArray) (dep : Nat), E w → WS w B p db o X cs ty R a b (.mk k x d ns ks) S → (∀ g ∈ Z, g ∉ S ∧ g ≠ db ∧ g ≠ p) → (∀ g ∈ Sx, g ∉ S ∧ g ≠ db ∧ g ≠ p) → B ≤ w.heap.size → Lim (.mk k x d ns ks) dep a b →
      Calls Tryz.prog f (#[.agg (spC db o nm (plc ns nm) dep (tkn ns nm)).toArray] ++ caps) w (WP w B p db o X ty R S Z Sx q (ks.getD (plc ns nm) default) (actE ed nm dep (.mk k x d ns ks) a b)))
    (l : List ByteArray) (hne : l ≠ []) (t : T) (w : World) (R : List Value) (a b : Nat) (S : List Nat) (na : Option Addr) (n c : Nat) (hEw : E w) (h : WS w B p p 0 (R ++ [.int .i64 (a : Int), .int .i64 (b : Int)]) R 140 R a b t S) (hZ : ∀ g ∈ Z, g ∉ S ∧ g ≠ p) (hSx : ∀ g ∈ Sx, g ∉ S ∧ g ≠ p) (hB : B ≤ w.heap.size) (hlim : Lim t 1 a b) (hl : IsS w na n c l) :
      Calls Tryz.prog 128 #[.pointer (some ⟨p, 0, none⟩), .slice na n c, .func (.func f) #[] caps] w (WP w B p p 0 (R ++ [.int .i64 (a : Int), .int .i64 (b : Int)]) 140 R S Z Sx q (getE l t) (chgE ed l 1 t a b)) := by
  have HC := Lib.hid (down_any ed E hE f caps he Z Sx q hZr hact l hne t w p 0 _ R _ R a b S 1 na n c hEw h (fun g hg => ⟨(hZ g hg).1, (hZ g hg).2, (hZ g hg).2⟩) (fun g hg => ⟨(hSx g hg).1, (hSx g hg).2, (hSx g hg).2⟩) hB hlim hl)
  clear hE hact hZr hEw h hZ hSx hB hlim hl he
  obtain ⟨G, hG⟩ : ∃ G, G = chgE ed l 1 t a b := ⟨_, rfl⟩
  rw [← hG] at HC ⊢
  clear hG
  go_enter Tryz.func128, Tryz.ntmps128
  go_wp2_with fail
  refine HC.out.mono ?_
  rintro e w1 ⟨rfl, h2⟩
  obtain ⟨D, hD⟩ : ∃ D, D = G.1 := ⟨_, rfl⟩
  rw [← hD] at h2 ⊢
  have H2 := Lib.hid h2
  have HD := Lib.hid hD
  clear h2 hD
  go_wp2_with fail
  go_ret
  exact ⟨by rw [← HD.out]; rfl, by rw [← HD.out]; exact H2.out⟩

theorem results_ct {P : Program} {fn : Func} {p u : Tmp} {ty : TypeId} (h : fn.results = #[.cell p ty, .tmp u]) (tmps : Array Value) (w : World) (g : Nat) (t : TypeId) (cs : Array Value) (fr : Nat × Nat) (d : TypeDesc)
    (hp : tmps.getD p undef = .pointer (some ⟨g, 0, none⟩)) (hg : w.heap[g]? = some (.cells cs t fr))
    (hu : P.underlying ty = some d) (hd : (match d with | .struct _ | .array _ _ => true | _ => false) = true) (hi : (P.info? ty).map (·.size) = some cs.size) :
    (results fn tmps).run P w = .ok (.tuple #[.agg cs, tmps.getD u undef]) w := by
  have hp' : tmps[p]?.getD undef = .pointer (some ⟨g, 0, none⟩) := by simpa using hp
  simp [results, h, hp', asAddr, run_loadVar_row w g t ty cs fr d hg hu hd hi]
theorem app1 (x y : Value) : (#[x] ++ #[y] : Array Value) = #[x, y] := rfl
theorem app2 (x y z : Value) : (#[x] ++ #[y, z] : Array Value) = #[x, y, z] := rfl

set_option maxRecDepth 100000 in
set_option maxHeartbeats 2000000 in
theorem mkdir_any {w : World} {B p a b : Nat} {t : T} {S : List Nat} {na : Option Addr} {n c : Nat} {l : List ByteArray} (h : WK w B p t a b S) (hB : B ≤ w.heap.size) (hlim : Lim t 1 a b) (hl : IsS w na n c l) (hne : l ≠ []) :
    Calls Tryz.prog 108 #[.pointer (some ⟨p, 0, none⟩), .slice na n c] w fun e w' => e = .returned (.int .i64 ((chgE .mk l 1 t a b).1 : Int)) ∧ TopP w B p S [] none (getE l t) (chgE .mk l 1 t a b) w' := by
  obtain ⟨R, h⟩ := h
  obtain ⟨w1, hw1⟩ : ∃ w1, w1 = w.alloc (.cells #[.pointer (some ⟨p, 0, none⟩)] 136) := ⟨_, rfl⟩
  have b1 : Below w.heap.size w w1 := by rw [hw1]; exact (Below.refl _ _).alloc (Nat.le_refl _) _
  have g1 : Has w1 w.heap.size [.pointer (some ⟨p, 0, none⟩)] 136 := by rw [hw1]; exact Has.new w [.pointer (some ⟨p, 0, none⟩)] _
  have HCH := Lib.hid (change_any (B := B) (p := p) .mk (fun W => Has W w.heap.size [.pointer (some ⟨p, 0, none⟩)] 136) (fun W W' hb hh => has_fr hh (Fr.of_below (S := []) hb) (by simp)) 129 #[.pointer (some ⟨w.heap.size, 0, none⟩)] (enters_of Tryz.func129 (by kernel_rfl) rfl) [] [] none (fun W _ => Rows.nil W)
    (fun W db o X cs ty R a b k x d ns ks S nm dep hEW hW _ _ hBW hL => by rw [app1]; exact mkdir_act hEW hW hBW hL) l hne t w1 R a b S na n c g1 (h.later b1) (fun g hg => by cases hg) (fun g hg => by cases hg) (Nat.le_trans hB b1.size) hlim (hl.later b1))
  have B1 := Lib.hid b1
  have HW1 := Lib.hid hw1
  have hld := Has.cellAt g1 (i := 0) rfl
  clear h hB hlim hl hne g1 b1
  obtain ⟨G, hG⟩ : ∃ G, G = chgE .mk l 1 t a b := ⟨_, rfl⟩
  rw [← hG] at HCH ⊢
  clear hG hw1
  have hmf : ∀ (fn : Fn) (first cap : Array Value) (w : World), (Instr.makeFunc fn first cap).run Tryz.prog w = .ok (.func fn first cap) w := fun _ _ _ _ => rfl
  go_enter Tryz.func108, Tryz.ntmps108
  go_upto_region 1 with fail
  rw [← HW1.out]
  go_wp2_with fail
  refine HCH.out.mono ?_
  intro e w2 h2
  obtain ⟨q1, q2⟩ := top_of B1.out (fun g hg => by cases hg) h2
  subst q1
  obtain ⟨D, hD⟩ : ∃ D, D = G.1 := ⟨_, rfl⟩
  rw [← hD]
  have H2 := Lib.hid q2
  have HD := Lib.hid hD
  clear h2 hD q2
  go_wp2_with fail
  go_ret
  exact ⟨by rw [← HD.out]; rfl, H2.out⟩

set_option maxRecDepth 100000 in
set_option maxHeartbeats 2000000 in
theorem put_any {w : World} {B p a b : Nat} {t tt : T} {S Sx : List Nat} {na : Option Addr} {n c : Nat} {l : List ByteArray} {ct : List Value} (h : WK w B p t a b S) (hB : B ≤ w.heap.size) (hlim : Lim t 1 a b) (hl : IsS w na n c l) (hne : l ≠ [])
    (hm : MT w B ct tt Sx) (hSx : ∀ g ∈ Sx, g ∉ S ∧ g ≠ p) (hsm : Small tt) (hz : sizeT tt = some (sizeN tt, bytesT tt)) (hN : sizeN tt ≤ 1000000) :
    Calls Tryz.prog 110 #[.pointer (some ⟨p, 0, none⟩), .slice na n c, .agg ct.toArray] w fun e w' => e = .returned (.int .i64 ((chgE (.put tt) l 1 t a b).1 : Int)) ∧ TopP w B p S Sx none (getE l t) (chgE (.put tt) l 1 t a b) w' := by
  obtain ⟨R, h⟩ := h
  obtain ⟨w0, hw0⟩ : ∃ w0, w0 = w.alloc (.cells #[.pointer (some ⟨p, 0, none⟩)] 136) := ⟨_, rfl⟩
  have s0 : w0.heap.size = w.heap.size + 1 := by rw [hw0]; simp
  obtain ⟨w1, hw1⟩ : ∃ w1, w1 = w0.alloc (.cells ct.toArray 37) := ⟨_, rfl⟩
  have b1 : Below w.heap.size w w1 := by rw [hw1, hw0]; exact ((Below.refl _ _).alloc (Nat.le_refl _) _).alloc (by simp) _
  have g1 : Has w1 w.heap.size [.pointer (some ⟨p, 0, none⟩)] 136 := by rw [hw1, hw0]; exact (Has.new w [.pointer (some ⟨p, 0, none⟩)] _).alloc _
  have t1 : Has w1 (w.heap.size + 1) ct 37 := by rw [hw1, ← s0]; exact Has.new w0 ct _
  have hpl : p < w.heap.size := h.hX.lt
  have hSl : ∀ g ∈ S, g < w.heap.size := fun g hg => h.mt.lt hg
  have HCH := Lib.hid (change_any (B := B) (p := p) (.put tt) (fun W => Has W w.heap.size [.pointer (some ⟨p, 0, none⟩)] 136 ∧ Has W (w.heap.size + 1) ct 37 ∧ MT W B ct tt Sx) (fun W W' hb hh => ⟨has_fr hh.1 (Fr.of_below (S := []) hb) (by simp), has_fr hh.2.1 (Fr.of_below (S := []) hb) (by simp), hh.2.2.later hb⟩)
    131 #[.pointer (some ⟨w.heap.size, 0, none⟩), .pointer (some ⟨w.heap.size + 1, 0, none⟩)] (enters_of Tryz.func131 (by kernel_rfl) rfl) [w.heap.size, w.heap.size + 1] Sx none (fun W hW => Rows.cons hW.1 (by decide) (Rows.cons hW.2.1 (by decide) (Rows.nil W)))
    (fun W db o X cs ty R a b k x d ns ks S nm dep hEW hW hZ hSX hBW hL => by rw [app2]; exact put_act hEW.1 hEW.2.1 hEW.2.2 hSX (hZ _ (by simp)) (hZ _ (by simp)) hsm hz hN hW hBW hL) l hne t w1 R a b S na n c ⟨g1, t1, hm.later b1⟩ (h.later b1) (fun g hg => by
      simp only [List.mem_cons, List.not_mem_nil, or_false] at hg
      rcases hg with rfl | rfl
      · exact ⟨fun hm => by have := hSl _ hm; omega, by omega⟩
      · exact ⟨fun hm => by have := hSl _ hm; omega, by omega⟩) hSx (Nat.le_trans hB b1.size) hlim (hl.later b1))
  have B1 := Lib.hid b1
  have HW1 : Hid (w1 = (w.alloc (.cells #[.pointer (some ⟨p, 0, none⟩)] 136)).alloc (.cells ct.toArray 37)) := Lib.hid (by rw [hw1, hw0])
  have hld := Has.cellAt g1 (i := 0) rfl
  clear h hB hlim hl hne g1 b1 t1 hm hSx hsm hz hN hpl hSl hw1 hw0 s0
  obtain ⟨G, hG⟩ : ∃ G, G = chgE (.put tt) l 1 t a b := ⟨_, rfl⟩
  rw [← hG] at HCH ⊢
  clear hG
  have hmf : ∀ (fn : Fn) (first cap : Array Value) (w : World), (Instr.makeFunc fn first cap).run Tryz.prog w = .ok (.func fn first cap) w := fun _ _ _ _ => rfl
  go_enter Tryz.func110, Tryz.ntmps110
  go_upto_region 1 with fail
  rw [← HW1.out]
  go_wp2_with fail
  refine HCH.out.mono ?_
  intro e w2 h2
  obtain ⟨q1, q2⟩ := top_of B1.out (fun g hg => by
    simp only [List.mem_cons, List.not_mem_nil, or_false] at hg
    omega) h2
  subst q1
  obtain ⟨D, hD⟩ : ∃ D, D = G.1 := ⟨_, rfl⟩
  rw [← hD]
  have H2 := Lib.hid q2
  have HD := Lib.hid hD
  clear h2 hD q2
  go_wp2_with fail
  go_ret
  exact ⟨by rw [← HD.out]; rfl, H2.out⟩

/-- What drop tells: five cells; they read as what was there. -/
def DropP (w : World) (B p : Nat) (S : List Nat) (gt : T) (r : ER) (e : Ending) (w' : World) : Prop :=
  ∃ gcs, e = .returned (.tuple #[.agg gcs.toArray, .int .i64 (r.1 : Int)]) ∧ gcs.length = 5 ∧ gcs.toArray.all (·.oneCell') = true ∧ Fr (p :: S) w w' ∧ (r.1 = 0 → ∃ S' Sg, WK w' B p r.2.1 r.2.2.1 r.2.2.2 S' ∧ (∀ g ∈ S', g ∈ S ∨ w.heap.size ≤ g) ∧ MT w' B gcs gt Sg ∧ (∀ g ∈ Sg, g ∈ S ∧ g ∉ S'))

theorem WK.fr {w w' : World} {F : List Nat} {B p a b : Nat} {t : T} {S : List Nat} (h : WK w B p t a b S) (hf : Fr F w w') (hF : Rows w F) (h1 : p ∉ F) (h3 : ∀ g ∈ S, g ∉ F) : WK w' B p t a b S := by
  obtain ⟨R, h⟩ := h
  exact ⟨R, h.fr hf hF h1 h1 h3⟩

set_option maxRecDepth 100000 in
set_option maxHeartbeats 4000000 in
theorem drop_any {w : World} {B p a b : Nat} {t : T} {S : List Nat} {na : Option Addr} {n c : Nat} {l : List ByteArray} (h : WK w B p t a b S) (hB : B ≤ w.heap.size) (hlim : Lim t 1 a b) (hl : IsS w na n c l) (hne : l ≠ []) :
    Calls Tryz.prog 112 #[.pointer (some ⟨p, 0, none⟩), .slice na n c] w (DropP w B p S (getE l t) (chgE .drop l 1 t a b)) := by
  obtain ⟨R, h⟩ := h
  obtain ⟨w0, hw0⟩ : ∃ w0, w0 = w.alloc (.cells #[.pointer (some ⟨p, 0, none⟩)] 136) := ⟨_, rfl⟩
  have s0 : w0.heap.size = w.heap.size + 1 := by rw [hw0]; simp
  obtain ⟨wy, hwy⟩ : ∃ wy, wy = w0.alloc (.cells #[.int .u8 0, .bool false, .slice none 0 0, .slice none 0 0, .slice none 0 0] 37) := ⟨_, rfl⟩
  have sy : wy.heap.size = w.heap.size + 1 + 1 := by rw [hwy]; simp [s0]
  obtain ⟨w1, hw1⟩ : ∃ w1, w1 = wy.alloc (.cells #[.int .u8 0, .bool false, .slice none 0 0, .slice none 0 0, .slice none 0 0] 37) := ⟨_, rfl⟩
  have b1 : Below w.heap.size w w1 := by rw [hw1, hwy, hw0]; exact (((Below.refl _ _).alloc (Nat.le_refl _) _).alloc (by simp) _).alloc (by simp; omega) _
  have g1 : Has w1 w.heap.size [.pointer (some ⟨p, 0, none⟩)] 136 := by rw [hw1, hwy, hw0]; exact ((Has.new w [.pointer (some ⟨p, 0, none⟩)] _).alloc _).alloc _
  have r1 : Has w1 (w.heap.size + 1) zK 37 := by rw [hw1, hwy, ← s0]; exact (Has.new w0 zK _).alloc _
  have q1 : Has w1 (w.heap.size + 1 + 1) zK 37 := by rw [hw1, ← sy]; exact Has.new wy zK _
  have hpl : p < w.heap.size := h.hX.lt
  have hSl : ∀ g ∈ S, g < w.heap.size := fun g hg => h.mt.lt hg
  have HCH := Lib.hid (change_any (B := B) (p := p) .drop (fun W => Has W w.heap.size [.pointer (some ⟨p, 0, none⟩)] 136 ∧ Has W (w.heap.size + 1 + 1) zK 37) (fun W W' hb hh => ⟨has_fr hh.1 (Fr.of_below (S := []) hb) (by simp), has_fr hh.2 (Fr.of_below (S := []) hb) (by simp)⟩)
    134 #[.pointer (some ⟨w.heap.size, 0, none⟩), .pointer (some ⟨w.heap.size + 1 + 1, 0, none⟩)] (enters_of Tryz.func134 (by kernel_rfl) rfl) [w.heap.size + 1 + 1] [] (some (w.heap.size + 1 + 1)) (fun W hW => Rows.cons hW.2 (by decide) (Rows.nil W))
    (fun W db o X cs ty R a b k x d ns ks S nm dep hEW hW hZ hSX hBW hL => by rw [app2]; exact drop_act hEW.1 hEW.2 rfl (hZ _ (by simp)) (by simp) hW hL) l hne t w1 R a b S na n c ⟨g1, q1⟩ (h.later b1) (fun g hg => by
      simp only [List.mem_cons, List.not_mem_nil, or_false] at hg
      subst hg
      exact ⟨fun hm => by have := hSl _ hm; omega, by omega⟩) (fun g hg => by cases hg) (Nat.le_trans hB b1.size) hlim (hl.later b1))
  have B1 := Lib.hid b1
  have R1 := Lib.hid r1
  have Q1 := Lib.hid q1
  have HPL := Lib.hid hpl
  have HSL := Lib.hid hSl
  have HW1 : Hid (w1 = ((w.alloc (.cells #[.pointer (some ⟨p, 0, none⟩)] 136)).alloc (.cells #[.int .u8 0, .bool false, .slice none 0 0, .slice none 0 0, .slice none 0 0] 37)).alloc (.cells #[.int .u8 0, .bool false, .slice none 0 0, .slice none 0 0, .slice none 0 0] 37)) := Lib.hid (by rw [hw1, hwy, hw0])
  have hld := Has.cellAt g1 (i := 0) rfl
  clear h hB hlim hl hne g1 b1 r1 q1 hpl hSl hw1 hw0 hwy s0 sy
  obtain ⟨G, hG⟩ : ∃ G, G = chgE .drop l 1 t a b := ⟨_, rfl⟩
  rw [← hG] at HCH ⊢
  clear hG
  have hmf : ∀ (fn : Fn) (first cap : Array Value) (w : World), (Instr.makeFunc fn first cap).run Tryz.prog w = .ok (.func fn first cap) w := fun _ _ _ _ => rfl
  go_enter Tryz.func112, Tryz.ntmps112
  go_upto_region 2 with fail
  rw [← HW1.out]
  go_wp2_with fail
  refine HCH.out.mono ?_
  intro e w2 h2
  obtain ⟨e1, hfp, hfe, hwq⟩ := h2
  have hsz : w.heap.size + 1 + 1 < w1.heap.size := Q1.out.lt
  have hft := top_fr B1.out (fun g hg => by
    simp only [List.mem_cons, List.not_mem_nil, or_false] at hg
    omega) hfp
  subst e1
  have hr2 : Has w2 (w.heap.size + 1) zK 37 := has_fr R1.out hfp (fun hm => by
    simp only [List.mem_cons, List.mem_append, List.not_mem_nil, or_false] at hm
    have := HPL.out
    rcases hm with h | h | h | h
    · omega
    · omega
    · have := HSL.out _ h; omega
    · omega)
  have hgot : ∃ gcs, Has w2 (w.heap.size + 1 + 1) gcs 37 ∧ gcs.length = 5 ∧ gcs.toArray.all (·.oneCell') = true ∧ (G.1 = 0 → ∃ S' Sg, WK w2 B p G.2.1 G.2.2.1 G.2.2.2 S' ∧ (∀ g ∈ S', g ∈ S ∨ w1.heap.size ≤ g) ∧ MT w2 B gcs (getE l t) Sg ∧ (∀ g ∈ Sg, g ∈ S ∧ g ∉ S')) := by
    by_cases h0 : G.1 = 0
    · obtain ⟨S', k1, k2, k3⟩ := wk_of (hwq h0)
      obtain ⟨gcs, Sg, m1, m2, m3, m4⟩ := k3 _ rfl
      refine ⟨gcs, m1, m2.five, ?_, fun _ => ⟨S', Sg, k1, fun g hg => ?_, m2, fun g hg => ⟨m3 g hg, m4 g hg⟩⟩⟩
      · rw [Array.all_eq_true_iff_forall_mem]
        intro u hu
        exact m2.one u (by simpa using hu)
      · rcases k2 g hg with h | h | h
        · exact .inl h
        · cases h
        · exact .inr h
    · refine ⟨zK, has_fr Q1.out (hfe h0) (fun hm => ?_), rfl, by decide +kernel, fun h => absurd h h0⟩
      simp only [List.mem_cons] at hm
      have := HPL.out
      rcases hm with h | h | h
      · omega
      · omega
      · have := HSL.out _ h; omega
  obtain ⟨gcs, hgc, hg5, hg1, hgo⟩ := hgot
  obtain ⟨D, hD⟩ : ∃ D, D = G.1 := ⟨_, rfl⟩
  rw [← hD]
  have HD := Lib.hid hD
  have HGO := Lib.hid hgo
  have HGR : Hid (w2.heap[w.heap.size + 1 + 1]? = some (.cells gcs.toArray 37 (0, 0))) := Lib.hid hgc
  have HRR : Hid (w2.heap[w.heap.size + 1]? = some (.cells zK.toArray 37 (0, 0))) := Lib.hid hr2
  have HG5 := Lib.hid (infoL hg5)
  have HGS : Hid (zK.toArray.size = gcs.toArray.size) := Lib.hid (by simp [zK, hg5])
  have HG1 := Lib.hid hg1
  have HGL := Lib.hid hg5
  have HFIN : Hid (DropP w B p S (getE l t) G (.returned (.tuple #[.agg gcs.toArray, .int .i64 (D : Int)])) (w2.setRow (w.heap.size + 1) gcs.toArray)) := Lib.hid (by
    have hf3 : Fr [w.heap.size + 1] w2 (w2.setRow (w.heap.size + 1) gcs.toArray) := (Fr.refl _ _).setRow (.inl (by simp)) _
    have hr3 : Rows w2 [w.heap.size + 1] := Rows.cons hr2 (by decide) (Rows.nil _)
    have hnp : p ∉ [w.heap.size + 1] := fun hm => by simp only [List.mem_cons, List.not_mem_nil, or_false] at hm; have := HPL.out; omega
    have hn1 : ∀ g, g ∈ S ∨ w1.heap.size ≤ g → g ∉ [w.heap.size + 1] := fun g hg hm => by
      simp only [List.mem_cons, List.not_mem_nil, or_false] at hm
      rcases hg with h | h
      · have := HSL.out g h; omega
      · omega
    have hft3 : Fr (p :: S) w (w2.setRow (w.heap.size + 1) gcs.toArray) := hft.trans hf3 (fun g hg hl => by simp only [List.mem_cons, List.not_mem_nil, or_false] at hg; omega)
    refine ⟨gcs, by rw [hD], hg5, hg1, hft3, fun h0 => ?_⟩
    obtain ⟨S', Sg, k1, k2, k3, k4⟩ := hgo h0
    exact ⟨S', Sg, k1.fr hf3 hr3 hnp (fun g hg => hn1 g (k2 g hg)), fun g hg => (k2 g hg).imp id (fun h => by omega), k3.frame hf3 hr3 (fun g hg => hn1 g (.inl (k4 g hg).1)), k4⟩)
  clear hgo hgc hr2 hg5 hg1 hfp hfe hwq hD hft hsz
  go_wp2_with (first
    | (refine wpList_load_row rfl 37 _ rfl (w.heap.size + 1 + 1) rfl 37 gcs.toArray (0, 0) _ HGR.out Tryz.underlying37 rfl HG5.out ?_)
    | (refine wpList_store_row rfl 37 _ _ rfl (w.heap.size + 1) gcs.toArray rfl rfl 37 zK.toArray HRR.out HG5.out HGS.out HG1.out ?_))
  refine bodyPost_ret (results_ct (fn := Tryz.f112) (p := 4) (u := 5) (ty := 37) Tryz.results112 _ _ (w.heap.size + 1) 37 gcs.toArray (0, 0) _ rfl (setRow_heap _ _ _ _ _ _ HRR.out) Tryz.underlying37 rfl HG5.out) rfl ?_
  exact HFIN.out

end Go.Proofs.YtlccdenafnekjaaGreatDoor
namespace Go.Proofs.YtlccdenafnekjaaGreatDoor
open Go.RowKit
set_option linter.unusedVariables false

theorem cell_block {w w' : World} {p : Addr} (h : w'.heap[p.block]? = w.heap[p.block]?) : w'.cell? p = w.cell? p := by
  unfold World.cell?
  rw [h]
theorem IsS.fr {F : List Nat} {w w' : World} {a : Option Addr} {n c : Nat} {l : List ByteArray} (h : IsS w a n c l) (hf : Fr F w w') (hd : ∀ x, a = some x → x.block ∉ F) : IsS w' a n c l := by
  refine ⟨h.length, ?_, h.nil, h.room⟩
  rcases h.at_ with h0 | ⟨b, off, rfl, hb, hc⟩
  · exact .inl h0
  · exact .inr ⟨b, off, rfl, Nat.lt_of_lt_of_le hb hf.size, fun i hi => (cell_block (p := ⟨b, off + i, none⟩) (hf.block b hb (hd _ rfl))).trans (hc i hi)⟩

/-- The error of a path that may not be the root's, and its names. -/
def belN (s : List UInt8) : Nat := if 400 < s.length then 2 else if s = [] then 1 else if (pieces s).all tName = true then 0 else 4
def nmE (s : List UInt8) : List ByteArray := (pieces s).map fun p => ⟨p.toArray⟩
theorem nmE_of {l : List ByteArray} {s : List UInt8} (h : l.map (·.data.toList) = pieces s) : l = nmE s := by
  unfold nmE
  rw [← h, List.map_map]
  conv => lhs; rw [← List.map_id l]
  exact List.map_congr_left fun x _ => by cases x; rfl
theorem nmE_ne (s : List UInt8) : nmE s ≠ [] := by
  unfold nmE
  intro h
  have hp : pieces s ≠ [] := by
    cases s with
    | nil => simp [pieces]
    | cons c t =>
      unfold pieces
      split
      · simp
      · split <;> simp
  exact hp (List.map_eq_nil_iff.1 h)
theorem nmE_names {s : List UInt8} (h : belN s = 0) : ∀ x ∈ nmE s, tName x.data.toList = true := by
  unfold belN at h
  split at h
  · cases h
  · split at h
    · cases h
    · split at h
      · rename_i h3
        intro x hx
        obtain ⟨p, hp, rfl⟩ := List.mem_map.1 hx
        exact (List.all_eq_true.1 h3) p hp
      · cases h

/-- What below tells. -/
def BelP (s : List UInt8) (w : World) (e : Ending) (w' : World) : Prop :=
  ∃ a n c l, IsS w' a n c l ∧ e = .returned (.tuple #[.slice a n c, .int .i64 (belN s : Int)]) ∧ (belN s = 0 → l = nmE s) ∧ (∀ x, a = some x → w.heap.size ≤ x.block) ∧ Below w.heap.size w w'

set_option maxRecDepth 100000 in
set_option maxHeartbeats 4000000 in
theorem below_any (s : ByteArray) (w : World) (hm : MaxW w) : Calls Tryz.prog 107 #[.string s] w (BelP s.data.toList w) := by
  obtain ⟨L, hL⟩ : ∃ L, L = s.data.toList := ⟨_, rfl⟩
  have HS := Lib.hid (split_any s w hm)
  rw [← hL] at HS ⊢
  clear hL hm
  by_cases h1 : 400 < L.length
  · have hsp : splitT L = ([], 2) := by unfold splitT; rw [if_pos h1]
    have hbn : belN L = 2 := by unfold belN; rw [if_pos h1]
    have HBN := Lib.hid hbn
    rw [hsp] at HS
    clear hsp hbn h1
    go_enter Tryz.func107, Tryz.ntmps107
    go_wp2_with fail
    refine HS.out.mono ?_
    rintro e w1 ⟨⟨a, n, c, l, hl, hml, rfl, ho⟩, hb⟩
    have HL := Lib.hid hl
    have HO := Lib.hid ho
    have HB := Lib.hid hb
    clear hl hml ho hb
    go_wp2_with fail
    go_ret2
    exact ⟨a, n, c, l, HL.out, by rw [HBN.out]; rfl, (fun h => by rw [HBN.out] at h; cases h), HO.out, HB.out⟩
  · by_cases h2 : L = []
    · have hsp : splitT L = ([], 0) := by unfold splitT; rw [if_neg h1, if_pos h2]
      have hbn : belN L = 1 := by unfold belN; rw [if_neg h1, if_pos h2]
      have HBN := Lib.hid hbn
      rw [hsp] at HS
      clear hsp hbn h1 h2
      go_enter Tryz.func107, Tryz.ntmps107
      go_wp2_with fail
      refine HS.out.mono ?_
      rintro e w1 ⟨⟨a, n, c, l, hl, hml, rfl, ho⟩, hb⟩
      have hl0 : l = [] := List.map_eq_nil_iff.1 hml
      have hn0 : n = 0 := by rw [← hl.length, hl0]; rfl
      subst hn0
      have HB := Lib.hid hb
      clear hl hml ho hb hl0
      go_wp2_with fail
      go_ret2
      exact ⟨none, 0, 0, [], ⟨rfl, .inl rfl, fun _ => ⟨rfl, rfl⟩, Nat.le_refl _, Nat.zero_le _⟩, by rw [HBN.out]; rfl, (fun h => by rw [HBN.out] at h; cases h), (fun x hx => by cases hx), HB.out⟩
    · by_cases h3 : (pieces L).all tName = true
      · have hsp : splitT L = (pieces L, 0) := by unfold splitT; rw [if_neg h1, if_neg h2, if_pos h3]
        have hbn : belN L = 0 := by unfold belN; rw [if_neg h1, if_neg h2, if_pos h3]
        have HBN := Lib.hid hbn
        rw [hsp] at HS
        clear hsp hbn h1 h2 h3
        go_enter Tryz.func107, Tryz.ntmps107
        go_wp2_with fail
        refine HS.out.mono ?_
        rintro e w1 ⟨⟨a, n, c, l, hl, hml, rfl, ho⟩, hb⟩
        have hln : l = nmE L := nmE_of hml
        have hn0 : ¬ n = 0 := by
          rw [← hl.length, hln]
          exact fun h => nmE_ne L (List.eq_nil_of_length_eq_zero h)
        have HL := Lib.hid hl
        have HO := Lib.hid ho
        have HB := Lib.hid hb
        have HLN := Lib.hid hln
        clear hl hml ho hb hln
        go_wp2_with fail
        go_ret2
        exact ⟨a, n, c, l, HL.out, by rw [HBN.out]; rfl, fun _ => HLN.out, HO.out, HB.out⟩
      · have hsp : splitT L = ([], 4) := by unfold splitT; rw [if_neg h1, if_neg h2, if_neg h3]
        have hbn : belN L = 4 := by unfold belN; rw [if_neg h1, if_neg h2, if_neg h3]
        have HBN := Lib.hid hbn
        rw [hsp] at HS
        clear hsp hbn h1 h2 h3
        go_enter Tryz.func107, Tryz.ntmps107
        go_wp2_with fail
        refine HS.out.mono ?_
        rintro e w1 ⟨⟨a, n, c, l, hl, hml, rfl, ho⟩, hb⟩
        have HL := Lib.hid hl
        have HO := Lib.hid ho
        have HB := Lib.hid hb
        clear hl hml ho hb
        go_wp2_with fail
        go_ret2
        exact ⟨a, n, c, l, HL.out, by rw [HBN.out]; rfl, (fun h => by rw [HBN.out] at h; cases h), HO.out, HB.out⟩

/-- Does a path stand in another one? -/
def withB (l m : List ByteArray) : Bool := decide (m.length < l.length ∧ l.take m.length = m)

set_option maxRecDepth 100000 in
set_option maxHeartbeats 4000000 in
theorem within_any {w : World} {a1 a2 : Option Addr} {n1 c1 n2 c2 : Nat} {l m : List ByteArray} (h1 : IsS w a1 n1 c1 l) (h2 : IsS w a2 n2 c2 m) (hne : m ≠ []) :
    Calls Tryz.prog 133 #[.slice a1 n1 c1, .slice a2 n2 c2] w fun e w' => e = .returned (.bool (withB l m)) ∧ Below w.heap.size w w' := by
  have e1 := h1.length
  have e2 := h2.length
  have r1 := h1.room
  have r2 := h2.room
  unfold maxLen at r1 r2
  have hn2 : ¬ n2 = 0 := fun e => hne (List.eq_nil_of_length_eq_zero (by omega))
  by_cases hlt : n2 < n1
  · obtain ⟨b1, o1, rfl, hb1, hc1⟩ : ∃ b off, a1 = some ⟨b, off, none⟩ ∧ b < w.heap.size ∧ ∀ i, i < n1 → w.cell? ⟨b, off + i, none⟩ = some (.string (l.getD i ⟨#[]⟩)) := by
      rcases h1.at_ with h0 | h
      · omega
      · exact h
    obtain ⟨b2, o2, rfl, hb2, hc2⟩ : ∃ b off, a2 = some ⟨b, off, none⟩ ∧ b < w.heap.size ∧ ∀ i, i < n2 → w.cell? ⟨b, off + i, none⟩ = some (.string (m.getD i ⟨#[]⟩)) := by
      rcases h2.at_ with h0 | h
      · omega
      · exact h
    have hw : withB l m = decide (l.take n2 = m.take n2) := by
      unfold withB
      rw [e2, List.take_of_length_le (show m.length ≤ n2 by omega)]
      simp only [e1, hlt, true_and]
    have HQ := Lib.hid (Tryz.slices_Equal_string b1 o1 n2 c1 b2 o2 n2 c2 l m w (by omega) (by omega) (by omega) (by omega) (fun j hj => hc1 j (by omega)) (fun j hj => hc2 j (by omega)))
    rw [← hw] at HQ
    have hi : (n2 : Int) < (n1 : Int) := by omega
    have hi2 : (n2 : Int) ≤ (c1 : Int) := by omega
    have hi3 : n2 ≤ c1 := by omega
    clear h1 h2 hne e1 e2 hc1 hc2 hw hb1 hb2
    obtain ⟨V, hV⟩ : ∃ V, V = withB l m := ⟨_, rfl⟩
    rw [← hV] at HQ ⊢
    clear hV
    go_enter Tryz.func133, Tryz.ntmps133
    go_wp2_with (refine HQ.out.mono ?_; rintro e w1 ⟨rfl, q, rfl⟩)
    go_ret
    exact ⟨by cases V <;> rfl, ⟨rfl, rfl, rfl, Nat.le_refl _, fun _ _ => rfl⟩⟩
  · have hw : withB l m = false := by
      unfold withB
      simp only [decide_eq_false_iff_not]
      rintro ⟨h, _⟩
      omega
    have hi : ¬ (n2 : Int) < (n1 : Int) := by omega
    rw [hw]
    clear h1 h2 hne e1 e2 hw r1 r2
    go_enter Tryz.func133, Tryz.ntmps133
    go_wp2_with fail
    go_ret
    exact ⟨rfl, Below.refl _ _⟩

/-- What an edit of a tree that is worked on tells, and leaves. -/
def OpP (w : World) (B p : Nat) (S : List Nat) (r : ER) (e : Ending) (w' : World) : Prop :=
  e = .returned (.int .i64 (r.1 : Int)) ∧ Fr (p :: S) w w' ∧ (r.1 = 0 → ∃ S', WK w' B p r.2.1 r.2.2.1 r.2.2.2 S' ∧ (∀ g ∈ S', g ∈ S ∨ w.heap.size ≤ g))

theorem OpP.of_top {w : World} {B p : Nat} {S : List Nat} {gt : T} {r : ER} {w' : World} (h : TopP w B p S [] none gt r w') : OpP w B p S r (.returned (.int .i64 (r.1 : Int))) w' :=
  ⟨rfl, h.1, fun h0 => by
    obtain ⟨S', k1, k2, _⟩ := h.2 h0
    exact ⟨S', k1, fun g hg => by
      rcases k2 g hg with h | h | h
      · exact .inl h
      · cases h
      · exact .inr h⟩⟩

def moveE (l m : List ByteArray) (t : T) (a b : Nat) : ER :=
  if (chgE .drop l 1 t a b).1 ≠ 0 then chgE .drop l 1 t a b else if withB l m || withB m l then (10, (chgE .drop l 1 t a b).2)
  else chgE (.put (getE l t)) m 1 (chgE .drop l 1 t a b).2.1 (chgE .drop l 1 t a b).2.2.1 (chgE .drop l 1 t a b).2.2.2

set_option maxRecDepth 100000 in
set_option maxHeartbeats 8000000 in
theorem move_any {w : World} {B p a b : Nat} {t : T} {S : List Nat} {na ma : Option Addr} {n c n' c' : Nat} {l m : List ByteArray} (h : WK w B p t a b S) (hB : B ≤ w.heap.size) (hlim : Lim t 1 a b) (hl : IsS w na n c l) (hne : l ≠ []) (hnm : ∀ x ∈ l, tName x.data.toList = true)
    (hml : IsS w ma n' c' m) (hme : m ≠ []) (hd1 : ∀ x, na = some x → x.block ∉ p :: S) (hd2 : ∀ x, ma = some x → x.block ∉ p :: S) :
    Calls Tryz.prog 111 #[.pointer (some ⟨p, 0, none⟩), .slice na n c, .slice ma n' c'] w (OpP w B p S (moveE l m t a b)) := by
  obtain ⟨D, hD⟩ : ∃ D, D = chgE .drop l 1 t a b := ⟨_, rfl⟩
  have hmv : (D.1 ≠ 0 → moveE l m t a b = D) ∧ (D.1 = 0 → (withB l m || withB m l) = true → moveE l m t a b = (10, D.2)) ∧ (D.1 = 0 → (withB l m || withB m l) = false → moveE l m t a b = chgE (.put (getE l t)) m 1 D.2.1 D.2.2.1 D.2.2.2) := by
    unfold moveE
    rw [← hD]
    refine ⟨fun h => by rw [if_pos h], fun h h2 => by rw [if_neg (by simp [h]), if_pos h2], fun h h2 => by rw [if_neg (by simp [h]), if_neg (by simp [h2])]⟩
  have hdone : D.1 = 0 → Lim D.2.1 1 D.2.2.1 D.2.2.2 ∧ ∃ dep', Lim (getE l t) dep' a b := fun h0 => by
    rw [hD] at h0 ⊢
    exact ⟨(chg_done .drop (fun k hk => by cases hk) l hnm t 1 a b hlim h0).lim hlim, get_lim l t 1 a b hlim h0⟩
  have HDR := Lib.hid (drop_any h hB hlim hl hne)
  rw [← hD] at HDR
  have hrow : Rows w (p :: S) := by
    obtain ⟨R, hh⟩ := h
    exact Rows.cons hh.hR (by decide) hh.mt.rows
  have HNP : Hid (p ∉ S) := Lib.hid (by
    obtain ⟨R, hh⟩ := h
    exact hh.np)
  have HMV := Lib.hid hmv
  have HDN := Lib.hid hdone
  have HL := Lib.hid hl
  have HM := Lib.hid hml
  have HNE := Lib.hid hne
  have HME := Lib.hid hme
  have HD1 := Lib.hid hd1
  have HD2 := Lib.hid hd2
  have HB := Lib.hid hB
  obtain ⟨M, hM⟩ : ∃ M, M = moveE l m t a b := ⟨_, rfl⟩
  rw [← hM] at HMV ⊢
  clear h hB hlim hl hne hnm hml hme hd1 hd2 hD hmv hdone hrow hM
  go_enter Tryz.func111, Tryz.ntmps111
  go_wp2_with fail
  refine HDR.out.mono ?_
  rintro e w2 ⟨gcs, rfl, hg5, hg1, hf, hok⟩
  obtain ⟨Dc, hDc⟩ : ∃ Dc, Dc = D.1 := ⟨_, rfl⟩
  rw [← hDc]
  have HDC := Lib.hid hDc
  obtain ⟨w3, hw3⟩ : ∃ w3, w3 = (w2.alloc (.cells #[.int .u8 0, .bool false, .slice none 0 0, .slice none 0 0, .slice none 0 0] 37)).setRow w2.heap.size gcs.toArray := ⟨_, rfl⟩
  have HN : Hid ((w2.alloc (.cells #[.int .u8 0, .bool false, .slice none 0 0, .slice none 0 0, .slice none 0 0] 37)).heap[w2.heap.size]? = some (.cells zK.toArray 37 (0, 0))) := Lib.hid (Has.new w2 zK _)
  have b3 : Below w2.heap.size w2 w3 := by rw [hw3]; exact below_setRow ((Below.refl _ _).alloc (Nat.le_refl _) _) (Nat.le_refl _) _
  have g3 : Hid (w3.heap[w2.heap.size]? = some (.cells gcs.toArray 37 (0, 0))) := Lib.hid (by rw [hw3]; exact setRow_heap _ _ _ _ _ _ HN.out)
  have HG5 := Lib.hid (infoL hg5)
  have HGS : Hid (zK.toArray.size = gcs.toArray.size) := Lib.hid (by simp [zK, hg5])
  have HG1 := Lib.hid hg1
  have HF := Lib.hid hf
  have HOK := Lib.hid hok
  have B3 := Lib.hid b3
  have F3 : Hid (Fr (p :: S) w w3) := Lib.hid (hf.trans (Fr.of_below (S := []) b3) (fun g hg => by cases hg))
  have HW3 := Lib.hid hw3
  clear hDc b3 hg5 hg1 hf hok hw3
  go_upto_region 2 with (refine wpList_store_row rfl 37 _ _ rfl w2.heap.size gcs.toArray rfl rfl 37 zK.toArray HN.out HG5.out HGS.out HG1.out ?_)
  rw [← HW3.out]
  by_cases h0 : Dc = 0
  · have hd0 : D.1 = 0 := by rw [← HDC.out]; exact h0
    obtain ⟨S', Sg, k1, k2, k3, k4⟩ := HOK.out hd0
    obtain ⟨hl3, dep', hgl⟩ := HDN.out hd0
    have WK3 := Lib.hid (k1.later B3.out)
    have MT3 := Lib.hid (k3.later B3.out)
    have K2 := Lib.hid k2
    have K4 := Lib.hid k4
    have L3 := Lib.hid hl3
    have GL := Lib.hid hgl
    have IL := Lib.hid (HL.out.fr F3.out HD1.out)
    have IM := Lib.hid (HM.out.fr F3.out HD2.out)
    have hmv2 := HMV.out.2.1 hd0
    have hmv3 := HMV.out.2.2 hd0
    have HV2 := Lib.hid hmv2
    have HV3 := Lib.hid hmv3
    subst h0
    clear k1 k2 k3 k4 hl3 hgl hmv2 hmv3 hd0
    obtain ⟨V1, hV1⟩ : ∃ V1, V1 = withB l m := ⟨_, rfl⟩
    obtain ⟨V2, hV2⟩ : ∃ V2, V2 = withB m l := ⟨_, rfl⟩
    have HC1 := Lib.hid (within_any IL.out IM.out HME.out)
    have HC2 := Lib.hid (fun (W : World) (hW : Below w3.heap.size w3 W) => within_any (IM.out.later hW) (IL.out.later hW) HNE.out)
    rw [← hV1] at HC1 HV2 HV3
    rw [← hV2] at HC2 HV2 HV3
    clear hV1 hV2
    go_wp2_with fail
    refine HC1.out.mono ?_
    rintro e w4 ⟨rfl, hb4⟩
    have B4 := Lib.hid hb4
    have HC2' := Lib.hid (HC2.out w4 hb4)
    clear hb4
    rcases Bool.eq_false_or_eq_true V1 with rfl | rfl
    · go_wp2_with fail
      go_ret
      rw [HV2.out (by rfl)]
      exact ⟨rfl, F3.out.trans (Fr.of_below (S := []) B4.out) (fun g hg => by cases hg), fun h => by simp at h⟩
    · go_wp2_with (refine HC2'.out.mono ?_)
      rintro e w5 ⟨rfl, hb5⟩
      have B5 := Lib.hid (B4.out.trans (hb5.mono B4.out.size))
      clear hb5
      rcases Bool.eq_false_or_eq_true V2 with rfl | rfl
      · go_wp2_with fail
        go_ret
        rw [HV2.out (by rfl)]
        exact ⟨rfl, F3.out.trans (Fr.of_below (S := []) B5.out) (fun g hg => by cases hg), fun h => by simp at h⟩
      · have g5 : Hid (w5.heap[w2.heap.size]? = some (.cells gcs.toArray 37 (0, 0))) := Lib.hid ((B5.out.block _ ((Array.getElem?_eq_some_iff.1 g3.out).1)).trans g3.out)
        have hsz := GL.out.small
        have HPT := Lib.hid (put_any (Sx := Sg) (tt := getE l t) (ct := gcs) (WK3.out.later B5.out) (Nat.le_trans HB.out (Nat.le_trans F3.out.size B5.out.size)) L3.out (IM.out.later B5.out) HME.out (MT3.out.later B5.out) (fun g hg => ⟨(K4.out g hg).2, fun e => HNP.out (e ▸ (K4.out g hg).1)⟩) hsz.1 GL.out.size (by omega))
        clear hsz
        have hv3 := HV3.out (by rfl)
        obtain ⟨G, hG⟩ : ∃ G, G = chgE (.put (getE l t)) m 1 D.2.1 D.2.2.1 D.2.2.2 := ⟨_, rfl⟩
        rw [← hG] at hv3 HPT
        have HVG := Lib.hid hv3
        clear hG hv3
        go_wp2_with (refine wpList_load_row rfl 37 _ rfl w2.heap.size rfl 37 gcs.toArray (0, 0) _ g5.out Tryz.underlying37 rfl HG5.out ?_)
        refine HPT.out.mono ?_
        rintro e w6 ⟨rfl, hf6, hok6⟩
        obtain ⟨E6, hE6⟩ : ∃ E6, E6 = G.1 := ⟨_, rfl⟩
        rw [← hE6] at hok6 ⊢
        have HE6 := Lib.hid hE6
        have HF6 := Lib.hid hf6
        have HO6 := Lib.hid hok6
        clear hE6 hf6 hok6
        go_wp2_with fail
        go_ret
        rw [HVG.out]
        have hsz5 : w.heap.size ≤ w5.heap.size := Nat.le_trans F3.out.size B5.out.size
        refine ⟨by rw [← HE6.out]; rfl, (F3.out.trans (Fr.of_below (S := []) B5.out) (fun g hg => by cases hg)).trans HF6.out (fun g hg hl => ?_), fun hz => ?_⟩
        · rcases List.mem_cons.1 hg with h1 | h1
          · exact List.mem_cons.2 (.inl h1)
          · rcases K2.out g h1 with h2 | h2
            · exact List.mem_cons_of_mem _ h2
            · omega
        · obtain ⟨S2, q1, q2, _⟩ := HO6.out (by rw [HE6.out]; exact hz)
          refine ⟨S2, q1, fun g hg => ?_⟩
          rcases q2 g hg with h1 | h1 | h1
          · exact K2.out g h1
          · exact .inl (K4.out g h1).1
          · exact .inr (by omega)
  · have h0i : ¬ ((Dc : Int) = 0) := by omega
    have hd0 : D.1 ≠ 0 := by rw [← HDC.out]; exact h0
    have hmv1 := HMV.out.1 hd0
    have HV1 := Lib.hid hmv1
    have HD0 := Lib.hid hd0
    clear hmv1 hd0
    go_wp2_with fail
    go_ret
    rw [HV1.out]
    exact ⟨by rw [← HDC.out]; rfl, F3.out, fun h => absurd h HD0.out⟩

end Go.Proofs.YtlccdenafnekjaaGreatDoor
namespace Go.Proofs.YtlccdenafnekjaaGreatDoor
open Go.RowKit
set_option linter.unusedVariables false

/-- An edit: what it does, where, from where, a tree. -/
structure EdD where
  kind : UInt8
  path : ByteArray
  src : ByteArray
  tree : T

/-- Eight cells that read as an edit. -/
def IsX (w : World) (m : Nat) (cs : List Value) (x : EdD) : Prop := ∃ ct, cs = [.int .u8 (x.kind.toNat : Int), .string x.path, .string x.src] ++ ct ∧ IsT w m ct x.tree

/-- A tree behind an edit. -/
def applyE (x : EdD) (t : T) (a b : Nat) : ER :=
  if belN x.path.data.toList ≠ 0 then (belN x.path.data.toList, t, a, b)
  else if x.kind = 1 then chgE .mk (nmE x.path.data.toList) 1 t a b
  else if x.kind = 2 then (if (sizeT x.tree).isSome then chgE (.put x.tree) (nmE x.path.data.toList) 1 t a b else (3, t, a, b))
  else if x.kind = 3 then (if belN x.src.data.toList ≠ 0 then (belN x.src.data.toList, t, a, b) else moveE (nmE x.src.data.toList) (nmE x.path.data.toList) t a b)
  else if x.kind = 4 then chgE .drop (nmE x.path.data.toList) 1 t a b
  else (3, t, a, b)

theorem op_of {w wz w' : World} {B p : Nat} {S Sx : List Nat} {gt : T} {r : ER} (hb : Below w.heap.size w wz) (hSx : ∀ g ∈ Sx, w.heap.size ≤ g) (h : TopP wz B p S Sx none gt r w') : OpP w B p S r (.returned (.int .i64 (r.1 : Int))) w' :=
  ⟨rfl, ((Fr.of_below (S := []) hb).mono (fun g hg _ => by cases hg)).trans h.1 (fun g hg _ => hg), fun h0 => by
    obtain ⟨S', k1, k2, _⟩ := h.2 h0
    exact ⟨S', k1, fun g hg => by
      rcases k2 g hg with h | h | h
      · exact .inl h
      · exact .inr (hSx g h)
      · exact .inr (Nat.le_trans hb.size h)⟩⟩
theorem op_below {w wz w' : World} {B p : Nat} {S : List Nat} {r : ER} {e : Ending} (hb : Below w.heap.size w wz) (h : OpP wz B p S r e w') : OpP w B p S r e w' :=
  ⟨h.1, ((Fr.of_below (S := []) hb).mono (fun g hg _ => by cases hg)).trans h.2.1 (fun g hg _ => hg), fun h0 => by
    obtain ⟨S', k1, k2⟩ := h.2.2 h0
    exact ⟨S', k1, fun g hg => (k2 g hg).imp id (fun h => Nat.le_trans hb.size h)⟩⟩
theorem op_err {w w' : World} {B p : Nat} {S : List Nat} {t : T} {a b c : Nat} (hb : Below w.heap.size w w') (hc : c ≠ 0) : OpP w B p S (c, t, a, b) (.returned (.int .i64 (c : Int))) w' :=
  ⟨rfl, (Fr.of_below (S := []) hb).mono (fun g hg _ => by cases hg), fun h => absurd h hc⟩

theorem sizeT_get {t : T} (h : (sizeT t).isSome = true) : sizeT t = some (sizeN t, bytesT t) ∧ fmA t ∧ Small t ∧ sizeN t ≤ 4096 := by
  obtain ⟨⟨x, y⟩, hx⟩ := Option.isSome_iff_exists.1 h
  obtain ⟨h1, h2, h3, h4, rfl, rfl⟩ := (sizeT_iff t x y).1 hx
  exact ⟨hx, h1, small_of _ t (Nat.le_refl _) h1 h4 (by omega), h3⟩

set_option maxRecDepth 100000 in
set_option maxHeartbeats 20000000 in
theorem apply_any {w : World} {B p a b m : Nat} {t : T} {S : List Nat} {cs : List Value} {x : EdD} (h : WK w B p t a b S) (hB : B ≤ w.heap.size) (hlim : Lim t 1 a b) (hx : IsX w m cs x) (hm : MaxW w) (hmx : 1 < B) :
    Calls Tryz.prog 89 #[.pointer (some ⟨p, 0, none⟩), .agg cs.toArray] w (OpP w B p S (applyE x t a b)) := by
  obtain ⟨k, path, src, tt⟩ := x
  obtain ⟨ct, rfl, hT⟩ := hx
  obtain ⟨c0, c1, c2, c3, c4, rfl⟩ := five_list (isT_five hT)
  obtain ⟨E8, hE8⟩ : ∃ E8, E8 = ([.int .u8 (k.toNat : Int), .string path, .string src, c0, c1, c2, c3, c4] : List Value) := ⟨_, rfl⟩
  rw [show ([.int .u8 (k.toNat : Int), .string path, .string src] ++ [c0, c1, c2, c3, c4] : List Value) = E8 from hE8.symm]
  obtain ⟨w1, hw1⟩ : ∃ w1, w1 = w.alloc (.cells E8.toArray 90) := ⟨_, rfl⟩
  have b1 : Below w.heap.size w w1 := by rw [hw1]; exact (Below.refl _ _).alloc (Nat.le_refl _) _
  have g1 : Has w1 w.heap.size E8 90 := by rw [hw1]; exact Has.new w E8 _
  have m1 : MaxW w1 := hm.below b1 (Nat.lt_of_lt_of_le hmx hB)
  have hlt := h.lt
  -- what the edit does
  obtain ⟨P, hP⟩ : ∃ P, P = path.data.toList := ⟨_, rfl⟩
  obtain ⟨Q, hQ⟩ : ∃ Q, Q = src.data.toList := ⟨_, rfl⟩
  obtain ⟨V, hV⟩ : ∃ V, V = applyE ⟨k, path, src, tt⟩ t a b := ⟨_, rfl⟩
  have hVu : V = if belN P ≠ 0 then (belN P, t, a, b) else if k = 1 then chgE .mk (nmE P) 1 t a b else if k = 2 then (if (sizeT tt).isSome then chgE (.put tt) (nmE P) 1 t a b else (3, t, a, b))
      else if k = 3 then (if belN Q ≠ 0 then (belN Q, t, a, b) else moveE (nmE Q) (nmE P) t a b) else if k = 4 then chgE .drop (nmE P) 1 t a b else (3, t, a, b) := by rw [hV, hP, hQ]; rfl
  rw [← hV]
  have HVU := Lib.hid hVu
  have HBEL := Lib.hid (below_any path w1 m1)
  rw [← hP] at HBEL
  have HBEQ := Lib.hid (fun (W : World) (hW : MaxW W) => below_any src W hW)
  rw [← hQ] at HBEQ
  have H := Lib.hid h
  have HB := Lib.hid hB
  have HLIM := Lib.hid hlim
  have HT := Lib.hid hT
  have HMX := Lib.hid hmx
  have HLT := Lib.hid hlt
  have B1 := Lib.hid b1
  have G1 := Lib.hid g1
  have M1 := Lib.hid m1
  have HW1 := Lib.hid hw1
  have HE8 := Lib.hid hE8
  have hq1 := Has.cellAt g1 (i := 1) (v := .string path) (by rw [hE8]; rfl)
  have HI5 : Hid ((Tryz.prog.info? 37).map (·.size) = some ([c0, c1, c2, c3, c4] : List Value).length) := Lib.hid (by kernel_rfl)
  clear h hB hlim hT hm hmx hlt b1 g1 m1 hw1 hE8 hVu hV hP hQ
  go_enter Tryz.func89, Tryz.ntmps89
  go_upto_region 1 with fail
  rw [← HW1.out]
  go_wp2_with fail
  refine HBEL.out.mono ?_
  rintro e w2 ⟨a1, n1, k1, l1, hl1, rfl, hl1n, ho1, hb2⟩
  obtain ⟨bn, hbn⟩ : ∃ bn, bn = belN P := ⟨_, rfl⟩
  rw [← hbn] at hl1n ⊢
  have HBN := Lib.hid hbn
  have B2 := Lib.hid (B1.out.trans (hb2.mono B1.out.size))
  have G2 : Hid (Has w2 w.heap.size E8 90) := Lib.hid (has_fr G1.out (Fr.of_below (S := []) hb2) (by simp))
  have M2 : Hid (MaxW w2) := Lib.hid (M1.out.below hb2 (by have := HMX.out; have := HB.out; have := B1.out.size; omega))
  have HL1 := Lib.hid hl1
  have HLN := Lib.hid hl1n
  have HO1 := Lib.hid ho1
  clear hl1 hl1n ho1 hb2 hbn hq1
  by_cases h0 : bn = 0
  · subst h0
    have hln := HLN.out rfl
    subst hln
    have hnn : ∀ x ∈ nmE P, tName x.data.toList = true := nmE_names HBN.out.symm
    have HNN := Lib.hid hnn
    have hV0 : Hid (V = if k = 1 then chgE .mk (nmE P) 1 t a b else if k = 2 then (if (sizeT tt).isSome then chgE (.put tt) (nmE P) 1 t a b else (3, t, a, b))
      else if k = 3 then (if belN Q ≠ 0 then (belN Q, t, a, b) else moveE (nmE Q) (nmE P) t a b) else if k = 4 then chgE .drop (nmE P) 1 t a b else (3, t, a, b)) := Lib.hid (by rw [HVU.out, if_neg (by rw [← HBN.out]; simp)])
    have WK2 := Lib.hid (H.out.later B2.out)
    have HB2 : Hid (B ≤ w2.heap.size) := Lib.hid (Nat.le_trans HB.out B2.out.size)
    have hqk := Has.cellAt G2.out (i := 0) (v := .int .u8 (k.toNat : Int)) (by rw [HE8.out]; rfl)
    clear HVU hnn
    by_cases k1 : k = 1
    · subst k1
      have hqk' : w2.cell? ⟨w.heap.size, 0, none⟩ = some (.int .u8 1) := hqk
      clear hqk
      have hv : Hid (V = chgE .mk (nmE P) 1 t a b) := Lib.hid (by rw [hV0.out, if_pos rfl])
      have HC := Lib.hid (mkdir_any WK2.out HB2.out HLIM.out HL1.out (nmE_ne P))
      obtain ⟨G, hG⟩ : ∃ G, G = chgE .mk (nmE P) 1 t a b := ⟨_, rfl⟩
      rw [← hG] at hv HC
      clear hG
      go_wp2_with fail
      refine HC.out.mono ?_
      rintro e w3 ⟨rfl, h3⟩
      have H3 := Lib.hid (op_of B2.out (fun g hg => by cases hg) h3)
      obtain ⟨D, hD⟩ : ∃ D, D = G.1 := ⟨_, rfl⟩
      rw [← hD] at H3 ⊢
      clear hD h3
      go_wp2_with fail
      go_ret
      rw [hv.out]
      exact H3.out
    by_cases k2 : k = 2
    · subst k2
      have hqk' : w2.cell? ⟨w.heap.size, 0, none⟩ = some (.int .u8 2) := hqk
      clear hqk k1
      have R2 : Hid (w2.rangeAt w.heap.size 3 [c0, c1, c2, c3, c4]) := Lib.hid (fun j v hv => by
        have hj : j < 5 := (List.getElem?_eq_some_iff.1 hv).1
        have := Has.cellAt G2.out (i := 3 + j) (v := v) (by
          rw [HE8.out]
          match j, hj with
          | 0, _ => exact hv
          | 1, _ => exact hv
          | 2, _ => exact hv
          | 3, _ => exact hv
          | 4, _ => exact hv)
        exact this)
      have HF := Lib.hid (form_any m [c0, c1, c2, c3, c4] tt w2 (IsT.later B2.out _ _ _ HT.out))
      have hvv : Hid (V = if (sizeT tt).isSome then chgE (.put tt) (nmE P) 1 t a b else (3, t, a, b)) := Lib.hid (by rw [hV0.out, if_neg (by decide), if_pos rfl])
      obtain ⟨fb, hfb⟩ : ∃ fb, fb = (sizeT tt).isSome := ⟨_, rfl⟩
      rw [← hfb] at HF hvv
      have HFB := Lib.hid hfb
      clear hfb
      go_wp2_with (refine wpList_load_mid rfl 37 _ rfl w.heap.size 3 rfl [c0, c1, c2, c3, c4] _ R2.out Tryz.underlying37 rfl HI5.out ?_)
      refine HF.out.mono ?_
      rintro e w3 ⟨rfl, hb3⟩
      have B3 := Lib.hid hb3
      have R3 : Hid (w3.rangeAt w.heap.size 3 [c0, c1, c2, c3, c4]) := Lib.hid (fun j v hv => (hb3.cell (p := ⟨w.heap.size, 3 + j, none⟩) G2.out.lt).trans (R2.out j v hv))
      clear hb3
      rcases Bool.eq_false_or_eq_true fb with rfl | rfl
      · obtain ⟨s1, s2, s3, s4⟩ := sizeT_get HFB.out.symm
        have B3w := Lib.hid (B2.out.trans (B3.out.mono B2.out.size))
        have HCP := Lib.hid (mcopy_any m [c0, c1, c2, c3, c4] tt w3 (IsT.later B3w.out _ _ _ HT.out) s3 (by omega))
        have S1 := Lib.hid s1
        have S3 := Lib.hid s3
        have S4 := Lib.hid s4
        have hv : Hid (V = chgE (.put tt) (nmE P) 1 t a b) := Lib.hid (by rw [hvv.out, if_pos rfl])
        clear s1 s2 s3 s4 hvv
        go_wp2_with (refine wpList_load_mid rfl 37 _ rfl w.heap.size 3 rfl [c0, c1, c2, c3, c4] _ R3.out Tryz.underlying37 rfl HI5.out ?_)
        refine HCP.out.mono ?_
        rintro e w4 ⟨gcs, Sg, rfl, hmt, hSg, hb4⟩
        have B4 := Lib.hid (B3w.out.trans (hb4.mono B3w.out.size))
        have B42 := Lib.hid (B3.out.trans (hb4.mono B3.out.size))
        have hsz3 : w.heap.size ≤ w3.heap.size := B3w.out.size
        have HC := Lib.hid (put_any (WK2.out.later B42.out) (Nat.le_trans HB.out B4.out.size) HLIM.out (HL1.out.later B42.out) (nmE_ne P) (hmt.low (Nat.le_trans HB.out hsz3)) (fun g hg => ⟨fun hm => by have h1 := HLT.out.2 g hm; have h2 := hSg g hg; omega, fun e => by have h1 := HLT.out.1; have h2 := hSg g hg; omega⟩) S3.out S1.out (by have := S4.out; omega))
        have HSG : Hid (∀ g ∈ Sg, w.heap.size ≤ g) := Lib.hid (fun g hg => Nat.le_trans hsz3 (hSg g hg))
        obtain ⟨G, hG⟩ : ∃ G, G = chgE (.put tt) (nmE P) 1 t a b := ⟨_, rfl⟩
        rw [← hG] at hv HC
        clear hG hmt hSg hb4 hsz3
        go_wp2_with fail
        refine HC.out.mono ?_
        rintro e w5 ⟨rfl, h5⟩
        have H5 := Lib.hid (op_of B4.out HSG.out h5)
        obtain ⟨D, hD⟩ : ∃ D, D = G.1 := ⟨_, rfl⟩
        rw [← hD] at H5 ⊢
        clear hD h5
        go_wp2_with fail
        go_ret
        rw [hv.out]
        exact H5.out
      · have hv : Hid (V = (3, t, a, b)) := Lib.hid (by rw [hvv.out, if_neg (by simp)])
        go_wp2_with fail
        go_ret
        rw [hv.out]
        exact op_err (B2.out.trans (B3.out.mono B2.out.size)) (by decide)
    by_cases k3 : k = 3
    · subst k3
      have hqk' : w2.cell? ⟨w.heap.size, 0, none⟩ = some (.int .u8 3) := hqk
      have hqs := Has.cellAt G2.out (i := 2) (v := .string src) (by rw [HE8.out]; rfl)
      clear hqk k1 k2
      have hvv : Hid (V = if belN Q ≠ 0 then (belN Q, t, a, b) else moveE (nmE Q) (nmE P) t a b) := Lib.hid (by rw [hV0.out, if_neg (by decide), if_neg (by decide), if_pos rfl])
      have HBQ := Lib.hid (HBEQ.out w2 M2.out)
      go_wp2_with fail
      refine HBQ.out.mono ?_
      rintro e w3 ⟨a3, n3, q3, l3, hl3, rfl, hl3n, ho3, hb3⟩
      obtain ⟨bq, hbq⟩ : ∃ bq, bq = belN Q := ⟨_, rfl⟩
      rw [← hbq] at hl3n hvv ⊢
      have HBQN := Lib.hid hbq
      have B3 := Lib.hid hb3
      have B3w := Lib.hid (B2.out.trans (hb3.mono B2.out.size))
      have HL3 := Lib.hid hl3
      have HL3N := Lib.hid hl3n
      have HO3 := Lib.hid ho3
      clear hl3 hl3n ho3 hb3 hbq
      by_cases h3 : bq = 0
      · subst h3
        have hln3 := HL3N.out rfl
        subst hln3
        have hv : Hid (V = moveE (nmE Q) (nmE P) t a b) := Lib.hid (by rw [hvv.out, if_neg (by simp)])
        have hap : ∀ z, w.heap.size ≤ z → z ∉ p :: S := fun z hz hm => by
          rcases List.mem_cons.1 hm with h | h
          · have := HLT.out.1; omega
          · have := HLT.out.2 z h; omega
        have HC := Lib.hid (move_any (H.out.later B3w.out) (Nat.le_trans HB.out B3w.out.size) HLIM.out HL3.out (nmE_ne Q) (nmE_names HBQN.out.symm) (HL1.out.later B3.out) (nmE_ne P) (fun x hx => hap _ (Nat.le_trans B2.out.size (HO3.out x hx))) (fun x hx => hap _ (Nat.le_trans B1.out.size (HO1.out x hx))))
        obtain ⟨G, hG⟩ : ∃ G, G = moveE (nmE Q) (nmE P) t a b := ⟨_, rfl⟩
        rw [← hG] at hv HC
        clear hG hap
        go_wp2_with fail
        refine HC.out.mono ?_
        intro e w5 h5
        have h5e := h5.1
        subst h5e
        have H5 := Lib.hid (op_below B3w.out h5)
        obtain ⟨D, hD⟩ : ∃ D, D = G.1 := ⟨_, rfl⟩
        rw [← hD] at H5 ⊢
        clear hD h5
        go_wp2_with fail
        go_ret
        rw [hv.out]
        exact H5.out
      · have hv : Hid (V = (bq, t, a, b)) := Lib.hid (by rw [hvv.out, if_pos h3])
        have h3i : ¬ ((bq : Int) = 0) := by omega
        have H3 := Lib.hid h3
        clear h3
        go_wp2_with fail
        go_ret
        rw [hv.out]
        exact op_err B3w.out H3.out
    by_cases k4 : k = 4
    · subst k4
      have hqk' : w2.cell? ⟨w.heap.size, 0, none⟩ = some (.int .u8 4) := hqk
      clear hqk k1 k2 k3
      have hv : Hid (V = chgE .drop (nmE P) 1 t a b) := Lib.hid (by rw [hV0.out, if_neg (by decide), if_neg (by decide), if_neg (by decide), if_pos rfl])
      have HC := Lib.hid (drop_any WK2.out HB2.out HLIM.out HL1.out (nmE_ne P))
      obtain ⟨G, hG⟩ : ∃ G, G = chgE .drop (nmE P) 1 t a b := ⟨_, rfl⟩
      rw [← hG] at hv HC
      clear hG
      go_wp2_with fail
      refine HC.out.mono ?_
      rintro e w3 ⟨gcs, rfl, hg5, hg1, hf, hok⟩
      have H3 : Hid (OpP w B p S G (.returned (.int .i64 (G.1 : Int))) w3) := Lib.hid (op_below B2.out ⟨rfl, hf, fun h0 => by
        obtain ⟨S', Sg, q1, q2, _⟩ := hok h0
        exact ⟨S', q1, q2⟩⟩)
      obtain ⟨D, hD⟩ : ∃ D, D = G.1 := ⟨_, rfl⟩
      rw [← hD] at H3 ⊢
      have HN : Hid ((w3.alloc (.cells #[.int .u8 0, .bool false, .slice none 0 0, .slice none 0 0, .slice none 0 0] 37)).heap[w3.heap.size]? = some (.cells zK.toArray 37 (0, 0))) := Lib.hid (Has.new w3 zK _)
      have HG5 := Lib.hid (infoL hg5)
      have HGS : Hid (zK.toArray.size = gcs.toArray.size) := Lib.hid (by simp [zK, hg5])
      have HG1 := Lib.hid hg1
      have HFIN : Hid (OpP w B p S G (.returned (.int .i64 (D : Int))) ((w3.alloc (.cells #[.int .u8 0, .bool false, .slice none 0 0, .slice none 0 0, .slice none 0 0] 37)).setRow w3.heap.size gcs.toArray)) := Lib.hid (by
        have bb : Below w3.heap.size w3 ((w3.alloc (.cells #[.int .u8 0, .bool false, .slice none 0 0, .slice none 0 0, .slice none 0 0] 37)).setRow w3.heap.size gcs.toArray) := below_setRow ((Below.refl _ _).alloc (Nat.le_refl _) _) (Nat.le_refl _) _
        refine ⟨H3.out.1, H3.out.2.1.trans (Fr.of_below (S := []) bb) (fun g hg => by cases hg), fun h0 => ?_⟩
        obtain ⟨S', q1, q2⟩ := H3.out.2.2 h0
        exact ⟨S', q1.later bb, q2⟩)
      clear hD hg5 hg1 hf hok
      go_wp2_with (refine wpList_store_row rfl 37 _ _ rfl w3.heap.size gcs.toArray rfl rfl 37 zK.toArray HN.out HG5.out HGS.out HG1.out ?_)
      go_ret
      rw [hv.out]
      exact HFIN.out
    · have hi : ∀ c : UInt8, k ≠ c → ¬ ((k.toNat : Int) = (c.toNat : Int)) := fun c hc e => hc (UInt8.toNat_inj.1 (by omega))
      have i1 : ¬ ((k.toNat : Int) = 1) := hi 1 k1
      have i2 : ¬ ((k.toNat : Int) = 2) := hi 2 k2
      have i3 : ¬ ((k.toNat : Int) = 3) := hi 3 k3
      have i4 : ¬ ((k.toNat : Int) = 4) := hi 4 k4
      have hv : Hid (V = (3, t, a, b)) := Lib.hid (by rw [hV0.out, if_neg k1, if_neg k2, if_neg k3, if_neg k4])
      clear hi k1 k2 k3 k4
      go_wp2_with fail
      go_ret
      rw [hv.out]
      exact op_err B2.out (by decide)
  · have h0i : ¬ ((bn : Int) = 0) := by omega
    have hv : Hid (V = (bn, t, a, b)) := Lib.hid (by rw [HVU.out, ← HBN.out, if_pos h0])
    have H0 := Lib.hid h0
    clear h0
    go_wp2_with fail
    go_ret
    rw [hv.out]
    exact op_err B2.out H0.out

end Go.Proofs.YtlccdenafnekjaaGreatDoor
namespace Go.Proofs.YtlccdenafnekjaaGreatDoor
open Go.RowKit
set_option linter.unusedVariables false

/-! As functions on trees. -/
def foldE : List EdD → T → Nat → Nat → ER
  | [], t, a, b => (0, t, a, b)
  | x :: r, t, a, b => if (applyE x t a b).1 ≠ 0 then applyE x t a b else foldE r (applyE x t a b).2.1 (applyE x t a b).2.2.1 (applyE x t a b).2.2.2
def runE (t : T) (l : List EdD) : ER := if (sizeT t).isSome then foldE l t (sizeN t) (bytesT t) else (3, t, 0, 0)

/-- A right tree, rightly counted. -/
def Exact (t : T) (a b : Nat) : Prop := Lim t 1 a b ∧ a = sizeN t ∧ b = bytesT t
theorem exact_of {t : T} (h : (sizeT t).isSome = true) : Exact t (sizeN t) (bytesT t) := by
  obtain ⟨⟨x, y⟩, hx⟩ := Option.isSome_iff_exists.1 h
  obtain ⟨h1, h2, h3, h4, rfl, rfl⟩ := (sizeT_iff t x y).1 hx
  exact ⟨⟨h1, by omega, by omega, Nat.le_refl _, h3, Nat.le_refl _, h4⟩, rfl, rfl⟩
theorem Exact.size {t : T} {a b : Nat} (h : Exact t a b) : (sizeT t).isSome = true := by rw [h.1.size]; rfl
theorem Exact.done {t : T} {a b : Nat} {r : ER} (h : Exact t a b) (hd : Done2 t 1 a b r) : Exact r.2.1 r.2.2.1 r.2.2.2 :=
  ⟨hd.lim h.1, by have h1 := hd.num; have h2 := h.2.1; omega, by have h1 := hd.byt; have h2 := h.2.2; omega⟩
theorem applyE_ok {x : EdD} {t : T} {a b : Nat} (h : Exact t a b) (h0 : (applyE x t a b).1 = 0) : Exact (applyE x t a b).2.1 (applyE x t a b).2.2.1 (applyE x t a b).2.2.2 := by
  unfold applyE at h0 ⊢
  by_cases hb : belN x.path.data.toList ≠ 0
  · simp only [if_pos hb] at h0; exact absurd h0 hb
  rw [if_neg hb] at h0 ⊢
  have hb0 : belN x.path.data.toList = 0 := by simpa using hb
  have hn := nmE_names hb0
  by_cases k1 : x.kind = 1
  · rw [if_pos k1] at h0 ⊢
    exact h.done (chg_done .mk (fun k hk => by cases hk) _ hn t 1 a b h.1 h0)
  rw [if_neg k1] at h0 ⊢
  by_cases k2 : x.kind = 2
  · rw [if_pos k2] at h0 ⊢
    by_cases hs : (sizeT x.tree).isSome = true
    · rw [if_pos hs] at h0 ⊢
      exact h.done (chg_done (.put x.tree) (fun k hk => by cases hk; exact (sizeT_get hs).2.1) _ hn t 1 a b h.1 h0)
    · simp only [if_neg hs] at h0; cases h0
  rw [if_neg k2] at h0 ⊢
  by_cases k3 : x.kind = 3
  · rw [if_pos k3] at h0 ⊢
    by_cases hs : belN x.src.data.toList ≠ 0
    · simp only [if_pos hs] at h0; exact absurd h0 hs
    rw [if_neg hs] at h0 ⊢
    have hs0 : belN x.src.data.toList = 0 := by simpa using hs
    have hns := nmE_names hs0
    unfold moveE at h0 ⊢
    by_cases hd : (chgE .drop (nmE x.src.data.toList) 1 t a b).1 ≠ 0
    · simp only [if_pos hd] at h0; exact absurd h0 hd
    rw [if_neg hd] at h0 ⊢
    have hd0 : (chgE .drop (nmE x.src.data.toList) 1 t a b).1 = 0 := by simpa using hd
    by_cases hw : (withB (nmE x.src.data.toList) (nmE x.path.data.toList) || withB (nmE x.path.data.toList) (nmE x.src.data.toList)) = true
    · simp only [if_pos hw] at h0; cases h0
    rw [if_neg hw] at h0 ⊢
    have h1 := h.done (chg_done .drop (fun k hk => by cases hk) _ hns t 1 a b h.1 hd0)
    obtain ⟨dep', hg⟩ := get_lim _ t 1 a b h.1 hd0
    exact h1.done (chg_done (.put (getE (nmE x.src.data.toList) t)) (fun k hk => by cases hk; exact hg.1) _ hn _ 1 _ _ h1.1 h0)
  rw [if_neg k3] at h0 ⊢
  by_cases k4 : x.kind = 4
  · rw [if_pos k4] at h0 ⊢
    exact h.done (chg_done .drop (fun k hk => by cases hk) _ hn t 1 a b h.1 h0)
  · simp only [if_neg k4] at h0; cases h0
theorem foldE_ok : ∀ (l : List EdD) {t : T} {a b : Nat}, Exact t a b → (foldE l t a b).1 = 0 → Exact (foldE l t a b).2.1 (foldE l t a b).2.2.1 (foldE l t a b).2.2.2
  | [], t, a, b, h, _ => h
  | x :: r, t, a, b, h, h0 => by
    rw [foldE] at h0 ⊢
    by_cases h1 : (applyE x t a b).1 ≠ 0
    · simp only [if_pos h1] at h0; exact absurd h0 h1
    rw [if_neg h1] at h0 ⊢
    exact foldE_ok r (applyE_ok h (by simpa using h1)) h0
theorem foldE_append : ∀ (l m : List EdD) (t : T) (a b : Nat), foldE (l ++ m) t a b = if (foldE l t a b).1 ≠ 0 then foldE l t a b else foldE m (foldE l t a b).2.1 (foldE l t a b).2.2.1 (foldE l t a b).2.2.2
  | [], m, t, a, b => by simp [foldE]
  | x :: r, m, t, a, b => by
    rw [List.cons_append, foldE, foldE]
    by_cases h1 : (applyE x t a b).1 ≠ 0
    · rw [if_pos h1, if_pos h1, if_pos h1]
    · rw [if_neg h1, if_neg h1]
      exact foldE_append r m _ _ _

/-! Edits in memory. -/
instance : Inhabited EdD := ⟨⟨0, ⟨#[]⟩, ⟨#[]⟩, default⟩⟩
theorem IsX.later {w w' : World} {m : Nat} {cs : List Value} {x : EdD} (h : IsX w m cs x) (hb : Below w.heap.size w w') : IsX w' m cs x := by
  obtain ⟨ct, h1, h2⟩ := h
  exact ⟨ct, h1, IsT.later hb _ _ _ h2⟩
theorem IsX.eight {w : World} {m : Nat} {cs : List Value} {x : EdD} (h : IsX w m cs x) : cs.length = 8 ∧ cs.toArray.all (·.oneCell') = true := by
  obtain ⟨ct, rfl, h2⟩ := h
  have h5 := isT_five h2
  have h1 := isT_one h2
  refine ⟨by simp [h5], ?_⟩
  rw [Array.all_eq_true_iff_forall_mem] at h1 ⊢
  intro u hu
  have hu' : u ∈ [Value.int .u8 (x.kind.toNat : Int), .string x.path, .string x.src] ++ ct := by simpa using hu
  rcases List.mem_append.1 hu' with h | h
  · simp only [List.mem_cons, List.not_mem_nil, or_false] at h
    rcases h with rfl | rfl | rfl <;> rfl
  · exact h1 u (by simpa using h)
/-- A slice of edits. -/
structure IsXs (w : World) (m : Nat) (a : Option Addr) (n c : Nat) (l : List EdD) : Prop where
  length : l.length = n
  at_ : n = 0 ∨ ∃ b off, a = some ⟨b, off, none⟩ ∧ b < w.heap.size ∧ ∀ i, i < n → ∃ cs, IsX w m cs (l.getD i default) ∧ w.rangeAt b (off + i * 8) cs
  nil : a = none → n = 0 ∧ c = 0
  room : n ≤ c ∧ c ≤ maxLen
theorem range_later {w w' : World} {B b o : Nat} {cs : List Value} (h : w.rangeAt b o cs) (hb : Below B w w') (hlt : b < B) : w'.rangeAt b o cs := fun j v hv => (hb.cell (p := ⟨b, o + j, none⟩) hlt).trans (h j v hv)
theorem IsXs.later {w w' : World} {m : Nat} {a : Option Addr} {n c : Nat} {l : List EdD} (h : IsXs w m a n c l) (hb : Below w.heap.size w w') : IsXs w' m a n c l := by
  refine ⟨h.length, ?_, h.nil, h.room⟩
  rcases h.at_ with h0 | ⟨b, off, rfl, hlt, hc⟩
  · exact .inl h0
  · refine .inr ⟨b, off, rfl, Nat.lt_of_lt_of_le hlt hb.size, fun i hi => ?_⟩
    obtain ⟨cs, h1, h2⟩ := hc i hi
    exact ⟨cs, h1.later hb, range_later h2 hb hlt⟩

/-- A tree ahead of all edits. -/
def StartP (t : T) (w : World) (e : Ending) (w' : World) : Prop := Below w.heap.size w w' ∧
  (((sizeT t).isSome = true ∧ ∃ p S, e = .returned (.tuple #[.pointer (some ⟨p, 0, none⟩), .int .i64 0]) ∧ WK w' w.heap.size p t (sizeN t) (bytesT t) S ∧ w.heap.size ≤ p ∧ (∀ g ∈ S, w.heap.size ≤ g)) ∨
    ((sizeT t).isSome = false ∧ e = .returned (.tuple #[.pointer none, .int .i64 3])))

set_option maxRecDepth 100000 in
set_option maxHeartbeats 8000000 in
theorem start_any (n : Nat) (cs : List Value) (t : T) (w : World) (ht : IsT w n cs t) : Calls Tryz.prog 88 #[.agg cs.toArray] w (StartP t w) := by
  have hI := Lib.hid (infoL (isT_five ht))
  obtain ⟨w1, hw1⟩ : ∃ w1, w1 = w.alloc (.cells cs.toArray 37) := ⟨_, rfl⟩
  have b1 : Below w.heap.size w w1 := by rw [hw1]; exact (Below.refl _ _).alloc (Nat.le_refl _) _
  have g1 : Has w1 w.heap.size cs 37 := by rw [hw1]; exact Has.new w cs _
  have HT := Lib.hid ht
  have HSZ := Lib.hid (size_any n cs t w1 (IsT.later b1 _ _ _ ht))
  have HW1 := Lib.hid hw1
  have B1 := Lib.hid b1
  have G1 := Lib.hid g1
  have G1r := Lib.hid (show w1.heap[w.heap.size]? = some (.cells cs.toArray 37 (0, 0)) from g1)
  clear ht hw1 b1 g1
  rcases hs : (sizeT t).isSome with _ | _
  · have hsv : sizeV t = .tuple #[.int .i64 0, .int .i64 0, .int .i64 3] := by
      unfold sizeV
      rw [Option.isSome_eq_false_iff, Option.isNone_iff_eq_none] at hs
      rw [hs]
    rw [hsv] at HSZ
    have HS := Lib.hid hs
    clear hs hsv
    go_enter Tryz.func88, Tryz.ntmps88
    go_upto_region 1 with fail
    rw [← HW1.out]
    go_wp2_with (refine wpList_load_row rfl 37 _ rfl w.heap.size rfl 37 cs.toArray (0, 0) _ G1r.out Tryz.underlying37 rfl hI.out ?_)
    refine HSZ.out.mono ?_
    rintro e w2 ⟨rfl, hb2⟩
    have B2 := Lib.hid (B1.out.trans (hb2.mono B1.out.size))
    clear hb2
    go_wp2_with fail
    go_ret2
    exact ⟨B2.out, .inr ⟨HS.out, rfl⟩⟩
  · obtain ⟨s1, s2, s3, s4⟩ := sizeT_get hs
    have hsv : sizeV t = .tuple #[.int .i64 (sizeN t : Int), .int .i64 (bytesT t : Int), .int .i64 0] := by
      unfold sizeV
      rw [s1]
    rw [hsv] at HSZ
    have HS := Lib.hid hs
    have S3 := Lib.hid s3
    have S4 := Lib.hid s4
    obtain ⟨A, hA⟩ : ∃ A, A = sizeN t := ⟨_, rfl⟩
    obtain ⟨C, hC⟩ : ∃ C, C = bytesT t := ⟨_, rfl⟩
    rw [← hA, ← hC] at HSZ
    have HA := Lib.hid hA
    have HC := Lib.hid hC
    clear hs hsv s1 s2 s3 s4 hA hC
    go_enter Tryz.func88, Tryz.ntmps88
    go_upto_region 1 with fail
    rw [← HW1.out]
    go_wp2_with (refine wpList_load_row rfl 37 _ rfl w.heap.size rfl 37 cs.toArray (0, 0) _ G1r.out Tryz.underlying37 rfl hI.out ?_)
    refine HSZ.out.mono ?_
    rintro e w2 ⟨rfl, hb2⟩
    have B2 := Lib.hid (B1.out.trans (hb2.mono B1.out.size))
    have G2r : Hid (w2.heap[w.heap.size]? = some (.cells cs.toArray 37 (0, 0))) := Lib.hid (has_fr G1.out (Fr.of_below (S := []) hb2) (by simp))
    have HCP := Lib.hid (mcopy_any n cs t w2 (IsT.later B2.out _ _ _ HT.out) S3.out (by have := S4.out; omega))
    clear hb2
    go_wp2_with (refine wpList_load_row rfl 37 _ rfl w.heap.size rfl 37 cs.toArray (0, 0) _ G2r.out Tryz.underlying37 rfl hI.out ?_)
    refine HCP.out.mono ?_
    rintro e w3 ⟨gcs, Sg, rfl, hmt, hSg, hb3⟩
    obtain ⟨k0, x0, a1, n1, m1, a2, n2, m2, a3, n3, m3, hsh⟩ := mt_shape hmt
    have HMT := Lib.hid hmt
    have HSG := Lib.hid hSg
    have B3 := Lib.hid (B2.out.trans (hb3.mono B2.out.size))
    have B2S : Hid (w.heap.size ≤ w2.heap.size) := Lib.hid B2.out.size
    have HSH := Lib.hid hsh
    rw [hsh]
    clear hmt hSg hb3 hsh
    go_wp2_with fail
    go_ret2
    refine ⟨B3.out.alloc B3.out.size _, .inl ⟨HS.out, w3.heap.size, Sg, rfl, ?_, B3.out.size, fun g hg => Nat.le_trans B2S.out (HSG.out g hg)⟩⟩
    rw [← HA.out, ← HC.out]
    have hnew : Has (w3.alloc (.cells #[.int .u8 (k0.toNat : Int), .bool x0, .slice a1 n1 m1, .slice a2 n2 m2, .slice a3 n3 m3, .int .i64 (A : Int), .int .i64 (C : Int)] 140)) w3.heap.size (gcs ++ [.int .i64 (A : Int), .int .i64 (C : Int)]) 140 := by
      rw [HSH.out]
      exact Has.new w3 [.int .u8 (k0.toNat : Int), .bool x0, .slice a1 n1 m1, .slice a2 n2 m2, .slice a3 n3 m3, .int .i64 (A : Int), .int .i64 (C : Int)] _
    have hng : w3.heap.size ∉ Sg := fun hm => by have := HMT.out.lt hm; omega
    have hmt4 := (HMT.out.later (w' := w3.alloc (.cells #[.int .u8 (k0.toNat : Int), .bool x0, .slice a1 n1 m1, .slice a2 n2 m2, .slice a3 n3 m3, .int .i64 (A : Int), .int .i64 (C : Int)] 140)) ((Below.refl _ _).alloc (Nat.le_refl _) _)).low B2S.out
    refine ⟨gcs, ⟨hnew, fun j hj => ?_, hmt4, hng, hng, hnew, HMT.out.five, .inl ⟨rfl, rfl, rfl, rfl, rfl⟩⟩⟩
    rw [Nat.zero_add, List.getElem?_append_left (by rw [HMT.out.five]; exact hj)]

end Go.Proofs.YtlccdenafnekjaaGreatDoor
namespace Go.Proofs.YtlccdenafnekjaaGreatDoor
open Go.RowKit
set_option linter.unusedVariables false

/-- What Apply tells. -/
def RunP (t : T) (l : List EdD) (w : World) (e : Ending) (w' : World) : Prop :=
  ∃ out, e = .returned (.tuple #[.agg out.toArray, .int .i64 ((runE t l).1 : Int)]) ∧ out.length = 5 ∧ out.toArray.all (·.oneCell') = true ∧ Below w.heap.size w w' ∧ ((runE t l).1 = 0 → ∃ S, MT w' w.heap.size out (runE t l).2.1 S) ∧ ((runE t l).1 ≠ 0 → out = zK)

theorem run_bad {t : T} {l : List EdD} (h : (sizeT t).isSome = false) : runE t l = (3, t, 0, 0) := by unfold runE; rw [h]; rfl
theorem run_good {t : T} {l : List EdD} (h : (sizeT t).isSome = true) : runE t l = foldE l t (sizeN t) (bytesT t) := by unfold runE; rw [if_pos h]

set_option maxRecDepth 100000 in
set_option maxHeartbeats 20000000 in
theorem applyA_any (n : Nat) (cs : List Value) (t : T) (w : World) (ht : IsT w n cs t) (m : Nat) (a : Option Addr) (k c : Nat) (l : List EdD) (hl : IsXs w m a k c l) (hm : MaxW w) (hmx : 1 < w.heap.size) :
    Calls Tryz.prog 70 #[.agg cs.toArray, .slice a k c] w (RunP t l w) := by
  have hI := Lib.hid (infoL (isT_five ht))
  obtain ⟨w0, hw0⟩ : ∃ w0, w0 = w.alloc (.cells cs.toArray 37) := ⟨_, rfl⟩
  have s0 : w0.heap.size = w.heap.size + 1 := by rw [hw0]; simp
  obtain ⟨w1, hw1⟩ : ∃ w1, w1 = w0.alloc (.cells #[.int .u8 0, .bool false, .slice none 0 0, .slice none 0 0, .slice none 0 0] 37) := ⟨_, rfl⟩
  have s1 : w1.heap.size = w.heap.size + 2 := by rw [hw1]; simp [s0]
  have b1 : Below w.heap.size w w1 := by rw [hw1, hw0]; exact ((Below.refl _ _).alloc (Nat.le_refl _) _).alloc (by simp) _
  have g1 : Has w1 w.heap.size cs 37 := by rw [hw1, hw0]; exact (Has.new w cs _).alloc _
  have r1 : Has w1 (w.heap.size + 1) zK 37 := by rw [hw1, ← s0]; exact Has.new w0 zK _
  have HW1 : Hid (w1 = (w.alloc (.cells cs.toArray 37)).alloc (.cells #[.int .u8 0, .bool false, .slice none 0 0, .slice none 0 0, .slice none 0 0] 37)) := Lib.hid (by rw [hw1, hw0])
  have HST := Lib.hid (start_any n cs t w1 (IsT.later b1 _ _ _ ht))
  have HT := Lib.hid ht
  have HL := Lib.hid hl
  have HM := Lib.hid hm
  have HMX := Lib.hid hmx
  have S1 := Lib.hid s1
  have B1 := Lib.hid b1
  have R1 := Lib.hid r1
  have G1r := Lib.hid (show w1.heap[w.heap.size]? = some (.cells cs.toArray 37 (0, 0)) from g1)
  have hZ5 : Hid ((Tryz.prog.info? 37).map (·.size) = some zK.toArray.size) := Lib.hid (by kernel_rfl)
  have hZ1 : Hid (zK.toArray.all (·.oneCell') = true) := Lib.hid (by decide +kernel)
  obtain ⟨V, hV⟩ : ∃ V, V = runE t l := ⟨_, rfl⟩
  have hRP : Hid (∀ e w', (∃ out, e = .returned (.tuple #[.agg out.toArray, .int .i64 (V.1 : Int)]) ∧ out.length = 5 ∧ out.toArray.all (·.oneCell') = true ∧ Below w.heap.size w w' ∧ (V.1 = 0 → ∃ S, MT w' w.heap.size out V.2.1 S) ∧ (V.1 ≠ 0 → out = zK)) → RunP t l w e w') := Lib.hid (by rw [hV]; exact fun e w' h => h)
  have HV := Lib.hid hV
  clear ht hl hm hmx hw0 hw1 s0 s1 b1 g1 r1 hV
  go_enter Tryz.func70, Tryz.ntmps70
  go_upto_region 1 with fail
  rw [← HW1.out]
  go_wp2_with (refine wpList_load_row rfl 37 _ rfl w.heap.size rfl 37 cs.toArray (0, 0) _ G1r.out Tryz.underlying37 rfl hI.out ?_)
  refine HST.out.mono ?_
  rintro e w2 ⟨hb2, h2⟩
  have B2 := Lib.hid (hb2.mono (Nat.le_of_eq S1.out.symm))
  have R2 : Hid (Has w2 (w.heap.size + 1) zK 37) := Lib.hid (has_fr R1.out (Fr.of_below (S := []) hb2) (by simp))
  have BW2 : Hid (Below w.heap.size w w2) := Lib.hid (B1.out.trans (hb2.mono B1.out.size))
  clear hb2
  rcases h2 with ⟨hs, p, S, rfl, hwk, hp, hS⟩ | ⟨hs, rfl⟩
  · have HVG := Lib.hid (HV.out.trans (run_good hs))
    have HEX := Lib.hid (exact_of hs)
    have HWK := Lib.hid hwk
    have HP := Lib.hid hp
    have HSS := Lib.hid hS
    clear hs hwk hp hS
    go_wp2_with fail
    obtain ⟨NB, hNB⟩ : ∃ NB, NB = w.heap.size + 2 := ⟨_, rfl⟩
    have HNB := Lib.hid hNB
    clear hNB
    have HSZ2 : Hid (NB ≤ w2.heap.size) := Lib.hid (by have := R2.out.lt; have := HWK.out.lt.1; have := HP.out; have := S1.out; have := HNB.out; omega)
    go_loopw [22] (fun vi wr => ∃ (i : Nat), i ≤ k ∧ vi = .int .i64 i ∧ Below NB w2 wr ∧ ∃ t' a' b' S', Exact t' a' b' ∧ WK wr NB p t' a' b' S' ∧ (∀ g ∈ S', NB ≤ g) ∧ foldE l t (sizeN t) (bytesT t) = foldE (l.drop i) t' a' b') (fun vi _ => k - (intOf vi).toNat)
    case atStart => exact ⟨0, Nat.zero_le _, rfl, Below.refl _ _, t, _, _, S, HEX.out, by have := HWK.out; rw [S1.out] at this; rw [HNB.out]; exact this, fun g hg => by have := HSS.out g hg; rw [S1.out] at this; rw [HNB.out]; exact this, rfl⟩
    case round =>
      obtain ⟨i, hi, rfl, hbel, t', a', b', S', hex, hwk, hS', hfold⟩ := hrel
      have HBE := Lib.hid hbel
      have HEX' := Lib.hid hex
      have HWK' := Lib.hid hwk
      have HSS' := Lib.hid hS'
      have HFO := Lib.hid hfold
      have HBW : Hid (Below w.heap.size w wr) := Lib.hid (BW2.out.trans (hbel.mono (by have := HNB.out; omega)))
      have HRR : Hid (Has wr (w.heap.size + 1) zK 37) := Lib.hid ((hbel.block (w.heap.size + 1) (by have := HNB.out; omega)).trans R2.out)
      clear hbel hex hwk hS' hfold
      by_cases hlt : i < k
      · rcases HL.out.at_ with h0 | ⟨b, off, rfl, hb, hc⟩
        · omega
        obtain ⟨L, hX, hr0⟩ := hc i hlt
        have HRANGE := Lib.hid (range_later hr0 HBW.out hb)
        have HX : Hid (∀ W, Below w.heap.size w W → IsX W m L (l.getD i default)) := Lib.hid (fun W hW => hX.later hW)
        have hone := Lib.hid hX.eight.2
        have hll := Lib.hid hX.eight.1
        have hki : (i : Int) < (k : Int) := by omega
        have hroom := HL.out.room
        unfold maxLen at hroom
        have hni : (i : Int) + 1 ≤ 9223372036854775807 := by omega
        have hdr : Hid (l.drop i = l.getD i default :: l.drop (i + 1)) := Lib.hid (by
          have hil : i < l.length := by rw [HL.out.length]; exact hlt
          rw [List.drop_eq_getElem_cons hil]
          simp [List.getD, List.getElem?_eq_getElem hil])
        obtain ⟨x, hx⟩ : ∃ x, x = l.getD i default := ⟨_, rfl⟩
        rw [← hx] at HX hdr
        have hA : Hid ((#[.int .u8 0, .string ⟨#[]⟩, .string ⟨#[]⟩, .int .u8 0, .bool false, .slice none 0 0, .slice none 0 0, .slice none 0 0] : Array Value).size = L.toArray.size) := Lib.hid (by have := hll.out; simp [this])
        have hIE : Hid ((Tryz.prog.info? 90).map (·.size) = some L.toArray.size) := Lib.hid (by rw [List.size_toArray, hll.out]; kernel_rfl)
        have hIL : Hid ((Tryz.prog.info? 90).map (·.size) = some L.length) := Lib.hid (by rw [hll.out]; kernel_rfl)
        have HLT := Lib.hid hlt
        clear hX hr0 hx hc hlt
        go_wp2_with (first
          | (refine wpList_load_mid rfl 90 _ rfl b (off + i * 8) rfl L _ HRANGE.out Tryz.underlying90 rfl hIL.out ?_)
          | (refine wpList_store_row rfl 90 _ _ rfl wr.heap.size L.toArray rfl rfl 90 _ (heap_alloc_new wr _) hIE.out hA.out hone.out ?_)
          | (refine wpList_load_row rfl 90 _ rfl wr.heap.size rfl 90 L.toArray (0, 0) _ (setRow_heap _ _ _ _ _ _ (heap_alloc_new wr _)) Tryz.underlying90 rfl hIE.out ?_))
        obtain ⟨w5, hw5⟩ : ∃ w5, w5 = (wr.alloc (.cells #[.int .u8 0, .string ⟨#[]⟩, .string ⟨#[]⟩, .int .u8 0, .bool false, .slice none 0 0, .slice none 0 0, .slice none 0 0] 90)).setRow wr.heap.size L.toArray := ⟨_, rfl⟩
        have b5 : Below wr.heap.size wr w5 := by
          rw [hw5]
          exact below_setRow ((Below.refl _ _).alloc (Nat.le_refl _) _) (Nat.le_refl _) _
        rw [← hw5]
        have B5 := Lib.hid b5
        have BW5 : Hid (Below w.heap.size w w5) := Lib.hid (HBW.out.trans (b5.mono HBW.out.size))
        have hnw : NB ≤ wr.heap.size := Nat.le_trans HSZ2.out HBE.out.size
        have K5 := Lib.hid (apply_any (x := x) (HWK'.out.later b5) (Nat.le_trans hnw b5.size) HEX'.out.1 (HX.out w5 BW5.out) (HM.out.below BW5.out HMX.out) (by have := HMX.out; have := HNB.out; omega))
        have HNW := Lib.hid hnw
        obtain ⟨G, hG⟩ : ∃ G, G = applyE x t' a' b' := ⟨_, rfl⟩
        rw [← hG] at K5
        have HG := Lib.hid hG
        clear hw5 b5 hnw hG
        refine K5.out.mono ?_
        rintro e w6 ⟨rfl, hf6, hok6⟩
        obtain ⟨D, hD⟩ : ∃ D, D = G.1 := ⟨_, rfl⟩
        rw [← hD]
        have HD := Lib.hid hD
        have HF6 := Lib.hid hf6
        have HOK6 := Lib.hid hok6
        have hpNB : NB ≤ p := by have := HP.out; rw [S1.out] at this; rw [HNB.out]; exact this
        have B6 : Hid (Below NB w2 w6) := Lib.hid (HBE.out.trans ((B5.out.mono HNW.out).trans (hf6.below (Nat.le_trans HNW.out B5.out.size) (fun g hg => by
          rcases List.mem_cons.1 hg with h | h
          · rw [h]; exact hpNB
          · exact HSS'.out g h))))
        have hfo2 : foldE (l.drop i) t' a' b' = if D ≠ 0 then G else foldE (l.drop (i + 1)) G.2.1 G.2.2.1 G.2.2.2 := by rw [hdr.out, foldE, ← HG.out, ← hD]
        have HFO2 := Lib.hid (HFO.out.trans hfo2)
        clear hD hf6 hok6 hpNB hfo2
        by_cases h0 : D = 0
        · have hg0 : G.1 = 0 := by rw [← HD.out]; exact h0
          have hexn : Exact G.2.1 G.2.2.1 G.2.2.2 := by
            rw [HG.out] at hg0 ⊢
            exact applyE_ok HEX'.out hg0
          obtain ⟨S2, q1, q2⟩ := HOK6.out hg0
          have HQ1 := Lib.hid q1
          have HQ2 := Lib.hid q2
          have HEXN := Lib.hid hexn
          subst h0
          clear hg0 hexn q1 q2
          go_wp2_with fail
          go_roundw
          case rel => exact ⟨i + 1, by have := HLT.out; omega, by go_num, B6.out, _, _, _, S2, HEXN.out, HQ1.out, fun g hg => by
            rcases HQ2.out g hg with h | h
            · exact HSS'.out g h
            · have := HNW.out; have := B5.out.size; omega, by rw [HFO2.out, if_neg (by simp)]⟩
          case measure =>
            have := HLT.out
            simp only [intOf]; omega
        · have h0i : ¬ ((D : Int) = 0) := by omega
          have HD0 := Lib.hid h0
          have HVD : Hid (V = G) := Lib.hid (by rw [HVG.out, HFO2.out, if_pos h0])
          have R6 : Hid (w6.heap[w.heap.size + 1]? = some (.cells zK.toArray 37 (0, 0))) := Lib.hid ((B6.out.block (w.heap.size + 1) (by have := HNB.out; omega)).trans R2.out)
          have BW6 : Hid (Below w.heap.size w w6) := Lib.hid (BW2.out.trans (B6.out.mono (by have := HNB.out; omega)))
          clear h0 hki hroom hni
          go_wp2_with (refine wpList_store_row rfl 37 _ _ rfl (w.heap.size + 1) zK.toArray rfl rfl 37 zK.toArray R6.out hZ5.out rfl hZ1.out ?_)
          refine bodyPost_ret (results_ct (fn := Tryz.f70) (p := 4) (u := 5) (ty := 37) Tryz.results70 _ _ (w.heap.size + 1) 37 zK.toArray (0, 0) _ rfl (setRow_heap _ _ _ _ _ _ R6.out) Tryz.underlying37 rfl hZ5.out) rfl ?_
          refine hRP.out _ _ ⟨zK, by rw [HVD.out, ← HD.out]; rfl, rfl, hZ1.out, below_setRow BW6.out (by omega) _, fun h => absurd (by rw [HVD.out, ← HD.out] at h; exact h) HD0.out, fun _ => rfl⟩
      · obtain rfl : k = i := by omega
        have hdl : l.drop k = [] := List.drop_eq_nil_of_le (by rw [HL.out.length]; exact Nat.le_refl _)
        have HVE : Hid (V = (0, t', a', b')) := Lib.hid (by rw [HVG.out, HFO.out, hdl]; rfl)
        have hwk := HWK'.out
        obtain ⟨R, hws⟩ := hwk
        have HWS := Lib.hid hws
        have HRG : Hid (wr.rangeAt p 0 R) := Lib.hid (fun j v hv => by
          rw [Nat.zero_add]
          exact Has.cellAt hws.hR (by rw [List.getElem?_append_left (List.getElem?_eq_some_iff.1 hv).1]; exact hv))
        have hRe : Hid (MT wr NB R t' S') := Lib.hid hws.mt
        have HR5 := Lib.hid (infoL hws.r5)
        have HR5' : Hid ((Tryz.prog.info? 37).map (·.size) = some R.length) := Lib.hid (by rw [info5, hws.r5])
        have HRl := Lib.hid hws.r5
        have HRs : Hid (zK.toArray.size = R.toArray.size) := Lib.hid (by simp [zK, hws.r5])
        have HR1 : Hid (R.toArray.all (·.oneCell') = true) := Lib.hid (by
          rw [Array.all_eq_true_iff_forall_mem]
          intro u hu
          exact hws.mt.one u (by simpa using hu))
        have HRRr : Hid (wr.heap[w.heap.size + 1]? = some (.cells zK.toArray 37 (0, 0))) := Lib.hid (show _ from HRR.out)
        clear hws hdl hlt
        go_wp2_with (first
          | (refine wpList_load_mid rfl 37 _ rfl p 0 rfl R _ HRG.out Tryz.underlying37 rfl HR5'.out ?_)
          | (refine wpList_store_row rfl 37 _ _ rfl (w.heap.size + 1) R.toArray rfl rfl 37 zK.toArray HRRr.out HR5.out HRs.out HR1.out ?_))
        refine bodyPost_ret (results_ct (fn := Tryz.f70) (p := 4) (u := 5) (ty := 37) Tryz.results70 _ _ (w.heap.size + 1) 37 R.toArray (0, 0) _ rfl (setRow_heap _ _ _ _ _ _ HRRr.out) Tryz.underlying37 rfl HR5.out) rfl ?_
        refine hRP.out _ _ ⟨R, by rw [HVE.out]; rfl, HRl.out, HR1.out, below_setRow HBW.out (by omega) _, fun _ => ⟨S', ?_⟩, fun h => absurd (by rw [HVE.out]) h⟩
        rw [HVE.out]
        have hf3 : Fr [w.heap.size + 1] wr (wr.setRow (w.heap.size + 1) R.toArray) := (Fr.refl _ _).setRow (.inl (by simp)) _
        exact (hRe.out.frame hf3 (Rows.cons HRR.out (by decide) (Rows.nil _)) (fun g hg hm => by
          simp only [List.mem_cons, List.not_mem_nil, or_false] at hm
          have h1 := HSS'.out g hg
          have h2 := HNB.out
          omega)).low (by have := HNB.out; omega)
  · have HVB := Lib.hid (HV.out.trans (run_bad hs))
    have R2r : Hid (w2.heap[w.heap.size + 1]? = some (.cells zK.toArray 37 (0, 0))) := Lib.hid (show _ from R2.out)
    clear hs
    go_wp2_with (refine wpList_store_row rfl 37 _ _ rfl (w.heap.size + 1) zK.toArray rfl rfl 37 zK.toArray R2r.out hZ5.out rfl hZ1.out ?_)
    refine bodyPost_ret (results_ct (fn := Tryz.f70) (p := 4) (u := 5) (ty := 37) Tryz.results70 _ _ (w.heap.size + 1) 37 zK.toArray (0, 0) _ rfl (setRow_heap _ _ _ _ _ _ R2r.out) Tryz.underlying37 rfl hZ5.out) rfl ?_
    exact hRP.out _ _ ⟨zK, by rw [HVB.out]; rfl, rfl, hZ1.out, below_setRow BW2.out (by omega) _, fun h => by rw [HVB.out] at h; simp at h, fun _ => rfl⟩

end Go.Proofs.YtlccdenafnekjaaGreatDoor

namespace Go.Proofs.YtlccdenafnekjaaGreatDoor
open Go.RowKit Go.ChangeShapes Go.WideShapes
set_option linter.unusedVariables false

section
variable {H : Type} {enc : TypeId × Value → H} {w : World} {base : Nat} {held : Bool}

theorem isX_up {m : Nat} {cs : List Value} {x : EdD} (h : IsX w m cs x) : IsX w (m + 1) cs x := by
  obtain ⟨ct, h1, h2⟩ := h
  exact ⟨ct, h1, isT_up _ _ _ h2⟩
set_option maxRecDepth 100000 in
theorem isX_of {fuel : Nat} {cs : List Value} {x : DataW H × List MemPlace} (h : DataW.trod enc Tryz.prog w base (fun _ => true) held fuel 90 cs = some x)
    (hw : ∀ m ∈ x.1.weights Tryz.prog 90, m ≤ reachBytes) : ∃ y, IsX w fuel cs y ∧ Small y.tree ∧ cs.length = 8 := by
  obtain ⟨xs, n, rfl, hx, hlen, hxl, hg⟩ := DataW.trod_struct Tryz.underlying90 h
  have hC : Tryz.prog.cellsOf 90 = 8 := by kernel_rfl
  have k0 : Tryz.prog.cellsOf 5 = 1 := by kernel_rfl
  have k1 : Tryz.prog.cellsOf 9 = 1 := by kernel_rfl
  have k2 : Tryz.prog.cellsOf 37 = 5 := by kernel_rfl
  rw [hC] at hlen
  have hW : ∀ m ∈ DataW.weightsEach Tryz.prog [5, 9, 9, 37] (xs.map (·.1)), m ≤ reachBytes := by
    rw [hx] at hw
    simpa [DataW.weights, Tryz.underlying90] using hw
  obtain ⟨c0, c1, c2, c3, c4, c5, c6, c7, rfl⟩ : ∃ a b c d e f g h, cs = [a, b, c, d, e, f, g, h] := by
    match cs, hlen with
    | [a, b, c, d, e, f, g, h], _ => exact ⟨a, b, c, d, e, f, g, h, rfl⟩
  obtain ⟨y0, y1, y2, y3, rfl⟩ : ∃ a b c d, xs = [a, b, c, d] := by
    match xs, (show xs.length = 4 from hxl) with
    | [a, b, c, d], _ => exact ⟨a, b, c, d, rfl⟩
  have g0 : DataW.trod enc Tryz.prog w base (fun _ => true) held n 5 [c0] = some y0 := by simpa [k0] using hg 0 _ rfl
  have g1 : DataW.trod enc Tryz.prog w base (fun _ => true) held n 9 [c1] = some y1 := by simpa [k0, k1] using hg 1 _ rfl
  have g2 : DataW.trod enc Tryz.prog w base (fun _ => true) held n 9 [c2] = some y2 := by simpa [k0, k1] using hg 2 _ rfl
  have g3 : DataW.trod enc Tryz.prog w base (fun _ => true) held n 37 [c3, c4, c5, c6, c7] = some y3 := by simpa [k0, k1, k2] using hg 3 _ rfl
  obtain ⟨z, hz, _, hzw⟩ := DataW.trod_int Tryz.underlying5 g0
  obtain ⟨s1, hs1, _, _⟩ := DataW.trod_string Tryz.underlying9 g1
  obtain ⟨s2, hs2, _, _⟩ := DataW.trod_string Tryz.underlying9 g2
  obtain ⟨t, hT, hsm⟩ := isT_of n _ _ g3 (fun m hm => hW m (DataW.weights_mem_each (j := 3) rfl rfl m hm))
  simp only [List.cons.injEq, and_true] at hz hs1 hs2
  subst hz hs1 hs2
  exact ⟨⟨UInt8.ofNat z.toNat, s1, s2, t⟩, ⟨[c3, c4, c5, c6, c7], by simp only [List.cons_append, List.nil_append]; rw [byte_back hzw], isT_up _ _ _ hT⟩, hsm, rfl⟩

theorem isXs_of {fuel : Nat} {c : Value} {x : DataW H × List MemPlace} (h : DataW.trod enc Tryz.prog w base (fun _ => true) held fuel 100 [c] = some x)
    (hw : ∀ m ∈ x.1.weights Tryz.prog 100, m ≤ reachBytes) : ∃ m a len cap l, c = .slice a len cap ∧ IsXs w m a len cap l ∧ (∀ i, i < l.length → Small (l.getD i default).tree) ∧ len * 120 ≤ 140737488355328 := by
  have hC : Tryz.prog.cellsOf 90 = 8 := by kernel_rfl
  rcases Deep.open_slice Tryz.underlying100 h with ⟨hc, _⟩ | ⟨y, len, cap, m, n, D, Pl, hc, _, hl, hm, hmm, hxx, hx⟩
  · simp at hc
    exact ⟨0, none, 0, 0, [], hc, ⟨rfl, .inl rfl, fun _ => ⟨rfl, rfl⟩, Nat.le_refl _, Nat.zero_le _⟩, fun i hi => by simp at hi, by simp⟩
  · simp at hc
    have hb120 : Tryz.prog.bytesOf 90 = 120 := by kernel_rfl
    have h120 : len * 120 ≤ 140737488355328 := by
      have := hw ((len + (m - len)) * Tryz.prog.bytesOf 90) (by rw [hxx]; simp [DataW.weights, Tryz.underlying100])
      rw [hb120] at this
      unfold reachBytes at this
      omega
    have hlm : len ≤ m := by rw [hmm]; split <;> omega
    have hall : ∀ i, i < len → ∃ q : List Value × EdD, IsX w n q.1 q.2 ∧ Small q.2.tree ∧ q.1.length = 8 ∧ ∀ j, j < 8 → w.cell? (y.add (i * 8 + j)) = q.1[j]? := by
      intro i hi
      obtain ⟨cs', hcs', ht⟩ := hx i (by omega)
      rw [hC] at hcs'
      obtain ⟨_, hl8, hat⟩ := World.cells?_some hcs'
      obtain ⟨x', h1, h2, h3⟩ := isX_of ht (fun q hq => hw q (by
        rw [hxx]
        simp only [DataW.weights, Tryz.underlying100, List.mem_cons, List.mem_append]
        exact .inr (.inl (weights_all _ i (D i) (by rw [List.getElem?_map, List.getElem?_range hi]; rfl) q hq))))
      refine ⟨(cs', x'), h1, h2, h3, fun j hj => ?_⟩
      have := hat j (by omega)
      rw [Deep.add_add] at this
      exact this
    obtain ⟨f, hf⟩ := Deep.choose_lt hall
    have hgd : ∀ i, i < len → ((List.range len).map fun i => (f i).2).getD i default = (f i).2 := fun i hi => by simp [List.getD, hi]
    refine ⟨n, some y, len, cap, (List.range len).map (fun i => (f i).2), hc, ⟨by simp, ?_, (fun h => by cases h), hl, hm⟩, fun i hi => ?_, h120⟩
    · rcases Nat.eq_zero_or_pos len with h0 | h0
      · exact .inl h0
      · right
        obtain ⟨b, off, spot⟩ := y
        obtain ⟨_, _, hl0, hc0⟩ := hf 0 (by omega)
        have hc00 := hc0 0 (by omega)
        rw [List.getElem?_eq_getElem (by omega)] at hc00
        have hspot : spot = none := by simpa [Addr.add] using World.cell?_spot hc00
        subst hspot
        have hb := World.block_lt_of_cell? w _ hc00
        refine ⟨b, off, rfl, by simpa [Addr.add] using hb, fun i hi => ?_⟩
        obtain ⟨ho, _, hl8, hcs⟩ := hf i hi
        rw [hgd i hi]
        refine ⟨(f i).1, ho, fun j u hj => ?_⟩
        have hj8 : j < 8 := by
          obtain ⟨h1, _⟩ := List.getElem?_eq_some_iff.1 hj
          omega
        have := hcs j hj8
        rw [Addr.add_mid] at this
        rw [Nat.add_assoc, this, hj]
    · have hi' : i < len := by simpa using hi
      rw [hgd i hi']
      exact (hf i hi').2.1
end

/-! A row of one's own. -/
def eight (L : List Value) (i : Nat) : List Value := (L.drop (i * 8)).take 8
theorem eight_get {L : List Value} {i : Nat} (j : Nat) (hj : j < 8) : (eight L i)[j]? = L[i * 8 + j]? := by
  unfold eight
  rw [List.getElem?_take, if_pos hj, List.getElem?_drop]
theorem eight_none (L : List Value) (i j : Nat) (hj : ¬ j < 8) : (eight L i)[j]? = none := List.getElem?_eq_none (by unfold eight; rw [List.length_take]; omega)
theorem eight_left {A C : List Value} {i m : Nat} (hA : A.length = m * 8) (hi : i < m) : eight (A ++ C) i = eight A i := by
  refine List.ext_getElem? fun j => ?_
  by_cases hj : j < 8
  · rw [eight_get j hj, eight_get j hj, List.getElem?_append_left (by omega)]
  · rw [eight_none _ _ _ hj, eight_none _ _ _ hj]
theorem eight_right {A C : List Value} {i m : Nat} (hA : A.length = m * 8) (hi : m ≤ i) : eight (A ++ C) i = eight C (i - m) := by
  refine List.ext_getElem? fun j => ?_
  by_cases hj : j < 8
  · rw [eight_get j hj, eight_get j hj, List.getElem?_append_right (by omega)]
    congr 1; omega
  · rw [eight_none _ _ _ hj, eight_none _ _ _ hj]

/-- A list of edits as one list of cells. -/
theorem srcX {w : World} {m : Nat} {a : Option Addr} {n c : Nat} {l : List EdD} (h : IsXs w m a n c l) :
    ∃ L : List Value, L.length = n * 8 ∧ (∀ i, i < n → IsX w m (eight L i) (l.getD i default)) ∧ (∀ ad, a = some ad → ∀ j u, L[j]? = some u → w.cell? (ad.add j) = some u) ∧ (∀ u ∈ L, u.oneCell' = true) := by
  rcases h.at_ with h0 | ⟨b, off, rfl, hb, hc⟩
  · subst h0
    exact ⟨[], rfl, fun i hi => by omega, fun ad _ j u hu => by simp at hu, fun u hu => by cases hu⟩
  · obtain ⟨f, hf⟩ := Deep.choose_lt hc
    have hlen : ∀ i, i < n → (f i).length = 8 := fun i hi => (hf i hi).1.eight.1
    have key : ∀ k, k ≤ n → ∃ L : List Value, L.length = k * 8 ∧ (∀ i, i < k → eight L i = f i) ∧ (∀ j u, L[j]? = some u → w.cell? ⟨b, off + j, none⟩ = some u) ∧ (∀ u ∈ L, u.oneCell' = true) := by
      intro k
      induction k with
      | zero => exact fun _ => ⟨[], rfl, fun i hi => by omega, fun j u hu => by simp at hu, fun u hu => by cases hu⟩
      | succ k ih =>
        intro hk
        obtain ⟨L, h1, h2, h3, h4⟩ := ih (by omega)
        have hfk := hlen k (by omega)
        refine ⟨L ++ f k, by rw [List.length_append, h1, hfk]; omega, fun i hi => ?_, fun j u hu => ?_, fun u hu => ?_⟩
        · by_cases e : i < k
          · rw [eight_left h1 e]; exact h2 i e
          · have e' : i = k := by omega
            subst e'
            rw [eight_right h1 (Nat.le_refl _), Nat.sub_self]
            unfold eight; simp [← hfk]
        · by_cases e : j < k * 8
          · rw [List.getElem?_append_left (by omega)] at hu; exact h3 j u hu
          · rw [List.getElem?_append_right (by omega), h1] at hu
            have := (hf k (by omega)).2 (j - k * 8) u hu
            rw [Nat.add_assoc, show k * 8 + (j - k * 8) = j by omega] at this
            exact this
        · rcases List.mem_append.1 hu with h | h
          · exact h4 u h
          · have := (hf k (by omega)).1.eight.2
            rw [Array.all_eq_true_iff_forall_mem] at this
            exact this u (by simpa using h)
    obtain ⟨L, h1, h2, h3, h4⟩ := key n (Nat.le_refl _)
    refine ⟨L, h1, fun i hi => by rw [h2 i hi]; exact (hf i hi).1, fun ad ha j u hu => ?_, h4⟩
    cases ha
    rw [Addr.add_mid]
    exact h3 j u hu
theorem isXs_owned {w : World} {B m n : Nat} {v : Value} {L : List Value} {l : List EdD} (h : w.ownsRow B 90 8 v n L) (hl : l.length = n) (hx : ∀ i, i < n → IsX w m (eight L i) (l.getD i default)) : ∃ a c, v = .slice a n c ∧ IsXs w m a n c l := by
  rcases h.2 with ⟨rfl, h0⟩ | ⟨g, cap, cur, rfl, hg, hgg, hle, hmx, hsz, htk⟩
  · subst h0
    exact ⟨none, 0, rfl, hl, .inl rfl, fun _ => ⟨rfl, rfl⟩, Nat.le_refl _, Nat.zero_le _⟩
  · refine ⟨_, _, rfl, hl, .inr ⟨g, 0, rfl, (Array.getElem?_eq_some_iff.1 hgg).1, fun i hi => ⟨_, hx i hi, fun j u hu => ?_⟩⟩, (fun e => by cases e), hle, hmx⟩
    have hj : j < 8 := by
      obtain ⟨h1, _⟩ := List.getElem?_eq_some_iff.1 hu
      unfold eight at h1
      rw [List.length_take] at h1; omega
    rw [eight_get j hj, ← htk, List.getElem?_take] at hu
    split at hu
    · rw [Nat.zero_add, cell_of_row w g (i * 8 + j) cur _ (0, 0) hgg]
      rw [← hu]; simp
    · cases hu

end Go.Proofs.YtlccdenafnekjaaGreatDoor
namespace Go.Proofs.YtlccdenafnekjaaGreatDoor
open Go.RowKit
set_option linter.unusedVariables false

/-! Names and places. -/
theorem plc_of {ns : List ByteArray} {x : ByteArray} {k : Nat} (hkl : k ≤ ns.length) (h1 : ∀ y ∈ ns.take k, nLt y x) (h2 : ∀ y ∈ ns.drop k, ¬ nLt y x) : plc ns x = k := by
  unfold plc
  rw [bsGo_congr (less' := fun t => Op.bytesLess (ns.getD t ⟨#[]⟩).toList x.toList && decide (t < ns.length)) _ _ _ (fun t _ ht => by simp [ht])]
  refine Lib.bsGo_spec _ k (fun t ht => ?_) (fun t ht => ?_) _ _ _ (by omega) (Nat.zero_le _) hkl
  · have hm : ns[t]'(by omega) ∈ ns.take k := List.mem_take_iff_getElem.2 ⟨t, by omega, rfl⟩
    have := h1 _ hm
    rw [List.getD_eq_getElem?_getD, List.getElem?_eq_getElem (by omega)]
    simp only [Option.getD_some, Bool.and_eq_true, decide_eq_true_eq]
    exact ⟨this, by omega⟩
  · by_cases hl : t < ns.length
    · have hm : ns[t] ∈ ns.drop k := List.mem_drop_iff_getElem.2 ⟨t - k, by omega, by congr 1; omega⟩
      have := h2 _ hm
      rw [List.getD_eq_getElem?_getD, List.getElem?_eq_getElem hl]
      simp only [Option.getD_some, Bool.and_eq_false_iff]
      exact .inl (by simpa [nLt] using this)
    · simp [hl]
theorem getD_ns {ns : List ByteArray} {j : Nat} (hj : j < ns.length) : ns.getD j ⟨#[]⟩ = ns[j] := by rw [List.getD_eq_getElem?_getD, List.getElem?_eq_getElem hj]; rfl
theorem plc_mem {ns : List ByteArray} (hp : ns.Pairwise nLt) {j : Nat} (hj : j < ns.length) : plc ns ns[j] = j ∧ tkn ns ns[j] = true := by
  have h1 : plc ns ns[j] = j := plc_of (Nat.le_of_lt hj) (fun y hy => by
    obtain ⟨m, hm, rfl⟩ := List.mem_take_iff_getElem.1 hy
    exact List.pairwise_iff_getElem.1 hp m j (by omega) hj (by omega)) (fun y hy => by
    obtain ⟨m, hm, rfl⟩ := List.mem_drop_iff_getElem.1 hy
    rcases Nat.eq_zero_or_pos m with rfl | h0
    · exact nLt_irr _
    · exact fun h => nLt_irr _ (nLt_trans (List.pairwise_iff_getElem.1 hp j (j + m) hj (by omega) (by omega)) h))
  refine ⟨h1, ?_⟩
  unfold tkn
  rw [h1]
  simp only [decide_eq_true_eq]
  exact ⟨hj, getD_ns hj⟩
theorem tkn_mem {ns : List ByteArray} (hp : ns.Pairwise nLt) {x : ByteArray} : tkn ns x = true ↔ x ∈ ns := by
  constructor
  · intro h
    obtain ⟨h1, h2⟩ := tkn_spec h
    rw [← h2, getD_ns h1]
    exact List.getElem_mem h1
  · intro h
    obtain ⟨j, hj, rfl⟩ := List.mem_iff_getElem.1 h
    exact (plc_mem hp hj).2
theorem idx_tkn {ns : List ByteArray} (hp : ns.Pairwise nLt) {x : ByteArray} : Lib.idxOfS ns x = if tkn ns x = true then (plc ns x : Int) else -1 := by
  have e0 : Lib.idxOfS (ns.take ns.length) x = Lib.idxOfS ns x := by rw [List.take_length]
  by_cases h : tkn ns x = true
  · rw [if_pos h, ← e0]
    obtain ⟨h1, h2⟩ := tkn_spec h
    refine Lib.idxOfS_hit ns ns.length (plc ns x) x h1 (Nat.le_refl _) h2 (fun j hj e => ?_)
    have e' : ns.getD j ⟨#[]⟩ = x := e
    rw [getD_ns (by omega)] at e'
    have := (plc_mem hp (show j < ns.length by omega)).1
    rw [e'] at this
    omega
  · rw [if_neg h, ← e0]
    refine Lib.idxOfS_miss ns ns.length x (fun j hj e => h ((tkn_mem hp).2 ?_))
    have e' : ns.getD j ⟨#[]⟩ = x := e
    rw [getD_ns hj] at e'
    rw [← e']
    exact List.getElem_mem hj

/-- What a directory has by a name. -/
theorem dir_pw {x : Bool} {d : List UInt8} {ns : List ByteArray} {ks : List T} (h : fmA (.mk 3 x d ns ks)) : ns.length = ks.length ∧ ns.Pairwise nLt ∧ risingT ns = true := by
  rw [fmA_mk] at h
  obtain ⟨h1, h2, _⟩ := dir_form h.1
  exact ⟨h1, ((risingT_iff ns).1 h2).2, h2⟩
theorem find_dir {x : Bool} {d : List UInt8} {ns : List ByteArray} {ks : List T} (h : fmA (.mk 3 x d ns ks)) (nm : ByteArray) (r : List ByteArray) : findT (nm :: r) (.mk 3 x d ns ks) = if tkn ns nm = true then findT r (ks.getD (plc ns nm) default) else .inl 6 := by
  obtain ⟨hl, hp, _⟩ := dir_pw h
  rw [findT, if_neg (by simp), idx_tkn hp]
  by_cases ht : tkn ns nm = true
  · have := (tkn_spec ht).1
    rw [if_pos ht, if_pos ht, if_neg (by omega)]
    rfl
  · rw [if_neg ht, if_neg ht, if_pos (.inl (by omega))]

theorem chg_dir (e : Ed) (nm : ByteArray) (r : List ByteArray) (hr : r ≠ []) (dep : Nat) (x : Bool) (d : List UInt8) (ns : List ByteArray) (ks : List T) (a b : Nat) : chgE e (nm :: r) dep (.mk 3 x d ns ks) a b =
    if tkn ns nm = true then ((chgE e r (dep + 1) (ks.getD (plc ns nm) default) a b).1, .mk 3 x d ns (ks.set (plc ns nm) (chgE e r (dep + 1) (ks.getD (plc ns nm) default) a b).2.1), (chgE e r (dep + 1) (ks.getD (plc ns nm) default) a b).2.2) else (6, .mk 3 x d ns ks, a, b) := by
  rw [chgE]
  show (if ((3 : UInt8) ≠ 3) then _ else _) = _
  rw [if_neg (by decide), if_neg hr]
  rfl
theorem chg_one (e : Ed) (nm : ByteArray) (dep : Nat) (x : Bool) (d : List UInt8) (ns : List ByteArray) (ks : List T) (a b : Nat) : chgE e [nm] dep (.mk 3 x d ns ks) a b = actE e nm dep (.mk 3 x d ns ks) a b := by
  rw [chgE]
  show (if ((3 : UInt8) ≠ 3) then _ else _) = _
  rw [if_neg (by decide), if_pos rfl]
theorem chg_not (e : Ed) (nm : ByteArray) (r : List ByteArray) (dep : Nat) (k : UInt8) (hk : k ≠ 3) (x : Bool) (d : List UInt8) (ns : List ByteArray) (ks : List T) (a b : Nat) : chgE e (nm :: r) dep (.mk k x d ns ks) a b = (8, .mk k x d ns ks, a, b) := by
  rw [chgE]
  show (if (k ≠ 3) then _ else _) = _
  rw [if_pos hk]
theorem drop_one {ns : List ByteArray} {nm : ByteArray} (dep : Nat) (x : Bool) (d : List UInt8) (ks : List T) (a b : Nat) : actE .drop nm dep (.mk 3 x d ns ks) a b =
    if tkn ns nm = true then (0, .mk 3 x d (ns.take (plc ns nm) ++ ns.drop (plc ns nm + 1)) (ks.take (plc ns nm) ++ ks.drop (plc ns nm + 1)), a - sizeN (ks.getD (plc ns nm) default), b - bytesT (ks.getD (plc ns nm) default)) else (6, .mk 3 x d ns ks, a, b) := rfl

/-- What drop tells is what At tells. -/
theorem drop_find : ∀ (l : List ByteArray), l ≠ [] → ∀ (t : T) (dep a b : Nat), fmA t → findT l t = if (chgE .drop l dep t a b).1 = 0 then .inr (getE l t) else .inl ((chgE .drop l dep t a b).1 : Int)
  | [], hne, _, _, _, _, _ => absurd rfl hne
  | nm :: r, _, .mk k x d ns ks, dep, a, b, hf => by
    by_cases hk : k = 3
    · subst hk
      have hp := dir_pw hf
      rw [find_dir hf]
      by_cases hr : r = []
      · subst hr
        rw [chg_one, drop_one]
        by_cases ht : tkn ns nm = true
        · simp only [if_pos ht]; rfl
        · simp only [if_neg ht]; rfl
      · rw [chg_dir _ _ _ hr]
        by_cases ht : tkn ns nm = true
        · simp only [if_pos ht]
          have hi : plc ns nm < ks.length := by rw [← hp.1]; exact (tkn_spec ht).1
          rw [fmA_mk] at hf
          exact drop_find r hr _ (dep + 1) a b (fmL_getD hf.2 hi)
        · simp only [if_neg ht]; rfl
    · rw [chg_not _ _ _ _ _ hk, findT, if_pos hk]; rfl

theorem set_take {ks : List T} {i : Nat} {k : T} : (ks.set i k).take i = ks.take i := by rw [List.take_set_of_le (Nat.le_refl _)]
theorem set_drop {ks : List T} {i : Nat} {k : T} : (ks.set i k).drop (i + 1) = ks.drop (i + 1) := by rw [List.drop_set_of_lt (by omega)]
theorem set_get {ks : List T} {i : Nat} (hi : i < ks.length) (k : T) : (ks.set i k).getD i default = k := by rw [getD_set hi, if_pos rfl]
theorem set_self {ks : List T} {i : Nat} (hi : i < ks.length) : ks.set i (ks.getD i default) = ks := by
  rw [set_at hi]; exact (split_at hi).symm

/-- Where a name that was not there stands, behind its insertion. -/
theorem ins_plc {ns : List ByteArray} (h : risingT ns = true) {nm : ByteArray} (hn : tName nm.data.toList = true) (ht : tkn ns nm = false) : plc (ns.take (plc ns nm) ++ nm :: ns.drop (plc ns nm)) nm = plc ns nm ∧ tkn (ns.take (plc ns nm) ++ nm :: ns.drop (plc ns nm)) nm = true := by
  have hr := ((risingT_iff _).1 (rising_ins h hn ht)).2
  have hpl := plc_le ns nm
  have hj : plc ns nm < (ns.take (plc ns nm) ++ nm :: ns.drop (plc ns nm)).length := by simp; omega
  have hg : (ns.take (plc ns nm) ++ nm :: ns.drop (plc ns nm))[plc ns nm] = nm := by
    rw [← getD_ns hj, getD_ins hpl, if_neg (by omega), if_pos rfl]
  have := plc_mem hr hj
  rw [hg] at this
  exact this
theorem ins_del {α : Type} {l : List α} {i : Nat} (hi : i ≤ l.length) (k : α) : (l.take i ++ k :: l.drop i).take i ++ (l.take i ++ k :: l.drop i).drop (i + 1) = l := by
  have h1 : (l.take i).length = i := by rw [List.length_take]; omega
  rw [List.take_left' h1, show l.take i ++ k :: l.drop i = (l.take i ++ [k]) ++ l.drop i by simp, List.drop_left' (by simp; omega), List.take_append_drop]

/-- Behind a put: what is there; what a drop there leaves. -/
theorem put_drop (k : T) (hk : fmA k) : ∀ (m : List ByteArray), m ≠ [] → (∀ x ∈ m, tName x.data.toList = true) → ∀ (t : T) (dep a b a' b' a2 b2 : Nat), Lim t dep a b → (chgE (.put k) m dep t a b).1 = 0 →
    findT m (chgE (.put k) m dep t a b).2.1 = .inr k ∧ (chgE .drop m dep (chgE (.put k) m dep t a b).2.1 a' b').1 = 0 ∧
      ((chgE .drop m dep t a2 b2).1 = 0 ∧ (chgE .drop m dep (chgE (.put k) m dep t a b).2.1 a' b').2.1 = (chgE .drop m dep t a2 b2).2.1 ∨
        (chgE .drop m dep t a2 b2).1 = 6 ∧ (chgE .drop m dep (chgE (.put k) m dep t a b).2.1 a' b').2.1 = t)
  | [], hne, _, _, _, _, _, _, _, _, _, _, _ => absurd rfl hne
  | nm :: r, _, hn, .mk kd x d ns ks, dep, a, b, a', b', a2, b2, hl, h0 => by
    by_cases hk3 : kd = 3
    · subst hk3
      have hf := hl.1
      obtain ⟨hlen, hp, hris⟩ := dir_pw hf
      by_cases hr : r = []
      · subst hr
        have hd := act_done (.put k) (fun q hq => by cases hq; exact hk) (hn nm (by simp)) hl (by rw [chg_one] at h0; exact h0)
        rw [chg_one] at h0 ⊢
        have hfu := hd.fm
        have hpl := plc_le ns nm
        rcases ht : tkn ns nm with _ | _
        · have hu : (actE (.put k) nm dep (.mk 3 x d ns ks) a b).2.1 = .mk 3 x d (ns.take (plc ns nm) ++ nm :: ns.drop (plc ns nm)) (ks.take (plc ns nm) ++ k :: ks.drop (plc ns nm)) := by
            show (if tkn ns nm = true then _ else layE nm (plc ns nm) dep (.mk 3 x d ns ks) k a b).2.1 = _
            rw [ht]; rfl
          obtain ⟨p1, p2⟩ := ins_plc hris (hn nm (by simp)) ht
          rw [hu] at hfu ⊢
          rw [find_dir hfu, if_pos p2, p1, getD_ins (by omega), if_neg (by omega), if_pos rfl, chg_one, chg_one, drop_one, drop_one, if_pos p2, p1, ht]
          refine ⟨by rw [findT], rfl, .inr ⟨rfl, ?_⟩⟩
          simp only
          rw [ins_del hpl, ins_del (by omega)]
        · have hu : (actE (.put k) nm dep (.mk 3 x d ns ks) a b).2.1 = .mk 3 x d ns (ks.set (plc ns nm) k) := by
            rw [← put_there (k := 3) (x := x) (d := d) hlen ht k]
            show (if tkn ns nm = true then _ else _ : ER).2.1 = _
            rw [ht]; rfl
          have hi : plc ns nm < ks.length := by rw [← hlen]; exact (tkn_spec ht).1
          rw [hu] at hfu ⊢
          rw [find_dir hfu, if_pos ht, set_get hi, chg_one, chg_one, drop_one, drop_one, if_pos ht, if_pos ht]
          refine ⟨by rw [findT], rfl, .inl ⟨rfl, ?_⟩⟩
          simp only
          rw [set_take, set_drop]
      · rw [chg_dir _ _ _ hr] at h0 ⊢
        rcases ht : tkn ns nm with _ | _
        · rw [ht] at h0; simp at h0
        · rw [ht] at h0
          simp only [if_true] at h0 ⊢
          have hi : plc ns nm < ks.length := by rw [← hlen]; exact (tkn_spec ht).1
          have ih := put_drop k hk r hr (fun y hy => hn y (List.mem_cons_of_mem _ hy)) (ks.getD (plc ns nm) default) (dep + 1) a b a' b' a2 b2 (hl.kid hi) h0
          have hq := chg_done (.put k) (fun q hq => by cases hq; exact hk) r (fun y hy => hn y (List.mem_cons_of_mem _ hy)) (ks.getD (plc ns nm) default) (dep + 1) a b (hl.kid hi) h0
          rw [fmA_mk] at hf
          have hfu : fmA (.mk 3 x d ns (ks.set (plc ns nm) (chgE (.put k) r (dep + 1) (ks.getD (plc ns nm) default) a b).2.1)) := by
            rw [fmA_mk]
            exact ⟨(dir_form hf.1).2.2 _ _ (by rw [List.length_set]; exact hlen) hris, set_fm hi hf.2 hq.fm⟩
          rw [find_dir hfu, if_pos ht, set_get hi, chg_dir _ _ _ hr, chg_dir _ _ _ hr, if_pos ht, if_pos ht, set_get hi]
          refine ⟨ih.1, ih.2.1, ?_⟩
          rcases ih.2.2 with ⟨q1, q2⟩ | ⟨q1, q2⟩
          · exact .inl ⟨q1, by simp only; rw [q2, List.set_set]⟩
          · exact .inr ⟨q1, by simp only; rw [q2, List.set_set, set_self hi]⟩
    · rw [chg_not _ _ _ _ _ hk3] at h0; simp at h0

/-- What is dropped and put again is where it was. -/
theorem drop_put : ∀ (l : List ByteArray), l ≠ [] → (∀ x ∈ l, tName x.data.toList = true) → ∀ (t : T) (dep a b : Nat), Lim t dep a b → (chgE .drop l dep t a b).1 = 0 →
    chgE (.put (getE l t)) l dep (chgE .drop l dep t a b).2.1 (chgE .drop l dep t a b).2.2.1 (chgE .drop l dep t a b).2.2.2 = (0, t, a, b)
  | [], hne, _, _, _, _, _, _, _ => absurd rfl hne
  | nm :: r, _, hn, .mk kd x d ns ks, dep, a, b, hl, h0 => by
    by_cases hk3 : kd = 3
    · subst hk3
      have hf := hl.1
      obtain ⟨hlen, hp, hris⟩ := dir_pw hf
      by_cases hr : r = []
      · subst hr
        rw [chg_one, drop_one] at h0 ⊢
        rcases ht : tkn ns nm with _ | _
        · rw [ht] at h0; simp at h0
        · obtain ⟨h1, h2⟩ := tkn_spec ht
          have hi : plc ns nm < ks.length := by rw [← hlen]; exact h1
          simp only [if_true]
          rw [chg_one]
          have hg : getE [nm] (.mk 3 x d ns ks) = ks.getD (plc ns nm) default := rfl
          rw [hg]
          -- the name is gone, and its place is the same
          have hrd := rising_del hris (plc ns nm)
          have hnl : ∀ y ∈ ns.take (plc ns nm), nLt y nm := (plc_spec hp nm).1
          have hng : ∀ y ∈ ns.drop (plc ns nm + 1), nLt nm y := fun y hy => by
            obtain ⟨j, hj, rfl⟩ := List.mem_drop_iff_getElem.1 hy
            have e : ns[plc ns nm] = nm := by rw [← getD_ns h1]; exact h2
            have := List.pairwise_iff_getElem.1 hp (plc ns nm) (plc ns nm + 1 + j) h1 (by omega) (by omega)
            rw [e] at this
            exact this
          have t1 : (ns.take (plc ns nm)).length = plc ns nm := by rw [List.length_take]; omega
          have hp1 : plc (ns.take (plc ns nm) ++ ns.drop (plc ns nm + 1)) nm = plc ns nm := plc_of (by simp; omega) (fun y hy => by rw [List.take_left' t1] at hy; exact hnl y hy) (fun y hy => by
            rw [List.drop_left' t1] at hy
            exact fun h => nLt_irr _ (nLt_trans (hng y hy) h))
          have hp2 : tkn (ns.take (plc ns nm) ++ ns.drop (plc ns nm + 1)) nm = false := by
            cases hq : tkn (ns.take (plc ns nm) ++ ns.drop (plc ns nm + 1)) nm with
            | false => rfl
            | true =>
              have hm := (tkn_mem ((risingT_iff _).1 hrd).2).1 hq
              rcases List.mem_append.1 hm with h | h
              · exact absurd (hnl _ h) (nLt_irr _)
              · exact absurd (hng _ h) (nLt_irr _)
          show (if tkn (ns.take (plc ns nm) ++ ns.drop (plc ns nm + 1)) nm = true then _ else layE nm (plc (ns.take (plc ns nm) ++ ns.drop (plc ns nm + 1)) nm) dep (.mk 3 x d (ns.take (plc ns nm) ++ ns.drop (plc ns nm + 1)) (ks.take (plc ns nm) ++ ks.drop (plc ns nm + 1))) (ks.getD (plc ns nm) default) (a - sizeN (ks.getD (plc ns nm) default)) (b - bytesT (ks.getD (plc ns nm) default)) : ER) = _
          rw [hp2, hp1]
          have hself := put_there (k := 3) (x := x) (d := d) hlen ht (ks.getD (plc ns nm) default)
          rw [set_self hi] at hself
          have hs := sizeNL_get hi
          have hb := bytesL_kid hi
          have hh := height_get hi
          obtain ⟨l1, l2, l3, l4, l5, l6, l7⟩ := hl
          rw [sizeN_mk] at l4
          rw [bytesT_mk] at l6
          rw [heightT_mk] at l3
          simp only [Bool.false_eq_true, if_false]
          unfold layE
          rw [if_neg (by omega)]
          have e1 : a - sizeN (ks.getD (plc ns nm) default) + sizeN (ks.getD (plc ns nm) default) = a := by omega
          have e2 : b - bytesT (ks.getD (plc ns nm) default) + bytesT (ks.getD (plc ns nm) default) = b := by omega
          rw [e1, e2]
          exact congrArg (fun z => ((0, z, a, b) : ER)) hself
      · rw [chg_dir _ _ _ hr] at h0 ⊢
        rcases ht : tkn ns nm with _ | _
        · rw [ht] at h0; simp at h0
        · rw [ht] at h0
          simp only [if_true] at h0 ⊢
          have hi : plc ns nm < ks.length := by rw [← hlen]; exact (tkn_spec ht).1
          have ih := drop_put r hr (fun y hy => hn y (List.mem_cons_of_mem _ hy)) (ks.getD (plc ns nm) default) (dep + 1) a b (hl.kid hi) h0
          have hg : getE (nm :: r) (.mk 3 x d ns ks) = getE r (ks.getD (plc ns nm) default) := rfl
          rw [hg, chg_dir _ _ _ hr, if_pos ht, set_get hi, ih]
          simp only
          rw [List.set_set, set_self hi]
    · rw [chg_not _ _ _ _ _ hk3] at h0; simp at h0

theorem ld_rowG {P : Program} {ops : Array Oper} {rest : List Oper} {o : Oper} {a : Act} {w : World} {Q : Exit → Act → World → Prop} (hw : Region.wanted o (yielded ops a.tmps) = true) (ty : TypeId) (x : Operand) (ho : o.op = .load ty x)
    (g : Nat) (hx : a.eval x = .pointer (some ⟨g, 0, none⟩)) (t : TypeId) (cs : Array Value) (fr : Nat × Nat) (d : TypeDesc) (hg : w.heap[g]? = some (.cells cs t fr))
    (hu : P.underlying ty = some d) (hd : (match d with | .struct _ | .array _ _ => true | _ => false) = true) (hi : (P.info? ty).map (·.size) = some cs.size)
    (h : wpList P ops Q rest (a.put o.dst (.agg cs)) w) : wpList P ops Q (o :: rest) a w :=
  BigFrame.wpList_want hw fun _ hK => wp_load_row ty x ho g hx t cs fr d hg hu hd hi (hK _ _ h)

theorem run_small {t : T} {l : List EdD} (h : (runE t l).1 = 0) : Small (runE t l).2.1 ∧ (sizeT (runE t l).2.1).isSome = true := by
  rcases hs : (sizeT t).isSome with _ | _
  · rw [run_bad hs] at h; cases h
  · rw [run_good hs] at h ⊢
    have hx := foldE_ok l (exact_of hs) h
    exact ⟨hx.1.small.1, hx.size⟩
theorem run_one {t : T} (hs : (sizeT t).isSome = true) (x : EdD) : runE t [x] = applyE x t (sizeN t) (bytesT t) := by
  rw [run_good hs, foldE]
  by_cases h : (applyE x t (sizeN t) (bytesT t)).1 ≠ 0
  · rw [if_pos h]
  · rw [if_neg h, foldE]
    have h0 : (applyE x t (sizeN t) (bytesT t)).1 = 0 := by simpa using h
    exact Prod.ext h0.symm rfl
theorem bel_split {s : List UInt8} (h : belN s = 0) : splitT s = (pieces s, 0) := by
  unfold belN at h
  unfold splitT
  by_cases h1 : 400 < s.length
  · rw [if_pos h1] at h; cases h
  · rw [if_neg h1] at h ⊢
    by_cases h2 : s = []
    · rw [if_pos h2] at h; cases h
    · rw [if_neg h2] at h ⊢
      by_cases h3 : (pieces s).all tName = true
      · rw [if_pos h3]
      · rw [if_neg h3] at h; cases h
theorem at_names {s : List UInt8} (h : belN s = 0) (t : T) : atT s t = findT (nmE s) t := by
  unfold atT
  rw [bel_split h, if_pos rfl]
  rfl
theorem app_put (p src : ByteArray) (k t : T) (a b : Nat) (hb : belN p.data.toList = 0) (hk : (sizeT k).isSome = true) : applyE ⟨2, p, src, k⟩ t a b = chgE (.put k) (nmE p.data.toList) 1 t a b := by
  unfold applyE
  rw [if_neg (by simp [hb]), if_neg (show ¬ ((2 : UInt8) = 1) by decide), if_pos rfl, if_pos hk]
theorem app_drop (p src : ByteArray) (k t : T) (a b : Nat) (hb : belN p.data.toList = 0) : applyE ⟨4, p, src, k⟩ t a b = chgE .drop (nmE p.data.toList) 1 t a b := by
  unfold applyE
  rw [if_neg (by simp [hb]), if_neg (show ¬ ((4 : UInt8) = 1) by decide), if_neg (show ¬ ((4 : UInt8) = 2) by decide), if_neg (show ¬ ((4 : UInt8) = 3) by decide), if_pos rfl]
theorem app_bel (x : EdD) (t : T) (a b : Nat) (h : (applyE x t a b).1 = 0) : belN x.path.data.toList = 0 := by
  unfold applyE at h
  by_cases hb : belN x.path.data.toList ≠ 0
  · simp only [if_pos hb] at h; exact absurd h hb
  · simpa using hb

/-- What is put and dropped again. -/
theorem undone (p : ByteArray) (t k : T) (ht : (sizeT t).isSome = true) (hk : (sizeT k).isSome = true) (h : (runE t [⟨2, p, ⟨#[]⟩, k⟩]).1 = 0) :
    atT p.data.toList (runE t [⟨2, p, ⟨#[]⟩, k⟩]).2.1 = .inr k ∧ (runE (runE t [⟨2, p, ⟨#[]⟩, k⟩]).2.1 [⟨4, p, ⟨#[]⟩, zeroT⟩]).1 = 0 ∧
      (((runE t [⟨4, p, ⟨#[]⟩, zeroT⟩]).1 = 0 ∧ (runE (runE t [⟨2, p, ⟨#[]⟩, k⟩]).2.1 [⟨4, p, ⟨#[]⟩, zeroT⟩]).2.1 = (runE t [⟨4, p, ⟨#[]⟩, zeroT⟩]).2.1) ∨
        ((runE t [⟨4, p, ⟨#[]⟩, zeroT⟩]).1 = 6 ∧ (runE (runE t [⟨2, p, ⟨#[]⟩, k⟩]).2.1 [⟨4, p, ⟨#[]⟩, zeroT⟩]).2.1 = t)) := by
  have hu := (run_small h).2
  rw [run_one hu, run_one ht (⟨4, p, ⟨#[]⟩, zeroT⟩ : EdD)]
  rw [run_one ht] at h ⊢
  have hb : belN p.data.toList = 0 := app_bel ⟨2, p, ⟨#[]⟩, k⟩ t _ _ h
  rw [app_put _ _ _ _ _ _ hb hk] at h ⊢
  rw [at_names hb, app_drop _ _ _ _ _ _ hb, app_drop _ _ _ _ _ _ hb]
  exact put_drop k (sizeT_get hk).2.1 (nmE p.data.toList) (nmE_ne _) (nmE_names hb) t 1 (sizeN t) (bytesT t) _ _ _ _ (exact_of ht).1 h

theorem one_edit {w : World} {g m : Nat} {cs : List Value} {x : EdD} (h : Has w g cs 90) (hx : IsX w m cs x) : IsXs w m (some ⟨g, 0, none⟩) 1 1 [x] :=
  ⟨rfl, .inr ⟨g, 0, rfl, h.lt, fun i hi => ⟨cs, by
    obtain rfl : i = 0 := by omega
    exact hx, fun j v hv => by
    obtain rfl : i = 0 := by omega
    have := h.cellAt hv
    simpa using this⟩⟩, (fun e => by cases e), Nat.le_refl _, by decide⟩

end Go.Proofs.YtlccdenafnekjaaGreatDoor

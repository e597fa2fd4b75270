/-
  slices.Delete of one element at []api.Tree, at a row of one's own. Conditions: the row is owned.
-/
import Derived.Test.YtbempgdndmchlaaDoorEIns
namespace Go.Proofs.YtbempgdndmchlaaDoor
open Go.RowKit
set_option linter.unusedVariables false

theorem step_append_runI {P : Program} {ops : Array Oper} {o : Oper} {a : Act} {w : World} {K : Act → World → Prop} {Q : Exit → Act → World → Prop} {E : Prop}
    (hg : o.guard = none) (d x : Operand) (dT sT : TypeId) (hop : o.op = Op.call { callee := Callee.builtin Builtin.append, args := #[d, x], argTypes := #[dT, sT] })
    (v u : Value) (hd : a.eval d = v) (hx : a.eval x = u) {v' : Value} {w' : World} (hr : (Builtin.append_ #[dT, sT] o.type #[v, u]).run P w = .ok v' w') (hK : K (a.put o.dst v') w') :
    if Region.wanted o (yielded ops a.tmps) = true then Oper.wp P o a w K Q else E := by
  have hw : Region.wanted o (yielded ops a.tmps) = true := by simp [Region.wanted, hg]
  rw [if_pos hw]
  exact Lib.wp_append_run w d x dT sT hop v u hd hx v' w' hr hK
theorem run_clear_one {P : Program} (w : World) (t elem : TypeId) (z : Value) (g o c : Nat) (cur : Array Value) (tt : TypeId) (ty : TypeId)
    (hu : P.underlying t = some (.slice elem)) (hz : ∀ w, (zeroValue elem).run P w = .ok z w) (hg : w.heap[g]? = some (.cells cur tt (0, 0)))
    (hfit : o + (Builtin.zeroCells z.cells 1).size ≤ cur.size) (h1 : ∀ v ∈ (Builtin.zeroCells z.cells 1).toList, v.oneCell' = true) :
    (Builtin.clear_ #[t] ty #[.slice (some ⟨g, o, none⟩) 1 c]).run P w = .ok (.tuple #[]) (w.setRow g (cur.toList.take o ++ (Builtin.zeroCells z.cells 1).toList ++ cur.toList.drop (o + (Builtin.zeroCells z.cells 1).size)).toArray) := by
  have hst := run_storeCells_at P g o tt (Builtin.zeroCells z.cells 1).toList 0 cur w hg (by simpa using hfit) h1
  simp at hst
  simp [Builtin.clear_, run_underlying hu, hz, hst]
theorem del_nums (n i : Nat) (hn : n ≤ 1000000) (hi : i < n) : IntKind.i64.wrap ((i : Int) + 1) = (i : Int) + 1 := by rw [IntKind.wrap_i64]; omega

set_option maxRecDepth 100000 in
set_option maxHeartbeats 4000000 in
theorem delT_any {w : World} {B n i : Nat} {v : Value} {L : List Value} (ho : w.ownsRow B tT 5 v n L) (hn : n ≤ 1000000) (hi : i < n) (h1L : ∀ u ∈ L, u.oneCell' = true) :
    Calls Tryd.prog 60 #[v, .int .i64 (i : Int), .int .i64 ((i + 1 : Nat) : Int)] w fun e w' =>
      ∃ v', e = .returned v' ∧ w'.ownsRow B tT 5 v' (n - 1) (L.take (i * 5) ++ L.drop ((i + 1) * 5)) ∧ w.grownBy w' v.ownBlock ∧ v'.ownBlock = v.ownBlock := by
  have hLl : L.length = n * 5 := ho.1
  rcases ho.2 with ⟨rfl, h0⟩ | ⟨g, cap, cur, rfl, hgB, hg, hle, hmx, hcs, hL⟩
  · omega
  obtain ⟨m, hm⟩ : ∃ m, m = n - (i + 1) := ⟨_, rfl⟩
  obtain ⟨z, hz⟩ : ∃ z : Value, z = .agg #[.int .u8 0, .bool false, .slice none 0 0, .slice none 0 0, .slice none 0 0] := ⟨_, rfl⟩
  have hzs : (Builtin.zeroCells z.cells 1).size = 5 := by rw [zeroT_size 1 z (by rw [hz]; rfl)]
  have hz1 : ∀ v ∈ (Builtin.zeroCells z.cells 1).toList, v.oneCell' = true := by
    have e : (Builtin.zeroCells (Value.agg #[.int .u8 0, .bool false, .slice none 0 0, .slice none 0 0, .slice none 0 0]).cells 1).toList = [.int .u8 0, .bool false, .slice none 0 0, .slice none 0 0, .slice none 0 0] := by kernel_rfl
    rw [hz, e]
    intro v hv
    simp at hv
    rcases hv with rfl | rfl | rfl <;> rfl
  have hdl : (L.drop ((i + 1) * 5)).length = m * 5 := by rw [List.length_drop, hLl]; omega
  have htl : (L.take (i * 5)).length = i * 5 := by rw [List.length_take, hLl]; omega
  obtain ⟨R1, hR1⟩ : ∃ R1 : Array Value, R1 = (cur.toList.take (i * 5) ++ L.drop ((i + 1) * 5) ++ cur.toList.drop (i * 5 + m * 5)).toArray := ⟨_, rfl⟩
  have hR1s : R1.size = cap * 5 := by rw [hR1]; simp [hcs, hLl]; omega
  have hap : ∀ x, (m ≠ 0 → x = some ⟨g, (i + 1) * 5, none⟩) → (Builtin.append_ #[24, 24] 24 #[.slice (some ⟨g, 0, none⟩) i cap, .slice x m (cap - (i + 1))]).run Tryd.prog w.drew = .ok (.slice (some ⟨g, 0, none⟩) (i + m) cap) (w.drew.setRow g R1) := by
    intro x hx
    rw [run_append_in w.drew 24 24 tT 5 g i cap x m (cap - (i + 1)) cur tT (L.drop ((i + 1) * 5)) Tryd.underlying24 info_T hg hdl (by omega)
      (fun a ha j u hj => by
        have hm0 : m ≠ 0 := fun e => by
          have : (L.drop ((i + 1) * 5)).length = 0 := by rw [hdl, e]
          rw [List.eq_nil_of_length_eq_zero this] at hj
          cases hj
        rw [hx hm0] at ha
        cases ha
        rw [Addr.add_mid]
        rw [List.getElem?_drop] at hj
        exact getD_cell (w := w.drew) hg hL hj)
      (fun e => by
        by_cases hm0 : m = 0
        · exact hm0
        · rw [hx hm0] at e; cases e) (by rw [hdl, hcs]; omega) (fun u hu => h1L u (List.mem_of_mem_drop hu)), hR1, hdl]
  obtain ⟨W1, hW1⟩ : ∃ W1, W1 = w.drew.setRow g R1 := ⟨_, rfl⟩
  rw [← hW1] at hap
  have hG1 : W1.heap[g]? = some (.cells R1 tT (0, 0)) := by rw [hW1]; exact setRow_heap w.drew g cur R1 tT (0, 0) hg
  obtain ⟨R2, hR2⟩ : ∃ R2 : Array Value, R2 = (R1.toList.take ((n - 1) * 5) ++ (Builtin.zeroCells z.cells 1).toList ++ R1.toList.drop ((n - 1) * 5 + 5)).toArray := ⟨_, rfl⟩
  have hcl : ∀ ty c, (Builtin.clear_ #[24] ty #[.slice (some ⟨g, (n - 1) * 5, none⟩) 1 c]).run Tryd.prog W1 = .ok (.tuple #[]) (W1.setRow g R2) := by
    intro ty c
    rw [run_clear_one W1 24 tT z g ((n - 1) * 5) c R1 tT ty Tryd.underlying24 (by rw [hz]; exact Tryd.zeroValue26) hG1 (by rw [hzs, hR1s]; omega) hz1, hzs, hR2]
  have hR1t : R1.toList.take ((n - 1) * 5) = L.take (i * 5) ++ L.drop ((i + 1) * 5) := by
    have e2 : cur.toList.take (i * 5) = L.take (i * 5) := by rw [← hL, List.take_take, Nat.min_eq_left (by omega)]
    rw [hR1, e2]
    exact List.take_left' (by rw [List.length_append, htl, hdl]; omega)
  have hR2t : R2.toList.take ((n - 1) * 5) = L.take (i * 5) ++ L.drop ((i + 1) * 5) := by
    rw [← hR1t, hR2]
    simp only [List.append_assoc]
    rw [List.take_left' (by rw [List.length_take]; simp [hR1s]; omega)]
  have hR2s : R2.size = cap * 5 := by
    have : (Builtin.zeroCells z.cells 1).toList.length = 5 := by simpa using hzs
    rw [hR2]; simp [hR1s, hzs]; omega
  have HEND : Hid ((W1.setRow g R2).ownsRow B tT 5 (.slice (some ⟨g, 0, none⟩) (n - 1) cap) (n - 1) (L.take (i * 5) ++ L.drop ((i + 1) * 5)) ∧ w.grownBy (W1.setRow g R2) (some g)) := Lib.hid
    ⟨⟨by rw [List.length_append, htl, hdl]; omega, .inr ⟨g, cap, R2, rfl, hgB, setRow_heap W1 g R1 R2 tT (0, 0) hG1, by omega, hmx, hR2s, hR2t⟩⟩,
      ⟨by rw [hW1]; rfl, by rw [hW1]; rfl, by rw [hW1]; rfl, by rw [hW1]; simp [World.setRow], fun k hk hne => by
        have hkg : k ≠ g := fun e => hne (by rw [e])
        rw [setRow_other W1 g k R2 hkg, hW1, setRow_other w.drew g k R1 hkg]; rfl⟩⟩
  have HCL := Lib.hid hcl
  have HAP := Lib.hid hap
  have hcapm : cap ≤ 9223372036854775807 := by unfold maxLen at hmx; omega
  have hin1 : i + m = n - 1 := by omega
  have HI1 := Lib.hid hin1
  have hm1 : n - (i + 1) = m := hm.symm
  have HM := Lib.hid hm
  clear ho hg hcs hL hcl hap hR1 hR2 hR1s hR2s hR1t hR2t hdl htl hLl h1L hz hzs hz1 hG1 hW1 hmx hgB hin1 hm
  have hw1 := del_nums n i hn hi
  have b1 : (i : Int) ≤ (i : Int) + 1 := by omega
  have b2 : (i : Int) + 1 ≤ (n : Int) := by omega
  have b3 : (n : Int) ≤ (cap : Int) := by omega
  have b4 : (0 : Int) ≤ (i : Int) + 1 := by omega
  have b5 : (i : Int) ≤ (cap : Int) := by omega
  have hz2 : ¬ ((i : Int) = (i : Int) + 1) := by omega
  have mixed : Tryd.prog.follows .mixedOrders = true := by kernel_rfl
  clear hm1
  have hapm := HAP.out
  rw [HM.out] at hapm
  have HAPM := Lib.hid hapm
  have hi2 : i + (n - (i + 1)) = n - 1 := by omega
  have hn1 : n - (n - 1) = 1 := by omega
  have b6 : ((n - 1 : Nat) : Int) ≤ (n : Int) := by omega
  have b7 : ¬ (cap = n - 1) := by omega
  clear hapm
  by_cases hc : cap = i + 1
  · obtain rfl : n = i + 1 := by omega
    subst hc
    have HA := Lib.hid (HAPM.out (some ⟨g, 0, none⟩) (fun h => absurd (Nat.sub_self _) h))
    have hcl := HCL.out 0 1
    simp only [Nat.add_sub_cancel, Nat.sub_self, Nat.add_zero] at HA hcl HEND
    clear HAPM HCL HAP HM HI1 b6 b7 hn1 hi2 hle
    have d1 : (i : Int) ≤ (i : Int) + 1 := by omega
    have d2 : ¬ (i + 1 = i) := by omega
    go_enter Tryd.func60, Tryd.ntmps60
    go_upto_region 5 with fail
    go_region_law_o (refine step_append_runI rfl _ _ 24 24 rfl _ _ (by simp [Act.eval, Act.put]) (by simp [Act.eval, Act.put]) HA.out ?_)
    go_wp2_with fail
    go_ret
    exact ⟨_, rfl, HEND.out.1, HEND.out.2, rfl⟩
  · have hcl := HCL.out 0 (cap - (n - 1))
    have HA := Lib.hid (HAPM.out (some ⟨g, (i + 1) * 5, none⟩) (fun h => rfl))
    go_enter Tryd.func60, Tryd.ntmps60
    go_upto_region 5 with fail
    go_region_law_o (refine step_append_runI rfl _ _ 24 24 rfl _ _ (by simp [Act.eval, Act.put]) (by simp [Act.eval, Act.put]) HA.out ?_)
    go_wp2_with fail
    go_ret
    refine ⟨_, rfl, ?_, HEND.out.2, rfl⟩
    exact HEND.out.1

end Go.Proofs.YtbempgdndmchlaaDoor

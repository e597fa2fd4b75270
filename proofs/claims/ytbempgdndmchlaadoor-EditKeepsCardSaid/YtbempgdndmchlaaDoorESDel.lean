/-
  slices.Delete of one text at []string, at a row of one's own; slices.BinarySearch at a row of texts. Conditions: the row is owned.
-/
import Derived.Test.YtbempgdndmchlaaDoorESIns
import Derived.Test.YtbempgdndmchlaaDoorEDel
namespace Go.Proofs.YtbempgdndmchlaaDoor
open Go.RowKit
set_option linter.unusedVariables false

theorem delS_any {w : World} {B n i : Nat} {v : Value} {ns : List ByteArray} (ho : w.ownsRow B tS 1 v n (ns.map Value.string)) (hn : n ≤ 1000000) (hi : i < n) :
    Calls Tryd.prog 59 #[v, .int .i64 (i : Int), .int .i64 ((i + 1 : Nat) : Int)] w fun e w' =>
      ∃ v', e = .returned v' ∧ w'.ownsRow B tS 1 v' (n - 1) ((ns.take i ++ ns.drop (i + 1)).map Value.string) ∧ w.grownBy w' v.ownBlock ∧ v'.ownBlock = v.ownBlock := by
  have hl : ns.length = n := by have := ho.1; simpa using this
  rcases ho.2 with ⟨rfl, h0⟩ | ⟨g, cap, cur, rfl, hgB, hg, hle, hmx, hcs, hL⟩
  · omega
  have hL' : cur.toList.take n = ns.map Value.string := by simpa using hL
  have hcs' : cur.size = cap := by simpa using hcs
  have hcl : cur.toList.length = cap := by simpa using hcs'
  refine (Tryd.slices_Delete_string_cells g 0 n cap i (i + 1) (fun j => ns.getD j ⟨#[]⟩) w hle (by unfold maxLen at hmx; omega) (by omega) (by omega) (fun j hj => by
    rw [Nat.zero_add]
    refine getD_cell hg hL' ?_
    rw [List.getElem?_map, List.getElem?_eq_getElem (by omega), List.getD_eq_getElem?_getD, List.getElem?_eq_getElem (by omega)]; rfl) (fun j hj => frozen_of hg)).mono ?_
  rintro e w' ⟨rfl, q, rfl⟩
  have hst : (Lib.strsOf (fun j => ns.getD j ⟨#[]⟩) n).map encStr = ns.map Value.string := by
    refine List.ext_getElem (by simp [Lib.strsOf, hl]) fun j h1 h2 => ?_
    have hj : j < ns.length := by simpa using h2
    simp [Lib.strsOf, encStr, List.getD_eq_getElem?_getD, List.getElem?_eq_getElem hj]
  obtain ⟨vs, hvs⟩ : ∃ vs, vs = ((Lib.strsOf (fun j => ns.getD j ⟨#[]⟩) n).take i ++ (Lib.strsOf (fun j => ns.getD j ⟨#[]⟩) n).drop (i + 1) ++ List.replicate (i + 1 - i) []).map encStr := ⟨_, rfl⟩
  have hve : vs = (ns.take i ++ ns.drop (i + 1)).map Value.string ++ [encStr []] := by
    rw [hvs, List.map_append, List.map_append, List.map_take, List.map_drop, hst, show i + 1 - i = 1 by omega]
    simp
  have hml : ((ns.take i ++ ns.drop (i + 1)).map Value.string).length = n - 1 := by simp [hl]; omega
  have hvl : vs.length = n := by rw [hve, List.length_append, hml]; simp; omega
  rw [← hvs]
  have hgq : (w.drewN q).heap[g]? = some (.cells cur tS (0, 0)) := hg
  rw [setCells_row vs 0 cur (w.drewN q) hgq (by omega), show n - (i + 1 - i) = n - 1 by omega]
  refine ⟨_, rfl, ⟨by simpa using hml, .inr ⟨g, cap, _, rfl, hgB, setRow_heap _ g cur _ tS (0, 0) hgq, by omega, hmx, ?_, ?_⟩⟩, ⟨rfl, rfl, rfl, by simp [World.setRow], fun k hk hne' => by rw [setRow_other _ g k _ (fun e => hne' (by rw [e]; rfl))]; rfl⟩, rfl⟩
  · simp [hvl, hcs']; omega
  · rw [hve]
    simp only [List.take_zero, List.nil_append, Nat.mul_one, List.append_assoc]
    exact List.take_left' hml

/-- Where a text stands in a row of texts, or would stand. -/
theorem search_any {w : World} {a : Option Addr} {n c : Nat} {ns : List ByteArray} {x : ByteArray} (h : IsS w a n c ns) (hn : n ≤ 1000000) :
    Calls Tryd.prog 66 #[.slice a n c, .string x] w fun e w' =>
      e = .returned (.tuple #[.int .i64 (Lib.bsGo (fun t => Op.bytesLess (ns.getD t ⟨#[]⟩).toList x.toList) n 0 n : Nat), .bool (decide (Lib.bsGo (fun t => Op.bytesLess (ns.getD t ⟨#[]⟩).toList x.toList) n 0 n < n ∧ ns.getD (Lib.bsGo (fun t => Op.bytesLess (ns.getD t ⟨#[]⟩).toList x.toList) n 0 n) ⟨#[]⟩ = x))]) ∧ Below w.heap.size w w' := by
  have hl := h.length
  rcases h.at_ with h0 | ⟨b, off, rfl, hb, hc⟩
  · subst h0
    refine (Any2.slices_BinarySearch_string_empty bsLay a c x w).mono ?_
    rintro e w' ⟨rfl, rfl⟩
    exact ⟨rfl, Below.refl _ _⟩
  · refine (Any2.slices_BinarySearch_string bsLay b off n c (fun t => ns.getD t ⟨#[]⟩) x w (by omega) hc).mono ?_
    rintro e w' ⟨rfl, q, rfl⟩
    exact ⟨rfl, ⟨rfl, rfl, rfl, Nat.le_refl _, fun _ _ => rfl⟩⟩

end Go.Proofs.YtbempgdndmchlaaDoor

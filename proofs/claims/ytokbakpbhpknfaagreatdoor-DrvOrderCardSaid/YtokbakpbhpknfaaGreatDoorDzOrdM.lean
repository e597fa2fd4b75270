/-
  Arrays in a row: a copy of the first ones, and two that change their places. No program text but types.
-/
import Derived.Test.YtokbakpbhpknfaaGreatDoorDzOut
import Derived.Deep.MidRow
import Derived.Deep.AppendLies
namespace Go.Proofs.YtokbakpbhpknfaaGreatDoor
open Go.RowKit
set_option linter.unusedVariables false

theorem info_a32_parts : ∃ i z, Tryz.prog.info? 30 = some i ∧ i.zero = some z ∧ i.size = 32 ∧ i.bytes = 32 ∧ z.cells.size = 32 := by
  have h : (Tryz.prog.info? 30).map (fun i => (i.zero, i.size, i.bytes)) = some (some (.agg (Array.replicate 32 (.int .u8 0))), 32, 32) := by kernel_rfl
  obtain ⟨i, hi, hx⟩ := Option.map_eq_some_iff.1 h
  simp only [Prod.mk.injEq] at hx
  exact ⟨i, _, hi, hx.1, hx.2.1, hx.2.2, by kernel_rfl⟩

/-- The cells of the first n arrays. -/
def rowsV (ds : List (List UInt8)) (n : Nat) : List Value := (List.range (n * 32)).map fun k => ((ds.getD (k / 32) []).map Nam.bv).getD (k % 32) undef
theorem rowsV_length (ds : List (List UInt8)) (n : Nat) : (rowsV ds n).length = n * 32 := by simp [rowsV]
theorem rowsV_get {ds : List (List UInt8)} {n k : Nat} {u : Value} (h : (rowsV ds n)[k]? = some u) : k < n * 32 ∧ u = ((ds.getD (k / 32) []).map Nam.bv).getD (k % 32) undef := by
  have hk : k < n * 32 := by
    obtain ⟨h1, _⟩ := List.getElem?_eq_some_iff.1 h
    rwa [rowsV_length] at h1
  unfold rowsV at h
  rw [List.getElem?_map, List.getElem?_range hk] at h
  simp only [Option.map_some, Option.some.injEq] at h
  exact ⟨hk, h.symm⟩
theorem rowsV_at {ds : List (List UInt8)} {n i j : Nat} (hi : i < n) (hj : j < 32) : (rowsV ds n)[i * 32 + j]? = some (((ds.getD i []).map Nam.bv).getD j undef) := by
  unfold rowsV
  rw [List.getElem?_map, List.getElem?_range (by omega)]
  simp only [Option.map_some]
  rw [show (i * 32 + j) / 32 = i by omega, show (i * 32 + j) % 32 = j by omega]
theorem news_of {w : World} {b off nd cd : Nat} {ds : List (List UInt8)} (h : IsA w (some ⟨b, off, none⟩) nd cd ds) {n : Nat} (hn : n ≤ nd) (hn0 : 0 < n) :
    ∀ k u, (rowsV ds n)[k]? = some u → w.cell? ((⟨b, off, none⟩ : Addr).add k) = some u := by
  intro k u hk
  obtain ⟨h1, rfl⟩ := rowsV_get hk
  have hi : k / 32 < nd := by omega
  rcases h.at_ with h0 | ⟨b', off', e, hlt, hc⟩
  · omega
  · cases e
    have hl := h.each (k / 32) hi
    have ht := hc (k / 32) hi (k % 32) (((ds.getD (k / 32) []).map Nam.bv).getD (k % 32) undef) (by
      rw [List.getD_eq_getElem?_getD (l := List.map _ _), List.getElem?_eq_getElem (by rw [List.length_map, hl]; omega)]; rfl)
    rw [Addr.add_mid, show off + k = off + k / 32 * 32 + k % 32 by omega]
    exact ht
theorem rowsV_one {ds : List (List UInt8)} {n : Nat} (h : ∀ i, i < n → (ds.getD i []).length = 32) : ∀ u ∈ rowsV ds n, u.oneCell' = true := by
  intro u hu
  obtain ⟨k, hk⟩ := List.getElem?_of_mem hu
  obtain ⟨h1, rfl⟩ := rowsV_get hk
  have hl := h (k / 32) (by omega)
  rw [List.getD_eq_getElem?_getD (l := List.map _ _), List.getElem?_eq_getElem (by rw [List.length_map, hl]; omega), List.getElem_map]
  rfl
theorem isA_own {w : World} {B g n cap : Nat} {ds : List (List UInt8)} (h : w.ownsRow B 30 32 (.slice (some ⟨g, 0, none⟩) n cap) n (rowsV ds n)) (hl : ∀ i, i < n → (ds.getD i []).length = 32) (hn : n ≤ ds.length) (hm : n * 32 ≤ 140737488355328) (hn0 : 0 < n) :
    IsA w (some ⟨g, 0, none⟩) n cap (ds.take n) := by
  have e : ∀ i, i < n → (ds.take n).getD i [] = ds.getD i [] := by
    intro i hi
    rw [List.getD_eq_getElem?_getD, List.getD_eq_getElem?_getD, List.getElem?_take, if_pos hi]
  obtain ⟨g', cap', hv, hb, hlt⟩ := h.form hn0
  cases hv
  refine ⟨by rw [List.length_take]; omega, .inr ⟨g, 0, rfl, hlt, fun i hi j v hj => ?_⟩, fun i hi => by rw [e i hi]; exact hl i hi, ?_, hm⟩
  · rw [e i hi] at hj
    obtain ⟨hj1, hj2⟩ := List.getElem?_eq_some_iff.1 hj
    have hj32 : j < 32 := by rw [List.length_map, hl i hi] at hj1; exact hj1
    have ht := h.cells (g := g) rfl (i * 32 + j) v (by rw [rowsV_at hi hj32, List.getD_eq_getElem?_getD (l := List.map _ _), hj]; rfl)
    rw [Addr.add_mid] at ht
    rw [show 0 + i * 32 + j = 0 + (i * 32 + j) by omega]
    exact ht
  · rcases h.2 with ⟨h0, _⟩ | ⟨_, _, _, hv, _, _, h1, h2, _⟩
    · cases h0
    · cases hv; exact ⟨h1, h2⟩
theorem there_own {w : World} {B g n cap : Nat} {t : TypeId} {xs : List Value} (h : w.ownsRow B t 32 (.slice (some ⟨g, 0, none⟩) n cap) n xs) : w.there g 0 (n * 32) := fun j hj => by
  rw [Nat.zero_add]
  refine ⟨?_, h.frozenAt j⟩
  rw [h.cellAt j hj, List.getElem?_eq_getElem (by rw [h.1]; exact hj)]; rfl
theorem there_part {w : World} {g N : Nat} (h : w.there g 0 N) (o m : Nat) (hle : o + m ≤ N) : w.there g o m := fun j hj => by
  have := h (o + j) (by omega)
  rwa [Nat.zero_add] at this
theorem below_cells {B : Nat} {a : World} (b : Nat) (hb : B ≤ b) : ∀ (vs : List Value) (o : Nat) {w : World}, Below B a w → Below B a (w.setCells b o vs)
  | [], _, _, h => h
  | v :: r, o, _, h => below_cells b hb r (o + 1) (h.setCell (p := ⟨b, o, none⟩) hb v)

/-- Two change their places. -/
def swp (l : List (List UInt8)) (x y : Nat) : List (List UInt8) := (l.set x (l.getD y [])).set y (l.getD x [])
theorem swp_perm {l : List (List UInt8)} {x y : Nat} (hx : x < l.length) (hy : y < l.length) : (swp l x y).Perm l := by
  unfold swp
  rw [List.getD_eq_getElem?_getD, List.getElem?_eq_getElem hy, List.getD_eq_getElem?_getD, List.getElem?_eq_getElem hx]
  exact List.set_set_perm hx hy
theorem swp_at {l : List (List UInt8)} {x y i : Nat} (hx : x < l.length) (hy : y < l.length) (hi : i < l.length) : (swp l x y).getD i [] = if i = y then l.getD x [] else if i = x then l.getD y [] else l.getD i [] := by
  unfold swp
  rw [List.getD_eq_getElem?_getD, List.getElem?_set]
  by_cases iy : i = y
  · subst iy; rw [if_pos rfl, if_pos (by rw [List.length_set]; exact hi), if_pos rfl]; rfl
  · rw [if_neg (Ne.symm iy), if_neg iy, List.getElem?_set]
    by_cases ix : i = x
    · subst ix; rw [if_pos rfl, if_pos hi, if_pos rfl]; rfl
    · rw [if_neg (Ne.symm ix), if_neg ix, List.getD_eq_getElem?_getD]
theorem isA_swap {w : World} {g n cap : Nat} {l : List (List UInt8)} (h : IsA w (some ⟨g, 0, none⟩) n cap l) (ht : w.there g 0 (n * 32)) {x y : Nat} (hx : x < n) (hy : y < n) :
    IsA ((w.setCells g (x * 32) ((l.getD y []).map Nam.bv)).setCells g (y * 32) ((l.getD x []).map Nam.bv)) (some ⟨g, 0, none⟩) n cap (swp l x y) := by
  have hlx : ((l.getD x []).map Nam.bv).length = 32 := by rw [List.length_map]; exact h.each x hx
  have hly : ((l.getD y []).map Nam.bv).length = 32 := by rw [List.length_map]; exact h.each y hy
  have hln := h.length
  rcases h.at_ with h0 | ⟨b', off', e, hlt, hc⟩
  · omega
  · cases e
    refine ⟨by unfold swp; rw [List.length_set, List.length_set]; exact h.length, .inr ⟨g, 0, rfl, ?_, fun i hi => ?_⟩, fun i hi => ?_, h.room, h.most⟩
    · exact Nat.lt_of_lt_of_le hlt (below_cells (B := 0) g (Nat.zero_le _) _ _ (below_cells (B := 0) g (Nat.zero_le _) _ _ (Below.refl 0 w))).size
    · rw [swp_at (by omega) (by omega) (by omega), Nat.zero_add]
      by_cases iy : i = y
      · subst iy; rw [if_pos rfl]
        exact World.rangeAt_setCells_same _ _ _ _ (World.there_setCells (there_part ht _ _ (by rw [hlx]; omega)) _ _ _)
      · rw [if_neg iy]
        refine World.rangeAt_setCells_apart ?_ _ _ _ (.inr ?_)
        · by_cases ix : i = x
          · subst ix; rw [if_pos rfl]
            exact World.rangeAt_setCells_same _ _ _ _ (there_part ht _ _ (by rw [hly]; omega))
          · rw [if_neg ix]
            have hli : ((l.getD i []).map Nam.bv).length = 32 := by rw [List.length_map]; exact h.each i hi
            refine World.rangeAt_setCells_apart (by have := hc i hi; rwa [Nat.zero_add] at this) _ _ _ (.inr ?_)
            rw [hli, hly]; omega
        · rw [hlx]
          have hli : (((if i = x then l.getD y [] else l.getD i []) : List UInt8).map Nam.bv).length = 32 := by
            split
            · exact hly
            · rw [List.length_map]; exact h.each i hi
          rw [hli]; omega
    · rw [swp_at (by omega) (by omega) (by omega)]
      split
      · exact h.each x hx
      · split
        · exact h.each y hy
        · exact h.each i hi
theorem out_perm {s0 : ByteArray} {l2 : List ByteArray} {s3 s4 : ByteArray} {a b : List (List UInt8)} (h : a.Perm b) : doutB s0 l2 s3 s4 a = doutB s0 l2 s3 s4 b := by
  unfold doutB modD modX
  rw [srtT_perm (show (hexs a).Perm (hexs b) from h.map _)]
/-- A byte by how many there are. -/
theorem byte_rem {z : Int} {n : Nat} (h : (Lit.int .u8 z).wf = true) (hn : 0 < n) : ∃ x : Nat, x < n ∧ z.tmod (n : Int) = (x : Int) ∧ 0 ≤ z ∧ z ≤ 255 := by
  obtain ⟨h0, h1⟩ : 0 ≤ z ∧ z ≤ 255 := by simp [Lit.wf, IntKind.min, IntKind.max, IntKind.signed, IntKind.bits] at h; omega
  refine ⟨z.toNat % n, Nat.mod_lt _ hn, ?_, h0, h1⟩
  rw [Int.tmod_eq_emod_of_nonneg h0, Int.natCast_emod, Int.toNat_of_nonneg h0]
end Go.Proofs.YtokbakpbhpknfaaGreatDoor

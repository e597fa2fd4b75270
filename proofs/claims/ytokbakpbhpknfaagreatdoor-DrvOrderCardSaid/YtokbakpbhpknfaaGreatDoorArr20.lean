/-
  Twenty bytes: two such arrays held against one another; a parameter of that form; a slice of the whole of one. No conditions but the length.
-/
import Derived.Test.YtokbakpbhpknfaaGreatDoorBut
import Derived.Test.YtokbakpbhpknfaaGreatDoorArg
import Derived.Test.YtokbakpbhpknfaaGreatDoorRowN
import Derived.ChangeKeysEq
import Derived.Laws.StructEq
import Derived.Deep.MidRow
namespace Go.Proofs.YtokbakpbhpknfaaGreatDoor.Nam
open Go.RowKit
set_option linter.unusedVariables false

theorem map_get {α : Type} (f : Nat → α) (l : List Nat) (i : Nat) (h : i < l.length) : (l.map f)[i]? = some (f (l.getD i 0)) := by
  simp [List.getD, h]

theorem run_eqItems_bytes {P : Program} (w : World) (d : Nat) (e : TypeId) (he : P.underlying e = some (.int .u8)) (hp : P.plainKey e = true) (xs ys : List Nat) (n : Nat) (hx : xs.length = n) (hy : ys.length = n) :
    ∀ is : List Nat, (∀ i ∈ is, i < n) → (Op.eqItems (d + 1) e 1 (xs.map byv).toArray (ys.map byv).toArray is).run P w = .ok (is.all fun i => xs.getD i 0 == ys.getD i 0) w
  | [], _ => by simp [Op.eqItems]
  | i :: is, h => by
    have hi : i < n := h i (by simp)
    have ha : (xs.map byv).toArray[i * 1]? = some (byv (xs.getD i 0)) := by
      rw [Nat.mul_one, List.getElem?_toArray]; exact map_get byv xs i (by omega)
    have hb : (ys.map byv).toArray[i * 1]? = some (byv (ys.getD i 0)) := by
      rw [Nat.mul_one, List.getElem?_toArray]; exact map_get byv ys i (by omega)
    have ih := run_eqItems_bytes w d e he hp xs ys n hx hy is (fun j hj => h j (by simp [hj]))
    rw [List.all_cons]
    unfold Op.eqItems
    simp only [Sem.run_bind, run_part_plain w hp ha, run_part_plain w hp hb, Result.andThen_ok, byv, run_equalIn_int w d e .u8 .u8 _ _ he]
    clear ha hb
    generalize xs.getD i 0 = a
    generalize ys.getD i 0 = b
    by_cases hc : a = b
    · subst hc
      simp only [beq_self_eq_true, Bool.not_true, Bool.false_eq_true, if_false, Bool.true_and]
      exact ih
    · have h1 : ((a : Int) == (b : Int)) = false := by rw [beq_eq_false_iff_ne]; omega
      have h2 : (a == b) = false := by rw [beq_eq_false_iff_ne]; exact hc
      rw [h1, h2]
      simp only [Bool.not_false, if_true, Sem.run_pure, Bool.false_and]

theorem all_getD (xs ys : List Nat) (n : Nat) (hx : xs.length = n) (hy : ys.length = n) : ((List.range n).all fun i => xs.getD i 0 == ys.getD i 0) = decide (xs = ys) := by
  rw [Bool.eq_iff_iff]
  simp only [List.all_eq_true, List.mem_range, beq_iff_eq, decide_eq_true_eq]
  constructor
  · intro h
    apply List.ext_getElem (by omega)
    intro i h1 h2
    have := h i (by omega)
    simpa [List.getD, h1, h2] using this
  · rintro rfl i _; rfl

theorem run_equalIn_bytes {P : Program} (w : World) (d : Nat) {t e : TypeId} {n : Nat} {i : TypeInfo} (hu : P.underlying t = some (.array n e)) (hi : P.info? e = some i) (he : P.underlying e = some (.int .u8)) (hp : P.plainKey e = true) (hc : P.cellsOf e = 1)
    (xs ys : List Nat) (hx : xs.length = n) (hy : ys.length = n) :
    (Op.equalIn (d + 2) t (.agg (xs.map byv).toArray) (.agg (ys.map byv).toArray)).run P w = .ok (decide (xs = ys)) w := by
  rw [run_equalIn_array w (d + 1) _ _ hu hi, hc, run_eqItems_bytes w d e he hp xs ys n hx hy _ (fun i hi => by simpa using hi), all_getD xs ys n hx hy]

theorem eql_20 (w : World) (xs ys : List Nat) (hx : xs.length = 20) (hy : ys.length = 20) :
    (Op.equalIn 10000 53 (.agg (xs.map byv).toArray) (.agg (ys.map byv).toArray)).run Tryz.prog w = .ok (decide (xs = ys)) w := by
  obtain ⟨i, hi⟩ : ∃ i, Tryz.prog.info? 5 = some i := by
    have h : (Tryz.prog.info? 5).isSome = true := by kernel_rfl
    exact Option.isSome_iff_exists.1 h
  exact run_equalIn_bytes w 9998 Tryz.underlying53 hi Tryz.underlying5 (by kernel_rfl) (by kernel_rfl) xs ys hx hy

theorem guard_20 : Tryz.prog.eqGuardType Tryz.prog.depth 53 = false := by kernel_rfl

theorem bv_byv (l : List UInt8) : l.map bv = (l.map UInt8.toNat).map byv := by rw [List.map_map]; rfl

theorem eqlU (w : World) (xs ys : List UInt8) (hx : xs.length = 20) (hy : ys.length = 20) :
    (Op.equalIn 10000 53 (.agg (xs.map bv).toArray) (.agg (ys.map bv).toArray)).run Tryz.prog w = .ok (decide (xs = ys)) w := by
  rw [bv_byv, bv_byv, eql_20 w _ _ (by simpa using hx) (by simpa using hy)]
  congr 1
  rw [Bool.eq_iff_iff, decide_eq_true_eq, decide_eq_true_eq]
  constructor
  · intro h
    have hinj : Function.Injective UInt8.toNat := fun a b h => UInt8.toNat_inj.1 h
    exact (List.map_inj_right hinj).1 h
  · rintro rfl; rfl

theorem open_u20 {H : Type} {enc : TypeId × Value → H} {w : World} {base : Nat} {sp : Nat → Bool} {held : Bool} {C : Array Value} {d : DataW H} {p : List MemPlace}
    (h : DataW.Trod enc Tryz.prog w base sp held 53 (.agg C) d p) : ∃ D : List UInt8, C = (D.map bv).toArray ∧ D.length = 20 := by
  obtain ⟨D, h1, h2, h3⟩ := open_bytes_arr Tryz.underlying53 Tryz.underlying5 (by kernel_rfl) (by kernel_rfl) h
  refine ⟨D.map UInt8.ofNat, ?_, by simpa using h2⟩
  rw [h1, bv_byv, List.map_map, List.map_map]
  congr 1
  refine List.map_congr_left fun x hx => ?_
  have := h3 x hx
  simp only [Function.comp, UInt8.toNat_ofNat']
  congr 1; omega

theorem Has.isB {w : World} {b : Nat} {l : List UInt8} {t : TypeId} (h : Has w b (l.map bv) t) (hm : l.length ≤ 1000) : IsB w (some ⟨b, 0, none⟩) l.length l.length l :=
  ⟨rfl, .inr ⟨b, 0, rfl, h.lt, fun i hi => by rw [Nat.zero_add, h.cellAt (i := i) (v := bv (l.getD i 0)) (by simp [List.getD, hi])]; rfl⟩, by unfold maxLen; omega, (fun h => by cases h), Nat.le_refl _, by unfold maxLen; omega⟩

theorem zerosU : (#[.int .u8 0, .int .u8 0, .int .u8 0, .int .u8 0, .int .u8 0, .int .u8 0, .int .u8 0, .int .u8 0, .int .u8 0, .int .u8 0, .int .u8 0, .int .u8 0, .int .u8 0, .int .u8 0, .int .u8 0, .int .u8 0, .int .u8 0, .int .u8 0, .int .u8 0, .int .u8 0] : Array Value) = ((List.replicate 20 (0 : UInt8)).map bv).toArray := rfl
theorem one_bv (L : List UInt8) : (L.map bv).toArray.all (·.oneCell') = true := by
  refine all_oneCell_toArray ?_
  intro v hv
  obtain ⟨x, _, rfl⟩ := List.mem_map.1 hv
  rfl
theorem info_u20 (L : List UInt8) (h : L.length = 20) : (Tryz.prog.info? 53).map (·.size) = some (L.map bv).toArray.size := by rw [List.size_toArray, List.length_map, h]; kernel_rfl

end Go.Proofs.YtokbakpbhpknfaaGreatDoor.Nam

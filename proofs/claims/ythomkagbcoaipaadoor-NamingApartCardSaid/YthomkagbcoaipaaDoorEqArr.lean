/-
  Two arrays of bytes are held against one another. No conditions but their length.
-/
import Derived.Test.YthomkagbcoaipaaDoorIsN
import Derived.ChangeKeysEq
import Derived.Laws.StructEq
namespace Go.Proofs.YthomkagbcoaipaaDoor
open Go.RowKit
set_option linter.unusedVariables false

theorem run_eqItems_bytes {P : Program} (w : World) (d : Nat) (e : TypeId) (he : P.underlying e = some (.int .u8)) (hp : P.plainKey e = true) (xs ys : List Nat) (n : Nat) (hx : xs.length = n) (hy : ys.length = n) :
    ∀ is : List Nat, (∀ i ∈ is, i < n) → (Op.eqItems (d + 1) e 1 (xs.map byv).toArray (ys.map byv).toArray is).run P w = .ok (is.all fun i => xs.getD i 0 == ys.getD i 0) w
  | [], _ => by simp [Op.eqItems]
  | i :: is, h => by
    have hi : i < n := h i (by simp)
    have ha : (xs.map byv).toArray[i * 1]? = some (byv (xs.getD i 0)) := by
      rw [Nat.mul_one, List.getElem?_toArray]; exact map_get byv xs i (by omega)
    have hb : (ys.map byv).toArray[i * 1]? = some (byv (ys.getD i 0)) := by
      rw [Nat.mul_one, List.getElem?_toArray]; exact map_get byv ys i (by omega)
    have ih := run_eqItems_bytes w d e he hp xs ys n hx hy is (fun j hj => h j (by simp [hj]))
    rw [List.all_cons]
    unfold Op.eqItems
    simp only [Sem.run_bind, run_part_plain w hp ha, run_part_plain w hp hb, Result.andThen_ok, byv, run_equalIn_int w d e .u8 .u8 _ _ he]
    clear ha hb
    generalize xs.getD i 0 = a
    generalize ys.getD i 0 = b
    by_cases hc : a = b
    · subst hc
      simp only [beq_self_eq_true, Bool.not_true, Bool.false_eq_true, if_false, Bool.true_and]
      exact ih
    · have h1 : ((a : Int) == (b : Int)) = false := by rw [beq_eq_false_iff_ne]; omega
      have h2 : (a == b) = false := by rw [beq_eq_false_iff_ne]; exact hc
      rw [h1, h2]
      simp only [Bool.not_false, if_true, Sem.run_pure, Bool.false_and]

theorem all_getD (xs ys : List Nat) (n : Nat) (hx : xs.length = n) (hy : ys.length = n) : ((List.range n).all fun i => xs.getD i 0 == ys.getD i 0) = decide (xs = ys) := by
  rw [Bool.eq_iff_iff]
  simp only [List.all_eq_true, List.mem_range, beq_iff_eq, decide_eq_true_eq]
  constructor
  · intro h
    apply List.ext_getElem (by omega)
    intro i h1 h2
    have := h i (by omega)
    simpa [List.getD, h1, h2] using this
  · rintro rfl i _; rfl

theorem run_equalIn_bytes {P : Program} (w : World) (d : Nat) {t e : TypeId} {n : Nat} {i : TypeInfo} (hu : P.underlying t = some (.array n e)) (hi : P.info? e = some i) (he : P.underlying e = some (.int .u8)) (hp : P.plainKey e = true) (hc : P.cellsOf e = 1)
    (xs ys : List Nat) (hx : xs.length = n) (hy : ys.length = n) :
    (Op.equalIn (d + 2) t (.agg (xs.map byv).toArray) (.agg (ys.map byv).toArray)).run P w = .ok (decide (xs = ys)) w := by
  rw [run_equalIn_array w (d + 1) _ _ hu hi, hc, run_eqItems_bytes w d e he hp xs ys n hx hy _ (fun i hi => by simpa using hi), all_getD xs ys n hx hy]

theorem eql_20 (w : World) (xs ys : List Nat) (hx : xs.length = 20) (hy : ys.length = 20) :
    (Op.equalIn 10000 32 (.agg (xs.map byv).toArray) (.agg (ys.map byv).toArray)).run Tryd.prog w = .ok (decide (xs = ys)) w := by
  obtain ⟨i, hi⟩ : ∃ i, Tryd.prog.info? 5 = some i := by
    have h : (Tryd.prog.info? 5).isSome = true := by kernel_rfl
    exact Option.isSome_iff_exists.1 h
  exact run_equalIn_bytes w 9998 Tryd.underlying32 hi Tryd.underlying5 (by kernel_rfl) (by kernel_rfl) xs ys hx hy

theorem eql_32 (w : World) (xs ys : List Nat) (hx : xs.length = 32) (hy : ys.length = 32) :
    (Op.equalIn 10000 22 (.agg (xs.map byv).toArray) (.agg (ys.map byv).toArray)).run Tryd.prog w = .ok (decide (xs = ys)) w := by
  obtain ⟨i, hi⟩ : ∃ i, Tryd.prog.info? 5 = some i := by
    have h : (Tryd.prog.info? 5).isSome = true := by kernel_rfl
    exact Option.isSome_iff_exists.1 h
  exact run_equalIn_bytes w 9998 Tryd.underlying22 hi Tryd.underlying5 (by kernel_rfl) (by kernel_rfl) xs ys hx hy

theorem guard_20 : Tryd.prog.eqGuardType Tryd.prog.depth 32 = false := by kernel_rfl
theorem guard_32 : Tryd.prog.eqGuardType Tryd.prog.depth 22 = false := by kernel_rfl

theorem zeros20 : (#[.int .u8 0, .int .u8 0, .int .u8 0, .int .u8 0, .int .u8 0, .int .u8 0, .int .u8 0, .int .u8 0, .int .u8 0, .int .u8 0, .int .u8 0, .int .u8 0, .int .u8 0, .int .u8 0, .int .u8 0, .int .u8 0, .int .u8 0, .int .u8 0, .int .u8 0, .int .u8 0] : Array Value) = ((List.replicate 20 0).map byv).toArray := rfl

theorem one_bytes (L : List Nat) : (L.map byv).toArray.all (·.oneCell') = true := by
  refine all_oneCell_toArray ?_
  intro v hv
  obtain ⟨x, _, rfl⟩ := List.mem_map.1 hv
  rfl
theorem info_20 (L : List Nat) (h : L.length = 20) : (Tryd.prog.info? 32).map (·.size) = some (L.map byv).toArray.size := by rw [List.size_toArray, List.length_map, h]; kernel_rfl
theorem info_32 (L : List Nat) (h : L.length = 32) : (Tryd.prog.info? 22).map (·.size) = some (L.map byv).toArray.size := by rw [List.size_toArray, List.length_map, h]; kernel_rfl
theorem size_zeros (n : Nat) (L : List Nat) (h : L.length = n) : ((List.replicate n 0).map byv).toArray.size = (L.map byv).toArray.size := by simp [h]

end Go.Proofs.YthomkagbcoaipaaDoor

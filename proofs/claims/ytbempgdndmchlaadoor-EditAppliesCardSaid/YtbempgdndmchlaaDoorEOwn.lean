/-
  own of an empty list of trees is nil. Conditions: the list is read as trees.
-/
import Derived.Test.YtbempgdndmchlaaDoorTOwnA
import Derived.Laws.OwnMore
namespace Go.Proofs.YtbempgdndmchlaaDoor
open Go.RowKit
set_option linter.unusedVariables false

theorem run_append_zero {P : Program} {w : World} (t ty e : TypeId) (i : TypeInfo) (ht : P.underlying t = some (.slice e)) (hi : P.info? e = some i) (x : Option Addr) (c : Nat) :
    (Builtin.append_ #[t, t] ty #[.slice none 0 0, .slice x 0 c]).run P w = .ok (.slice none 0 0) w := by
  cases x <;> simp [Builtin.append_, run_underlying ht, sizeOf, typeInfo, hi, Builtin.lenOf, Builtin.firstCells, loadCells, loadCellsFrom]
theorem wpList_append_zero {P : Program} {w : World} {ops : Array Oper} {rest : List Oper} {o : Oper} {a : Act} {Q : Exit → Act → World → Prop} (hgd : o.guard = none) (s x : Operand) (t : TypeId)
    (ho : o.op = .call { callee := .builtin .append, args := #[s, x], argTypes := #[t, t] })
    (e : TypeId) (i : TypeInfo) (ht : P.underlying t = some (.slice e)) (hi : P.info? e = some i)
    (hs : a.eval s = .slice none 0 0) (xa : Option Addr) (c : Nat) (hx : a.eval x = .slice xa 0 c)
    (h : wpList P ops Q rest (a.put o.dst (.slice none 0 0)) w) : wpList P ops Q (o :: rest) a w := by
  refine wpList_plain hgd fun K hK => ?_
  have hrun := run_append_zero (P := P) (w := w) t o.type e i ht hi xa c
  unfold Oper.wp
  simp [execOp, ho, resolve, invoke, builtin, hs, hx, hrun, Result.andThen]
  exact hK _ _ h

set_option maxRecDepth 100000 in
set_option maxHeartbeats 2000000 in
theorem ownK_zero (a : Option Addr) (cap : Nat) (w : World) : Calls Tryd.prog 39 #[.slice a 0 cap] w fun e w' => e = .returned (.slice none 0 0) ∧ w = w' := by
  obtain ⟨i0, hi, _⟩ := info_tree_parts
  have HI := Lib.hid hi
  clear hi
  go_enter Tryd.func39, Tryd.ntmps39
  go_wp2_with (at_builtin; refine wpList_append_zero rfl _ _ 24 rfl 26 i0 Tryd.underlying24 HI.out rfl a cap rfl ?_)
  go_wp2_with fail
  go_ret
  exact ⟨rfl, rfl⟩

theorem eownK_any (w0 : World) (m : Nat) (a : Option Addr) (n cap : Nat) (ks : List T) (w : World) (hl : IsK (IsT w0 m) w a n cap ks) (hm : n * 80 ≤ 140737488355328) :
    Calls Tryd.prog 39 #[.slice a n cap] w fun e w' => OwnKPost w0 m ks w e w' ∧ (ks = [] → e = .returned (.slice none 0 0)) := by
  by_cases h : ks = []
  · have hn : n = 0 := by rw [← hl.length, h]; rfl
    subst hn
    refine (ownK_zero a cap w).mono ?_
    rintro e w' ⟨rfl, rfl⟩
    exact ⟨⟨_, [], rfl, by rw [h]; exact World.ownsRow_nil _ _ _ _, fun i hi => by rw [h] at hi; simp at hi, Below.refl _ _⟩, fun _ => rfl⟩
  · refine (ownK_any w0 m a n cap ks w hl hm).mono ?_
    rintro e w' hp
    exact ⟨hp, fun h' => absurd h' h⟩

end Go.Proofs.YtbempgdndmchlaaDoor

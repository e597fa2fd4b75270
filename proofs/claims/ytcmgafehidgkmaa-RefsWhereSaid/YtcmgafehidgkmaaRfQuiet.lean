/-
  Two steps of a quiet walk: a load of a row, a look-up in a map. No program text.
-/
import Derived.WalkKit
import Derived.Deep.QuietTactic
import Derived.BigQuiet
import Derived.StillTailTactics
namespace Go.Proofs.Ytcmgafehidgkmaa
open Go.RowKit
set_option linter.unusedVariables false

theorem quiet_ld {P : Program} {ops : Array Oper} {w : World} {Q : Act → Prop} {a : Act} {o : Oper} {rest : List Oper} (hw : Region.wanted o (yielded ops a.tmps) = true) (ty : TypeId) (x : Operand) (ho : o.op = .load ty x)
    (u v : Value) (hx : a.eval x = u) (hrun : ∀ k, (Instr.loadAt ty u).run P (w.drewN k) = .ok v (w.drewN k)) (h : wpQuiet P ops (fun w' => ∃ n, w' = w.drewN n) Q rest (a.put o.dst v)) : wpQuiet P ops (fun w' => ∃ n, w' = w.drewN n) Q (o :: rest) a :=
  wpQuiet_step fun K hK => by
    rw [if_pos hw]
    refine ⟨v, ?_, hK _ h⟩
    rintro w' ⟨n, rfl⟩
    unfold Oper.quietAt
    unfold execOp
    simp only [ho, hx, Sem.run_bind, hrun n, Result.andThen_ok, Sem.run_pure, Oper.quietUpon]
    exact ⟨trivial, trivial⟩
theorem quiet_lk {P : Program} {ops : Array Oper} {w : World} {Q : Act → Prop} {a : Act} {o : Oper} {rest : List Oper} (hw : Region.wanted o (yielded ops a.tmps) = true) (t : TypeId) (m x : Operand) (ho : o.op = .lookup t m x true)
    (u1 u2 v : Value) (hm : a.eval m = u1) (hx : a.eval x = u2) (hrun : ∀ k, (Instr.lookup t u1 u2 true).run P (w.drewN k) = .ok v (w.drewN k)) (h : wpQuiet P ops (fun w' => ∃ n, w' = w.drewN n) Q rest (a.put o.dst v)) : wpQuiet P ops (fun w' => ∃ n, w' = w.drewN n) Q (o :: rest) a :=
  wpQuiet_step fun K hK => by
    rw [if_pos hw]
    refine ⟨v, ?_, hK _ h⟩
    rintro w' ⟨n, rfl⟩
    unfold Oper.quietAt
    unfold execOp
    simp only [ho, hm, hx, Sem.run_bind, hrun n, Result.andThen_ok, Sem.run_pure, Oper.quietUpon]
    exact ⟨trivial, trivial⟩
theorem quiet_arr {P : Program} {ops : Array Oper} {w : World} {Q : Act → Prop} {a : Act} {o : Oper} {rest : List Oper} (hw : Region.wanted o (yielded ops a.tmps) = true) (ty : TypeId) (x : Operand) (ho : o.op = .sliceToArrayPointer ty x)
    (u v : Value) (hx : a.eval x = u) (hrun : ∀ k, (Instr.arrayAt ty u).run P (w.drewN k) = .ok v (w.drewN k)) (h : wpQuiet P ops (fun w' => ∃ n, w' = w.drewN n) Q rest (a.put o.dst v)) : wpQuiet P ops (fun w' => ∃ n, w' = w.drewN n) Q (o :: rest) a :=
  wpQuiet_step fun K hK => by
    rw [if_pos hw]
    refine ⟨v, ?_, hK _ h⟩
    rintro w' ⟨n, rfl⟩
    unfold Oper.quietAt
    unfold execOp
    simp only [ho, hx, Sem.run_bind, hrun n, Result.andThen_ok, Sem.run_pure, Oper.quietUpon]
    exact ⟨trivial, trivial⟩
theorem quiet_sl {P : Program} {ops : Array Oper} {w : World} {Q : Act → Prop} {a : Act} {o : Oper} {rest : List Oper} (hw : Region.wanted o (yielded ops a.tmps) = true) (t : TypeId) (x l h : Operand) (ho : o.op = .slice t x (some l) (some h) none)
    (u ul uh v : Value) (hx : a.eval x = u) (hl : a.eval l = ul) (hh : a.eval h = uh) (hrun : ∀ k, (Instr.sliceAt t u (some ul) (some uh) none).run P (w.drewN k) = .ok v (w.drewN k)) (h : wpQuiet P ops (fun w' => ∃ n, w' = w.drewN n) Q rest (a.put o.dst v)) : wpQuiet P ops (fun w' => ∃ n, w' = w.drewN n) Q (o :: rest) a :=
  wpQuiet_step fun K hK => by
    rw [if_pos hw]
    refine ⟨v, ?_, hK _ h⟩
    rintro w' ⟨n, rfl⟩
    unfold Oper.quietAt
    unfold execOp
    simp only [ho, hx, hl, hh, Option.map_some, Option.map_none, Sem.run_bind, hrun n, Result.andThen_ok, Sem.run_pure, Oper.quietUpon]
    exact ⟨trivial, trivial⟩
theorem still_ld {P : Program} {ops : Array Oper} {w : World} {Q : Act → Prop} {a : Act} {o : Oper} {rest : List Oper} (hw : Region.wanted o (yielded ops a.tmps) = true) (ty : TypeId) (x : Operand) (ho : o.op = .load ty x)
    (u v : Value) (hx : a.eval x = u) (hrun : (Instr.loadAt ty u).run P w = .ok v w) (h : wpStill P ops w Q rest (a.put o.dst v)) : wpStill P ops w Q (o :: rest) a :=
  wpStill_step fun K hK => by
    rw [if_pos hw]
    unfold Oper.still
    unfold execOp
    simp only [ho, hx, Sem.run_bind, hrun, Result.andThen_ok, Sem.run_pure, Oper.stillUpon]
    exact ⟨trivial, hK _ h⟩

end Go.Proofs.Ytcmgafehidgkmaa

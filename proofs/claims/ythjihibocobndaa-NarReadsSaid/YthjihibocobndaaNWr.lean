/-
  An archive that grows: what the writer's block holds, what a change leaves alone. And the contract of padding. No other program text.
-/
import Derived.Test.YthjihibocobndaaNMath
import Derived.Laws.AppendOwnNone
import Derived.OwnWalk
import Derived.Deep.AppendLies
namespace Go.Proofs.Ythjihibocobndaa
open Go.RowKit
set_option linter.unusedVariables false

theorem info_u8w : (Try.prog.info? 5).map (fun i => (i.zero, i.size, i.bytes)) = some (some (.int .u8 0), 1, 1) := by kernel_rfl
theorem info_u8w_parts : ∃ i, Try.prog.info? 5 = some i ∧ i.zero = some (.int .u8 0) ∧ i.size = 1 ∧ i.bytes = 1 := by
  have h := info_u8w
  cases hi : Try.prog.info? 5 with
  | none => rw [hi] at h; cases h
  | some i =>
    rw [hi] at h
    simp only [Option.map_some, Option.some.injEq, Prod.mk.injEq] at h
    exact ⟨i, rfl, h.1, h.2.1, h.2.2⟩

/-- What the writing of an archive leaves alone: blocks that are neither bytes nor a writer. -/
structure Kp (w w' : World) : Prop where
  size : w.heap.size ≤ w'.heap.size
  block : ∀ k L t, Has w k L t → t ≠ 5 → t ≠ 44 → Has w' k L t

theorem Kp.refl (w : World) : Kp w w := ⟨Nat.le_refl _, fun _ _ _ h _ _ => h⟩
theorem Kp.trans {x y z : World} (h : Kp x y) (k : Kp y z) : Kp x z := ⟨Nat.le_trans h.size k.size, fun i L t a b c => k.block i L t (h.block i L t a b c) b c⟩
theorem Kp.alloc (w : World) (o : Obj) : Kp w (w.alloc o) := ⟨by simp, fun _ _ _ h _ _ => h.alloc o⟩
theorem Kp.drew (w : World) : Kp w w.drew := ⟨Nat.le_refl _, fun _ _ _ h _ _ => h.drew⟩
theorem row_block_type {w : World} {B q n size : Nat} {e e' : TypeId} {v : Value} {xs : List Value} {cur : Array Value} {f : Nat × Nat} (h : w.ownsRow B e size v n xs) (hq : w.heap[q]? = some (.cells cur e' f)) (he : e ≠ e') : v.ownBlock ≠ some q := by
  intro hv
  rcases h.2 with ⟨rfl, _⟩ | ⟨g, cap, cur', rfl, _, hg, _⟩
  · cases hv
  · simp only [Value.ownBlock, Option.some.injEq] at hv
    subst hv
    rw [hg] at hq; cases hq; exact he rfl
theorem Kp.grown {w w' : World} {B n size : Nat} {v : Value} {xs : List Value} (ho : w.ownsRow B 5 size v n xs) (hg : w.grownBy w' v.ownBlock) : Kp w w' :=
  ⟨hg.size, fun k L t h h1 _ => (hg.block k h.lt (fun e => row_block_type ho (q := k) (cur := L.toArray) (f := (0, 0)) h (fun e' => h1 e'.symm) e.symm)).trans h⟩
theorem Kp.setW {w : World} {wb : Nat} {V : List Value} (hw : Has w wb V 44) (u : Value) : Kp w (w.setCell ⟨wb, 0, none⟩ u) :=
  ⟨by simp [World.setCell], fun k L t h _ h2 => h.setOther (fun e => by
    have e2 : k = wb := e
    subst e2
    have h' : w.heap[k]? = some (.cells L.toArray t (0, 0)) := h
    have hw' : w.heap[k]? = some (.cells V.toArray 44 (0, 0)) := hw
    rw [h'] at hw'
    cases hw'
    exact h2 rfl) u⟩

/-- The writer at block wb holds an archive so far: L; older memory is as it was. -/
def Wr (wb : Nat) (w0 : World) (L : List UInt8) (v : Value) (w : World) : Prop :=
  Has w wb [v] 44 ∧ w.ownsRow wb 5 1 v L.length (L.map bv) ∧ Below wb w0 w

theorem Wr.kept {wb : Nat} {w0 w w2 : World} {L : List UInt8} {v : Value} (h : Wr wb w0 L v w) (hg : w.grownBy w2 v.ownBlock) : Has w2 wb [v] 44 :=
  (hg.block wb h.1.lt (fun e => row_block_type h.2.1 (q := wb) (cur := [v].toArray) (f := (0, 0)) h.1 (by decide) e.symm)).trans h.1

theorem Wr.alloc {wb : Nat} {w0 w : World} {L : List UInt8} {v : Value} (h : Wr wb w0 L v w) (o : Obj) : Wr wb w0 L v (w.alloc o) :=
  ⟨h.1.alloc o, h.2.1.alloc o, h.2.2.alloc (Nat.le_of_lt h.1.lt) o⟩
theorem Wr.drew {wb : Nat} {w0 w : World} {L : List UInt8} {v : Value} (h : Wr wb w0 L v w) : Wr wb w0 L v w.drew := ⟨h.1.drew, h.2.1.drew, h.2.2.drew⟩

theorem Wr.step {wb : Nat} {w0 w w2 : World} {L news : List UInt8} {v v' : Value} (h : Wr wb w0 L v w) (hg : w.grownBy w2 v.ownBlock)
    (ho : w2.ownsRow wb 5 1 v' (L.length + news.length) (L.map bv ++ news.map bv)) :
    Wr wb w0 (L ++ news) v' (w2.setCell ⟨wb, 0, none⟩ v') ∧ Kp w (w2.setCell ⟨wb, 0, none⟩ v') := by
  have h2 := h.kept hg
  have ho' : w2.ownsRow wb 5 1 v' (L ++ news).length ((L ++ news).map bv) := by rw [List.length_append, List.map_append]; exact ho
  have hb2 : Below wb w0 w2 := h.2.2.grown hg (Nat.le_of_lt h.1.lt) (fun k hk => (h.2.1.lt k hk).1)
  refine ⟨⟨h2.set 0 v', ho'.kept (row := some wb) ⟨rfl, rfl, rfl, by simp, fun k _ hk => heap_setCell_other w2 ⟨wb, 0, none⟩ k v' (fun e => hk (by simp [e]))⟩ (.inr (row_block_type ho' (q := wb) (cur := [v].toArray) (f := (0, 0)) h2 (by decide))), hb2.setCell (Nat.le_refl _) _⟩, (Kp.grown h.2.1 hg).trans (Kp.setW h2 v')⟩

def strsN (l : List ByteArray) : List UInt8 := l.flatMap fun s => strN s.data.toList

theorem strsN_take {l : List ByteArray} {i : Nat} (hi : i < l.length) : strsN (l.take (i + 1)) = strsN (l.take i) ++ strN (l.getD i ⟨#[]⟩).data.toList := by
  unfold strsN
  rw [List.take_succ_eq_append_getElem hi, List.flatMap_append, List.getD_eq_getElem?_getD, List.getElem?_eq_getElem hi]
  simp
theorem strsN_prefix (l : List ByteArray) (i : Nat) : (strsN (l.take i)).length ≤ (strsN l).length := by
  have : strsN l = strsN (l.take i) ++ strsN (l.drop i) := by
    unfold strsN
    rw [← List.flatMap_append, List.take_append_drop]
  rw [this, List.length_append]; omega

theorem padding_any (n : Nat) (w : World) (hn : n ≤ 1000000000) : Calls Try.prog 25 #[.int .i64 (n : Int)] w fun e w' => e = .returned (.int .i64 (padN n : Int)) ∧ w = w' := by
  go_enter Try.func25, Try.ntmps25
  go_wp2
  go_ret
  refine ⟨?_, rfl⟩
  show Ending.returned (.int .i64 ((8 - (n : Int) % 8) % 8)) = _
  congr 2
  unfold padN
  omega

end Go.Proofs.Ythjihibocobndaa

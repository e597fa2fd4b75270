/-
  Rows of the call's own under changes of another block; bytes as a string. No conditions.
-/
import Derived.Test.YtokbakpbhpknfaaBut
import Derived.Laws.BytesString
import Derived.Deep.MidRow
namespace Go.Proofs.Ytokbakpbhpknfaa
open Go.RowKit
set_option linter.unusedVariables false

def bv (b : UInt8) : Value := .int .u8 (b.toNat : Int)
theorem info_u8 : (Try.prog.info? 5).map (fun i => (i.zero, i.size, i.bytes)) = some (some (.int .u8 0), 1, 1) := by kernel_rfl
theorem info_u8_parts : ∃ i, Try.prog.info? 5 = some i ∧ i.zero = some (.int .u8 0) ∧ i.size = 1 ∧ i.bytes = 1 := by
  obtain ⟨i, hi, hx⟩ := Option.map_eq_some_iff.1 info_u8
  simp only [Prod.mk.injEq] at hx
  exact ⟨i, hi, hx.1, hx.2.1, hx.2.2⟩
theorem info_str : (Try.prog.info? 9).map (fun i => (i.zero, i.size, i.bytes)) = some (some (.string ByteArray.empty), 1, 16) := by kernel_rfl
theorem info_str_parts : ∃ i, Try.prog.info? 9 = some i ∧ i.zero = some (.string ByteArray.empty) ∧ i.size = 1 ∧ i.bytes = 16 := by
  obtain ⟨i, hi, hx⟩ := Option.map_eq_some_iff.1 info_str
  simp only [Prod.mk.injEq] at hx
  exact ⟨i, hi, hx.1, hx.2.1, hx.2.2⟩

theorem row_block_type {w : World} {B q n size : Nat} {e e' : TypeId} {v : Value} {xs : List Value} {cur : Array Value} {f : Nat × Nat} (h : w.ownsRow B e size v n xs) (hq : w.heap[q]? = some (.cells cur e' f)) (he : e ≠ e') : v.ownBlock ≠ some q := by
  intro hv
  rcases h.2 with ⟨rfl, _⟩ | ⟨g, cap, cur', rfl, _, hg, _⟩
  · cases hv
  · simp only [Value.ownBlock, Option.some.injEq] at hv
    subst hv
    rw [hg] at hq; cases hq; exact he rfl
theorem has_grown {w w2 : World} {B b n size : Nat} {e e' : TypeId} {v : Value} {xs L : List Value} (hx : Has w b L e') (h : w.ownsRow B e size v n xs) (he : e ≠ e') (hg : w.grownBy w2 v.ownBlock) : Has w2 b L e' :=
  (hg.block b hx.lt (fun e => row_block_type h (q := b) (cur := L.toArray) (f := (0, 0)) hx he e.symm)).trans hx
theorem row_form {w : World} {B n size : Nat} {e : TypeId} {v : Value} {xs : List Value} (h : w.ownsRow B e size v n xs) : ∃ b c, v = .slice b n c := by
  rcases h.2 with ⟨rfl, h0⟩ | ⟨g, cap, cur', rfl, _⟩
  · exact ⟨_, _, by rw [h0]⟩
  · exact ⟨_, _, rfl⟩
/-- A row under a change of a block of another type. -/
theorem owns_but {w w' : World} {B q : Nat} {e e' : TypeId} {size : Nat} {v : Value} {n : Nat} {xs L : List Value} (h : w.ownsRow B e size v n xs) (hb : But w.heap.size q w w') (hx : Has w q L e') (he : e ≠ e') : w'.ownsRow B e size v n xs := by
  refine ⟨h.1, ?_⟩
  rcases h.2 with hn | ⟨g, cap, cur, rfl, hg, hgg, rest⟩
  · exact .inl hn
  · refine .inr ⟨g, cap, cur, rfl, hg, ?_, rest⟩
    have hne : g ≠ q := fun e1 => by
      rw [e1] at hgg
      have hx' : w.heap[q]? = some (.cells L.toArray e' (0, 0)) := hx
      rw [hgg] at hx'; cases hx'; exact he rfl
    exact (hb.block g (Array.getElem?_eq_some_iff.1 hgg).1 hne).trans hgg
theorem but_grown {w x w2 : World} {B b n size : Nat} {e : TypeId} {v : Value} {xs : List Value} (hb : But B b x w) (h : w.ownsRow B e size v n xs) (hB : B ≤ w.heap.size) (hg : w.grownBy w2 v.ownBlock) : But B b x w2 :=
  hb.trans (.of_below ((Below.refl B w).grown hg hB (fun k hk => (h.lt k hk).1)))

/-- 'string(b)' of bytes of the call's own. -/
theorem convert_own {w : World} {B : Nat} {a : Option Addr} {n cap : Nat} {l : List UInt8} (h : w.ownsRow B 5 1 (.slice a n cap) n (l.map bv)) :
    (convert 38 9 (.slice a n cap)).run Try.prog w = .ok (.string ⟨l.toArray⟩) w := by
  have hl : l.length = n := by have := h.1; simpa using this
  rcases h.2 with ⟨hv, h0⟩ | ⟨g, cap', cur, hv, hb, hg, hle, hmx, hsz, htk⟩
  · simp only [Value.slice.injEq] at hv
    obtain ⟨rfl, rfl, rfl⟩ := hv
    obtain rfl : l = [] := List.eq_nil_of_length_eq_zero hl
    rw [run_convert_bytes_string w 38 9 5 none 0 0 Try.underlying38 Try.underlying5 Try.underlying9]
    rfl
  · simp only [Value.slice.injEq] at hv
    obtain ⟨rfl, -, rfl⟩ := hv
    subst hl
    refine run_convert_bytes_back (P := Try.prog) w 38 9 5 ⟨g, 0, none⟩ cap l Try.underlying38 Try.underlying5 Try.underlying9 (fun j hj => ?_)
    rw [Addr.add_mid, Nat.zero_add, World.ownsRow.cellAt h j (by omega), List.getElem?_map, List.getElem?_eq_getElem hj]
    rfl
end Go.Proofs.Ytokbakpbhpknfaa

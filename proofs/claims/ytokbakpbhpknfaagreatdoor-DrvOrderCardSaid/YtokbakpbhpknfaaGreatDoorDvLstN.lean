/-
  Rows of the call's own under changes of another block; bytes as a string. No conditions.
-/
import Derived.Test.YtokbakpbhpknfaaGreatDoorBut
import Derived.Laws.BytesString
import Derived.Deep.MidRow
import Derived.Test.YtokbakpbhpknfaaGreatDoorDvMath
import Derived.Test.YtokbakpbhpknfaaGreatDoorShelf
import Derived.Lib.Bytealg
import Derived.Deep.LoopGhost
import Derived.Deep.QuietTactic
import Derived.Deep.AppendLies
import Derived.BigQuiet
import Derived.Test.YtokbakpbhpknfaaGreatDoorTreeN
import Derived.Deep.Cut
namespace Go.Proofs.YtokbakpbhpknfaaGreatDoor
open Go.RowKit
set_option linter.unusedVariables false

def bv (b : UInt8) : Value := .int .u8 (b.toNat : Int)
theorem info_u8q : (Tryz.prog.info? 5).map (fun i => (i.zero, i.size, i.bytes)) = some (some (.int .u8 0), 1, 1) := by kernel_rfl
theorem info_u8_parts : ∃ i, Tryz.prog.info? 5 = some i ∧ i.zero = some (.int .u8 0) ∧ i.size = 1 ∧ i.bytes = 1 := by
  obtain ⟨i, hi, hx⟩ := Option.map_eq_some_iff.1 info_u8q
  simp only [Prod.mk.injEq] at hx
  exact ⟨i, hi, hx.1, hx.2.1, hx.2.2⟩
theorem info_str : (Tryz.prog.info? 9).map (fun i => (i.zero, i.size, i.bytes)) = some (some (.string ByteArray.empty), 1, 16) := by kernel_rfl
theorem info_str_parts : ∃ i, Tryz.prog.info? 9 = some i ∧ i.zero = some (.string ByteArray.empty) ∧ i.size = 1 ∧ i.bytes = 16 := by
  obtain ⟨i, hi, hx⟩ := Option.map_eq_some_iff.1 info_str
  simp only [Prod.mk.injEq] at hx
  exact ⟨i, hi, hx.1, hx.2.1, hx.2.2⟩

theorem row_block_type {w : World} {B q n size : Nat} {e e' : TypeId} {v : Value} {xs : List Value} {cur : Array Value} {f : Nat × Nat} (h : w.ownsRow B e size v n xs) (hq : w.heap[q]? = some (.cells cur e' f)) (he : e ≠ e') : v.ownBlock ≠ some q := by
  intro hv
  rcases h.2 with ⟨rfl, _⟩ | ⟨g, cap, cur', rfl, _, hg, _⟩
  · cases hv
  · simp only [Value.ownBlock, Option.some.injEq] at hv
    subst hv
    rw [hg] at hq; cases hq; exact he rfl
theorem has_grown {w w2 : World} {B b n size : Nat} {e e' : TypeId} {v : Value} {xs L : List Value} (hx : Has w b L e') (h : w.ownsRow B e size v n xs) (he : e ≠ e') (hg : w.grownBy w2 v.ownBlock) : Has w2 b L e' :=
  (hg.block b hx.lt (fun e => row_block_type h (q := b) (cur := L.toArray) (f := (0, 0)) hx he e.symm)).trans hx
theorem row_form {w : World} {B n size : Nat} {e : TypeId} {v : Value} {xs : List Value} (h : w.ownsRow B e size v n xs) : ∃ b c, v = .slice b n c := by
  rcases h.2 with ⟨rfl, h0⟩ | ⟨g, cap, cur', rfl, _⟩
  · exact ⟨_, _, by rw [h0]⟩
  · exact ⟨_, _, rfl⟩
/-- A row under a change of a block of another type. -/
theorem owns_but {w w' : World} {B q : Nat} {e e' : TypeId} {size : Nat} {v : Value} {n : Nat} {xs L : List Value} (h : w.ownsRow B e size v n xs) (hb : But w.heap.size q w w') (hx : Has w q L e') (he : e ≠ e') : w'.ownsRow B e size v n xs := by
  refine ⟨h.1, ?_⟩
  rcases h.2 with hn | ⟨g, cap, cur, rfl, hg, hgg, rest⟩
  · exact .inl hn
  · refine .inr ⟨g, cap, cur, rfl, hg, ?_, rest⟩
    have hne : g ≠ q := fun e1 => by
      rw [e1] at hgg
      have hx' : w.heap[q]? = some (.cells L.toArray e' (0, 0)) := hx
      rw [hgg] at hx'; cases hx'; exact he rfl
    exact (hb.block g (Array.getElem?_eq_some_iff.1 hgg).1 hne).trans hgg
theorem but_grown {w x w2 : World} {B b n size : Nat} {e : TypeId} {v : Value} {xs : List Value} (hb : But B b x w) (h : w.ownsRow B e size v n xs) (hB : B ≤ w.heap.size) (hg : w.grownBy w2 v.ownBlock) : But B b x w2 :=
  hb.trans (.of_below ((Below.refl B w).grown hg hB (fun k hk => (h.lt k hk).1)))

/-- 'string(b)' of bytes of the call's own. -/
theorem convert_own {w : World} {B : Nat} {a : Option Addr} {n cap : Nat} {l : List UInt8} (h : w.ownsRow B 5 1 (.slice a n cap) n (l.map bv)) :
    (convert 45 9 (.slice a n cap)).run Tryz.prog w = .ok (.string ⟨l.toArray⟩) w := by
  have hl : l.length = n := by have := h.1; simpa using this
  rcases h.2 with ⟨hv, h0⟩ | ⟨g, cap', cur, hv, hb, hg, hle, hmx, hsz, htk⟩
  · simp only [Value.slice.injEq] at hv
    obtain ⟨rfl, rfl, rfl⟩ := hv
    obtain rfl : l = [] := List.eq_nil_of_length_eq_zero hl
    rw [run_convert_bytes_string w 45 9 5 none 0 0 Tryz.underlying45 Tryz.underlying5 Tryz.underlying9]
    rfl
  · simp only [Value.slice.injEq] at hv
    obtain ⟨rfl, -, rfl⟩ := hv
    subst hl
    refine run_convert_bytes_back (P := Tryz.prog) w 45 9 5 ⟨g, 0, none⟩ cap l Tryz.underlying45 Tryz.underlying5 Tryz.underlying9 (fun j hj => ?_)
    rw [Addr.add_mid, Nat.zero_add, World.ownsRow.cellAt h j (by omega), List.getElem?_map, List.getElem?_eq_getElem hj]
    rfl
end Go.Proofs.YtokbakpbhpknfaaGreatDoor

namespace Go.Proofs.YtokbakpbhpknfaaGreatDoor
open Go.RowKit
set_option linter.unusedVariables false
theorem but_w {B b : Nat} {w x : World} (h : But B b w x) (n : Nat) : But B b w (x.drewN n) := ⟨h.os, h.tape, h.output, h.size, h.block⟩

end Go.Proofs.YtokbakpbhpknfaaGreatDoor

namespace Go.Proofs.YtokbakpbhpknfaaGreatDoor
open Go.RowKit
set_option linter.unusedVariables false

def dSigns : ByteArray := ⟨#[92, 34, 110, 116]⟩
theorem mean_index (d : UInt8) : (dmean d = none ∧ Lib.indexByte [92, 34, 110, 116] d = -1) ∨ (dmean d = some 92 ∧ Lib.indexByte [92, 34, 110, 116] d = 0) ∨ (dmean d = some 34 ∧ Lib.indexByte [92, 34, 110, 116] d = 1) ∨
    (dmean d = some 10 ∧ Lib.indexByte [92, 34, 110, 116] d = 2) ∨ (dmean d = some 9 ∧ Lib.indexByte [92, 34, 110, 116] d = 3) := by
  have : ∀ n : Fin 256, (dmean (UInt8.ofNat n.val) = none ∧ Lib.indexByte [92, 34, 110, 116] (UInt8.ofNat n.val) = -1) ∨ (dmean (UInt8.ofNat n.val) = some 92 ∧ Lib.indexByte [92, 34, 110, 116] (UInt8.ofNat n.val) = 0) ∨ (dmean (UInt8.ofNat n.val) = some 34 ∧ Lib.indexByte [92, 34, 110, 116] (UInt8.ofNat n.val) = 1) ∨
    (dmean (UInt8.ofNat n.val) = some 10 ∧ Lib.indexByte [92, 34, 110, 116] (UInt8.ofNat n.val) = 2) ∨ (dmean (UInt8.ofNat n.val) = some 9 ∧ Lib.indexByte [92, 34, 110, 116] (UInt8.ofNat n.val) = 3) := by decide +kernel
  have h := this ⟨d.toNat, d.toNat_lt⟩
  simpa using h

/-- Where the sign stands. -/
theorem signs_any (d : UInt8) (w : World) : Calls Tryz.prog 79 #[.string ⟨#[92, 34, 110, 116]⟩, .int .u8 (d.toNat : Int)] w fun e w' => e = .returned (.int .i64 (Lib.indexByte [92, 34, 110, 116] d)) ∧ w' = w := by
  have h := Tryz.strings_IndexByte ⟨#[92, 34, 110, 116]⟩ (d.toNat : Int) w
  rw [show ((d.toNat : Int)).toNat.toUInt8 = d by simp] at h
  exact h

end Go.Proofs.YtokbakpbhpknfaaGreatDoor

namespace Go.Proofs.YtokbakpbhpknfaaGreatDoor
open Go.RowKit
set_option linter.unusedVariables false
/-- A text on its way. -/
structure TInv (o : Option (List UInt8 × List UInt8)) (n : Nat) (A R : List UInt8) (b : Bool) : Prop where
  most : A.length + R.length ≤ n + 1
  room : b = false → A.length + R.length ≤ n
  rest : R.length ≤ n
  bad : b = true → o = none
  good : b = false → o = preT A (unqL R)
def tm (R : List UInt8) (b : Bool) : Nat := 2 * R.length + (if b then 0 else 1)
theorem TInv.stop {o : Option (List UInt8 × List UInt8)} {n : Nat} {A R r : List UInt8} (h : TInv o n A R false) (hr : dlit [34] R = some r) : o = some (A, r) := by
  rw [h.good rfl, unq_done hr, preT_some, List.append_nil]
theorem TInv.step {o : Option (List UInt8 × List UInt8)} {n : Nat} {A R : List UInt8} (h : TInv o n A R false) (hr : dlit [34] R = none) :
    TInv o n (A ++ [(nextP R).1]) (nextP R).2.1 (nextP R).2.2 ∧ tm (nextP R).2.1 (nextP R).2.2 < tm R false := by
  have hl := nextP_len R
  have hm := h.room rfl
  cases hb : (nextP R).2.2 with
  | true =>
    refine ⟨⟨by simp; omega, (fun e => by cases e), by have := h.rest; omega, (fun _ => ?_), (fun e => by cases e)⟩, by unfold tm; simp; omega⟩
    rw [h.good rfl, unq_bad hr hb, preT_none]
  | false =>
    obtain ⟨h1, h2⟩ := unq_step hr hb
    refine ⟨⟨by simp; omega, (fun _ => by simp; omega), by have := h.rest; omega, (fun e => by cases e), (fun _ => ?_)⟩, by unfold tm; simp; omega⟩
    rw [h.good rfl, h1, preT_cons]

end Go.Proofs.YtokbakpbhpknfaaGreatDoor

namespace Go.Proofs.YtokbakpbhpknfaaGreatDoor
open Go.RowKit
set_option linter.unusedVariables false

def bs (l : List UInt8) : ByteArray := ⟨l.toArray⟩
def sv (l : List UInt8) : Value := .string (bs l)
theorem bs_list (s : ByteArray) : bs s.data.toList = s := rfl
theorem list_bs (l : List UInt8) : (bs l).data.toList = l := rfl
theorem isS_own {w : World} {B n : Nat} {a : Option Addr} {c : Nat} {l : List (List UInt8)} (h : w.ownsRow B 9 1 (.slice a n c) n (l.map sv)) : IsS w a n c (l.map bs) := by
  have hl : l.length = n := by have := h.1; simpa using this
  rcases h.2 with ⟨hv, h0⟩ | ⟨g, cap', cur, hv, hb, hg, hle, hmx, hsz, htk⟩
  · simp only [Value.slice.injEq] at hv
    obtain ⟨rfl, rfl, rfl⟩ := hv
    exact ⟨by simpa using hl, .inl rfl, fun _ => ⟨rfl, rfl⟩, ⟨Nat.le_refl _, Nat.zero_le _⟩⟩
  · simp only [Value.slice.injEq] at hv
    obtain ⟨rfl, -, rfl⟩ := hv
    refine ⟨by simpa using hl, .inr ⟨g, 0, rfl, (Array.getElem?_eq_some_iff.1 hg).1, fun i hi => ?_⟩, (fun e => by cases e), ⟨by omega, hmx⟩⟩
    rw [Nat.zero_add, World.ownsRow.cellAt h i (by omega), List.getElem?_map, List.getElem?_eq_getElem (by omega), List.getD_eq_getElem?_getD, List.getElem?_map, List.getElem?_eq_getElem (by omega)]
    rfl

/-- A list on its way. -/
structure LInv (o : Option (List (List UInt8) × List UInt8)) (n : Nat) (A : List (List UInt8)) (R : List UInt8) (b : Bool) : Prop where
  rest : R.length ≤ n
  bad : b = true → o = none
  good : b = false → o = preL A (itemsL R)
/-- A text of it was read, or not. -/
def LGot (R t R2 : List UInt8) (b2 : Bool) : Prop := (b2 = false ∧ dtxt R = some (t, R2)) ∨ (b2 = true ∧ dtxt R = none ∧ R2.length ≤ R.length)
theorem LGot.len {R t R2 : List UInt8} {b2 : Bool} (h : LGot R t R2 b2) : R2.length ≤ R.length := by
  rcases h with ⟨_, h⟩ | ⟨_, _, h⟩
  · have := dtxt_len h; omega
  · exact h
theorem LInv.close {o : Option (List (List UInt8) × List UInt8)} {n : Nat} {A : List (List UInt8)} {R t R2 r2 : List UInt8} {b2 : Bool} (h : LInv o n A R false) (hg : LGot R t R2 b2) (hd : dlit [93] R2 = some r2) :
    (b2 = false ∧ o = some (A ++ [t], r2)) ∨ (b2 = true ∧ o = none ∧ r2.length ≤ n) := by
  rcases hg with ⟨hb, hg⟩ | ⟨hb, hg, hl⟩
  · exact .inl ⟨hb, by rw [h.good rfl, items_end hg hd]; rfl⟩
  · refine .inr ⟨hb, by rw [h.good rfl, items_none hg]; rfl, ?_⟩
    have := dlit_len hd; have := h.rest; omega
theorem LInv.step {o : Option (List (List UInt8) × List UInt8)} {n : Nat} {A : List (List UInt8)} {R t R2 : List UInt8} {b2 : Bool} (h : LInv o n A R false) (hg : LGot R t R2 b2) (hd : dlit [93] R2 = none) :
    LInv o n (A ++ [t]) ((dlit [44] R2).getD R2) (b2 || (dlit [44] R2).isNone) ∧ tm ((dlit [44] R2).getD R2) (b2 || (dlit [44] R2).isNone) < tm R false := by
  have hl := hg.len
  have hr := h.rest
  have hx : ((dlit [44] R2).getD R2).length ≤ R2.length := by
    cases hc : dlit [44] R2 with
    | none => exact Nat.le_refl _
    | some r => have := dlit_len hc; simp; omega
  rcases hg with ⟨rfl, hg⟩ | ⟨rfl, hg, _⟩
  · have hl2 := dtxt_len hg
    cases hc : dlit [44] R2 with
    | none => exact ⟨⟨by simp; omega, (fun _ => by rw [h.good rfl, items_bad hg hd hc]; rfl), (fun e => by cases e)⟩, by unfold tm; simp; omega⟩
    | some r =>
      rw [hc] at hx
      have hx : r.length ≤ R2.length := hx
      exact ⟨⟨by simp; omega, (fun e => by cases e), (fun _ => by rw [h.good rfl, items_more hg hd hc, preL_cons]; rfl)⟩, by unfold tm; simp; omega⟩
  · exact ⟨⟨by omega, (fun _ => by rw [h.good rfl, items_none hg]; rfl), (fun e => by cases e)⟩, by unfold tm; simp; omega⟩
theorem take_short {A : List (List UInt8)} (t : List UInt8) (h : (A.take 33).length ≤ 32) : A.take 33 = A ∧ (A ++ [t]).take 33 = A.take 33 ++ [t] := by
  have hl : A.length ≤ 32 := by rw [List.length_take] at h; omega
  have h1 : A.take 33 = A := List.take_of_length_le (by omega)
  exact ⟨h1, by rw [h1]; exact List.take_of_length_le (by simp; omega)⟩
theorem take_long {A : List (List UInt8)} (t : List UInt8) (h : ¬ (A.take 33).length ≤ 32) : (A ++ [t]).take 33 = A.take 33 :=
  List.take_append_of_le_length (by rw [List.length_take] at h; omega)

end Go.Proofs.YtokbakpbhpknfaaGreatDoor

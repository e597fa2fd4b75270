/-
  The reader of a derivation's text: the whole. Condition: what is to be read is no longer than 10^9 bytes.
-/
import Derived.Test.YtokbakpbhpknfaaGreatDoorDvLstN
import Derived.Laws.Rows
namespace Go.Proofs.YtokbakpbhpknfaaGreatDoor
open Go.RowKit
set_option linter.unusedVariables false

def SkF (x R : List UInt8) (b : Bool) (R' : List UInt8) (b' : Bool) : Prop := R' = (dlit x R).getD R ∧ b' = (b || (dlit x R).isNone)
def TxF (R : List UInt8) (b : Bool) (t R' : List UInt8) (b' : Bool) : Prop := (b' = false ∧ b = false ∧ dtxt R = some (t, R')) ∨ (b' = true ∧ (b = true ∨ dtxt R = none))
def LsF (R : List UInt8) (b : Bool) (l : List (List UInt8)) (R' : List UInt8) (b' : Bool) : Prop := (b' = false ∧ b = false ∧ dlst R = some (l, R')) ∨ (b' = true ∧ (b = true ∨ dlst R = none))
theorem SkF.len {x R R' : List UInt8} {b b' : Bool} (h : SkF x R b R' b') {n : Nat} (hn : R.length ≤ n) : R'.length ≤ n := by
  rw [h.1]
  cases hc : dlit x R with
  | none => exact hn
  | some r => have := dlit_len hc; simp; omega
theorem SkF.ok {x R R' : List UInt8} {b b' : Bool} (h : SkF x R b R' b') (hb : b' = false) : b = false ∧ dlit x R = some R' := by
  obtain ⟨h1, h2⟩ := h
  rw [hb] at h2
  cases hc : dlit x R with
  | none => rw [hc] at h2; simp at h2
  | some r => rw [hc] at h1 h2; simp at h1 h2; exact ⟨h2, by rw [h1]⟩
theorem SkF.go {x R R' r : List UInt8} {b b' : Bool} (h : SkF x R b R' b') (hb : b = false) (hr : dlit x R = some r) : b' = false ∧ R' = r := by
  obtain ⟨h1, h2⟩ := h
  rw [hr] at h1 h2; rw [hb] at h2
  exact ⟨h2, h1⟩
theorem TxF.ok {R t R' : List UInt8} {b b' : Bool} (h : TxF R b t R' b') (hb : b' = false) : b = false ∧ dtxt R = some (t, R') := by
  rcases h with ⟨_, h1, h2⟩ | ⟨h, _⟩
  · exact ⟨h1, h2⟩
  · rw [hb] at h; cases h
theorem TxF.go {R t R' t' r : List UInt8} {b b' : Bool} (h : TxF R b t R' b') (hb : b = false) (hr : dtxt R = some (t', r)) : b' = false ∧ R' = r := by
  rcases h with ⟨h0, h1, h2⟩ | ⟨_, h | h⟩
  · rw [hr] at h2; cases h2; exact ⟨h0, rfl⟩
  · rw [hb] at h; cases h
  · rw [hr] at h; cases h
theorem LsF.ok {R R' : List UInt8} {l : List (List UInt8)} {b b' : Bool} (h : LsF R b l R' b') (hb : b' = false) : b = false ∧ dlst R = some (l, R') := by
  rcases h with ⟨_, h1, h2⟩ | ⟨h, _⟩
  · exact ⟨h1, h2⟩
  · rw [hb] at h; cases h
theorem LsF.go {R R' r : List UInt8} {l l' : List (List UInt8)} {b b' : Bool} (h : LsF R b l R' b') (hb : b = false) (hr : dlst R = some (l', r)) : b' = false ∧ R' = r := by
  rcases h with ⟨h0, h1, h2⟩ | ⟨_, h | h⟩
  · rw [hr] at h2; cases h2; exact ⟨h0, rfl⟩
  · rw [hb] at h; cases h
  · rw [hr] at h; cases h

/-- What a slice of texts holds, if all went well. -/
def LsV (w : World) (B : Nat) (a : Option Addr) (k c : Nat) (l : List (List UInt8)) (b : Bool) : Prop := b = false → k = (l.take 33).length ∧ w.ownsRow B 9 1 (.slice a k c) k ((l.take 33).map sv)
theorem LsV.but {w w' : World} {B q : Nat} {a : Option Addr} {k c : Nat} {l : List (List UInt8)} {b : Bool} {L : List Value} {e' : TypeId} (h : LsV w B a k c l b) (hb : But w.heap.size q w w') (hx : Has w q L e') (he : 9 ≠ e') : LsV w' B a k c l b :=
  fun e => ⟨(h e).1, owns_but (h e).2 hb hx he⟩
theorem owns_lower {w : World} {B B' size n : Nat} {e : TypeId} {v : Value} {xs : List Value} (h : w.ownsRow B e size v n xs) (hB : B' ≤ B) : w.ownsRow B' e size v n xs := by
  refine ⟨h.1, ?_⟩
  rcases h.2 with h1 | ⟨g, cap, cur, h1, h2, h3⟩
  · exact .inl h1
  · exact .inr ⟨g, cap, cur, h1, Nat.le_trans hB h2, h3⟩
theorem LsV.lower {w : World} {B B' : Nat} {a : Option Addr} {k c : Nat} {l : List (List UInt8)} {b : Bool} (h : LsV w B a k c l b) (hB : B' ≤ B) : LsV w B' a k c l b := fun e => ⟨(h e).1, owns_lower (h e).2 hB⟩
theorem own_at {w : World} {B k c n size : Nat} {e : TypeId} {a : Option Addr} {xs : List Value} (h : w.ownsRow B e size (.slice a k c) n xs) : ∀ p, a = some p → B ≤ p.block := fun p hp => (h.lt p.block (by rw [hp]; rfl)).1
theorem whole_ok {R0 R1 R2 R3 R4 R5 R6 R7 R8 R9 R10 R11 t0 t3 t4 : List UInt8} {l1 l2 : List (List UInt8)} {b1 b2 b3 b4 b5 b6 b7 b8 b9 b10 b11 : Bool}
    (f1 : SkF [68, 101, 114, 105, 118, 101, 40] R0 false R1 b1) (f2 : TxF R1 b1 t0 R2 b2) (f3 : SkF [44] R2 b2 R3 b3) (f4 : LsF R3 b3 l1 R4 b4) (f5 : SkF [44] R4 b4 R5 b5) (f6 : LsF R5 b5 l2 R6 b6) (f7 : SkF [44] R6 b6 R7 b7)
    (f8 : TxF R7 b7 t3 R8 b8) (f9 : SkF [44] R8 b8 R9 b9) (f10 : TxF R9 b9 t4 R10 b10) (f11 : SkF [41] R10 b10 R11 b11) (h : b11 = false) : b6 = false ∧ b4 = false ∧ dwhole R0 = some (⟨t0, l1, l2, t3, t4⟩, R11) := by
  obtain ⟨h, e11⟩ := f11.ok h
  obtain ⟨h, e10⟩ := f10.ok h
  obtain ⟨h, e9⟩ := f9.ok h
  obtain ⟨h, e8⟩ := f8.ok h
  obtain ⟨h6, e7⟩ := f7.ok h
  obtain ⟨h, e6⟩ := f6.ok h6
  obtain ⟨h4, e5⟩ := f5.ok h
  obtain ⟨h, e4⟩ := f4.ok h4
  obtain ⟨h, e3⟩ := f3.ok h
  obtain ⟨h, e2⟩ := f2.ok h
  obtain ⟨h, e1⟩ := f1.ok h
  refine ⟨h6, h4, ?_⟩
  unfold dwhole
  rw [show dopen = [68, 101, 114, 105, 118, 101, 40] from rfl, e1]
  simp only [e2, e3, e4, e5, e6, e7, e8, e9, e10, e11, Option.bind_eq_bind, Option.bind_some, Option.pure_def]
theorem whole_bad {R0 R1 R2 R3 R4 R5 R6 R7 R8 R9 R10 R11 t0 t3 t4 : List UInt8} {l1 l2 : List (List UInt8)} {b1 b2 b3 b4 b5 b6 b7 b8 b9 b10 b11 : Bool}
    (f1 : SkF [68, 101, 114, 105, 118, 101, 40] R0 false R1 b1) (f2 : TxF R1 b1 t0 R2 b2) (f3 : SkF [44] R2 b2 R3 b3) (f4 : LsF R3 b3 l1 R4 b4) (f5 : SkF [44] R4 b4 R5 b5) (f6 : LsF R5 b5 l2 R6 b6) (f7 : SkF [44] R6 b6 R7 b7)
    (f8 : TxF R7 b7 t3 R8 b8) (f9 : SkF [44] R8 b8 R9 b9) (f10 : TxF R9 b9 t4 R10 b10) (f11 : SkF [41] R10 b10 R11 b11) (h : b11 = true ∨ R11 ≠ []) (d : Dv) : dwhole R0 ≠ some (d, []) := by
  intro hd
  unfold dwhole at hd
  rw [show dopen = [68, 101, 114, 105, 118, 101, 40] from rfl] at hd
  simp only [Option.bind_eq_bind, Option.bind_eq_some_iff, Option.pure_def, Option.some.injEq, Prod.mk.injEq, Prod.exists] at hd
  obtain ⟨r1, e1, n, r2, e2, r3, e3, ds, r4, e4, r5, e5, ss, r6, e6, r7, e7, rc, r8, e8, r9, e9, fx, r10, e10, r11, e11, _, hr⟩ := hd
  obtain ⟨g, rfl⟩ := f1.go rfl e1
  obtain ⟨g, rfl⟩ := f2.go g e2
  obtain ⟨g, rfl⟩ := f3.go g e3
  obtain ⟨g, rfl⟩ := f4.go g e4
  obtain ⟨g, rfl⟩ := f5.go g e5
  obtain ⟨g, rfl⟩ := f6.go g e6
  obtain ⟨g, rfl⟩ := f7.go g e7
  obtain ⟨g, rfl⟩ := f8.go g e8
  obtain ⟨g, rfl⟩ := f9.go g e9
  obtain ⟨g, rfl⟩ := f10.go g e10
  obtain ⟨g, rfl⟩ := f11.go g e11
  rcases h with h | h
  · rw [g] at h; cases h
  · exact h hr

theorem drv5 (s0 s3 s4 : ByteArray) (a1 a2 : Option Addr) (k1 c1 k2 c2 : Nat) : ([.string s0, .slice a1 k1 c1, .slice a2 k2 c2, .string s3, .string s4] : List Value).toArray.all (·.oneCell') = true := by
  refine all_oneCell_toArray ?_
  intro v hv
  simp only [List.mem_cons, List.not_mem_nil, or_false] at hv
  rcases hv with rfl | rfl | rfl | rfl | rfl <;> rfl
theorem info_drv : (Tryz.prog.info? 24).map (·.size) = some 5 := by kernel_rfl

end Go.Proofs.YtokbakpbhpknfaaGreatDoor

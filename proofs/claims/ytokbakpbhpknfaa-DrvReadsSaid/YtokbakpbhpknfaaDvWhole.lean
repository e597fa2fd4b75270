/-
  The reader of a derivation's text: the whole. Condition: what is to be read is no longer than 10^9 bytes.
-/
import Derived.Test.YtokbakpbhpknfaaDvList
import Derived.Laws.Rows
namespace Go.Proofs.Ytokbakpbhpknfaa
open Go.RowKit
set_option linter.unusedVariables false

def SkF (x R : List UInt8) (b : Bool) (R' : List UInt8) (b' : Bool) : Prop := R' = (dlit x R).getD R ∧ b' = (b || (dlit x R).isNone)
def TxF (R : List UInt8) (b : Bool) (t R' : List UInt8) (b' : Bool) : Prop := (b' = false ∧ b = false ∧ dtxt R = some (t, R')) ∨ (b' = true ∧ (b = true ∨ dtxt R = none))
def LsF (R : List UInt8) (b : Bool) (l : List (List UInt8)) (R' : List UInt8) (b' : Bool) : Prop := (b' = false ∧ b = false ∧ dlst R = some (l, R')) ∨ (b' = true ∧ (b = true ∨ dlst R = none))
theorem SkF.len {x R R' : List UInt8} {b b' : Bool} (h : SkF x R b R' b') {n : Nat} (hn : R.length ≤ n) : R'.length ≤ n := by
  rw [h.1]
  cases hc : dlit x R with
  | none => exact hn
  | some r => have := dlit_len hc; simp; omega
theorem SkF.ok {x R R' : List UInt8} {b b' : Bool} (h : SkF x R b R' b') (hb : b' = false) : b = false ∧ dlit x R = some R' := by
  obtain ⟨h1, h2⟩ := h
  rw [hb] at h2
  cases hc : dlit x R with
  | none => rw [hc] at h2; simp at h2
  | some r => rw [hc] at h1 h2; simp at h1 h2; exact ⟨h2, by rw [h1]⟩
theorem SkF.go {x R R' r : List UInt8} {b b' : Bool} (h : SkF x R b R' b') (hb : b = false) (hr : dlit x R = some r) : b' = false ∧ R' = r := by
  obtain ⟨h1, h2⟩ := h
  rw [hr] at h1 h2; rw [hb] at h2
  exact ⟨h2, h1⟩
theorem TxF.ok {R t R' : List UInt8} {b b' : Bool} (h : TxF R b t R' b') (hb : b' = false) : b = false ∧ dtxt R = some (t, R') := by
  rcases h with ⟨_, h1, h2⟩ | ⟨h, _⟩
  · exact ⟨h1, h2⟩
  · rw [hb] at h; cases h
theorem TxF.go {R t R' t' r : List UInt8} {b b' : Bool} (h : TxF R b t R' b') (hb : b = false) (hr : dtxt R = some (t', r)) : b' = false ∧ R' = r := by
  rcases h with ⟨h0, h1, h2⟩ | ⟨_, h | h⟩
  · rw [hr] at h2; cases h2; exact ⟨h0, rfl⟩
  · rw [hb] at h; cases h
  · rw [hr] at h; cases h
theorem LsF.ok {R R' : List UInt8} {l : List (List UInt8)} {b b' : Bool} (h : LsF R b l R' b') (hb : b' = false) : b = false ∧ dlst R = some (l, R') := by
  rcases h with ⟨_, h1, h2⟩ | ⟨h, _⟩
  · exact ⟨h1, h2⟩
  · rw [hb] at h; cases h
theorem LsF.go {R R' r : List UInt8} {l l' : List (List UInt8)} {b b' : Bool} (h : LsF R b l R' b') (hb : b = false) (hr : dlst R = some (l', r)) : b' = false ∧ R' = r := by
  rcases h with ⟨h0, h1, h2⟩ | ⟨_, h | h⟩
  · rw [hr] at h2; cases h2; exact ⟨h0, rfl⟩
  · rw [hb] at h; cases h
  · rw [hr] at h; cases h

/-- What a slice of texts holds, if all went well. -/
def LsV (w : World) (B : Nat) (a : Option Addr) (k c : Nat) (l : List (List UInt8)) (b : Bool) : Prop := b = false → k = (l.take 33).length ∧ w.ownsRow B 9 1 (.slice a k c) k ((l.take 33).map sv)
theorem LsV.but {w w' : World} {B q : Nat} {a : Option Addr} {k c : Nat} {l : List (List UInt8)} {b : Bool} {L : List Value} {e' : TypeId} (h : LsV w B a k c l b) (hb : But w.heap.size q w w') (hx : Has w q L e') (he : 9 ≠ e') : LsV w' B a k c l b :=
  fun e => ⟨(h e).1, owns_but (h e).2 hb hx he⟩
theorem owns_lower {w : World} {B B' size n : Nat} {e : TypeId} {v : Value} {xs : List Value} (h : w.ownsRow B e size v n xs) (hB : B' ≤ B) : w.ownsRow B' e size v n xs := by
  refine ⟨h.1, ?_⟩
  rcases h.2 with h1 | ⟨g, cap, cur, h1, h2, h3⟩
  · exact .inl h1
  · exact .inr ⟨g, cap, cur, h1, Nat.le_trans hB h2, h3⟩
theorem LsV.lower {w : World} {B B' : Nat} {a : Option Addr} {k c : Nat} {l : List (List UInt8)} {b : Bool} (h : LsV w B a k c l b) (hB : B' ≤ B) : LsV w B' a k c l b := fun e => ⟨(h e).1, owns_lower (h e).2 hB⟩
theorem own_at {w : World} {B k c n size : Nat} {e : TypeId} {a : Option Addr} {xs : List Value} (h : w.ownsRow B e size (.slice a k c) n xs) : ∀ p, a = some p → B ≤ p.block := fun p hp => (h.lt p.block (by rw [hp]; rfl)).1
theorem TxtP.facts {rb : Nat} {R : List UInt8} {b : Bool} {w w' : World} {e : Ending} (h : TxtP rb R.length w (if b then none else dtxt R) e w') :
    ∃ t R' b', e = .returned (.string (bs t)) ∧ Dr w' rb R' b' ∧ TxF R b t R' b' ∧ But w.heap.size rb w w' ∧ R'.length ≤ R.length := by
  obtain ⟨hb, h⟩ := h
  cases b with
  | true =>
    rcases h with ⟨t, r, ho, _⟩ | ⟨_, s, R', he, hd, hl⟩
    · cases ho
    · exact ⟨s.data.toList, R', true, he, hd, .inr ⟨rfl, .inl rfl⟩, hb, hl⟩
  | false =>
    rcases h with ⟨t, r, ho, he, hd⟩ | ⟨ho, s, R', he, hd, hl⟩
    · have ho : dtxt R = some (t, r) := ho
      have := dtxt_len ho
      exact ⟨t, r, false, he, hd, .inl ⟨rfl, rfl, ho⟩, hb, by omega⟩
    · exact ⟨s.data.toList, R', true, he, hd, .inr ⟨rfl, .inr ho⟩, hb, hl⟩
theorem LstP.facts {rb : Nat} {R : List UInt8} {b : Bool} {w w' : World} {e : Ending} (h : LstP rb R.length w (if b then none else dlst R) e w') :
    ∃ a k c l R' b', e = .returned (.slice a k c) ∧ Dr w' rb R' b' ∧ LsF R b l R' b' ∧ LsV w' w.heap.size a k c l b' ∧ But w.heap.size rb w w' ∧ R'.length ≤ R.length := by
  obtain ⟨hb, h⟩ := h
  cases b with
  | true =>
    rcases h with ⟨l, r, ho, _⟩ | ⟨_, a, k, c, R', he, hd, hl⟩
    · cases ho
    · exact ⟨a, k, c, [], R', true, he, hd, .inr ⟨rfl, .inl rfl⟩, (fun e => by cases e), hb, hl⟩
  | false =>
    rcases h with ⟨l, r, ho, ⟨a, c, he, hw⟩, hd⟩ | ⟨ho, a, k, c, R', he, hd, hl⟩
    · have ho : dlst R = some (l, r) := ho
      have := (dlst_len ho).1
      exact ⟨a, _, c, l, r, false, he, hd, .inl ⟨rfl, rfl, ho⟩, (fun _ => ⟨rfl, hw⟩), hb, by omega⟩
    · exact ⟨a, k, c, [], R', true, he, hd, .inr ⟨rfl, .inr ho⟩, (fun e => by cases e), hb, hl⟩

/-- Behind the whole: a derivation (of long lists the beginning) and nothing behind, or bad. -/
def WhoP (rb : Nat) (R : List UInt8) (w : World) (e : Ending) (w' : World) : Prop :=
  But w.heap.size rb w w' ∧ ∃ (t0 : List UInt8) (a1 : Option Addr) (k1 c1 : Nat) (a2 : Option Addr) (k2 c2 : Nat) (t3 t4 R' : List UInt8) (b' : Bool),
    e = .returned (.agg #[.string (bs t0), .slice a1 k1 c1, .slice a2 k2 c2, .string (bs t3), .string (bs t4)]) ∧ Dr w' rb R' b' ∧
    ((b' = false ∧ ∃ l1 l2, dwhole R = some (⟨t0, l1, l2, t3, t4⟩, []) ∧ k1 = (l1.take 33).length ∧ IsS w' a1 k1 c1 ((l1.take 33).map bs) ∧ k2 = (l2.take 33).length ∧ IsS w' a2 k2 c2 ((l2.take 33).map bs) ∧ (∀ p, a1 = some p → w.heap.size ≤ p.block) ∧ ∀ p, a2 = some p → w.heap.size ≤ p.block) ∨
     (b' = true ∧ ∀ d, dwhole R ≠ some (d, [])))

theorem whole_ok {R0 R1 R2 R3 R4 R5 R6 R7 R8 R9 R10 R11 t0 t3 t4 : List UInt8} {l1 l2 : List (List UInt8)} {b1 b2 b3 b4 b5 b6 b7 b8 b9 b10 b11 : Bool}
    (f1 : SkF [68, 101, 114, 105, 118, 101, 40] R0 false R1 b1) (f2 : TxF R1 b1 t0 R2 b2) (f3 : SkF [44] R2 b2 R3 b3) (f4 : LsF R3 b3 l1 R4 b4) (f5 : SkF [44] R4 b4 R5 b5) (f6 : LsF R5 b5 l2 R6 b6) (f7 : SkF [44] R6 b6 R7 b7)
    (f8 : TxF R7 b7 t3 R8 b8) (f9 : SkF [44] R8 b8 R9 b9) (f10 : TxF R9 b9 t4 R10 b10) (f11 : SkF [41] R10 b10 R11 b11) (h : b11 = false) : b6 = false ∧ b4 = false ∧ dwhole R0 = some (⟨t0, l1, l2, t3, t4⟩, R11) := by
  obtain ⟨h, e11⟩ := f11.ok h
  obtain ⟨h, e10⟩ := f10.ok h
  obtain ⟨h, e9⟩ := f9.ok h
  obtain ⟨h, e8⟩ := f8.ok h
  obtain ⟨h6, e7⟩ := f7.ok h
  obtain ⟨h, e6⟩ := f6.ok h6
  obtain ⟨h4, e5⟩ := f5.ok h
  obtain ⟨h, e4⟩ := f4.ok h4
  obtain ⟨h, e3⟩ := f3.ok h
  obtain ⟨h, e2⟩ := f2.ok h
  obtain ⟨h, e1⟩ := f1.ok h
  refine ⟨h6, h4, ?_⟩
  unfold dwhole
  rw [show dopen = [68, 101, 114, 105, 118, 101, 40] from rfl, e1]
  simp only [e2, e3, e4, e5, e6, e7, e8, e9, e10, e11, Option.bind_eq_bind, Option.bind_some, Option.pure_def]
theorem whole_bad {R0 R1 R2 R3 R4 R5 R6 R7 R8 R9 R10 R11 t0 t3 t4 : List UInt8} {l1 l2 : List (List UInt8)} {b1 b2 b3 b4 b5 b6 b7 b8 b9 b10 b11 : Bool}
    (f1 : SkF [68, 101, 114, 105, 118, 101, 40] R0 false R1 b1) (f2 : TxF R1 b1 t0 R2 b2) (f3 : SkF [44] R2 b2 R3 b3) (f4 : LsF R3 b3 l1 R4 b4) (f5 : SkF [44] R4 b4 R5 b5) (f6 : LsF R5 b5 l2 R6 b6) (f7 : SkF [44] R6 b6 R7 b7)
    (f8 : TxF R7 b7 t3 R8 b8) (f9 : SkF [44] R8 b8 R9 b9) (f10 : TxF R9 b9 t4 R10 b10) (f11 : SkF [41] R10 b10 R11 b11) (h : b11 = true ∨ R11 ≠ []) (d : Dv) : dwhole R0 ≠ some (d, []) := by
  intro hd
  unfold dwhole at hd
  rw [show dopen = [68, 101, 114, 105, 118, 101, 40] from rfl] at hd
  simp only [Option.bind_eq_bind, Option.bind_eq_some_iff, Option.pure_def, Option.some.injEq, Prod.mk.injEq, Prod.exists] at hd
  obtain ⟨r1, e1, n, r2, e2, r3, e3, ds, r4, e4, r5, e5, ss, r6, e6, r7, e7, rc, r8, e8, r9, e9, fx, r10, e10, r11, e11, _, hr⟩ := hd
  obtain ⟨g, rfl⟩ := f1.go rfl e1
  obtain ⟨g, rfl⟩ := f2.go g e2
  obtain ⟨g, rfl⟩ := f3.go g e3
  obtain ⟨g, rfl⟩ := f4.go g e4
  obtain ⟨g, rfl⟩ := f5.go g e5
  obtain ⟨g, rfl⟩ := f6.go g e6
  obtain ⟨g, rfl⟩ := f7.go g e7
  obtain ⟨g, rfl⟩ := f8.go g e8
  obtain ⟨g, rfl⟩ := f9.go g e9
  obtain ⟨g, rfl⟩ := f10.go g e10
  obtain ⟨g, rfl⟩ := f11.go g e11
  rcases h with h | h
  · rw [g] at h; cases h
  · exact h hr

theorem drv5 (s0 s3 s4 : ByteArray) (a1 a2 : Option Addr) (k1 c1 k2 c2 : Nat) : ([.string s0, .slice a1 k1 c1, .slice a2 k2 c2, .string s3, .string s4] : List Value).toArray.all (·.oneCell') = true := by
  refine all_oneCell_toArray ?_
  intro v hv
  simp only [List.mem_cons, List.not_mem_nil, or_false] at hv
  rcases hv with rfl | rfl | rfl | rfl | rfl <;> rfl
theorem info_drv : (Try.prog.info? 24).map (·.size) = some 5 := by kernel_rfl

set_option maxRecDepth 100000 in
set_option maxHeartbeats 16000000 in
theorem whole_any (rb : Nat) (R0 : List UInt8) (w : World) (h : Dr w rb R0 false) (l0 : R0.length ≤ 1000000000) :
    Calls Try.prog 23 #[.pointer (some ⟨rb, 0, none⟩)] w (WhoP rb R0 w) := by
  have H := Lib.hid h
  have HLT : rb < w.heap.size := h.lt
  clear h
  go_enter Try.func23, Try.ntmps23
  go_upto_region 2 with fail
  obtain ⟨A, hA⟩ : ∃ A, A = w.heap.size := ⟨_, rfl⟩
  rw [← hA]
  obtain ⟨sz, hsz⟩ : ∃ sz : ByteArray, sz = ⟨#[]⟩ := ⟨_, rfl⟩
  obtain ⟨x1, hx1⟩ : ∃ x1, x1 = w.alloc (.cells #[.string sz, .slice none 0 0, .slice none 0 0, .string sz, .string sz] 24) := ⟨_, rfl⟩
  obtain ⟨w0, hx2⟩ : ∃ x2, x2 = x1.alloc (.cells #[.string sz, .slice none 0 0, .slice none 0 0, .string sz, .string sz] 24) := ⟨_, rfl⟩
  have e1 : x1.heap.size = A + 1 := by rw [hx1, hA]; simp
  rw [hsz] at hx1 hx2
  first | rw [← hx1, ← hx2] | (simp only [← hx1, ← hx2]) | skip
  try rw [e1]
  rw [← hsz] at hx1 hx2
  have G0 : Hid (Has w0 A [.string sz, .slice none 0 0, .slice none 0 0, .string sz, .string sz] 24) := Lib.hid (by rw [hx2, hx1, hA]; exact (Has.new w [.string sz, .slice none 0 0, .slice none 0 0, .string sz, .string sz] _).alloc _)
  have X0 : Hid (Has w0 (A + 1) [.string sz, .slice none 0 0, .slice none 0 0, .string sz, .string sz] 24) := Lib.hid (by rw [hx2, ← e1]; exact Has.new x1 [.string sz, .slice none 0 0, .slice none 0 0, .string sz, .string sz] _)
  have bb : Below w.heap.size w w0 := by rw [hx2, hx1]; exact ((Below.refl _ _).alloc (Nat.le_refl _) _).alloc (by simp) _
  have BB0 : Hid (But w.heap.size rb w w0) := Lib.hid (.of_below bb)
  have D0 : Hid (Dr w0 rb R0 false) := Lib.hid (Has.below H.out bb HLT)
  have NE0 : Hid (A ≠ rb) := Lib.hid (by omega)
  have NE1 : Hid (A + 1 ≠ rb) := Lib.hid (by omega)
  have GE : Hid (w.heap.size ≤ A + 1) := Lib.hid (by omega)
  have GE0 : Hid (w.heap.size ≤ A) := Lib.hid (by omega)
  obtain ⟨b0, hb0⟩ : ∃ b, b = false := ⟨_, rfl⟩
  rw [← hb0] at D0
  have HB0 := Lib.hid hb0
  clear hA hx1 hx2 e1 bb H HLT hb0
  go_wp2_with fail
  -- step 1: skip 68, 101, 114, 105, 118, 101, 40
  refine (skip_any rb R0 b0 ⟨#[68, 101, 114, 105, 118, 101, 40]⟩ _ D0.out).mono ?_
  rintro e w1 ⟨rfl, d1, u1⟩
  obtain ⟨R1, hR1⟩ : ∃ r, r = (dlit [68, 101, 114, 105, 118, 101, 40] R0).getD R0 := ⟨_, rfl⟩
  obtain ⟨b1, hb1⟩ : ∃ b, b = (b0 || (dlit [68, 101, 114, 105, 118, 101, 40] R0).isNone) := ⟨_, rfl⟩
  have d1 : Dr w1 rb R1 b1 := by rw [hR1, hb1]; exact d1
  have F1 : Hid (SkF [68, 101, 114, 105, 118, 101, 40] R0 b0 R1 b1) := Lib.hid ⟨hR1, hb1⟩
  have l1 : R1.length ≤ 1000000000 := F1.out.len (by exact l0)
  clear hR1 hb1
  have X1 : Hid (Has w1 (A + 1) [.string sz, .slice none 0 0, .slice none 0 0, .string sz, .string sz] 24) := Lib.hid (Has.but X0.out u1 X0.out.lt NE1.out)
  have G1 : Hid (Has w1 A [.string sz, .slice none 0 0, .slice none 0 0, .string sz, .string sz] 24) := Lib.hid (Has.but G0.out u1 G0.out.lt NE0.out)
  have BB1 : Hid (But w.heap.size rb w w1) := Lib.hid (BB0.out.trans (u1.mono BB0.out.size))
  have D1 := Lib.hid d1
  clear d1 u1 X0 G0 BB0 D0
  go_wp2_with fail
  -- step 2: text 0
  refine (text_any rb R1 b1 _ D1.out l1).mono ?_
  rintro e w2 hz
  obtain ⟨t0, R2, b2, rfl, d2, F2, u2, ll⟩ := TxtP.facts hz
  have F2 := Lib.hid F2
  have l2 : R2.length ≤ 1000000000 := Nat.le_trans ll l1
  obtain ⟨s0, hs0⟩ : ∃ s, s = bs t0 := ⟨_, rfl⟩
  rw [← hs0]
  have HS0 := Lib.hid hs0
  clear hs0 hz ll
  have X2 : Hid (Has w2 (A + 1) [.string sz, .slice none 0 0, .slice none 0 0, .string sz, .string sz] 24) := Lib.hid (Has.but X1.out u2 X1.out.lt NE1.out)
  have G2 : Hid (Has w2 A [.string sz, .slice none 0 0, .slice none 0 0, .string sz, .string sz] 24) := Lib.hid (Has.but G1.out u2 G1.out.lt NE0.out)
  have BB2 : Hid (But w.heap.size rb w w2) := Lib.hid (BB1.out.trans (u2.mono BB1.out.size))
  have D2 := Lib.hid d2
  clear d2 u2 X1 G1 BB1 D1
  have z := X2.out.frozen 0
  have cc := X2.out.cellAt (i := 0) rfl
  go_upto_region 4 with fail
  clear z cc
  obtain ⟨y, hy⟩ : ∃ y, y = w2.setCell ⟨A + 1, 0, none⟩ (.string s0) := ⟨_, rfl⟩
  rw [← hy]
  have X' : Hid (Has y (A + 1) [.string s0, .slice none 0 0, .slice none 0 0, .string sz, .string sz] 24) := Lib.hid (by rw [hy]; exact X2.out.set 0 _)
  have G' : Hid (Has y A [.string sz, .slice none 0 0, .slice none 0 0, .string sz, .string sz] 24) := Lib.hid (by rw [hy]; exact G2.out.setOther (a := ⟨A + 1, 0, none⟩) (Nat.ne_of_lt (Nat.lt_succ_self A)) _)
  have D' : Hid (Dr y rb R2 b2) := Lib.hid (by rw [hy]; exact Has.setOther D2.out (a := ⟨A + 1, 0, none⟩) NE1.out.symm _)
  have BB' : Hid (But w.heap.size rb w y) := Lib.hid (by rw [hy]; exact BB2.out.setCell (p := ⟨A + 1, 0, none⟩) (.inl GE.out) _)
  clear hy X2 G2 BB2 D2
  have X2 := X'
  have G2 := G'
  have D2 := D'
  have BB2 := BB'
  clear X' G' D' BB'
  go_wp2_with fail
  -- step 3: skip 44
  refine (skip_any rb R2 b2 ⟨#[44]⟩ _ D2.out).mono ?_
  rintro e w3 ⟨rfl, d3, u3⟩
  obtain ⟨R3, hR3⟩ : ∃ r, r = (dlit [44] R2).getD R2 := ⟨_, rfl⟩
  obtain ⟨b3, hb3⟩ : ∃ b, b = (b2 || (dlit [44] R2).isNone) := ⟨_, rfl⟩
  have d3 : Dr w3 rb R3 b3 := by rw [hR3, hb3]; exact d3
  have F3 : Hid (SkF [44] R2 b2 R3 b3) := Lib.hid ⟨hR3, hb3⟩
  have l3 : R3.length ≤ 1000000000 := F3.out.len (by exact l2)
  clear hR3 hb3
  have X3 : Hid (Has w3 (A + 1) [.string s0, .slice none 0 0, .slice none 0 0, .string sz, .string sz] 24) := Lib.hid (Has.but X2.out u3 X2.out.lt NE1.out)
  have G3 : Hid (Has w3 A [.string sz, .slice none 0 0, .slice none 0 0, .string sz, .string sz] 24) := Lib.hid (Has.but G2.out u3 G2.out.lt NE0.out)
  have BB3 : Hid (But w.heap.size rb w w3) := Lib.hid (BB2.out.trans (u3.mono BB2.out.size))
  have D3 := Lib.hid d3
  clear d3 u3 X2 G2 BB2 D2
  go_wp2_with fail
  -- step 4: list 1
  refine (list_any rb R3 b3 _ D3.out l3).mono ?_
  rintro e w4 hz
  obtain ⟨a1, k1, c1, g1, R4, b4, rfl, d4, F4, v4, u4, ll⟩ := LstP.facts hz
  have F4 := Lib.hid F4
  have l4 : R4.length ≤ 1000000000 := Nat.le_trans ll l3
  have V1_4 := Lib.hid (v4.lower BB3.out.size)
  clear hz v4 ll
  have X4 : Hid (Has w4 (A + 1) [.string s0, .slice none 0 0, .slice none 0 0, .string sz, .string sz] 24) := Lib.hid (Has.but X3.out u4 X3.out.lt NE1.out)
  have G4 : Hid (Has w4 A [.string sz, .slice none 0 0, .slice none 0 0, .string sz, .string sz] 24) := Lib.hid (Has.but G3.out u4 G3.out.lt NE0.out)
  have BB4 : Hid (But w.heap.size rb w w4) := Lib.hid (BB3.out.trans (u4.mono BB3.out.size))
  have D4 := Lib.hid d4
  clear d4 u4 X3 G3 BB3 D3
  have z := X4.out.frozen 1
  have cc := X4.out.cellAt (i := 1) rfl
  go_upto_region 6 with fail
  clear z cc
  obtain ⟨y, hy⟩ : ∃ y, y = w4.setCell ⟨A + 1, 1, none⟩ (.slice a1 k1 c1) := ⟨_, rfl⟩
  rw [← hy]
  have X' : Hid (Has y (A + 1) [.string s0, .slice a1 k1 c1, .slice none 0 0, .string sz, .string sz] 24) := Lib.hid (by rw [hy]; exact X4.out.set 1 _)
  have G' : Hid (Has y A [.string sz, .slice none 0 0, .slice none 0 0, .string sz, .string sz] 24) := Lib.hid (by rw [hy]; exact G4.out.setOther (a := ⟨A + 1, 1, none⟩) (Nat.ne_of_lt (Nat.lt_succ_self A)) _)
  have D' : Hid (Dr y rb R4 b4) := Lib.hid (by rw [hy]; exact Has.setOther D4.out (a := ⟨A + 1, 1, none⟩) NE1.out.symm _)
  have BB' : Hid (But w.heap.size rb w y) := Lib.hid (by rw [hy]; exact BB4.out.setCell (p := ⟨A + 1, 1, none⟩) (.inl GE.out) _)
  have V1_y := Lib.hid (V1_4.out.but (q := A + 1) (w' := y) (by rw [hy]; exact (But.refl _ _ _).setB 1 _) X4.out (by decide))
  clear V1_4
  clear hy X4 G4 BB4 D4
  have X4 := X'
  have G4 := G'
  have D4 := D'
  have BB4 := BB'
  clear X' G' D' BB'
  have V1_4 := V1_y
  clear V1_y
  go_wp2_with fail
  -- step 5: skip 44
  refine (skip_any rb R4 b4 ⟨#[44]⟩ _ D4.out).mono ?_
  rintro e w5 ⟨rfl, d5, u5⟩
  obtain ⟨R5, hR5⟩ : ∃ r, r = (dlit [44] R4).getD R4 := ⟨_, rfl⟩
  obtain ⟨b5, hb5⟩ : ∃ b, b = (b4 || (dlit [44] R4).isNone) := ⟨_, rfl⟩
  have d5 : Dr w5 rb R5 b5 := by rw [hR5, hb5]; exact d5
  have F5 : Hid (SkF [44] R4 b4 R5 b5) := Lib.hid ⟨hR5, hb5⟩
  have l5 : R5.length ≤ 1000000000 := F5.out.len (by exact l4)
  clear hR5 hb5
  have X5 : Hid (Has w5 (A + 1) [.string s0, .slice a1 k1 c1, .slice none 0 0, .string sz, .string sz] 24) := Lib.hid (Has.but X4.out u5 X4.out.lt NE1.out)
  have G5 : Hid (Has w5 A [.string sz, .slice none 0 0, .slice none 0 0, .string sz, .string sz] 24) := Lib.hid (Has.but G4.out u5 G4.out.lt NE0.out)
  have BB5 : Hid (But w.heap.size rb w w5) := Lib.hid (BB4.out.trans (u5.mono BB4.out.size))
  have D5 := Lib.hid d5
  have V1_5 := Lib.hid (V1_4.out.but u5 D4.out (by decide))
  clear V1_4
  clear d5 u5 X4 G4 BB4 D4
  go_wp2_with fail
  -- step 6: list 2
  refine (list_any rb R5 b5 _ D5.out l5).mono ?_
  rintro e w6 hz
  obtain ⟨a2, k2, c2, g2, R6, b6, rfl, d6, F6, v6, u6, ll⟩ := LstP.facts hz
  have F6 := Lib.hid F6
  have l6 : R6.length ≤ 1000000000 := Nat.le_trans ll l5
  have V2_6 := Lib.hid (v6.lower BB5.out.size)
  clear hz v6 ll
  have X6 : Hid (Has w6 (A + 1) [.string s0, .slice a1 k1 c1, .slice none 0 0, .string sz, .string sz] 24) := Lib.hid (Has.but X5.out u6 X5.out.lt NE1.out)
  have G6 : Hid (Has w6 A [.string sz, .slice none 0 0, .slice none 0 0, .string sz, .string sz] 24) := Lib.hid (Has.but G5.out u6 G5.out.lt NE0.out)
  have BB6 : Hid (But w.heap.size rb w w6) := Lib.hid (BB5.out.trans (u6.mono BB5.out.size))
  have D6 := Lib.hid d6
  have V1_6 := Lib.hid (V1_5.out.but u6 D5.out (by decide))
  clear V1_5
  clear d6 u6 X5 G5 BB5 D5
  have z := X6.out.frozen 2
  have cc := X6.out.cellAt (i := 2) rfl
  go_upto_region 8 with fail
  clear z cc
  obtain ⟨y, hy⟩ : ∃ y, y = w6.setCell ⟨A + 1, 2, none⟩ (.slice a2 k2 c2) := ⟨_, rfl⟩
  rw [← hy]
  have X' : Hid (Has y (A + 1) [.string s0, .slice a1 k1 c1, .slice a2 k2 c2, .string sz, .string sz] 24) := Lib.hid (by rw [hy]; exact X6.out.set 2 _)
  have G' : Hid (Has y A [.string sz, .slice none 0 0, .slice none 0 0, .string sz, .string sz] 24) := Lib.hid (by rw [hy]; exact G6.out.setOther (a := ⟨A + 1, 2, none⟩) (Nat.ne_of_lt (Nat.lt_succ_self A)) _)
  have D' : Hid (Dr y rb R6 b6) := Lib.hid (by rw [hy]; exact Has.setOther D6.out (a := ⟨A + 1, 2, none⟩) NE1.out.symm _)
  have BB' : Hid (But w.heap.size rb w y) := Lib.hid (by rw [hy]; exact BB6.out.setCell (p := ⟨A + 1, 2, none⟩) (.inl GE.out) _)
  have V1_y := Lib.hid (V1_6.out.but (q := A + 1) (w' := y) (by rw [hy]; exact (But.refl _ _ _).setB 2 _) X6.out (by decide))
  clear V1_6
  have V2_y := Lib.hid (V2_6.out.but (q := A + 1) (w' := y) (by rw [hy]; exact (But.refl _ _ _).setB 2 _) X6.out (by decide))
  clear V2_6
  clear hy X6 G6 BB6 D6
  have X6 := X'
  have G6 := G'
  have D6 := D'
  have BB6 := BB'
  clear X' G' D' BB'
  have V1_6 := V1_y
  clear V1_y
  have V2_6 := V2_y
  clear V2_y
  go_wp2_with fail
  -- step 7: skip 44
  refine (skip_any rb R6 b6 ⟨#[44]⟩ _ D6.out).mono ?_
  rintro e w7 ⟨rfl, d7, u7⟩
  obtain ⟨R7, hR7⟩ : ∃ r, r = (dlit [44] R6).getD R6 := ⟨_, rfl⟩
  obtain ⟨b7, hb7⟩ : ∃ b, b = (b6 || (dlit [44] R6).isNone) := ⟨_, rfl⟩
  have d7 : Dr w7 rb R7 b7 := by rw [hR7, hb7]; exact d7
  have F7 : Hid (SkF [44] R6 b6 R7 b7) := Lib.hid ⟨hR7, hb7⟩
  have l7 : R7.length ≤ 1000000000 := F7.out.len (by exact l6)
  clear hR7 hb7
  have X7 : Hid (Has w7 (A + 1) [.string s0, .slice a1 k1 c1, .slice a2 k2 c2, .string sz, .string sz] 24) := Lib.hid (Has.but X6.out u7 X6.out.lt NE1.out)
  have G7 : Hid (Has w7 A [.string sz, .slice none 0 0, .slice none 0 0, .string sz, .string sz] 24) := Lib.hid (Has.but G6.out u7 G6.out.lt NE0.out)
  have BB7 : Hid (But w.heap.size rb w w7) := Lib.hid (BB6.out.trans (u7.mono BB6.out.size))
  have D7 := Lib.hid d7
  have V1_7 := Lib.hid (V1_6.out.but u7 D6.out (by decide))
  clear V1_6
  have V2_7 := Lib.hid (V2_6.out.but u7 D6.out (by decide))
  clear V2_6
  clear d7 u7 X6 G6 BB6 D6
  go_wp2_with fail
  -- step 8: text 3
  refine (text_any rb R7 b7 _ D7.out l7).mono ?_
  rintro e w8 hz
  obtain ⟨t3, R8, b8, rfl, d8, F8, u8, ll⟩ := TxtP.facts hz
  have F8 := Lib.hid F8
  have l8 : R8.length ≤ 1000000000 := Nat.le_trans ll l7
  obtain ⟨s3, hs3⟩ : ∃ s, s = bs t3 := ⟨_, rfl⟩
  rw [← hs3]
  have HS3 := Lib.hid hs3
  clear hs3 hz ll
  have X8 : Hid (Has w8 (A + 1) [.string s0, .slice a1 k1 c1, .slice a2 k2 c2, .string sz, .string sz] 24) := Lib.hid (Has.but X7.out u8 X7.out.lt NE1.out)
  have G8 : Hid (Has w8 A [.string sz, .slice none 0 0, .slice none 0 0, .string sz, .string sz] 24) := Lib.hid (Has.but G7.out u8 G7.out.lt NE0.out)
  have BB8 : Hid (But w.heap.size rb w w8) := Lib.hid (BB7.out.trans (u8.mono BB7.out.size))
  have D8 := Lib.hid d8
  have V1_8 := Lib.hid (V1_7.out.but u8 D7.out (by decide))
  clear V1_7
  have V2_8 := Lib.hid (V2_7.out.but u8 D7.out (by decide))
  clear V2_7
  clear d8 u8 X7 G7 BB7 D7
  have z := X8.out.frozen 3
  have cc := X8.out.cellAt (i := 3) rfl
  go_upto_region 10 with fail
  clear z cc
  obtain ⟨y, hy⟩ : ∃ y, y = w8.setCell ⟨A + 1, 3, none⟩ (.string s3) := ⟨_, rfl⟩
  rw [← hy]
  have X' : Hid (Has y (A + 1) [.string s0, .slice a1 k1 c1, .slice a2 k2 c2, .string s3, .string sz] 24) := Lib.hid (by rw [hy]; exact X8.out.set 3 _)
  have G' : Hid (Has y A [.string sz, .slice none 0 0, .slice none 0 0, .string sz, .string sz] 24) := Lib.hid (by rw [hy]; exact G8.out.setOther (a := ⟨A + 1, 3, none⟩) (Nat.ne_of_lt (Nat.lt_succ_self A)) _)
  have D' : Hid (Dr y rb R8 b8) := Lib.hid (by rw [hy]; exact Has.setOther D8.out (a := ⟨A + 1, 3, none⟩) NE1.out.symm _)
  have BB' : Hid (But w.heap.size rb w y) := Lib.hid (by rw [hy]; exact BB8.out.setCell (p := ⟨A + 1, 3, none⟩) (.inl GE.out) _)
  have V1_y := Lib.hid (V1_8.out.but (q := A + 1) (w' := y) (by rw [hy]; exact (But.refl _ _ _).setB 3 _) X8.out (by decide))
  clear V1_8
  have V2_y := Lib.hid (V2_8.out.but (q := A + 1) (w' := y) (by rw [hy]; exact (But.refl _ _ _).setB 3 _) X8.out (by decide))
  clear V2_8
  clear hy X8 G8 BB8 D8
  have X8 := X'
  have G8 := G'
  have D8 := D'
  have BB8 := BB'
  clear X' G' D' BB'
  have V1_8 := V1_y
  clear V1_y
  have V2_8 := V2_y
  clear V2_y
  go_wp2_with fail
  -- step 9: skip 44
  refine (skip_any rb R8 b8 ⟨#[44]⟩ _ D8.out).mono ?_
  rintro e w9 ⟨rfl, d9, u9⟩
  obtain ⟨R9, hR9⟩ : ∃ r, r = (dlit [44] R8).getD R8 := ⟨_, rfl⟩
  obtain ⟨b9, hb9⟩ : ∃ b, b = (b8 || (dlit [44] R8).isNone) := ⟨_, rfl⟩
  have d9 : Dr w9 rb R9 b9 := by rw [hR9, hb9]; exact d9
  have F9 : Hid (SkF [44] R8 b8 R9 b9) := Lib.hid ⟨hR9, hb9⟩
  have l9 : R9.length ≤ 1000000000 := F9.out.len (by exact l8)
  clear hR9 hb9
  have X9 : Hid (Has w9 (A + 1) [.string s0, .slice a1 k1 c1, .slice a2 k2 c2, .string s3, .string sz] 24) := Lib.hid (Has.but X8.out u9 X8.out.lt NE1.out)
  have G9 : Hid (Has w9 A [.string sz, .slice none 0 0, .slice none 0 0, .string sz, .string sz] 24) := Lib.hid (Has.but G8.out u9 G8.out.lt NE0.out)
  have BB9 : Hid (But w.heap.size rb w w9) := Lib.hid (BB8.out.trans (u9.mono BB8.out.size))
  have D9 := Lib.hid d9
  have V1_9 := Lib.hid (V1_8.out.but u9 D8.out (by decide))
  clear V1_8
  have V2_9 := Lib.hid (V2_8.out.but u9 D8.out (by decide))
  clear V2_8
  clear d9 u9 X8 G8 BB8 D8
  go_wp2_with fail
  -- step 10: text 4
  refine (text_any rb R9 b9 _ D9.out l9).mono ?_
  rintro e w10 hz
  obtain ⟨t4, R10, b10, rfl, d10, F10, u10, ll⟩ := TxtP.facts hz
  have F10 := Lib.hid F10
  have l10 : R10.length ≤ 1000000000 := Nat.le_trans ll l9
  obtain ⟨s4, hs4⟩ : ∃ s, s = bs t4 := ⟨_, rfl⟩
  rw [← hs4]
  have HS4 := Lib.hid hs4
  clear hs4 hz ll
  have X10 : Hid (Has w10 (A + 1) [.string s0, .slice a1 k1 c1, .slice a2 k2 c2, .string s3, .string sz] 24) := Lib.hid (Has.but X9.out u10 X9.out.lt NE1.out)
  have G10 : Hid (Has w10 A [.string sz, .slice none 0 0, .slice none 0 0, .string sz, .string sz] 24) := Lib.hid (Has.but G9.out u10 G9.out.lt NE0.out)
  have BB10 : Hid (But w.heap.size rb w w10) := Lib.hid (BB9.out.trans (u10.mono BB9.out.size))
  have D10 := Lib.hid d10
  have V1_10 := Lib.hid (V1_9.out.but u10 D9.out (by decide))
  clear V1_9
  have V2_10 := Lib.hid (V2_9.out.but u10 D9.out (by decide))
  clear V2_9
  clear d10 u10 X9 G9 BB9 D9
  have z := X10.out.frozen 4
  have cc := X10.out.cellAt (i := 4) rfl
  go_upto_region 12 with fail
  clear z cc
  obtain ⟨y, hy⟩ : ∃ y, y = w10.setCell ⟨A + 1, 4, none⟩ (.string s4) := ⟨_, rfl⟩
  rw [← hy]
  have X' : Hid (Has y (A + 1) [.string s0, .slice a1 k1 c1, .slice a2 k2 c2, .string s3, .string s4] 24) := Lib.hid (by rw [hy]; exact X10.out.set 4 _)
  have G' : Hid (Has y A [.string sz, .slice none 0 0, .slice none 0 0, .string sz, .string sz] 24) := Lib.hid (by rw [hy]; exact G10.out.setOther (a := ⟨A + 1, 4, none⟩) (Nat.ne_of_lt (Nat.lt_succ_self A)) _)
  have D' : Hid (Dr y rb R10 b10) := Lib.hid (by rw [hy]; exact Has.setOther D10.out (a := ⟨A + 1, 4, none⟩) NE1.out.symm _)
  have BB' : Hid (But w.heap.size rb w y) := Lib.hid (by rw [hy]; exact BB10.out.setCell (p := ⟨A + 1, 4, none⟩) (.inl GE.out) _)
  have V1_y := Lib.hid (V1_10.out.but (q := A + 1) (w' := y) (by rw [hy]; exact (But.refl _ _ _).setB 4 _) X10.out (by decide))
  clear V1_10
  have V2_y := Lib.hid (V2_10.out.but (q := A + 1) (w' := y) (by rw [hy]; exact (But.refl _ _ _).setB 4 _) X10.out (by decide))
  clear V2_10
  clear hy X10 G10 BB10 D10
  have X10 := X'
  have G10 := G'
  have D10 := D'
  have BB10 := BB'
  clear X' G' D' BB'
  have V1_10 := V1_y
  clear V1_y
  have V2_10 := V2_y
  clear V2_y
  go_wp2_with fail
  -- step 11: skip 41
  refine (skip_any rb R10 b10 ⟨#[41]⟩ _ D10.out).mono ?_
  rintro e w11 ⟨rfl, d11, u11⟩
  obtain ⟨R11, hR11⟩ : ∃ r, r = (dlit [41] R10).getD R10 := ⟨_, rfl⟩
  obtain ⟨b11, hb11⟩ : ∃ b, b = (b10 || (dlit [41] R10).isNone) := ⟨_, rfl⟩
  have d11 : Dr w11 rb R11 b11 := by rw [hR11, hb11]; exact d11
  have F11 : Hid (SkF [41] R10 b10 R11 b11) := Lib.hid ⟨hR11, hb11⟩
  have l11 : R11.length ≤ 1000000000 := F11.out.len (by exact l10)
  clear hR11 hb11
  have X11 : Hid (Has w11 (A + 1) [.string s0, .slice a1 k1 c1, .slice a2 k2 c2, .string s3, .string s4] 24) := Lib.hid (Has.but X10.out u11 X10.out.lt NE1.out)
  have G11 : Hid (Has w11 A [.string sz, .slice none 0 0, .slice none 0 0, .string sz, .string sz] 24) := Lib.hid (Has.but G10.out u11 G10.out.lt NE0.out)
  have BB11 : Hid (But w.heap.size rb w w11) := Lib.hid (BB10.out.trans (u11.mono BB10.out.size))
  have D11 := Lib.hid d11
  have V1_11 := Lib.hid (V1_10.out.but u11 D10.out (by decide))
  clear V1_10
  have V2_11 := Lib.hid (V2_10.out.but u11 D10.out (by decide))
  clear V2_10
  clear d11 u11 X10 G10 BB10 D10

  have z1 := Has.frozen D11.out 1
  have q0 := Has.cellAt D11.out (i := 0) rfl
  have q1 := Has.cellAt D11.out (i := 1) rfl
  have f1 := F1.out
  rw [HB0.out] at f1
  have HW := Lib.hid (whole_ok f1 F2.out F3.out F4.out F5.out F6.out F7.out F8.out F9.out F10.out F11.out)
  have HV := Lib.hid (whole_bad f1 F2.out F3.out F4.out F5.out F6.out F7.out F8.out F9.out F10.out F11.out)
  clear f1 F1 F2 F3 F4 F5 F6 F7 F8 F9 F10 F11
  cases R11 with
  | nil =>
    go_upto_region 15 with fail
    clear z1 q0 q1
    obtain ⟨y, hy⟩ : ∃ y, y = w11 := ⟨_, rfl⟩
    subst hy
    have HF : Hid ((b11 = false ∧ b6 = false ∧ b4 = false ∧ dwhole R0 = some (⟨t0, g1, g2, t3, t4⟩, [])) ∨ (b11 = true ∧ ∀ d, dwhole R0 ≠ some (d, []))) := Lib.hid (by
      cases hb : b11 with
      | false => exact .inl ⟨rfl, HW.out hb⟩
      | true => exact .inr ⟨rfl, fun d => HV.out (.inl hb) d⟩)
    clear HW HV
    obtain ⟨R', hR'⟩ : ∃ R' : List UInt8, R' = [] := ⟨_, rfl⟩
    rw [← hR'] at D11
    clear hR'
    have X := X11
    have G := G11
    have D := D11
    have BB := BB11
    have V1 := V1_11
    have V2 := V2_11
    clear X11 G11 D11 BB11 V1_11 V2_11
    obtain ⟨LZ, hLZ⟩ : ∃ L : List Value, L = [.string s0, .slice a1 k1 c1, .slice a2 k2 c2, .string s3, .string s4] := ⟨_, rfl⟩
    have HI0 : Hid ((Try.prog.info? 24).map (·.size) = some LZ.toArray.size) := Lib.hid (by rw [hLZ, info_drv]; rfl)
    have HO0 : Hid (LZ.toArray.all (·.oneCell') = true) := Lib.hid (by rw [hLZ]; exact drv5 _ _ _ _ _ _ _ _ _)
    obtain ⟨ZL, hZL⟩ : ∃ L : List Value, L = [.string sz, .slice none 0 0, .slice none 0 0, .string sz, .string sz] := ⟨_, rfl⟩
    have HZ0 : Hid (ZL.toArray.size = LZ.toArray.size) := Lib.hid (by rw [hLZ, hZL]; rfl)
    have XZ : Hid (y.heap[A + 1]? = some (.cells LZ.toArray 24 (0, 0))) := Lib.hid (by rw [hLZ]; exact X.out)
    have GZ : Hid (y.heap[A]? = some (.cells ZL.toArray 24 (0, 0))) := Lib.hid (by rw [hZL]; exact G.out)
    have HLZ := Lib.hid hLZ
    have HZL := Lib.hid hZL
    clear hLZ hZL X
    go_wp2_with (first
      | (refine wpList_load_row (by rfl) 24 _ rfl (A + 1) rfl 24 LZ.toArray (0, 0) _ XZ.out Try.underlying24 rfl HI0.out ?_)
      | (refine wpList_store_row rfl 24 _ _ rfl A LZ.toArray rfl rfl 24 _ GZ.out HI0.out HZ0.out HO0.out ?_))
    try simp only [Exit.inBlock, Exit.then]
    refine bodyPost_ret (results_cell_row (p := 2) (ty := 24) Try.results23 _ _ A 24 LZ.toArray (0, 0) _ rfl (setRow_heap _ _ _ _ _ _ GZ.out) Try.underlying24 rfl HI0.out) rfl ?_
    have D' : Dr (y.setRow A LZ.toArray) rb R' _ := Has.rowOther D.out (Ne.symm NE0.out) _
    have BB' : But w.heap.size rb w (y.setRow A LZ.toArray) := BB.out.setRow (.inl GE0.out) _
    have V1' := V1.out.but (q := A) (w' := y.setRow A LZ.toArray) ((But.refl _ _ _).setRow (.inr rfl) _) G.out (by decide)
    have V2' := V2.out.but (q := A) (w' := y.setRow A LZ.toArray) ((But.refl _ _ _).setRow (.inr rfl) _) G.out (by decide)
    refine ⟨BB', t0, a1, k1, c1, a2, k2, c2, t3, t4, R', _, ?_, D', ?_⟩
    · rw [← HS0.out, ← HS3.out, ← HS4.out, HLZ.out]
    · rcases HF.out with ⟨hb, h6, h4, hd⟩ | ⟨hb, hd⟩
      · obtain ⟨e1, o1⟩ := V1' h4
        obtain ⟨e2, o2⟩ := V2' h6
        exact .inl ⟨hb, g1, g2, hd, e1, isS_own o1, e2, isS_own o2, own_at o1, own_at o2⟩
      · exact .inr ⟨by first | exact hb | rfl, hd⟩
  | cons cz rz =>
    obtain ⟨S, hS⟩ : ∃ S : ByteArray, S = ⟨(cz :: rz).toArray⟩ := ⟨_, rfl⟩
    have hne : S.toList.isEmpty = false := by rw [ByteArray.toList_eq, hS]; rfl
    rw [← hS] at q0
    clear hS
    go_upto_region 15 with fail
    clear z1 q0 q1 hne
    have HF : Hid ((true = false ∧ b6 = false ∧ b4 = false ∧ dwhole R0 = some (⟨t0, g1, g2, t3, t4⟩, [])) ∨ (true = true ∧ ∀ d, dwhole R0 ≠ some (d, []))) := Lib.hid (.inr ⟨rfl, fun d => HV.out (.inr (by simp)) d⟩)
    clear HW HV
    obtain ⟨y, hy⟩ : ∃ y, y = w11.setCell ⟨rb, 1, none⟩ (.bool true) := ⟨_, rfl⟩
    rw [← hy]
    obtain ⟨R', hR'⟩ : ∃ R' : List UInt8, R' = cz :: rz := ⟨_, rfl⟩
    rw [← hR'] at D11
    clear hR'
    have X : Hid (Has y (A + 1) [.string s0, .slice a1 k1 c1, .slice a2 k2 c2, .string s3, .string s4] 24) := Lib.hid (by rw [hy]; exact X11.out.setOther (a := ⟨rb, 1, none⟩) NE1.out _)
    have G : Hid (Has y A [.string sz, .slice none 0 0, .slice none 0 0, .string sz, .string sz] 24) := Lib.hid (by rw [hy]; exact G11.out.setOther (a := ⟨rb, 1, none⟩) NE0.out _)
    have D : Hid (Dr y rb R' true) := Lib.hid (by rw [hy]; exact Has.set D11.out 1 _)
    have BB : Hid (But w.heap.size rb w y) := Lib.hid (by rw [hy]; exact BB11.out.setB 1 _)
    have V1 := Lib.hid (V1_11.out.but (q := rb) (w' := y) (by rw [hy]; exact (But.refl _ _ _).setB 1 _) D11.out (by decide))
    have V2 := Lib.hid (V2_11.out.but (q := rb) (w' := y) (by rw [hy]; exact (But.refl _ _ _).setB 1 _) D11.out (by decide))
    clear hy X11 G11 D11 BB11 V1_11 V2_11
    obtain ⟨LZ, hLZ⟩ : ∃ L : List Value, L = [.string s0, .slice a1 k1 c1, .slice a2 k2 c2, .string s3, .string s4] := ⟨_, rfl⟩
    have HI0 : Hid ((Try.prog.info? 24).map (·.size) = some LZ.toArray.size) := Lib.hid (by rw [hLZ, info_drv]; rfl)
    have HO0 : Hid (LZ.toArray.all (·.oneCell') = true) := Lib.hid (by rw [hLZ]; exact drv5 _ _ _ _ _ _ _ _ _)
    obtain ⟨ZL, hZL⟩ : ∃ L : List Value, L = [.string sz, .slice none 0 0, .slice none 0 0, .string sz, .string sz] := ⟨_, rfl⟩
    have HZ0 : Hid (ZL.toArray.size = LZ.toArray.size) := Lib.hid (by rw [hLZ, hZL]; rfl)
    have XZ : Hid (y.heap[A + 1]? = some (.cells LZ.toArray 24 (0, 0))) := Lib.hid (by rw [hLZ]; exact X.out)
    have GZ : Hid (y.heap[A]? = some (.cells ZL.toArray 24 (0, 0))) := Lib.hid (by rw [hZL]; exact G.out)
    have HLZ := Lib.hid hLZ
    have HZL := Lib.hid hZL
    clear hLZ hZL X
    go_wp2_with (first
      | (refine wpList_load_row (by rfl) 24 _ rfl (A + 1) rfl 24 LZ.toArray (0, 0) _ XZ.out Try.underlying24 rfl HI0.out ?_)
      | (refine wpList_store_row rfl 24 _ _ rfl A LZ.toArray rfl rfl 24 _ GZ.out HI0.out HZ0.out HO0.out ?_))
    try simp only [Exit.inBlock, Exit.then]
    refine bodyPost_ret (results_cell_row (p := 2) (ty := 24) Try.results23 _ _ A 24 LZ.toArray (0, 0) _ rfl (setRow_heap _ _ _ _ _ _ GZ.out) Try.underlying24 rfl HI0.out) rfl ?_
    have D' : Dr (y.setRow A LZ.toArray) rb R' _ := Has.rowOther D.out (Ne.symm NE0.out) _
    have BB' : But w.heap.size rb w (y.setRow A LZ.toArray) := BB.out.setRow (.inl GE0.out) _
    have V1' := V1.out.but (q := A) (w' := y.setRow A LZ.toArray) ((But.refl _ _ _).setRow (.inr rfl) _) G.out (by decide)
    have V2' := V2.out.but (q := A) (w' := y.setRow A LZ.toArray) ((But.refl _ _ _).setRow (.inr rfl) _) G.out (by decide)
    refine ⟨BB', t0, a1, k1, c1, a2, k2, c2, t3, t4, R', _, ?_, D', ?_⟩
    · rw [← HS0.out, ← HS3.out, ← HS4.out, HLZ.out]
    · rcases HF.out with ⟨hb, h6, h4, hd⟩ | ⟨hb, hd⟩
      · obtain ⟨e1, o1⟩ := V1' h4
        obtain ⟨e2, o2⟩ := V2' h6
        exact .inl ⟨hb, g1, g2, hd, e1, isS_own o1, e2, isS_own o2, own_at o1, own_at o2⟩
      · exact .inr ⟨by first | exact hb | rfl, hd⟩
end Go.Proofs.Ytokbakpbhpknfaa

/-
  What a lexer's block holds, and what its changes leave alone. No program text but the types' numbers.
-/
import Derived.Test.YtnajafnbickiiaaDoorLMath
import Derived.Test.YtnajafnbickiiaaDoorBut
import Derived.Laws.AppendOwn
import Derived.Laws.OwnMore
import Derived.OwnWalk
import Derived.Deep.AppendLies
import Derived.ProofKit
namespace Go.Proofs.YtnajafnbickiiaaDoor
open Go.RowKit
set_option linter.unusedVariables false

theorem info_tok : (Tryd.prog.info? 50).map (fun i => (i.zero, i.size, i.bytes)) = some (some (.agg #[.int .u8 0, .string ByteArray.empty, .int .i64 0]), 3, 32) := by kernel_rfl
theorem info_int : (Tryd.prog.info? 3).map (fun i => (i.zero, i.size, i.bytes)) = some (some (.int .i64 0), 1, 8) := by kernel_rfl
theorem info_u8 : (Tryd.prog.info? 5).map (fun i => (i.zero, i.size, i.bytes)) = some (some (.int .u8 0), 1, 1) := by kernel_rfl

def bv (b : UInt8) : Value := .int .u8 (b.toNat : Int)
def iv (n : Nat) : Value := .int .i64 (n : Int)
/-- The three cells of a token. -/
def tkC (t : Tk) : List Value := [.int .u8 (t.kind : Int), .string ⟨t.text.toArray⟩, .int .i64 (t.at_ : Int)]
def tksC (l : List Tk) : List Value := l.flatMap tkC
theorem tksC_append (a b : List Tk) : tksC (a ++ b) = tksC a ++ tksC b := List.flatMap_append
theorem tksC_length (l : List Tk) : (tksC l).length = l.length * 3 := by
  induction l with
  | nil => rfl
  | cons t l ih => simp only [tksC, List.flatMap_cons, List.length_append, List.length_cons] at ih ⊢; rw [ih]; simp [tkC]; omega
theorem tksC_get : ∀ (l : List Tk) (i : Nat) (t : Tk), l[i]? = some t → ∀ j, j < 3 → (tksC l)[i * 3 + j]? = (tkC t)[j]?
  | [], i, t, h, j, hj => by simp at h
  | a :: l, 0, t, h, j, hj => by
    simp only [List.getElem?_cons_zero, Option.some.injEq] at h
    subst h
    show (tkC a ++ tksC l)[0 * 3 + j]? = _
    rw [List.getElem?_append_left (by show 0 * 3 + j < 3; omega), Nat.zero_mul, Nat.zero_add]
  | a :: l, i + 1, t, h, j, hj => by
    show (tkC a ++ tksC l)[(i + 1) * 3 + j]? = _
    have e : (tkC a).length = 3 := rfl
    rw [List.getElem?_append_right (by rw [e]; omega), e, show (i + 1) * 3 + j - 3 = i * 3 + j by omega]
    exact tksC_get l i t (by simpa using h) j hj

/-- The lexer at block lb, in a call that began at w0 with B blocks: its text, its place, its tokens, whether it is in a string, what is open (the innermost first). -/
def Lx (B lb : Nat) (w0 : World) (s : ByteArray) (a : Nat) (ts : List Tk) (q : Bool) (p : List Nat) (w : World) : Prop :=
  ∃ vl vp, Has w lb [.string s, .int .i64 (a : Int), vl, .bool q, vp] 41 ∧ w.ownsRow B 50 3 vl ts.length (tksC ts) ∧ w.ownsRow B 3 1 vp p.length (p.reverse.map iv) ∧ Below B w0 w ∧ B ≤ lb

theorem row_block_type {w : World} {B q n size : Nat} {e e' : TypeId} {v : Value} {xs : List Value} {cur : Array Value} {f : Nat × Nat} (h : w.ownsRow B e size v n xs) (hq : w.heap[q]? = some (.cells cur e' f)) (he : e ≠ e') : v.ownBlock ≠ some q := by
  intro hv
  rcases h.2 with ⟨rfl, _⟩ | ⟨g, cap, cur', rfl, _, hg, _⟩
  · cases hv
  · simp only [Value.ownBlock, Option.some.injEq] at hv
    subst hv
    rw [hg] at hq; cases hq; exact he rfl
theorem owns_apart {w : World} {B B' n n' size size' : Nat} {e e' : TypeId} {v v' : Value} {xs xs' : List Value} (h : w.ownsRow B e size v n xs) (h' : w.ownsRow B' e' size' v' n' xs') (he : e ≠ e') : v.ownBlock = none ∨ v.ownBlock ≠ v'.ownBlock := by
  rcases h.2 with ⟨rfl, _⟩ | ⟨g, cap, cur', rfl, _, hg, _⟩
  · exact .inl rfl
  · exact .inr (fun hv => row_block_type h' hg (fun e => he e.symm) hv.symm)
/-- A row under a store into a block of another type. -/
theorem owns_set {w : World} {B b n size : Nat} {e e' : TypeId} {v : Value} {xs L : List Value} (h : w.ownsRow B e size v n xs) (hx : Has w b L e') (he : e ≠ e') (i : Nat) (u : Value) : (w.setCell ⟨b, i, none⟩ u).ownsRow B e size v n xs :=
  h.kept (row := some b) ⟨rfl, rfl, rfl, by simp [World.setCell], fun k _ hk => heap_setCell_other w ⟨b, i, none⟩ k u (fun e => hk (by simp [e]))⟩ (.inr (row_block_type h hx he))
theorem has_grown {w w2 : World} {B b n size : Nat} {e e' : TypeId} {v : Value} {xs L : List Value} (hx : Has w b L e') (h : w.ownsRow B e size v n xs) (he : e ≠ e') (hg : w.grownBy w2 v.ownBlock) : Has w2 b L e' :=
  (hg.block b hx.lt (fun e => row_block_type h (q := b) (cur := L.toArray) (f := (0, 0)) hx he e.symm)).trans hx
theorem row_form {w : World} {B n size : Nat} {e : TypeId} {v : Value} {xs : List Value} (h : w.ownsRow B e size v n xs) : ∃ b m c, v = .slice b m c := by
  rcases h.2 with ⟨rfl, _⟩ | ⟨g, cap, cur', rfl, _⟩
  · exact ⟨_, _, _, rfl⟩
  · exact ⟨_, _, _, rfl⟩

theorem Lx.below {B lb a : Nat} {w0 w : World} {s : ByteArray} {ts : List Tk} {q : Bool} {p : List Nat} (h : Lx B lb w0 s a ts q p w) : Below B w0 w := by obtain ⟨_, _, _, _, _, h, _⟩ := h; exact h
theorem Lx.lt {B lb a : Nat} {w0 w : World} {s : ByteArray} {ts : List Tk} {q : Bool} {p : List Nat} (h : Lx B lb w0 s a ts q p w) : B ≤ lb ∧ lb < w.heap.size := by obtain ⟨_, _, h1, _, _, _, h⟩ := h; exact ⟨h, h1.lt⟩
theorem Lx.drew {B lb a : Nat} {w0 w : World} {s : ByteArray} {ts : List Tk} {q : Bool} {p : List Nat} (h : Lx B lb w0 s a ts q p w) : Lx B lb w0 s a ts q p w.drew := by
  obtain ⟨vl, vp, h1, h2, h3, h4, h5⟩ := h; exact ⟨vl, vp, h1.drew, h2.drew, h3.drew, h4.drew, h5⟩
theorem Lx.alloc {B lb a : Nat} {w0 w : World} {s : ByteArray} {ts : List Tk} {q : Bool} {p : List Nat} (h : Lx B lb w0 s a ts q p w) (o : Obj) : Lx B lb w0 s a ts q p (w.alloc o) := by
  obtain ⟨vl, vp, h1, h2, h3, h4, h5⟩ := h; exact ⟨vl, vp, h1.alloc o, h2.alloc o, h3.alloc o, h4.alloc (Nat.le_trans h5 (Nat.le_of_lt h1.lt)) o, h5⟩
theorem Lx.setAt {B lb a : Nat} {w0 w : World} {s : ByteArray} {ts : List Tk} {q : Bool} {p : List Nat} (h : Lx B lb w0 s a ts q p w) (a' : Nat) : Lx B lb w0 s a' ts q p (w.setCell ⟨lb, 1, none⟩ (.int .i64 (a' : Int))) := by
  obtain ⟨vl, vp, h1, h2, h3, h4, h5⟩ := h
  exact ⟨vl, vp, h1.set 1 _, owns_set h2 h1 (by decide) 1 _, owns_set h3 h1 (by decide) 1 _, h4.setCell (p := ⟨lb, 1, none⟩) h5 _, h5⟩
theorem Lx.setQ {B lb a : Nat} {w0 w : World} {s : ByteArray} {ts : List Tk} {q : Bool} {p : List Nat} (h : Lx B lb w0 s a ts q p w) (q' : Bool) : Lx B lb w0 s a ts q' p (w.setCell ⟨lb, 3, none⟩ (.bool q')) := by
  obtain ⟨vl, vp, h1, h2, h3, h4, h5⟩ := h
  exact ⟨vl, vp, h1.set 3 _, owns_set h2 h1 (by decide) 3 _, owns_set h3 h1 (by decide) 3 _, h4.setCell (p := ⟨lb, 3, none⟩) h5 _, h5⟩
/-- The list has grown and is stored. -/
theorem Lx.push {B lb a : Nat} {w0 w w2 : World} {s : ByteArray} {ts : List Tk} {q : Bool} {p : List Nat} {vl vp vl' : Value} {t : Tk}
    (h1 : Has w lb [.string s, .int .i64 (a : Int), vl, .bool q, vp] 41) (h2 : w.ownsRow B 50 3 vl ts.length (tksC ts)) (h3 : w.ownsRow B 3 1 vp p.length (p.reverse.map iv)) (h4 : Below B w0 w) (h5 : B ≤ lb)
    (hg : w.grownBy w2 vl.ownBlock) (ho : w2.ownsRow B 50 3 vl' (ts.length + 1) (tksC ts ++ tkC t)) : Lx B lb w0 s a (ts ++ [t]) q p (w2.setCell ⟨lb, 2, none⟩ vl') := by
  have g1 : Has w2 lb _ _ := has_grown h1 h2 (by decide) hg
  have ho' : w2.ownsRow B 50 3 vl' (ts ++ [t]).length (tksC (ts ++ [t])) := by rw [tksC_append, List.length_append]; simpa [tksC] using ho
  exact ⟨vl', vp, g1.set 2 _, owns_set ho' g1 (by decide) 2 _, owns_set (h3.kept hg (owns_apart h3 h2 (by decide))) g1 (by decide) 2 _,
    ((h4.grown hg (Nat.le_trans h5 (Nat.le_of_lt h1.lt)) (fun k hk => (h2.lt k hk).1))).setCell (p := ⟨lb, 2, none⟩) h5 _, h5⟩
/-- What is open has grown and is stored. -/
theorem Lx.opened {B lb a : Nat} {w0 w w2 : World} {s : ByteArray} {ts : List Tk} {q : Bool} {p : List Nat} {vl vp vp' : Value}
    (h1 : Has w lb [.string s, .int .i64 (a : Int), vl, .bool q, vp] 41) (h2 : w.ownsRow B 50 3 vl ts.length (tksC ts)) (h3 : w.ownsRow B 3 1 vp p.length (p.reverse.map iv)) (h4 : Below B w0 w) (h5 : B ≤ lb)
    (hg : w.grownBy w2 vp.ownBlock) (ho : w2.ownsRow B 3 1 vp' (p.length + 1) (p.reverse.map iv ++ [iv 0])) : Lx B lb w0 s a ts q (0 :: p) (w2.setCell ⟨lb, 4, none⟩ vp') := by
  have g1 : Has w2 lb _ _ := has_grown h1 h3 (by decide) hg
  have ho' : w2.ownsRow B 3 1 vp' (0 :: p).length ((0 :: p).reverse.map iv) := by rw [List.reverse_cons, List.map_append]; exact ho
  exact ⟨vl, vp', g1.set 4 _, owns_set (h2.kept hg (owns_apart h2 h3 (by decide))) g1 (by decide) 4 _, owns_set ho' g1 (by decide) 4 _,
    ((h4.grown hg (Nat.le_trans h5 (Nat.le_of_lt h1.lt)) (fun k hk => (h3.lt k hk).1))).setCell (p := ⟨lb, 4, none⟩) h5 _, h5⟩

/-- The listed variables lie where the program's text lays them. -/
def wordB : List ByteArray := wordsL.map fun l => ⟨l.toArray⟩
def signB : List ByteArray := signsL.map fun l => ⟨l.toArray⟩
structure LaidL (w : World) : Prop where
  words : ∃ t f, w.heap[0]? = some (.cells (wordB.map Value.string).toArray t f)
  signs : ∃ t f, w.heap[1]? = some (.cells (signB.map Value.string).toArray t f)
  range : ∃ ev, w.cell? ⟨5, 0, none⟩ = some ev ∧ (ev = .nilIface ∨ ∃ te pe, ev = .iface te pe)
  size : 5 < w.heap.size

theorem LaidL.below {w w' : World} {B : Nat} (h : LaidL w) (hb : Below B w w') (hB : 5 < B) : LaidL w' := by
  obtain ⟨⟨t1, f1, h1⟩, ⟨t2, f2, h2⟩, ⟨ev, h3, h4⟩, h5⟩ := h
  have b1 : 0 < B := Nat.lt_of_le_of_lt (by decide) hB
  have b2 : 1 < B := Nat.lt_of_le_of_lt (by decide) hB
  exact ⟨⟨t1, f1, (hb.block _ b1).trans h1⟩, ⟨t2, f2, (hb.block _ b2).trans h2⟩, ⟨ev, (hb.cell (p := ⟨5, 0, none⟩) hB).trans h3, h4⟩, Nat.lt_of_lt_of_le h5 hb.size⟩

end Go.Proofs.YtnajafnbickiiaaDoor

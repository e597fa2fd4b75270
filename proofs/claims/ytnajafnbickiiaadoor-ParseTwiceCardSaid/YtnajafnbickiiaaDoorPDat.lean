/-
  The parser's block, and the tokens that it has not come to yet. No program text but types.
-/
import Derived.Test.YtnajafnbickiiaaDoorPMath
import Derived.Test.YtnajafnbickiiaaDoorBut
import Derived.Deep.MidRow
namespace Go.Proofs.YtnajafnbickiiaaDoor
open Go.RowKit
set_option linter.unusedVariables false

/-- The last one is the end, and no other one is. -/
def endsT : List Tk → Prop
  | [] => False
  | [t] => t.kind = 0
  | t :: u :: r => t.kind ≠ 0 ∧ endsT (u :: r)
theorem endsT.pos : ∀ {ts : List Tk}, endsT ts → 0 < ts.length
  | [], h => h.elim
  | _ :: _, _ => by simp
theorem endsT.tail : ∀ {t : Tk} {r : List Tk}, endsT (t :: r) → t.kind ≠ 0 → endsT r
  | t, [], h, hn => absurd h hn
  | t, u :: r, h, _ => h.2

/-- The cells of a token. -/
def tokC (t : Tk) : List Value := [.int .u8 (t.kind : Int), .string ⟨t.text.toArray⟩, .int .i64 (t.at_ : Int)]
def sgC (g : List UInt8 × Nat × Bool) : List Value := [.string ⟨g.1.toArray⟩, .int .i64 (g.2.1 : Int), .bool g.2.2]
def sgAll : List Value := [([124, 124], 1, false), ([38, 38], 2, false), ([61, 61], 3, false), ([33, 61], 3, false), ([60], 4, false), ([47, 47], 5, true), ([43], 6, false), ([45], 6, false), ([42], 7, false), ([43, 43], 8, true)].flatMap sgC
/-- The listed variable lies where the program's text lays it. -/
def LaidP (w : World) : Prop := ∃ t f, w.heap[2]? = some (.cells sgAll.toArray t f)
theorem LaidP.below {w w' : World} {B : Nat} (h : LaidP w) (hb : Below B w w') (hB : 2 < B) : LaidP w' := by
  obtain ⟨t, f, h1⟩ := h
  exact ⟨t, f, (hb.block _ hB).trans h1⟩
theorem LaidP.but {w w' : World} {B b : Nat} (h : LaidP w) (hb : But B b w w') (hB : 2 < B) (hne : 2 ≠ b) : LaidP w' := by
  obtain ⟨t, f, h1⟩ := h
  exact ⟨t, f, (hb.block _ hB hne).trans h1⟩
theorem LaidP.lt {w : World} (h : LaidP w) : 2 < w.heap.size := by
  obtain ⟨t, f, h1⟩ := h
  exact (Array.getElem?_eq_some_iff.1 h1).1

theorem LaidP.set {w : World} {a : Addr} (h : LaidP w) (v : Value) (hne : 2 ≠ a.block) : LaidP (w.setCell a v) := by
  obtain ⟨t, f, h1⟩ := h
  exact ⟨t, f, (heap_setCell_other w a _ v hne).trans h1⟩
/-- A number's text that the lexer lets through. -/
def numOk (T : List UInt8) : Prop := T ≠ [] ∧ (∀ c ∈ T, digL c = true) ∧ decV T ≤ 9223372036854775807 ∧ T.length ≤ 8000
/-- The parser at block pb: its tokens lie at block g from off on; how deep, how much room. -/
structure Ps (w : World) (pb g off cap : Nat) (ts : List Tk) (d : Nat) (rm : Int) : Prop where
  row : Has w pb [.slice (some ⟨g, off, none⟩) ts.length cap, .int .i64 (d : Int), .int .i64 rm] 38
  lt : g < w.heap.size
  ne : g ≠ pb
  room : ts.length ≤ cap ∧ cap ≤ maxLen
  toks : ∀ i t, ts[i]? = some t → w.rangeAt g (off + i * 3) (tokC t)
  ends : endsT ts
  few : ts.length ≤ 100000
  small : ∀ t ∈ ts, t.at_ ≤ 100000 ∧ t.text.length ≤ 100000 ∧ t.kind ≤ 8 ∧ (t.kind = 3 → numOk t.text)
  laid : LaidP w ∧ 2 < pb

theorem Ps.laterB {w w' : World} {pb g off cap d B : Nat} {ts : List Tk} {rm : Int} (h : Ps w pb g off cap ts d rm) (hb : Below B w w') (h1 : pb < B) (h2 : g < B) : Ps w' pb g off cap ts d rm :=
  ⟨h.row.below hb h1, Nat.lt_of_lt_of_le h.lt hb.size, h.ne, h.room, (fun i t ht j v hj => (hb.cell (p := ⟨g, _, none⟩) h2).trans (h.toks i t ht j v hj)), h.ends, h.few, h.small, h.laid.1.below hb (Nat.lt_trans h.laid.2 h1), h.laid.2⟩
theorem Ps.later {w w' : World} {pb g off cap d : Nat} {ts : List Tk} {rm : Int} (h : Ps w pb g off cap ts d rm) (hb : Below w.heap.size w w') : Ps w' pb g off cap ts d rm :=
  ⟨h.row.below hb h.row.lt, Nat.lt_of_lt_of_le h.lt hb.size, h.ne, h.room, (fun i t ht j v hj => (hb.cell (p := ⟨g, _, none⟩) h.lt).trans (h.toks i t ht j v hj)), h.ends, h.few, h.small, h.laid.1.below hb h.laid.1.lt, h.laid.2⟩
theorem Ps.cell {w : World} {pb g off cap d : Nat} {ts : List Tk} {rm : Int} (h : Ps w pb g off cap ts d rm) {i : Nat} {t : Tk} (ht : ts[i]? = some t) :
    w.cell? ⟨g, off + i * 3, none⟩ = some (.int .u8 (t.kind : Int)) ∧ w.cell? ⟨g, off + i * 3 + 1, none⟩ = some (.string ⟨t.text.toArray⟩) ∧ w.cell? ⟨g, off + i * 3 + 2, none⟩ = some (.int .i64 (t.at_ : Int)) :=
  ⟨h.toks i t ht 0 _ rfl, h.toks i t ht 1 _ rfl, h.toks i t ht 2 _ rfl⟩
/-- Behind the first token. -/
theorem Ps.took {w : World} {pb g off cap d : Nat} {t : Tk} {r : List Tk} {rm : Int} (h : Ps w pb g off cap (t :: r) d rm) (hk : t.kind ≠ 0) :
    Ps (w.setCell ⟨pb, 0, none⟩ (.slice (some ⟨g, off + 3, none⟩) r.length (cap - 1))) pb g (off + 3) (cap - 1) r d rm := by
  have hr := h.room
  rw [List.length_cons] at hr
  refine ⟨h.row.set 0 _, by simpa [World.setCell] using h.lt, h.ne, ⟨by omega, by omega⟩, (fun i u hu j v hj => ?_), h.ends.tail hk, by have := h.few; rw [List.length_cons] at this; omega, (fun u hu => h.small u (List.mem_cons_of_mem _ hu)), h.laid.1.set _ (Nat.ne_of_lt h.laid.2), h.laid.2⟩
  rw [World.cell?_setCell_other _ _ _ _ (fun e => h.ne (by have := congrArg Addr.block e; exact this.symm))]
  have := h.toks (i + 1) u (by simpa using hu) j v hj
  rwa [show off + (i + 1) * 3 = off + 3 + i * 3 by omega] at this
/-- More or less deep. -/
theorem Ps.deeper {w : World} {pb g off cap d : Nat} {ts : List Tk} {rm : Int} (h : Ps w pb g off cap ts d rm) (d' : Nat) :
    Ps (w.setCell ⟨pb, 1, none⟩ (.int .i64 (d' : Int))) pb g off cap ts d' rm := by
  refine ⟨h.row.set 1 _, by simpa [World.setCell] using h.lt, h.ne, h.room, (fun i u hu j v hj => ?_), h.ends, h.few, h.small, h.laid.1.set _ (Nat.ne_of_lt h.laid.2), h.laid.2⟩
  rw [World.cell?_setCell_other _ _ _ _ (fun e => h.ne (by have := congrArg Addr.block e; exact this.symm))]
  exact h.toks i u hu j v hj
end Go.Proofs.YtnajafnbickiiaaDoor

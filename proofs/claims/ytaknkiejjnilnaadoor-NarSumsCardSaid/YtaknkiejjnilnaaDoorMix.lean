/-
  What a state becomes behind one block more. Plain functions on naturals, and the hasher's row. No program text but the types.
-/
import Derived.Test.YtaknkiejjnilnaaDoorSchedWalk
import Derived.Test.YtaknkiejjnilnaaDoorOnce
import Derived.Deep.WholeRow
import Derived.Laws.BitsAllLaws
namespace Go.Proofs.YtaknkiejjnilnaaDoor
open Go.RowKit

structure S8 where
  s : Nat
  t : Nat
  u : Nat
  v : Nat
  w : Nat
  x : Nat
  y : Nat
  z : Nat

def choice (w x y : Nat) : Nat := (w &&& x) ^^^ ((4294967295 - w) &&& y)
def major (s t u : Nat) : Nat := ((s &&& t) ^^^ (s &&& u)) ^^^ (t &&& u)
def firstOf (a : S8) (k p : Nat) : Nat := ((((a.z + turn3 a.w 6 11 25) % 4294967296 + choice a.w a.x a.y) % 4294967296 + k) % 4294967296 + p) % 4294967296
def secondOf (a : S8) : Nat := (turn3 a.s 2 13 22 + major a.s a.t a.u) % 4294967296
def S8.next (a : S8) (k p : Nat) : S8 := ⟨(firstOf a k p + secondOf a) % 4294967296, a.s, a.t, a.u, (a.v + firstOf a k p) % 4294967296, a.w, a.x, a.y⟩
def S8.of (S : List Nat) : S8 := ⟨S.getD 0 0, S.getD 1 0, S.getD 2 0, S.getD 3 0, S.getD 4 0, S.getD 5 0, S.getD 6 0, S.getD 7 0⟩
def rounds (S P : List Nat) : Nat → S8
  | 0 => S8.of S
  | k + 1 => (rounds S P k).next (wordsK.getD k 0) (P.getD k 0)
def S8.small (a : S8) : Prop := a.s < 4294967296 ∧ a.t < 4294967296 ∧ a.u < 4294967296 ∧ a.v < 4294967296 ∧ a.w < 4294967296 ∧ a.x < 4294967296 ∧ a.y < 4294967296 ∧ a.z < 4294967296

theorem rounds_small (S P : List Nat) (hS : ∀ x ∈ S, x < 4294967296) : ∀ k, (rounds S P k).small
  | 0 => ⟨getD_all hS (by omega) _, getD_all hS (by omega) _, getD_all hS (by omega) _, getD_all hS (by omega) _, getD_all hS (by omega) _, getD_all hS (by omega) _, getD_all hS (by omega) _, getD_all hS (by omega) _⟩
  | k + 1 => by
    obtain ⟨h1, h2, h3, h4, h5, h6, h7, h8⟩ := rounds_small S P hS k
    exact ⟨Nat.mod_lt _ (by omega), h1, h2, h3, Nat.mod_lt _ (by omega), h5, h6, h7⟩

/-- A state behind a block. -/
def mixL (S B : List Nat) : List Nat :=
  let r := rounds S (sched B 64) 64
  [(S.getD 0 0 + r.s) % 4294967296, (S.getD 1 0 + r.t) % 4294967296, (S.getD 2 0 + r.u) % 4294967296, (S.getD 3 0 + r.v) % 4294967296,
   (S.getD 4 0 + r.w) % 4294967296, (S.getD 5 0 + r.x) % 4294967296, (S.getD 6 0 + r.y) % 4294967296, (S.getD 7 0 + r.z) % 4294967296]

theorem mixL_length (S B : List Nat) : (mixL S B).length = 8 := rfl
theorem mixL_lt (S B : List Nat) : ∀ x ∈ mixL S B, x < 4294967296 := by
  intro x hx
  simp only [mixL, List.mem_cons, List.not_mem_nil, or_false] at hx
  rcases hx with h | h | h | h | h | h | h | h <;> (rw [h]; exact Nat.mod_lt _ (by omega))

theorem and_lt {a b : Nat} (ha : a < 4294967296) : a &&& b < 4294967296 := Nat.lt_of_le_of_lt Nat.and_le_left ha
theorem choice_lt {w x y : Nat} (hw : w < 4294967296) : choice w x y < 4294967296 := xor_lt _ _ (and_lt hw) (and_lt (by omega))
theorem major_lt {s t u : Nat} (hs : s < 4294967296) (ht : t < 4294967296) : major s t u < 4294967296 := xor_lt _ _ (xor_lt _ _ (and_lt hs) (and_lt hs)) (and_lt ht)

theorem choice_bits {w x y : Nat} (hw : w < 4294967296) :
    bits .xor .u32 ((w &&& x : Nat) : Int) (((4294967295 - w) &&& y : Nat) : Int) = (choice w x y : Int) := u32_xor_nat _ _ (and_lt hw) (and_lt (by omega))

theorem not32 (a : Nat) (ha : a < 4294967296) : bits .xor .u32 4294967295 (a : Int) = ((4294967295 - a : Nat) : Int) := by
  show IntKind.u32.wrap ((BitVec.ofInt 32 4294967295 ^^^ BitVec.ofInt 32 (a : Int)).toNat : Int) = _
  have h1 : BitVec.ofInt 32 4294967295 = BitVec.allOnes 32 := by decide
  rw [h1, BitVec.allOnes_xor, BitVec.toNat_not, ofInt_u32 a ha]
  simp [IntKind.wrap, IntKind.bits, IntKind.signed]
  omega

theorem not32' (a b : Nat) (ha : a < 4294967296) (hb : b = 4294967295 - a) : bits .xor .u32 (if IntKind.u32.signed = true then -1 else IntKind.u32.max) (a : Int) = (b : Int) := by
  rw [hb]; exact not32 a ha

theorem turned_6 (x : Nat) (w : World) (hx : x < 4294967296) : Calls Tryd.prog 36 #[.int .u32 (x : Int), .int .i64 6, .int .i64 11, .int .i64 25] w fun e w' => e = .returned (.int .u32 (turn3 x 6 11 25 : Int)) ∧ w' = w :=
  (turned_any x 6 11 25 w hx (by omega) (by omega) (by omega) (by omega) (by omega) (by omega)).mono fun _ _ h => ⟨h.1, h.2.symm⟩
theorem turned_2 (x : Nat) (w : World) (hx : x < 4294967296) : Calls Tryd.prog 36 #[.int .u32 (x : Int), .int .i64 2, .int .i64 13, .int .i64 22] w fun e w' => e = .returned (.int .u32 (turn3 x 2 13 22 : Int)) ∧ w' = w :=
  (turned_any x 2 13 22 w hx (by omega) (by omega) (by omega) (by omega) (by omega) (by omega)).mono fun _ _ h => ⟨h.1, h.2.symm⟩

theorem add32 (a b c : Nat) (h : c = (a + b) % 4294967296) : IntKind.u32.wrap ((a : Int) + (b : Int)) = (c : Int) := by
  simp [IntKind.wrap, IntKind.bits, IntKind.signed]; omega

/-- The hasher's row behind the words' making. -/
def rowD (L : List Value) : List Value := (rowW L 64).set 0 (.int .u32 1)

/-- The hasher's row is ready: the lock is free; the words are not made yet, or lie there. -/
def Ready (L : List Value) : Prop := L.length = 140 ∧ L[1]? = some (.int .i32 0) ∧ (L[0]? = some (.int .u32 0) ∨ (L[0]? = some (.int .u32 1) ∧ rowD L = L))

theorem rowW_twice (L : List Value) (hL : L.length = 140) (v : Value) : rowW ((rowW L 64).set 0 v) 64 = (rowW L 64).set 0 v := by
  match L, hL with
  | a :: c :: d :: M, hM =>
    simp [rowW] at hM ⊢
    rw [List.drop_append]
    simp [wordsK_length]

theorem rowD_length {L : List Value} (hL : L.length = 140) : (rowD L).length = 140 := by simp [rowD, rowW_length L 64 (by omega) hL]

theorem rowD_ready {L : List Value} (h : Ready L) : Ready (rowD L) := by
  obtain ⟨hL, h1, h0⟩ := h
  have hr : (rowW L 64).length = 140 := rowW_length L 64 (by omega) hL
  refine ⟨by simp [rowD, hr], ?_, .inr ⟨?_, ?_⟩⟩
  · unfold rowD; rw [List.getElem?_set_ne (by omega), rowW_get1 L hL, h1]
  · unfold rowD; simp [hr]
  · unfold rowD; rw [rowW_twice L hL]; simp

theorem rowD_get (L : List Value) (hL : L.length = 140) (j : Nat) (hj : 67 ≤ j) : (rowD L)[j]? = L[j]? := by
  unfold rowD
  rw [List.getElem?_set_ne (by omega)]
  unfold rowW
  rw [List.getElem?_append_right (by simp; omega), List.getElem?_append_right (by simp [wordsK_length]; omega), List.getElem?_drop]
  congr 1
  simp [wordsK_length]; omega

theorem rowD_word (L : List Value) (hL : L.length = 140) (j : Nat) (hj : j < 64) : (rowD L)[3 + j]? = some (wv (wordsK.getD j 0)) := by
  unfold rowD
  rw [List.getElem?_set_ne (by omega)]
  unfold rowW
  rw [List.getElem?_append_right (by simp; omega), List.getElem?_append_left (by simp [wordsK_length]; omega)]
  have e : 3 + j - (List.take (67 - 64) L).length = j := by simp; omega
  rw [e, show 64 - 64 = 0 from rfl, List.drop_zero]
  exact map_get wv wordsK j (by rw [wordsK_length]; omega)

theorem do_any (b : Nat) (L : List Value) (t : TypeId) (w : World) (hr : Ready L) (hb : Has w b L t) (hb1 : 1 < b)
    (hP : ∀ i, i < 64 → w.cell? ⟨1, i, none⟩ = some (.int .u64 ((primesL.getD i 0 : Nat) : Int))) :
    Calls Tryd.prog 33 #[.pointer (some ⟨b, 0, none⟩), .func (.func 34) #[.pointer (some ⟨b, 0, none⟩)] #[]] w fun e w' => e = .returned (.tuple #[]) ∧ Has w' b (rowD L) t ∧ But w.heap.size b w w' := by
  obtain ⟨hL, h1, h0 | ⟨h0, he⟩⟩ := hr
  · exact do_first b L t w hL hb hb1 h0 h1 hP
  · refine (do_done ⟨b, 0, none⟩ 1 (by omega) _ w (hb.cellAt h0)).mono ?_
    rintro e w' ⟨rfl, rfl⟩
    exact ⟨rfl, by rw [he]; exact hb, But.refl _ _ _⟩

end Go.Proofs.YtaknkiejjnilnaaDoor

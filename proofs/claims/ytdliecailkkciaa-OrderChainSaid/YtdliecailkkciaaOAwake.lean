/-
  The document's example.
-/
import Derived.Test.YtdliecailkkciaaOLaws
namespace Go.Proofs.Ytdliecailkkciaa
open Go.RowKit
set_option linter.unusedVariables false

def aB : ByteArray := ⟨#[97]⟩
def bB : ByteArray := ⟨#[98]⟩
def cB : ByteArray := ⟨#[99]⟩
/-- What stands in a list, by looking. -/
def memB : (s : ByteArray) → (l : List ByteArray) → Decidable (s ∈ l)
  | s, [] => isFalse (by simp)
  | s, x :: l => if h : s = x then isTrue (by simp [h]) else match memB s l with
    | isTrue h2 => isTrue (List.mem_cons_of_mem _ h2)
    | isFalse h2 => isFalse (fun h3 => (List.mem_cons.1 h3).elim h h2)
instance (priority := 5000) memDecB (s : ByteArray) (l : List ByteArray) : Decidable (s ∈ l) := memB s l
theorem need_A (s t : ByteArray) : Need [aB, bB, cB] [[cB], [], []] s t ↔ s = aB ∧ t = cB := by
  constructor
  · rintro ⟨j, hj, rfl, h⟩
    match j, hj, h with
    | 0, _, h => exact ⟨rfl, List.mem_singleton.1 h⟩
    | 1, _, h => cases h
    | 2, _, h => cases h
    | n + 3, hj, _ => exact absurd hj (by simp)
  · rintro ⟨rfl, rfl⟩
    exact ⟨0, by decide, rfl, List.mem_singleton.2 rfl⟩
theorem rdy_A (out : List ByteArray) (s : ByteArray) : Rdy (finN [aB, bB, cB] [[cB], [], []]) out s ↔ s ∉ out ∧ (s = aB → cB ∈ out) := by
  rw [fin_rdy]
  refine and_congr_right (fun _ => ?_)
  constructor
  · intro h e
    exact h cB ((need_A _ _).2 ⟨e, rfl⟩) (by rw [e]; decide) (by simp)
  · intro h t h1 _ _
    obtain ⟨e, rfl⟩ := (need_A _ _).1 h1
    exact h e
theorem ris_A : risL [aB, bB, cB] = [aB, bB, cB] := ris_ext (risL_inc _) (by decide) (fun x => risL_mem)
theorem topo_A : topoL (risL [aB, bB, cB]) (finN [aB, bB, cB] [[cB], [], []]) = [bB, cB, aB] := by
  have hn : ∀ i, i < [bB, cB, aB].length → nextK (risL [aB, bB, cB]) (finN [aB, bB, cB] [[cB], [], []]) ([bB, cB, aB].take i) = some ([bB, cB, aB].getD i ⟨#[]⟩) := by
    intro i hi
    unfold nextK
    refine find_least (risL_inc _) (risL_mem.2 ?_) (decide_eq_true ((rdy_A _ _).2 ?_)) (fun y hy hp => ?_)
    · match i, hi with
      | 0, _ => decide
      | 1, _ => decide
      | 2, _ => decide
      | n + 3, hi => exact absurd hi (by simp)
    · match i, hi with
      | 0, _ => decide
      | 1, _ => decide
      | 2, _ => decide
      | n + 3, hi => exact absurd hi (by simp)
    · have h1 := (rdy_A _ _).1 (of_decide_eq_true hp)
      have h2 := risL_mem.1 hy
      clear hp hy
      revert h1
      match i, hi with
      | 0, _ => revert y; decide
      | 1, _ => revert y; decide
      | 2, _ => revert y; decide
      | n + 3, hi => exact absurd hi (by simp)
  unfold topoL
  rw [ris_A] at hn ⊢
  exact kahn_list [bB, cB, aB] hn 3 (Nat.le_refl _)
theorem told_A : Told [aB, bB, cB] [[cB], [], []] :=
  Told.of (by decide) (by decide) (by decide) (by decide)
set_option maxRecDepth 100000 in
set_option maxHeartbeats 8000000 in
theorem awake_any (w : World) : Calls Try.prog 7 #[] w fun e w' => e = .returned (.bool true) ∧ Below w.heap.size w w' := by
  go_enter Try.func7, Try.ntmps7
  go_wp2_with fail
  obtain ⟨w1, hw1⟩ : ∃ w1, w1 = w.alloc (Obj.cells #[Value.string ⟨#[97]⟩, Value.string ⟨#[98]⟩, Value.string ⟨#[99]⟩] 9) := ⟨_, rfl⟩
  rw [← hw1]
  have z1 : w1.heap.size = w.heap.size + 1 := by rw [hw1]; simp
  have s1 : IsS w1 (some ⟨w.heap.size, 0, none⟩) 3 3 [aB, bB, cB] := by rw [hw1]; exact has_isS (l := [aB, bB, cB]) (Has.new w _ _) (by decide)
  have b1 : Below w.heap.size w w1 := by rw [hw1]; exact (Below.refl _ _).alloc (Nat.le_refl _) _
  clear hw1
  obtain ⟨w2, hw2⟩ : ∃ w2, w2 = w1.alloc (Obj.cells #[Value.string ⟨#[99]⟩] 9) := ⟨_, rfl⟩
  rw [← hw2]
  have z2 : w2.heap.size = w.heap.size + 2 := by rw [hw2]; simp; omega
  have s2 : IsS w2 (some ⟨w.heap.size + 1, 0, none⟩) 1 1 [cB] := by rw [← z1, hw2]; exact has_isS (l := [cB]) (Has.new w1 _ _) (by decide)
  have b2 : Below w1.heap.size w1 w2 := by rw [hw2]; exact (Below.refl _ _).alloc (Nat.le_refl _) _
  clear hw2
  obtain ⟨w3, hw3⟩ : ∃ w3, w3 = w2.alloc (Obj.cells #[Value.slice (some ⟨w.heap.size + 1, 0, none⟩) 1 1, Value.slice none 0 0, Value.slice none 0 0] 22) := ⟨_, rfl⟩
  rw [← hw3]
  have b3 : Below w2.heap.size w2 w3 := by rw [hw3]; exact (Below.refl _ _).alloc (Nat.le_refl _) _
  have h3 : Has w3 (w.heap.size + 1 + 1) [Value.slice (some ⟨w.heap.size + 1, 0, none⟩) 1 1, Value.slice none 0 0, Value.slice none 0 0] 22 := by
    have e : w.heap.size + 1 + 1 = w2.heap.size := by omega
    rw [e, hw3]; exact Has.new _ _ _
  have B3 : Hid (Below w.heap.size w w3) := Lib.hid ((b1.trans (b2.mono (by omega))).trans (b3.mono (by omega)))
  have S1 : Hid (IsS w3 (some ⟨w.heap.size, 0, none⟩) 3 3 [aB, bB, cB]) := Lib.hid ((s1.later b2).later b3)
  have S3 : Hid (IsSS w3 (some ⟨w.heap.size + 1 + 1, 0, none⟩) 3 3 [[cB], [], []]) := Lib.hid
    ⟨rfl, .inr ⟨_, 0, rfl, h3.lt, fun i hi => by
      match i, hi with
      | 0, _ => exact ⟨_, _, _, h3.cellAt (i := 0) rfl, s2.later b3⟩
      | 1, _ => exact ⟨_, _, _, h3.cellAt (i := 1) rfl, isS_nil _⟩
      | 2, _ => exact ⟨_, _, _, h3.cellAt (i := 2) rfl, isS_nil _⟩
      | n + 3, hi => exact absurd hi (by omega)⟩, (fun e => by cases e), ⟨Nat.le_refl _, by unfold maxLen; omega⟩⟩
  clear z1 z2 s1 s2 b1 b2 b3 h3 hw3
  refine (new_law told_A S1.out S3.out).mono ?_
  rintro e w4 ⟨gb, rfl, hg, hb4, _⟩
  have HGR := Lib.hid hg
  have B4 : Hid (Below w.heap.size w w4) := Lib.hid (B3.out.trans (hb4.mono B3.out.size))
  clear hg hb4
  go_wp2_with fail
  refine (sort_law told_A HGR.out).mono ?_
  rintro e w5 ⟨hb5, h | h⟩
  · obtain ⟨_, v, rfl, how⟩ := h
    rw [topo_A] at how
    obtain ⟨va, vc, rfl, hs5⟩ := owns_isS how
    have B5 : Hid (Below w.heap.size w w5) := Lib.hid (B4.out.trans (hb5.mono B4.out.size))
    have S5 := Lib.hid hs5
    clear how hs5 hb5
    go_wp2_with fail
    have b6 : Below w5.heap.size w5 (w5.alloc (Obj.cells #[Value.string ⟨#[98]⟩, Value.string ⟨#[99]⟩, Value.string ⟨#[97]⟩] 9)) := (Below.refl _ _).alloc (Nat.le_refl _) _
    refine (rfsame_any va (some ⟨w5.heap.size, 0, none⟩) 3 3 vc 3 [bB, cB, aB] [bB, cB, aB] _ (S5.out.later b6) (has_isS (l := [bB, cB, aB]) (Has.new w5 _ _) (by decide)) (by omega) (by omega)).mono ?_
    rintro e w6 ⟨b, rfl, hbt, hb6⟩
    have hbt : b = true := hbt.2 rfl
    subst hbt
    have B6 : Hid (Below w.heap.size w w6) := Lib.hid ((B5.out.trans (b6.mono B5.out.size)).trans (hb6.mono (by have := B5.out.size; simp; omega)))
    clear b6 hb6
    go_wp2_with fail
    go_ret
    exact ⟨rfl, B6.out⟩
  · exfalso
    refine h.1 ?_
    rw [topo_A]
    decide
end Go.Proofs.Ytdliecailkkciaa

/-
  Digests in digits, sorted: the program's way and the reference's. Conditions: bounds on how many.
-/
import Derived.Test.YtokbakpbhpknfaaGreatDoorRfSort
import Derived.Test.YtokbakpbhpknfaaGreatDoorBut
import Derived.Test.YtokbakpbhpknfaaGreatDoorRowN
import Derived.Test.YtokbakpbhpknfaaGreatDoorShelfB
import Derived.Sort.OwnSorted
import Derived.Carry
namespace Go.Proofs.YtokbakpbhpknfaaGreatDoor
open Go.RowKit
open Go.Sort (Holds)
set_option linter.unusedVariables false

def btsOf (s : ByteArray) : Bts := s.data.toList
theorem map_bts (l : List ByteArray) : (l.map btsOf).map encStr = l.map Value.string := by
  rw [List.map_map]
  refine List.map_congr_left fun x _ => ?_
  show Value.string ⟨(btsOf x).toArray⟩ = .string x
  unfold btsOf; rw [Array.toArray_toList]

/-- Texts of their own, sorted in place. -/
theorem sort_any (B : Nat) (v : Value) (n : Nat) (l : List ByteArray) (w : World) (hO : w.ownsRow B 9 1 v n (l.map Value.string)) (hn : n ≤ 100000) :
    Calls Tryz.prog 22 #[v] w fun e w' => e = .returned (.tuple #[]) ∧ ∃ out : List ByteArray, out.map btsOf = ((l.map btsOf).mergeSort fun x y => decide (x ≤ y)) ∧ w'.ownsRow B 9 1 v n (out.map Value.string) ∧ w.grownBy w' v.ownBlock := by
  have hl : l.length = n := by simpa using hO.1
  rcases hO.2 with ⟨rfl, rfl⟩ | ⟨g, cap, cur, rfl, hb, hg, hnc, hcm, hcs, htake⟩
  · have : l = [] := List.length_eq_zero_iff.1 hl
    subst this
    refine (Tryz.slices_Sort_string_none none 0 w).mono ?_
    rintro e w' ⟨rfl, rfl⟩
    exact ⟨rfl, [], by simp, World.ownsRow_nil _ _ _ _, World.grownBy.refl _ _⟩
  · have hls : (l.map btsOf).length = n := by rw [List.length_map, hl]
    have hgl : g < w.heap.size := (Array.getElem?_eq_some_iff.1 hg).1
    have hH : Holds encStr w g 0 (l.map btsOf).toArray := holds_of_block hg (by rw [hls, map_bts, ← htake, Nat.mul_one])
    have hs := Tryz.slices_Sort_string g 0 cap (l.map btsOf) w hH hgl (by rw [hls]; omega)
    rw [hls] at hs
    refine hs.mono ?_
    rintro e w' ⟨rfl, m, os, rfl⟩
    obtain ⟨T, hT⟩ : ∃ T, T = ((l.map btsOf).mergeSort fun x y => decide (x ≤ y)) := ⟨_, rfl⟩
    rw [← hT]
    have hTl : T.length = (l.map btsOf).length := by rw [hT]; exact List.length_mergeSort _
    refine ⟨rfl, T.map (fun b => ⟨b.toArray⟩), ?_, ?_, grownBy_sorted _⟩
    · rw [List.map_map]
      have : (btsOf ∘ fun b : Bts => (⟨b.toArray⟩ : ByteArray)) = id := by funext b; rfl
      rw [this, List.map_id]
    · have h := ownsRow_sorted (n := m) (os := os) hTl hb hg (by rw [hls]; exact hnc) hcm hcs
      rw [hls] at h
      rw [List.map_map]
      exact h

/-- In the place behind all that are not greater. -/
def insT (s : Bts) : List Bts → List Bts
  | [] => [s]
  | x :: r => if s < x then s :: x :: r else x :: insT s r
theorem insT_perm (s : Bts) : ∀ l : List Bts, (insT s l).Perm (s :: l)
  | [] => .refl _
  | x :: r => by
    unfold insT; split
    · exact .refl _
    · exact ((insT_perm s r).cons x).trans (.swap s x r)
theorem insT_mem {s y : Bts} {l : List Bts} : y ∈ insT s l ↔ y = s ∨ y ∈ l := by
  rw [(insT_perm s l).mem_iff, List.mem_cons]
theorem insT_sorted {s : Bts} : ∀ {l : List Bts}, NonDec l → NonDec (insT s l)
  | [], _ => by simp [insT, NonDec]
  | x :: r, h => by
    unfold NonDec at h ⊢
    obtain ⟨h1, h2⟩ := List.pairwise_cons.1 h
    unfold insT; split
    · rename_i hlt
      refine List.pairwise_cons.2 ⟨fun y hy => ?_, h⟩
      rcases List.mem_cons.1 hy with rfl | hy
      · exact fun h' => bt_irr _ (bt_trans h' hlt)
      · intro h'
        have := h1 y hy
        rcases bt_not.1 this with e | e
        · rw [← e] at h'; exact bt_irr _ (bt_trans h' hlt)
        · exact bt_irr _ (bt_trans (bt_trans h' hlt) e)
    · rename_i hge
      refine List.pairwise_cons.2 ⟨fun y hy => ?_, insT_sorted h2⟩
      rcases insT_mem.1 hy with rfl | hy
      · exact hge
      · exact h1 y hy
def insAll (l : List Bts) : List Bts := l.foldl (fun o s => insT s o) []
theorem insAll_go : ∀ (l o : List Bts), NonDec o → NonDec (l.foldl (fun o s => insT s o) o) ∧ (l.foldl (fun o s => insT s o) o).Perm (l ++ o)
  | [], o, h => ⟨h, .refl _⟩
  | s :: r, o, h => by
    obtain ⟨h1, h2⟩ := insAll_go r (insT s o) (insT_sorted h)
    refine ⟨h1, h2.trans ?_⟩
    refine (List.Perm.append_left r (insT_perm s o)).trans ?_
    exact List.perm_middle
/-- A list in its order is the only one of its elements. -/
theorem nonDec_one : ∀ {a b : List Bts}, NonDec a → NonDec b → a.Perm b → a = b
  | [], b, _, _, h => (List.nil_perm.1 h).symm
  | x :: r, [], _, _, h => by have := h.length_eq; simp at this
  | x :: r, y :: q, ha, hb, h => by
    obtain ⟨a1, a2⟩ := List.pairwise_cons.1 ha
    obtain ⟨b1, b2⟩ := List.pairwise_cons.1 hb
    have hxy : x = y := by
      have hx := h.mem_iff.1 (List.mem_cons_self (a := x) (l := r))
      have hy := h.mem_iff.2 (List.mem_cons_self (a := y) (l := q))
      rcases List.mem_cons.1 hx with e | hx
      · exact e
      · rcases List.mem_cons.1 hy with e | hy
        · exact e.symm
        · rcases bt_total x y with h' | h' | h'
          · exact absurd h' (b1 x hx)
          · exact h'
          · exact absurd h' (a1 y hy)
    subst hxy
    rw [nonDec_one a2 b2 h.cons_inv]
/-- Texts in their order. -/
def srtT (l : List Bts) : List Bts := l.mergeSort fun x y => decide (x ≤ y)
theorem srtT_ins (l : List Bts) : insAll l = srtT l := by
  obtain ⟨h1, h2⟩ := insAll_go l [] (by unfold NonDec; exact List.Pairwise.nil)
  rw [List.append_nil] at h2
  exact nonDec_one h1 (merge_nondec l) (h2.trans (List.mergeSort_perm l _).symm)
theorem srtT_perm {a b : List Bts} (h : a.Perm b) : srtT a = srtT b :=
  nonDec_one (merge_nondec a) (merge_nondec b) ((List.mergeSort_perm a _).trans (h.trans (List.mergeSort_perm b _).symm))
/-- The digests' digits. -/
def hexs (l : List (List UInt8)) : List Bts := l.map Nam.hexL
end Go.Proofs.YtokbakpbhpknfaaGreatDoor

/-
  Archives with one byte turned, cut short, or with one byte more; Read's contract with the tree of nothing under a name. Conditions: those of Read.
-/
import Derived.Test.YthjihibocobndaaNRead
import Derived.Test.YthjihibocobndaaNGood
import Derived.Laws.BitsAllLaws
namespace Go.Proofs.Ythjihibocobndaa
open Go.RowKit
set_option linter.unusedVariables false

theorem arch_split {t t' : T} {p p' : Nat × Nat} (h : sizeT t = some p) (h' : sizeT t' = some p') {r r' : List UInt8} (he : archT t ++ r = archT t' ++ r') : t = t' ∧ r = r' := by
  unfold archT at he
  rw [List.append_assoc, List.append_assoc] at he
  exact nodeT_inj (sizeN t) t t' r r' (Nat.le_refl _) (.of h) (.of h') (List.append_cancel_left he)

theorem arch_len2 {t : T} {q : Nat × Nat} (h : sizeT t = some q) : (archT t).length ≤ 900000000 := by
  have h1 := node_len (sizeN t) t (Nat.le_refl _) (.of h)
  have h2 := (size_most h).2
  have h3 := strN_most sMagic
  have l3 : sMagic.length = 13 := rfl
  unfold archT
  rw [List.length_append]; omega

theorem read_cut {t : T} {p : Nat × Nat} (h : sizeT t = some p) {k : Nat} (hk : k < (archT t).length) : readL ((archT t).take k) = none := by
  cases hr : readL ((archT t).take k) with
  | none => rfl
  | some u =>
    obtain ⟨h1, h2⟩ := readL_some hr
    obtain ⟨p', hp'⟩ := Option.isSome_iff_exists.1 h2
    have he : archT u ++ (archT t).drop k = archT t ++ [] := by rw [← h1, List.take_append_drop, List.append_nil]
    have := congrArg List.length (arch_split hp' h he).2
    rw [List.length_drop, List.length_nil] at this
    omega
theorem read_more {t : T} {p : Nat × Nat} (h : sizeT t = some p) (z : UInt8) : readL (archT t ++ [z]) = none := by
  cases hr : readL (archT t ++ [z]) with
  | none => rfl
  | some u =>
    obtain ⟨h1, h2⟩ := readL_some hr
    obtain ⟨p', hp'⟩ := Option.isSome_iff_exists.1 h2
    have he : archT t ++ [z] = archT u ++ [] := by rw [h1, List.append_nil]
    have := (arch_split h hp' he).2
    cases this
theorem read_turn {t u : T} {p : Nat × Nat} (h : sizeT t = some p) {k : Nat} (hk : k < (archT t).length) {z : UInt8} (hz : z ≠ 0) (hr : readL ((archT t).set k ((archT t).getD k 0 ^^^ z)) = some u) : u ≠ t := by
  rintro rfl
  have h1 := (readL_some hr).1
  have h2 := congrArg (fun l : List UInt8 => l[k]?) h1
  simp only [List.getElem?_set_self hk, List.getElem?_eq_getElem hk, Option.some.injEq] at h2
  rw [List.getD_eq_getElem?_getD, List.getElem?_eq_getElem hk, Option.getD_some] at h2
  apply hz
  have h3 := congrArg (fun x => (archT u)[k] ^^^ x) h2
  simpa [← UInt8.xor_assoc] using h3

/-- Read, with the tree of nothing under a name of its own. -/
def ReadN (l : List UInt8) (w : World) (e : Ending) (w' : World) : Prop :=
  Below w.heap.size w w' ∧ ∃ (Z : List Value) (c : Int), e = .returned (.tuple #[.agg Z.toArray, .int .i64 c]) ∧ (∃ n t, IsT w' n Z t ∧ ((readL l = none ∧ c = 3 ∧ t = .mk 0 false [] [] []) ∨ (readL l = some t ∧ c = 0)))
theorem readn_any (a : Option Addr) (len cap : Nat) (l : List UInt8) (w : World) (hp : IsB w a len cap l) (hl : l.length ≤ 1000000000) :
    Calls Try.prog 10 #[.slice a len cap] w (ReadN l w) := (read_any a len cap l w hp hl).mono fun e w' ⟨hb, hm⟩ => by
  refine ⟨hb, ?_⟩
  cases hr : readL l with
  | none =>
    rw [hr] at hm
    exact ⟨zeroL, 3, hm, 1, .mk 0 false [] [] [], ⟨_, _, _, _, _, _, _, _, _, rfl, isB_no w', isS_no w', isK_no _ w'⟩, .inl ⟨rfl, rfl, rfl⟩⟩
  | some t =>
    rw [hr] at hm
    obtain ⟨n, cs, he, hT⟩ := hm
    exact ⟨cs, 0, he, n, t, hT, .inr ⟨rfl, rfl⟩⟩

/-- A new variable that is given a tree at once. -/
theorem var_treeN {w : World} {cs : List Value} :
    Has ((w.alloc (.cells #[.int .u8 0, .bool false, .slice none 0 0, .slice none 0 0, .slice none 0 0] 26)).setRow w.heap.size cs.toArray) w.heap.size cs 26 ∧
    Below w.heap.size w ((w.alloc (.cells #[.int .u8 0, .bool false, .slice none 0 0, .slice none 0 0, .slice none 0 0] 26)).setRow w.heap.size cs.toArray) :=
  ⟨(Has.new w zeroL _).row cs, below_setRow ((Below.refl _ _).alloc (Nat.le_refl _) _) (Nat.le_refl _) _⟩

end Go.Proofs.Ythjihibocobndaa

/-
  New, Sort, Closure, Users of a graph as the laws tell it. Conditions: bounds.
-/
import Derived.Test.YtdliecailkkciaaOLawM
import Derived.Test.YtdliecailkkciaaOClos
import Derived.Test.YtdliecailkkciaaOOpen
import Derived.Test.YtdliecailkkciaaONew
namespace Go.Proofs.Ytdliecailkkciaa
open Go.RowKit
set_option linter.unusedVariables false

theorem need_size {ns : List ByteArray} {ks : List (List ByteArray)} (hk : ∀ l ∈ ks, ∀ s ∈ l, s.size ≤ maxLen) (s t : ByteArray) (h : t ∈ getN (finN ns ks) s) : t.size ≤ maxLen := by
  obtain ⟨j, _, _, h3⟩ := (fin_mem _ _ _ _).1 h
  rw [List.getD_eq_getElem?_getD] at h3
  cases hj : ks[j]? with
  | none => rw [hj] at h3; cases h3
  | some l => rw [hj] at h3; exact hk l (List.mem_of_getElem? hj) t h3
theorem topo_len (G : List ByteArray) (N : ByteArray → Option (List ByteArray)) : (topoL G N).length ≤ G.length := by
  have h : ∀ n, (kahnL G N n).length ≤ n := by
    intro n
    induction n with
    | zero => exact Nat.le_refl _
    | succ n ih =>
      rw [kahnL]
      split
      · rw [List.length_append, List.length_singleton]; omega
      · omega
  exact h _
/-- A graph as a law tells it. -/
structure Told (ns : List ByteArray) (ks : List (List ByteArray)) : Prop where
  names : ns.length ≤ 60
  all : tot ks ns.length ≤ 100000
  needs : ∀ s, (getN (finN ns ks) s).length ≤ 61
  size : ∀ s ∈ ns, s.size ≤ maxLen
  sizes : ∀ l ∈ ks, ∀ s ∈ l, s.size ≤ maxLen
theorem Told.of {ns : List ByteArray} {ks : List (List ByteArray)} (h1 : ns.length ≤ 60) (h2 : tot ks ns.length ≤ 61) (h3 : ∀ s ∈ ns, s.size ≤ maxLen) (h4 : ∀ l ∈ ks, ∀ s ∈ l, s.size ≤ maxLen) : Told ns ks :=
  ⟨h1, by omega, fun s => Nat.le_trans (fin_len ns ks s) h2, h3, h4⟩
theorem Told.len {ns : List ByteArray} {ks : List (List ByteArray)} (h : Told ns ks) : (risL ns).length ≤ 60 := Nat.le_trans (risL_len ns) h.names
theorem new_law {an : Option Addr} {nn cn : Nat} {ns : List ByteArray} {ak : Option Addr} {ck : Nat} {ks : List (List ByteArray)} {w : World} (h : Told ns ks) (hS : IsS w an nn cn ns) (hK : IsSS w ak nn ck ks) :
    Calls Try.prog 9 #[.slice an nn cn, .slice ak nn ck] w fun e w' => ∃ gb, e = .returned (.tuple #[.pointer (some ⟨gb, 0, none⟩), .int .i64 0]) ∧ Gr w' gb (risL ns) (finN ns ks) ∧ Below w.heap.size w w' ∧ w.heap.size ≤ gb := by
  have := hS.length
  exact new_any an nn cn ns ak ck ks w hS hK h.size (by have := h.names; omega) (by have := h.all; rw [← hS.length]; omega)
theorem sort_law {w : World} {gb : Nat} {ns : List ByteArray} {ks : List (List ByteArray)} (h : Told ns ks) (hg : Gr w gb (risL ns) (finN ns ks)) :
    Calls Try.prog 10 #[.pointer (some ⟨gb, 0, none⟩)] w fun e w' => Below w.heap.size w w' ∧ (((∀ s ∈ ns, s ∈ topoL (risL ns) (finN ns ks)) ∧ ∃ v, e = .returned (.tuple #[v, .int .i64 0]) ∧ w'.ownsRow w.heap.size 9 1 v (topoL (risL ns) (finN ns ks)).length ((topoL (risL ns) (finN ns ks)).map Value.string)) ∨ ((¬ ∀ s ∈ ns, s ∈ topoL (risL ns) (finN ns ks)) ∧ e = .returned (.tuple #[.slice none 0 0, .int .i64 10]))) := by
  have hl := h.len
  refine (gsort_any w gb (risL ns) (finN ns ks) hg (by omega) (fin_tot h.names h.needs) (risL_inc ns) (fin_in ns ks) (fun s hs => h.size s (risL_mem.1 hs)) (need_size h.sizes)).mono ?_
  rintro e w' ⟨hb, out, W, C, hp, hk, hr⟩
  have ho := hp.topo (risL_inc ns) (fin_in ns ks)
  have ha := hp.all (risL_nodup ns) (fin_in ns ks) hk
  rw [ho] at ha hr
  have ha2 : (∀ s, W s = none) ↔ ∀ s ∈ ns, s ∈ topoL (risL ns) (finN ns ks) := ha.trans ⟨fun h s hs => h s (risL_mem.2 hs), fun h s hs => h s (risL_mem.1 hs)⟩
  refine ⟨hb, hr.imp (fun h => ⟨ha2.1 h.1, h.2⟩) (fun h => ⟨fun h2 => h.1 (ha2.2 h2), h.2⟩)⟩
theorem closure_law {w : World} {gb : Nat} {ns : List ByteArray} {ks : List (List ByteArray)} {ra : Option Addr} {rn rc : Nat} {R : List ByteArray} (h : Told ns ks) (hg : Gr w gb (risL ns) (finN ns ks)) (hR : IsS w ra rn rc R) (hrn : rn ≤ 100000) (hsz : ∀ s ∈ R, s.size ≤ maxLen) :
    Calls Try.prog 15 #[.pointer (some ⟨gb, 0, none⟩), .slice ra rn rc] w fun e w' => ∃ v mt, e = .returned v ∧ (∀ s, s ∈ mt ↔ Rch (finN ns ks) R s) ∧ w'.ownsRow w.heap.size 9 1 v (risL mt).length ((risL mt).map Value.string) ∧ Below w.heap.size w w' :=
  closure_any w gb (risL ns) (finN ns ks) ra rn rc R hg hR (by have := h.len; omega) (fun s => by have := h.needs s; omega) (fin_in ns ks) hsz (need_size h.sizes) hrn
theorem users_law {w : World} {gb : Nat} {ns : List ByteArray} {ks : List (List ByteArray)} (x : ByteArray) (h : Told ns ks) (hg : Gr w gb (risL ns) (finN ns ks)) :
    Calls Try.prog 17 #[.pointer (some ⟨gb, 0, none⟩), .string x] w fun e w' => ∃ (v : Value) (l : List ByteArray), e = .returned v ∧ l.Pairwise (fun x y => btsOf x < btsOf y) ∧ (∀ s, s ∈ l ↔ Need ns ks s x ∧ s ≠ x) ∧ w'.ownsRow w.heap.size 9 1 v l.length (l.map Value.string) ∧ Below w.heap.size w w' := by
  have hl := h.len
  refine (users_any w gb (risL ns) (finN ns ks) x hg (by omega) (fun s => by have := h.needs s; omega) (fun s hs => h.size s (risL_mem.1 hs))).mono ?_
  rintro e w' ⟨v, rfl, how, hb⟩
  refine ⟨v, _, rfl, ?_, fun s => ?_, how, hb⟩
  · have := usr_sub (risL ns) (finN ns ks) x (risL ns).length (Nat.le_refl _)
    rw [List.take_length] at this
    exact (risL_inc ns).sublist this
  · rw [usr_mem (fin_inc ns ks) _ (Nat.le_refl _), List.take_length, fin_mem, risL_mem]
    exact ⟨fun h => h.2, fun h => ⟨h.1.mem, h⟩⟩
/-! Where rows stand that were just built. -/
theorem has_isS {w : World} {b : Nat} {l : List ByteArray} (h : Has w b (l.map Value.string) 9) (hl : l.length ≤ 1000) : IsS w (some ⟨b, 0, none⟩) l.length l.length l := by
  refine ⟨rfl, .inr ⟨b, 0, rfl, h.lt, fun i hi => ?_⟩, (fun e => by cases e), ⟨Nat.le_refl _, by unfold maxLen; omega⟩⟩
  rw [Nat.zero_add]
  exact h.cellAt (by rw [List.getElem?_map, List.getElem?_eq_getElem hi, List.getD_eq_getElem?_getD, List.getElem?_eq_getElem hi]; rfl)
/-- An answer held against another. -/
theorem same_law {w : World} {B B' : Nat} {v v' : Value} {o o' : List ByteArray} (h : w.ownsRow B 9 1 v o.length (o.map Value.string)) (h' : w.ownsRow B' 9 1 v' o'.length (o'.map Value.string)) (he : o = o') (hl : o.length ≤ 100000) :
    Calls Try.prog 12 #[v, v'] w fun e w3 => e = .returned (.bool true) ∧ Below w.heap.size w w3 := by
  obtain ⟨a, c, rfl, hs⟩ := owns_isS h
  obtain ⟨a', c', rfl, hs'⟩ := owns_isS h'
  refine (rfsame_any a a' _ _ c c' o o' w hs hs' (by omega) (by rw [← he]; omega)).mono ?_
  rintro e w3 ⟨b, rfl, hbt, hb3⟩
  rw [hbt.2 he]
  exact ⟨rfl, hb3⟩
end Go.Proofs.Ytdliecailkkciaa

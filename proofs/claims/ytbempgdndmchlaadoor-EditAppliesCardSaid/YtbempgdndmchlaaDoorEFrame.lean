/-
  What a change of some rows leaves as it was; a tree in rows of its own as one that may be read. No program text but the types' numbers.
-/
import Derived.Test.YtbempgdndmchlaaDoorEMem
namespace Go.Proofs.YtbempgdndmchlaaDoor
open Go.RowKit
set_option linter.unusedVariables false

/-- All blocks but these are as they were. -/
structure Fr (S : List Nat) (w w' : World) : Prop where
  os : w'.os = w.os
  tape : w'.tape = w.tape
  output : w'.output = w.output
  size : w.heap.size ≤ w'.heap.size
  block : ∀ g, g < w.heap.size → g ∉ S → w'.heap[g]? = w.heap[g]?

theorem Fr.refl (S : List Nat) (w : World) : Fr S w w := ⟨rfl, rfl, rfl, Nat.le_refl _, fun _ _ _ => rfl⟩
theorem Fr.trans {S S' : List Nat} {w w1 w2 : World} (h : Fr S w w1) (h' : Fr S' w1 w2) (hs : ∀ g ∈ S', g < w.heap.size → g ∈ S) : Fr S w w2 :=
  ⟨h'.os.trans h.os, h'.tape.trans h.tape, h'.output.trans h.output, Nat.le_trans h.size h'.size, fun g hg hn =>
    (h'.block g (Nat.lt_of_lt_of_le hg h.size) (fun hm => hn (hs g hm hg))).trans (h.block g hg hn)⟩
theorem Fr.mono {S S' : List Nat} {w w' : World} (h : Fr S w w') (hs : ∀ g ∈ S, g < w.heap.size → g ∈ S') : Fr S' w w' :=
  ⟨h.os, h.tape, h.output, h.size, fun g hg hn => h.block g hg fun hm => hn (hs g hm hg)⟩
theorem Fr.of_below {S : List Nat} {w w' : World} (h : Below w.heap.size w w') : Fr S w w' := ⟨h.os, h.tape, h.output, h.size, fun g hg _ => h.block g hg⟩
theorem Fr.of_grown {S : List Nat} {w w' : World} {o : Option Nat} (h : w.grownBy w' o) (ho : ∀ g, o = some g → g ∈ S) : Fr S w w' :=
  ⟨h.os, h.tape, h.output, h.size, fun g hg hn => h.block g hg fun e => hn (ho g e.symm)⟩
theorem Fr.of_but {S : List Nat} {w w' : World} {q : Nat} (h : But w.heap.size q w w') (hq : q ∈ S ∨ w.heap.size ≤ q) : Fr S w w' :=
  ⟨h.os, h.tape, h.output, h.size, fun g hg hn => h.block g hg fun e => by
    subst e
    rcases hq with h1 | h1
    · exact hn h1
    · omega⟩
theorem Fr.below {S : List Nat} {w w' : World} {B : Nat} (h : Fr S w w') (hB : B ≤ w.heap.size) (hS : ∀ g ∈ S, B ≤ g) : Below B w w' :=
  ⟨h.os, h.tape, h.output, h.size, fun g hg => h.block g (Nat.lt_of_lt_of_le hg hB) fun hm => by have := hS g hm; omega⟩

/-- These are blocks that hold no bytes. -/
def Rows (w : World) (S : List Nat) : Prop := ∀ g ∈ S, ∃ L t, w.heap[g]? = some (.cells L t (0, 0)) ∧ t ≠ 5

theorem Rows.lt {w : World} {S : List Nat} (h : Rows w S) {g : Nat} (hg : g ∈ S) : g < w.heap.size := by
  obtain ⟨L, t, hL, _⟩ := h g hg
  exact (Array.getElem?_eq_some_iff.1 hL).1
theorem Rows.later {w w' : World} {S S' : List Nat} (h : Rows w S) (hf : Fr S' w w') (hd : ∀ g ∈ S, g ∉ S') : Rows w' S := fun g hg => by
  obtain ⟨L, t, hL, ht⟩ := h g hg
  exact ⟨L, t, (hf.block g (h.lt hg) (hd g hg)).trans hL, ht⟩
theorem Rows.append {w : World} {S S' : List Nat} (h : Rows w S) (h' : Rows w S') : Rows w (S ++ S') := fun g hg => by
  rcases List.mem_append.1 hg with h1 | h1
  · exact h g h1
  · exact h' g h1
theorem Rows.of_owns {w : World} {B : Nat} {t : TypeId} {size n : Nat} {v : Value} {xs : List Value} (h : w.ownsRow B t size v n xs) (ht : t ≠ 5) : Rows w (blk v) := fun g hg => by
  rw [mem_blk] at hg
  rcases h.2 with ⟨rfl, _⟩ | ⟨q, cap, cur, rfl, _, hq, _⟩
  · cases hg
  · cases hg
    exact ⟨cur, t, hq, ht⟩

theorem owns_fr {w w' : World} {S : List Nat} {B : Nat} {t : TypeId} {size n : Nat} {v : Value} {xs : List Value} (h : w.ownsRow B t size v n xs) (hf : Fr S w w') (hd : ∀ g ∈ blk v, g ∉ S) : w'.ownsRow B t size v n xs := by
  refine ⟨h.1, ?_⟩
  rcases h.2 with hn | ⟨g, cap, cur, rfl, hg, hgg, rest⟩
  · exact .inl hn
  · exact .inr ⟨g, cap, cur, rfl, hg, (hf.block g (Array.getElem?_eq_some_iff.1 hgg).1 (hd g (mem_blk.2 rfl))).trans hgg, rest⟩
theorem owns_bytes {w w' : World} {S : List Nat} {B : Nat} {size n : Nat} {v : Value} {xs : List Value} (h : w.ownsRow B 5 size v n xs) (hf : Fr S w w') (hS : Rows w S) : w'.ownsRow B 5 size v n xs := by
  refine ⟨h.1, ?_⟩
  rcases h.2 with hn | ⟨g, cap, cur, rfl, hg, hgg, rest⟩
  · exact .inl hn
  · refine .inr ⟨g, cap, cur, rfl, hg, (hf.block g (Array.getElem?_eq_some_iff.1 hgg).1 fun hm => ?_).trans hgg, rest⟩
    obtain ⟨L, t, hL, ht⟩ := hS g hm
    rw [hgg] at hL
    cases hL
    exact ht rfl

/-- A tree in rows that a change leaves alone. -/
theorem MT.frame {w w' : World} {S : List Nat} {B : Nat} (hf : Fr S w w') (hS : Rows w S) {cs : List Value} {t : T} {S' : List Nat} (h : MT w B cs t S') : (∀ g ∈ S', g ∉ S) → MT w' B cs t S' := by
  induction h with
  | @mk k x d ns ks vd vn vk L Ss hd hn hk hs hnd ih =>
    intro hD
    have h1 : ∀ g ∈ blk vn, g ∉ S := fun g hg => hD g (by simp [hg])
    have h2 : ∀ g ∈ blk vk, g ∉ S := fun g hg => hD g (by simp [hg])
    refine MT.mk (owns_bytes hd hf hS) (owns_fr hn hf h1) (owns_fr hk hf h2) (fun i hi => ih i hi fun g hg => hD g ?_) hnd
    exact List.mem_append_right _ (List.mem_flatMap.2 ⟨i, List.mem_range.2 hi, hg⟩)

theorem MT.rows {w : World} {B : Nat} {cs : List Value} {t : T} {S : List Nat} (h : MT w B cs t S) : Rows w S := by
  induction h with
  | @mk k x d ns ks vd vn vk L Ss hd hn hk hs hnd ih =>
    refine (Rows.append (Rows.of_owns hn (by decide)) (Rows.of_owns hk (by decide))).append fun g hg => ?_
    obtain ⟨i, hi, h8⟩ := List.mem_flatMap.1 hg
    exact ih i (List.mem_range.1 hi) g h8

theorem MT.from {w : World} {B : Nat} {cs : List Value} {t : T} {S : List Nat} (h : MT w B cs t S) : ∀ g ∈ S, B ≤ g := by
  have hv : ∀ {ty : TypeId} {size n : Nat} {v : Value} {xs : List Value} {g : Nat}, w.ownsRow B ty size v n xs → g ∈ blk v → B ≤ g := fun h hg => by
    rw [mem_blk] at hg
    rcases h.2 with ⟨rfl, _⟩ | ⟨q, cap, cur, rfl, hq, _⟩
    · cases hg
    · cases hg; exact hq
  induction h with
  | @mk k x d ns ks vd vn vk L Ss hd hn hk hs hnd ih =>
    intro g hg
    rcases List.mem_append.1 hg with h1 | h1
    · rcases List.mem_append.1 h1 with h2 | h2
      · exact hv hn h2
      · exact hv hk h2
    · obtain ⟨i, hi, h8⟩ := List.mem_flatMap.1 h1
      exact ih i (List.mem_range.1 hi) g h8

theorem MT.low {w : World} {B B' : Nat} (hB : B' ≤ B) {cs : List Value} {t : T} {S : List Nat} (h : MT w B cs t S) : MT w B' cs t S := by
  induction h with
  | @mk k x d ns ks vd vn vk L Ss hd hn hk hs hnd ih => exact MT.mk (owns_low hd hB) (owns_low hn hB) (owns_low hk hB) ih hnd

theorem MT.five {w : World} {B : Nat} {cs : List Value} {t : T} {S : List Nat} (h : MT w B cs t S) : cs.length = 5 := by
  cases h; rfl
theorem owns_one {v : Value} {w : World} {B n size : Nat} {t : TypeId} {xs : List Value} (h : w.ownsRow B t size v n xs) : v.oneCell' = true := by
  rcases h.2 with ⟨rfl, _⟩ | ⟨q, cap, cur, rfl, _⟩ <;> rfl
theorem MT.one {w : World} {B : Nat} {cs : List Value} {t : T} {S : List Nat} (h : MT w B cs t S) : ∀ u ∈ cs, u.oneCell' = true := by
  cases h with
  | mk hd hn hk hs hnd =>
    intro u hu
    simp only [List.mem_cons, List.not_mem_nil, or_false] at hu
    rcases hu with rfl | rfl | rfl | rfl | rfl
    · rfl
    · rfl
    · exact owns_one hd
    · exact owns_one hn
    · exact owns_one hk

/-- It may be read. -/
theorem MT.isT {w : World} {B : Nat} {cs : List Value} {t : T} {S : List Nat} (h : MT w B cs t S) : ∀ n, sizeN t ≤ n → Small t → IsT w n cs t := by
  induction h with
  | @mk k x d ns ks vd vn vk L Ss hd hn hk hs hnd ih =>
    intro n hz hsm
    rw [sizeN_mk] at hz
    obtain ⟨m, rfl⟩ : ∃ m, n = m + 1 := ⟨n - 1, by omega⟩
    cases hsm with
    | mk s1 s2 s3 =>
      obtain ⟨ad, cd, rfl, iB⟩ := isB_owned hd s3.1
      obtain ⟨an, cn, rfl, iS⟩ := isS_owned hn
      have hK : ∃ ak ck, vk = .slice ak ks.length ck ∧ IsK (IsT w m) w ak ks.length ck ks := by
        rcases hk.2 with ⟨rfl, h0⟩ | ⟨g, cap, cur, rfl, hg, hgg, hle, hmx, hsz, htk⟩
        · exact ⟨none, 0, by rw [h0], rfl, .inl h0, fun _ => ⟨h0, rfl⟩, by omega, Nat.zero_le _⟩
        · refine ⟨_, _, rfl, rfl, .inr ⟨g, 0, rfl, (Array.getElem?_eq_some_iff.1 hgg).1, fun i hi => ?_⟩, (fun e => by cases e), hle, hmx⟩
          have hi5 := (hs i hi).five
          obtain ⟨c0, c1, c2, c3, c4, h5⟩ := five_list hi5
          obtain ⟨a0, a1, a2, a3, a4⟩ := five_at h5
          have hT := ih i hi m (by have := sizeNL_get hi; omega) (s2 i hi)
          rw [h5] at hT
          have hc : ∀ {j : Nat} {v : Value}, L[j]? = some v → w.cell? ⟨g, 0 + j, none⟩ = some v := fun {j v} hj => by
            rw [Nat.zero_add]
            rw [cell_of_row w g j cur _ (0, 0) hgg]
            rw [← htk, List.getElem?_take] at hj
            split at hj
            · rw [← hj]; simp
            · cases hj
          exact ⟨c0, c1, c2, c3, c4, hT, hc a0, hc a1, hc a2, hc a3, hc a4⟩
      obtain ⟨ak, ck, rfl, iK⟩ := hK
      exact ⟨ad, _, cd, an, _, cn, ak, _, ck, rfl, iB, iS, iK⟩

end Go.Proofs.YtbempgdndmchlaaDoor

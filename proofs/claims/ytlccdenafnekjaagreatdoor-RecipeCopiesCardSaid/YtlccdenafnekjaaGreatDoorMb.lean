/-
  What the laws of recipe rest on, part 2: the code's functions as functions on lists and trees, and what each call does.
-/
import Derived.Laws.ResultCell
import Derived.Laws.Rows
import Derived.Deep.LoopGhost
import Derived.Deep.RegionWith
import Derived.Shelf.Spec.SearchS
import Derived.Laws.CopyRow
import Derived.Laws.IdiomCopy
import Derived.Lib.Overlaps
import Derived.Lib.AppendZeros
import Derived.Lib.AppendZerosOnto
import Derived.Deep.AppendLies
import Derived.Shelf.Spec.SlicesInsert
import Derived.WalkSpells
import Derived.Shelf.Spec.SlicesInsertGrow
import Derived.Test.YtlccdenafnekjaaGreatDoorMa
namespace Go.Proofs.YtlccdenafnekjaaGreatDoor
open Go.RowKit
set_option linter.unusedVariables false

/-- The row that a value lies in. -/
def blk (v : Value) : List Nat := match v.ownBlock with
  | some g => [g]
  | none => []
theorem mem_blk {v : Value} {g : Nat} : g ∈ blk v ↔ v.ownBlock = some g := by
  unfold blk
  cases v.ownBlock with
  | none => simp
  | some q => simp [eq_comm]
theorem blk_nodup (v : Value) : (blk v).Nodup := by
  unfold blk
  cases v.ownBlock with
  | none => simp
  | some q => simp

/-- Five values that read as a tree, in rows of its own; S: these rows (of names, of kids), each once. -/
inductive MT (w : World) (B : Nat) : List Value → T → List Nat → Prop where
  | mk {k : UInt8} {x : Bool} {d : List UInt8} {ns : List ByteArray} {ks : List T} {vd vn vk : Value} {L : List Value} {Ss : Nat → List Nat}
      (hd : w.ownsRow B 5 1 vd d.length (d.map bv)) (hn : w.ownsRow B 9 1 vn ns.length (ns.map Value.string)) (hk : w.ownsRow B 37 5 vk ks.length L)
      (hs : ∀ i, i < ks.length → MT w B (five L i) (ks.getD i default) (Ss i))
      (hnd : (blk vn ++ blk vk ++ (List.range ks.length).flatMap Ss).Nodup) :
      MT w B [.int .u8 (k.toNat : Int), .bool x, vd, vn, vk] (.mk k x d ns ks) (blk vn ++ blk vk ++ (List.range ks.length).flatMap Ss)

theorem MT.nodup {w : World} {B : Nat} {cs : List Value} {t : T} {S : List Nat} (h : MT w B cs t S) : S.Nodup := by
  cases h with
  | mk _ _ _ _ h => exact h

/-! Who belongs to whom. -/
inductive Anc (O : Nat → Option (Nat × Nat)) (s : Nat × Nat) : Nat → Prop where
  | base {g : Nat} (h : O g = some s) : Anc O s g
  | step {g g' j : Nat} (h : O g = some (g', j)) (ha : Anc O s g') : Anc O s g
theorem anc_lt {O : Nat → Option (Nat × Nat)} (hO : ∀ g s, O g = some s → s.1 < g) {s : Nat × Nat} {g : Nat} (h : Anc O s g) : s.1 < g := by
  induction h with
  | base h => exact hO _ _ h
  | step h _ ih => exact Nat.lt_trans ih (hO _ _ h)
theorem anc_up {O : Nat → Option (Nat × Nat)} {s : Nat × Nat} {kb i g : Nat} (h : Anc O (kb, i) g) (hk : O kb = some s) : Anc O s g := by
  induction h with
  | base h => exact .step h (.base hk)
  | step h _ ih => exact .step h ih
theorem anc_not {O : Nat → Option (Nat × Nat)} (hO : ∀ g s, O g = some s → s.1 < g) {s : Nat × Nat} {kb i g : Nat} (h : Anc O (kb, i) g) (hk : O kb = some s) : O g ≠ some s := by
  intro hg
  have h1 := hO _ _ hk
  cases h with
  | base h => rw [hg] at h; cases h; omega
  | step h ha =>
    rw [hg] at h
    cases h
    have := anc_lt hO ha
    simp only at this h1
    omega
theorem anc_apart {O : Nat → Option (Nat × Nat)} (hO : ∀ g s, O g = some s → s.1 < g) {b i j : Nat} : ∀ (n g : Nat), g ≤ n → Anc O (b, i) g → Anc O (b, j) g → i = j
  | 0, g, hn, h1, _ => by have := anc_lt hO h1; omega
  | n + 1, g, hn, h1, h2 => by
    cases h1 with
    | base a =>
      cases h2 with
      | base c => rw [a] at c; cases c; rfl
      | step c d =>
        rw [a] at c; cases c
        have := anc_lt hO d
        simp at this
    | step a e =>
      cases h2 with
      | base c =>
        rw [a] at c; cases c
        have := anc_lt hO e
        simp at this
      | step c d =>
        rw [a] at c; cases c
        have := hO _ _ a
        exact anc_apart hO n _ (by simp only at this; omega) e d

theorem flatMap_nodup {n : Nat} {f : Nat → List Nat} (h1 : ∀ i, i < n → (f i).Nodup) (h2 : ∀ i j, i < n → j < n → i ≠ j → ∀ g, g ∈ f i → g ∉ f j) : ((List.range n).flatMap f).Nodup := by
  induction n with
  | zero => simp
  | succ n ih =>
    rw [List.range_succ, List.flatMap_append, List.nodup_append]
    refine ⟨ih (fun i hi => h1 i (by omega)) (fun i j hi hj => h2 i j (by omega) (by omega)), by simpa using h1 n (by omega), fun a ha b hb => ?_⟩
    obtain ⟨i, hi, hai⟩ := List.mem_flatMap.1 ha
    have hi := List.mem_range.1 hi
    have hbn : b ∈ f n := by simpa using hb
    exact fun e => h2 i n (by omega) (by omega) (by omega) a hai (e ▸ hbn)

/-- A copy is a tree in rows of its own. -/
theorem mt_closed {w : World} {B : Nat} {G : Nat → Option (List T)} {O : Nat → Option (Nat × Nat)} (hall : ∀ b ks, G b = some ks → B ≤ b ∧ EDone w B G O b ks) (hO : ∀ g s, O g = some s → B ≤ g ∧ s.1 < g) :
    ∀ (n : Nat) (s : Nat × Nat) (cs : List Value) (t : T), sizeN t ≤ n → EFlat w B G O s cs t → ∃ S, MT w B cs t S ∧ ∀ g ∈ S, B ≤ g ∧ Anc O s g
  | 0, s, cs, t, hn, _ => by have := sizeN_pos t; omega
  | n + 1, s, cs, .mk k x d ns ks, hn, hf => by
    have hO1 : ∀ g s, O g = some s → s.1 < g := fun g s h => (hO g s h).2
    obtain ⟨vd, vn, ak, nk, ck, rfl, hd, hnm, rfl, h2, h3, h4, h5⟩ := hf
    rw [sizeN_mk] at hn
    rcases h4 with ⟨rfl, rfl, rfl⟩ | ⟨b, rfl, hks, hg, hob, hcap⟩
    · refine ⟨_, MT.mk (L := []) (Ss := fun _ => []) hd hnm (World.ownsRow_nil _ _ _ _) (fun i hi => by simp at hi) ?_, fun g hg => ?_⟩
      · simp [blk, Value.ownBlock]
        exact blk_nodup vn
      · simp [blk, Value.ownBlock] at hg
        have hg2 : g ∈ blk vn := hg
        have := h5 g (mem_blk.1 hg2)
        exact ⟨(hO _ _ this).1, .base this⟩
    · obtain ⟨hBb, L, hL, hF⟩ := hall b ks hg
      have hrec : ∀ i, i < ks.length → ∃ S, MT w B (five L i) (ks.getD i default) S ∧ ∀ g ∈ S, B ≤ g ∧ Anc O (b, i) g := fun i hi =>
        mt_closed hall hO n (b, i) (five L i) (ks.getD i default) (by have := sizeNL_get hi; omega) (hF i hi)
      have hch : ∃ Ss : Nat → List Nat, ∀ i, i < ks.length → MT w B (five L i) (ks.getD i default) (Ss i) ∧ ∀ g ∈ Ss i, B ≤ g ∧ Anc O (b, i) g := by
        refine ⟨fun i => if h : i < ks.length then Classical.choose (hrec i h) else [], fun i hi => ?_⟩
        simp only [dif_pos hi]
        exact Classical.choose_spec (hrec i hi)
      obtain ⟨Ss, hSs⟩ := hch
      have hLl : L.length = ck * 5 := by rw [hcap]; exact (bsize_has hL).symm
      have hLh : w.heap[b]? = some (.cells L.toArray 37 (0, 0)) := hL
      have hrow : w.ownsRow B 37 5 (.slice (some ⟨b, 0, none⟩) ks.length ck) ks.length (L.take (ks.length * 5)) :=
        ⟨by rw [List.length_take, hLl]; omega, .inr ⟨b, ck, L.toArray, rfl, hBb, hLh, h2, h3, by simpa using hLl, by simp⟩⟩
      have hne : ∀ g, g ∈ blk vn → g ≠ b := fun g hg' e => by
        subst e
        rcases hnm.2 with ⟨rfl, _⟩ | ⟨q, cap, cur, rfl, _, hqq, _⟩
        · simp [blk, Value.ownBlock] at hg'
        · simp [blk, Value.ownBlock] at hg'
          subst hg'
          rw [hqq] at hLh
          cases hLh
      have hmem : ∀ g, g ∈ (List.range ks.length).flatMap Ss → ∃ i, i < ks.length ∧ g ∈ Ss i := fun g hg' => by
        obtain ⟨i, hi, h⟩ := List.mem_flatMap.1 hg'
        exact ⟨i, List.mem_range.1 hi, h⟩
      have hbk : blk (.slice (some ⟨b, 0, none⟩) ks.length ck) = [b] := rfl
      refine ⟨_, MT.mk (Ss := Ss) hd hnm hrow (fun i hi => by rw [five_take hi]; exact (hSs i hi).1) ?_, fun g hg' => ?_⟩
      · rw [hbk, List.nodup_append, List.nodup_append]
        refine ⟨⟨blk_nodup vn, by simp, fun a ha c hc => ?_⟩, flatMap_nodup (fun i hi => ?_) (fun i j hi hj hij g h6 h7 => ?_), fun a ha c hc e => ?_⟩
        · simp at hc; subst hc; exact hne a ha
        · exact (hSs i hi).1.nodup
        · exact hij (anc_apart hO1 g g (Nat.le_refl _) ((hSs i hi).2 g h6).2 ((hSs j hj).2 g h7).2)
        · subst e
          obtain ⟨i, hi, h8⟩ := hmem a hc
          have han := ((hSs i hi).2 a h8).2
          rcases List.mem_append.1 ha with h9 | h9
          · exact anc_not hO1 han hob (h5 a (mem_blk.1 h9))
          · simp at h9
            subst h9
            exact anc_not hO1 han hob hob
      · rcases List.mem_append.1 hg' with h6 | h6
        · rcases List.mem_append.1 h6 with h7 | h7
          · have := h5 g (mem_blk.1 h7)
            exact ⟨(hO _ _ this).1, .base this⟩
          · rw [hbk] at h7
            simp at h7
            subst h7
            exact ⟨hBb, .base hob⟩
        · obtain ⟨i, hi, h8⟩ := hmem g h6
          exact ⟨((hSs i hi).2 g h8).1, anc_up ((hSs i hi).2 g h8).2 hob⟩

end Go.Proofs.YtlccdenafnekjaaGreatDoor
namespace Go.Proofs.YtlccdenafnekjaaGreatDoor
open Go.RowKit
set_option linter.unusedVariables false

def zT : List Value := [.int .u8 0, .bool false, .slice none 0 0, .slice none 0 0, .slice none 0 0]
def entV (p : Nat × List T × Nat) : Value := .slice (some ⟨p.1, 0, none⟩) p.2.1.length p.2.2
def muS (S : List (Nat × List T × Nat)) : Nat := (S.map fun p => sizeNL p.2.1).sum
theorem muS_snoc (S : List (Nat × List T × Nat)) (p : Nat × List T × Nat) : muS (S ++ [p]) = muS S + sizeNL p.2.1 := by simp [muS]
theorem muS_len : ∀ (S : List (Nat × List T × Nat)), (∀ p ∈ S, p.2.1 ≠ []) → S.length ≤ muS S
  | [], _ => by simp
  | p :: S, h => by
    have h1 := muS_len S (fun q hq => h q (by simp [hq]))
    have h2 := sizeNL_len p.2.1
    have h3 : p.2.1.length ≠ 0 := fun e => h p (by simp) (List.eq_nil_of_length_eq_zero e)
    have e : muS (p :: S) = sizeNL p.2.1 + muS S := by simp [muS]
    rw [e, List.length_cons]
    omega

def SmG (G : Nat → Option (List T)) : Prop := ∀ b ks, G b = some ks → ∀ i, i < ks.length → Small (ks.getD i default)

/-- At the head of the outer loop: at most so many trees are to be met. -/
def EOut (w : World) (t : T) (g1 g2 : Nat) (k : Nat) (tv : Value) (wr : World) : Prop :=
  ∃ S G O, wr.ownsRow w.heap.size 35 1 tv S.length (S.map entV) ∧ ECpy w wr G O S none ∧ G g2 = some [t] ∧ muS S = k ∧ k ≤ sizeN t ∧ Has wr g1 zT 37 ∧ (∀ b ks, G b = some ks → g1 < b) ∧ SmG G

/-- At the head of the inner loop: i trees of row b have lists of their own. -/
def EIn (w : World) (t : T) (g1 g2 b : Nat) (ks : List T) (M i : Nat) (tv : Value) (wr : World) : Prop :=
  ∃ S G O L, wr.ownsRow w.heap.size 35 1 tv S.length (S.map entV) ∧ ECpy w wr G O S (some b) ∧ G g2 = some [t] ∧ G b = some ks ∧ muS S + sizeNL (ks.drop i) + i ≤ M ∧ Has wr b L 37 ∧
    (∀ j, j < i → EFlat wr w.heap.size G O (b, j) (five L j) (ks.getD j default)) ∧ (∀ j, i ≤ j → j < ks.length → ∃ n, IsT w n (five L j) (ks.getD j default)) ∧ Has wr g1 zT 37 ∧ (∀ b ks, G b = some ks → g1 < b) ∧ SmG G

def ECopyPost (w : World) (t : T) (e : Ending) (w' : World) : Prop := ∃ cs G O s, e = .returned (.agg cs.toArray) ∧ EClosed w' w.heap.size G O s cs t ∧ Below w.heap.size w w'


theorem owns_alloc_lit (w : World) (B : Nat) (cs : List Value) (e : TypeId) (n size : Nat) (hb : B ≤ w.heap.size) (hm : n ≤ maxLen) (hs : cs.length = n * size) :
    (w.alloc (.cells cs.toArray e)).ownsRow B e size (.slice (some ⟨w.heap.size, 0, none⟩) n n) n cs :=
  ⟨hs, .inr ⟨w.heap.size, n, cs.toArray, rfl, hb, heap_alloc_new w _, Nat.le_refl _, hm, by simpa using hs, by simp [← hs]⟩⟩

theorem copy_start {w : World} {n : Nat} {t : T} {c0 c1 c2 c3 c4 : Value} (hT : IsT w n [c0, c1, c2, c3, c4] t) (hs : Small t) :
    EOut w t (w.heap.size + 1) (w.heap.size + 1 + 1) (sizeN t) (.slice (some ⟨w.heap.size + 1 + 1 + 1, 0, none⟩) 1 1)
      ((((w.alloc (.cells #[c0, c1, c2, c3, c4] 37)).alloc (.cells #[.int .u8 0, .bool false, .slice none 0 0, .slice none 0 0, .slice none 0 0] 37)).alloc (.cells #[c0, c1, c2, c3, c4] 37)).alloc (.cells #[.slice (some ⟨w.heap.size + 1 + 1, 0, none⟩) 1 1] 35)) := by
  obtain ⟨w1, hw1⟩ : ∃ w1, w1 = w.alloc (.cells #[c0, c1, c2, c3, c4] 37) := ⟨_, rfl⟩
  have e1 : w1.heap.size = w.heap.size + 1 := by rw [hw1]; simp
  have b1 : Below w.heap.size w w1 := by rw [hw1]; exact (Below.refl _ _).alloc (Nat.le_refl _) _
  rw [← hw1]
  obtain ⟨w2, hw2⟩ : ∃ w2, w2 = w1.alloc (.cells #[.int .u8 0, .bool false, .slice none 0 0, .slice none 0 0, .slice none 0 0] 37) := ⟨_, rfl⟩
  have e2 : w2.heap.size = w.heap.size + 1 + 1 := by rw [hw2, ← e1]; simp
  have z2 : Has w2 (w.heap.size + 1) zT 37 := by rw [hw2, ← e1]; exact Has.new w1 zT _
  have b2 : Below w.heap.size w w2 := by rw [hw2]; exact b1.alloc b1.size _
  rw [← hw2]
  obtain ⟨w3, hw3⟩ : ∃ w3, w3 = w2.alloc (.cells #[c0, c1, c2, c3, c4] 37) := ⟨_, rfl⟩
  have e3 : w3.heap.size = w.heap.size + 1 + 1 + 1 := by rw [hw3, ← e2]; simp
  have y3 : Has w3 (w.heap.size + 1 + 1) [c0, c1, c2, c3, c4] 37 := by rw [hw3, ← e2]; exact Has.new w2 _ _
  have z3 : Has w3 (w.heap.size + 1) zT 37 := by rw [hw3]; exact z2.alloc _
  have b3 : Below w.heap.size w w3 := by rw [hw3]; exact b2.alloc b2.size _
  rw [← hw3]
  have o4 := owns_alloc_lit w3 w.heap.size [.slice (some ⟨w.heap.size + 1 + 1, 0, none⟩) 1 1] 35 1 1 (by omega) (by unfold maxLen; omega) rfl
  rw [e3] at o4
  have y4 := y3.alloc (.cells #[.slice (some ⟨w.heap.size + 1 + 1, 0, none⟩) 1 1] 35)
  have z4 := z3.alloc (.cells #[.slice (some ⟨w.heap.size + 1 + 1, 0, none⟩) 1 1] 35)
  have b4 := b3.alloc b3.size (.cells #[.slice (some ⟨w.heap.size + 1 + 1, 0, none⟩) 1 1] 35)
  refine ⟨[(w.heap.size + 1 + 1, [t], 1)], fun x => if x = w.heap.size + 1 + 1 then some [t] else none, fun _ => none, o4, ⟨b4, ?_, ?_, ?_, by simp, fun g s hg => by cases hg⟩, by simp, by simp [muS, sizeNL], Nat.le_refl _, z4, ?_, ?_⟩
  · intro b ks hg
    by_cases e : b = w.heap.size + 1 + 1
    · subst e; exact ⟨by omega, y4.lt⟩
    · simp [e] at hg
  · intro b ks hg hS hc
    by_cases e : b = w.heap.size + 1 + 1
    · subst e; exact absurd rfl (hS (w.heap.size + 1 + 1, [t], 1) (by simp))
    · simp [e] at hg
  · intro p hp
    simp only [List.mem_cons, List.not_mem_nil, or_false] at hp
    subst hp
    refine ⟨by simp, ⟨_, y4, fun i hi => ?_⟩, by simp, by simp, by simp, by unfold maxLen; simp⟩
    obtain rfl : i = 0 := by simp at hi; omega
    exact ⟨n, by simpa [five] using hT⟩
  · intro b ks hg
    by_cases e : b = w.heap.size + 1 + 1
    · subst e; omega
    · simp [e] at hg
  · intro b ks hg i hi
    by_cases e : b = w.heap.size + 1 + 1
    · simp [e] at hg; subst hg
      obtain rfl : i = 0 := by simp at hi; omega
      simpa using hs
    · simp [e] at hg

theorem EClosed.but {w w' : World} {B q : Nat} {G : Nat → Option (List T)} {O : Nat → Option (Nat × Nat)} {s : Nat × Nat} {cs : List Value} {t : T} (h : EClosed w B G O s cs t) (hb : But w.heap.size q w w') (hq : Far w q) (hne : ∀ ks, G q ≠ some ks) : EClosed w' B G O s cs t :=
  ⟨fun b ks hg => ⟨(h.1 b ks hg).1, (h.1 b ks hg).2.but hb hq (fun e => hne ks (e ▸ hg)) (fun _ _ h => h) (fun _ _ h => h) (fun ks hg => absurd hg (hne ks))⟩, h.2.1.but hb hq (fun _ _ h => h) (fun _ _ h => h) (fun ks hg => absurd hg (hne ks)), h.2.2⟩

theorem flat_one {w : World} {B : Nat} {G : Nat → Option (List T)} {cs : List Value} {t : T} (h : Flat w B G cs t) : cs.length = 5 ∧ cs.toArray.all (·.oneCell') = true := by
  obtain ⟨k, x, d, ns, ks⟩ := t
  obtain ⟨vd, vn, ak, nk, ck, rfl, hd, hn, _⟩ := h
  refine ⟨rfl, ?_⟩
  have h1 : vd.oneCell' = true := by rcases hd.2 with ⟨rfl, _⟩ | ⟨g, cap, cur, rfl, _⟩ <;> rfl
  have h2 : vn.oneCell' = true := by rcases hn.2 with ⟨rfl, _⟩ | ⟨g, cap, cur, rfl, _⟩ <;> rfl
  simp [h1, h2]
  exact ⟨rfl, rfl, rfl⟩

theorem owns_pre {w : World} {B : Nat} {e : TypeId} {g n cap : Nat} {xs : List Value} {x : Value} (h : w.ownsRow B e 1 (.slice (some ⟨g, 0, none⟩) (n + 1) cap) (n + 1) (xs ++ [x])) : w.ownsRow B e 1 (.slice (some ⟨g, 0, none⟩) n cap) n xs := by
  have hl : xs.length = n := by have := h.1; simp at this; exact this
  rcases h.2 with ⟨h0, _⟩ | ⟨g', cap', cur, he, hg, hgg, hle, hmx, hsz, htk⟩
  · cases h0
  · cases he
    refine ⟨by omega, .inr ⟨g, cap, cur, rfl, hg, hgg, by omega, hmx, hsz, ?_⟩⟩
    have := congrArg (List.take n) htk
    rw [List.take_take, List.take_append_of_le_length (by omega), List.take_of_length_le (l := xs) (by omega)] at this
    rw [Nat.mul_one, ← this]
    congr 1
    omega

/-- In the middle of a round of the inner loop: tree i of row b is being given lists of its own. -/
structure EMid (w : World) (t : T) (g1 g2 b : Nat) (ks : List T) (i : Nat) (S : List (Nat × List T × Nat)) (G : Nat → Option (List T)) (O : Nat → Option (Nat × Nat)) (L : List Value) (wr : World) : Prop where
  cpy : ECpy w wr G O S (some b)
  root : G g2 = some [t]
  gb : G b = some ks
  has : Has wr b L 37
  done : ∀ j, j < i → EFlat wr w.heap.size G O (b, j) (five L j) (ks.getD j default)
  old : ∀ j, i < j → j < ks.length → ∃ n, IsT w n (five L j) (ks.getD j default)
  res : Has wr g1 zT 37
  g1lt : ∀ b ks, G b = some ks → g1 < b
  sm : SmG G

section
variable {w wr w' : World} {t : T} {g1 g2 b i : Nat} {ks : List T} {S : List (Nat × List T × Nat)} {G : Nat → Option (List T)} {O : Nat → Option (Nat × Nat)} {L : List Value}

theorem EMid.but {q : Nat} (h : EMid w t g1 g2 b ks i S G O L wr) (hb : But wr.heap.size q wr w') (hq : Far wr q) (hB : w.heap.size ≤ q) (hne : ∀ ks, G q ≠ some ks) (hz : q ≠ g1) : EMid w t g1 g2 b ks i S G O L w' :=
  ⟨h.cpy.but hb hq hB (fun ks hg => absurd hg (hne ks)) (fun ks hg => absurd hg (hne ks)), h.root, h.gb, h.has.but hb h.has.lt (fun e => hne ks (e ▸ h.gb)), fun j hj => (h.done j hj).but hb hq (fun _ _ h => h) (fun _ _ h => h) (fun ks hg => absurd hg (hne ks)), h.old,
    h.res.but hb h.res.lt (fun e => hz e.symm), h.g1lt, h.sm⟩

theorem EMid.later (h : EMid w t g1 g2 b ks i S G O L wr) (hb : Below wr.heap.size wr w') : EMid w t g1 g2 b ks i S G O L w' :=
  h.but (q := wr.heap.size) (But.of_below hb) (far_new wr) h.cpy.below.size (fun ks hg => by have := (h.cpy.fresh _ _ hg).2; omega) (fun e => by have := h.res.lt; omega)

theorem EMid.named (h : EMid w t g1 g2 b ks i S G O L wr) (v : Value) (hv : ∀ g, v.ownBlock = some g → b < g ∧ O g = none ∧ w.heap.size ≤ g ∧ g < wr.heap.size) : EMid w t g1 g2 b ks i S G (extO O v (b, i)) L wr :=
  ⟨h.cpy.named v (fun g hg => hv g hg), h.root, h.gb, h.has, fun j hj => (h.done j hj).but (But.refl _ wr.heap.size _) (far_new wr) (fun _ _ h => h) (extO_old (fun g hg => (hv g hg).2.1)) (fun _ _ => rfl), h.old, h.res, h.g1lt, h.sm⟩
theorem EMid.store (h : EMid w t g1 g2 b ks i S G O L wr) (j0 : Nat) (hj0 : j0 < 5) (v : Value) : EMid w t g1 g2 b ks i S G O (L.set (i * 5 + j0) v) (wr.setCell ⟨b, i * 5 + j0, none⟩ v) := by
  have hb : But wr.heap.size b wr (wr.setCell ⟨b, i * 5 + j0, none⟩ v) := (But.refl _ _ _).setB _ _
  have hq := far_has h.has (by decide) (by decide)
  have hlt := h.g1lt _ _ h.gb
  refine ⟨h.cpy.but hb hq (h.cpy.fresh _ _ h.gb).1 (fun _ _ => rfl) (fun _ _ => bsize_set h.has), h.root, h.gb, h.has.set _ _, fun j hj => ?_, fun j hj hl => ?_, h.res.but hb h.res.lt (by omega), h.g1lt, h.sm⟩
  · rw [five_set_other _ _ _ _ _ hj0 (by omega)]
    exact (h.done j hj).but hb hq (fun _ _ h => h) (fun _ _ h => h) (fun _ _ => bsize_set h.has)
  · rw [five_set_other _ _ _ _ _ hj0 (by omega)]
    exact h.old j hj hl

theorem EMid.grown {tv : Value} {n : Nat} {xs : List Value} (h : EMid w t g1 g2 b ks i S G O L wr) (hown : wr.ownsRow w.heap.size 35 1 tv n xs) (hg : wr.grownBy w' tv.ownBlock) : EMid w t g1 g2 b ks i S G O L w' := by
  rcases hown.2 with ⟨rfl, _⟩ | ⟨g, cap, cur, rfl, hB, hgg, _⟩
  · exact h.later ⟨hg.os, hg.tape, hg.output, hg.size, fun k hk => hg.block k hk (by simp [Value.ownBlock])⟩
  · have hT : ∀ L', Has wr g L' 37 → False := fun L' hL' => by
      have h' : wr.heap[g]? = some (.cells L'.toArray 37 (0, 0)) := hL'
      rw [hgg] at h'; cases h'
    have hbb : But wr.heap.size g wr w' := ⟨hg.os, hg.tape, hg.output, hg.size, fun k hk hne => hg.block k hk (by simpa [Value.ownBlock] using hne)⟩
    refine h.but hbb (far_cells hgg (by decide) (by decide)) hB (fun ks' hk => ?_) (fun e => hT _ (e ▸ h.res))
    by_cases e : g = b
    · exact hT _ (e ▸ h.has)
    · by_cases hp : ∃ p ∈ S, p.1 = g
      · obtain ⟨p, hp, hpg⟩ := hp
        obtain ⟨_, ⟨L', hL', _⟩, _⟩ := h.cpy.pend p hp
        exact hT _ (hpg ▸ hL')
      · obtain ⟨L', hL', _⟩ := h.cpy.done g ks' hk (fun p hp' e' => hp ⟨p, hp', e'⟩) (fun e' => e (Option.some.inj e').symm)
        exact hT _ hL'

/-- Tree i has lists of its own, and no kids. -/
theorem EMid.leaf {M : Nat} {tv : Value} {ti : T} (h : EMid w t g1 g2 b ks i S G O L wr) (hti : ti = ks.getD i default) (hi : i < ks.length) (hown : wr.ownsRow w.heap.size 35 1 tv S.length (S.map entV))
    (hF : EFlat wr w.heap.size G O (b, i) (five L i) ti) (hM : muS S + sizeNL (ks.drop i) + i ≤ M) : EIn w t g1 g2 b ks M (i + 1) tv wr := by
  have h1 := sizeNL_drop hi
  have h2 := sizeN_pos (ks.getD i default)
  refine ⟨S, G, O, L, hown, h.cpy, h.root, h.gb, by omega, h.has, fun j hj => ?_, fun j hj => h.old j (by omega), h.res, h.g1lt, h.sm⟩
  by_cases e : j = i
  · subst e; rw [← hti]; exact hF
  · exact h.done j (by omega)

/-- Tree i has lists of its own; its kids, in row q, must get theirs. -/
theorem EMid.node {M q c : Nat} {tv : Value} {k : UInt8} {x : Bool} {d : List UInt8} {ns : List ByteArray} {kks : List T} {vd vn : Value} (h : EMid w t g1 g2 b ks i S G O L wr) (hti : T.mk k x d ns kks = ks.getD i default) (hi : i < ks.length)
    (hown : wr.ownsRow w.heap.size 35 1 tv (S.length + 1) (S.map entV ++ [entV (q, kks, c)])) (hP : Pend w wr q kks) (hnew : G q = none) (h0 : w.heap.size ≤ q) (hkk : kks ≠ []) (hq1 : g1 < q) (hc : kks.length ≤ c) (hcm : c ≤ maxLen)
    (hvd : wr.ownsRow w.heap.size 5 1 vd d.length (d.map bv)) (hvn : wr.ownsRow w.heap.size 9 1 vn ns.length (ns.map Value.string))
    (hF : five L i = [.int .u8 (k.toNat : Int), .bool x, vd, vn, .slice (some ⟨q, 0, none⟩) kks.length c]) (hM : muS S + sizeNL (ks.drop i) + i ≤ M) (hblt : b < q) (hcap : c * 5 = bsize wr q) (honew : O q = none) (hvo : ∀ g, vn.ownBlock = some g → O g = some (b, i)) : EIn w t g1 g2 b ks M (i + 1) tv wr := by
  have h1 := sizeNL_drop hi
  rw [← hti, sizeN_mk] at h1
  have hG : ∀ b' ks', G b' = some ks' → (fun x => if x = q then some kks else G x) b' = some ks' := fun b' ks' hg => by
    by_cases e : b' = q
    · rw [e, hnew] at hg; cases hg
    · simpa [e] using hg
  have hO : ∀ b' s', O b' = some s' → (fun x => if x = q then some (b, i) else O x) b' = some s' := fun b' s' hg => by
    by_cases e : b' = q
    · rw [e, honew] at hg; cases hg
    · simpa [e] using hg
  have hbq : q ≠ b := fun e => by rw [e, h.gb] at hnew; cases hnew
  have hmu := muS_snoc S (q, kks, c)
  have hmu' : muS (S ++ [(q, kks, c)]) = muS S + sizeNL kks := hmu
  have hbr := But.refl wr.heap.size wr.heap.size wr
  have hsi : Small (.mk k x d ns kks) := by rw [hti]; exact h.sm b ks h.gb i hi
  refine ⟨S ++ [(q, kks, c)], _, _, L, by simpa using hown, h.cpy.push hP hnew h0 hkk hbq hc hcm (s := (b, i)) hblt honew, hG _ _ h.root, hG _ _ h.gb, by omega, h.has, fun j hj => ?_, fun j hj => h.old j (by omega), h.res, fun b' ks' hg => ?_, fun b' ks' hg j hj => ?_⟩
  · by_cases e : j = i
    · subst e
      rw [← hti]
      exact ⟨vd, vn, some ⟨q, 0, none⟩, _, c, hF, hvd, hvn, rfl, hc, hcm, .inr ⟨q, rfl, hkk, by simp, by simp, hcap⟩, fun g hg => hO _ _ (hvo g hg)⟩
    · exact (h.done j (by omega)).but hbr (far_new wr) hG hO (fun _ _ => rfl)
  · by_cases e : b' = q
    · rw [e]; exact hq1
    · exact h.g1lt b' ks' (by simpa [e] using hg)
  · by_cases e : b' = q
    · simp [e] at hg
      subst hg
      cases hsi with
      | mk _ h2 _ => exact h2 j hj
    · exact h.sm b' ks' (by simpa [e] using hg) j hj
end

/-- A row of another type, behind new memory and a store into row b. -/
theorem row_step {w w1 : World} {B b o : Nat} {e : TypeId} {size n : Nat} {v u : Value} {xs L : List Value} (h : w.ownsRow B e size v n xs) (hb : Below w.heap.size w w1) (hL : Has w1 b L 37) (he : e ≠ 37) : (w1.setCell ⟨b, o, none⟩ u).ownsRow B e size v n xs := by
  have h1 : w1.ownsRow B e size v n xs := owns_but h (But.of_below (b := w.heap.size) hb) (fun cs f => by simp)
  refine owns_but h1 ((But.refl _ b _).setB _ _) (fun cs f e' => ?_)
  have h' : w1.heap[b]? = some (.cells L.toArray 37 (0, 0)) := hL
  rw [h'] at e'; cases e'; exact he rfl

theorem row_later {w w1 : World} {B : Nat} {e : TypeId} {size n : Nat} {v : Value} {xs : List Value} (h : w.ownsRow B e size v n xs) (hb : Below w.heap.size w w1) : w1.ownsRow B e size v n xs :=
  owns_but h (But.of_below (b := w.heap.size) hb) (fun cs f => by simp)

/-- What a row of trees that own has made is, behind a store into an older row. -/
theorem kids_row {w w4 w5 : World} {m b o : Nat} {v u : Value} {kks : List T} {LK : List Value} (h : w5.ownsRow w4.heap.size 37 5 v kks.length LK) (hF : ∀ i, i < kks.length → IsT w m (five LK i) (kks.getD i default)) (hb : b < w4.heap.size) (he : kks = [] → v = .slice none 0 0) :
    (kks = [] ∧ ∃ a c, v = .slice a 0 c ∧ (a = none ∧ c = 0) ∧ c ≤ maxLen) ∨ ∃ q c, kks ≠ [] ∧ v = .slice (some ⟨q, 0, none⟩) kks.length c ∧ w4.heap.size ≤ q ∧ kks.length ≤ c ∧ c ≤ maxLen ∧ Pend w (w5.setCell ⟨b, o, none⟩ u) q kks ∧ c * 5 = bsize (w5.setCell ⟨b, o, none⟩ u) q := by
  rcases h.2 with ⟨rfl, h0⟩ | ⟨q, c, cur, rfl, hq, hh, hl, hm, hs, htk⟩
  · exact .inl ⟨List.eq_nil_of_length_eq_zero h0, none, 0, rfl, ⟨rfl, rfl⟩, Nat.zero_le _⟩
  · by_cases hk : kks = []
    · subst hk
      cases he rfl
    refine .inr ⟨q, c, hk, rfl, hq, hl, hm, ⟨cur.toList, ?_, fun i hi => ⟨m, ?_⟩⟩, ?_⟩
    · have hH : Has w5 q cur.toList 37 := by unfold Has; rw [hh]
      exact hH.setOther (by show q ≠ b; omega) _
    · have := five_take (L := cur.toList) hi
      rw [htk] at this
      rw [← this]; exact hF i hi
    · unfold bsize
      rw [heap_setCell_other w5 ⟨b, o, none⟩ q u (by show q ≠ b; omega), hh]
      exact hs.symm

theorem Pend.grown {w wr w' : World} {B q n : Nat} {kks : List T} {tv : Value} {xs : List Value} (h : Pend w wr q kks) (hown : wr.ownsRow B 35 1 tv n xs) (hg : wr.grownBy w' tv.ownBlock) : Pend w w' q kks := by
  rcases hown.2 with ⟨rfl, _⟩ | ⟨g, cap, cur, rfl, hB, hgg, _⟩
  · exact h.but (q := wr.heap.size) (But.of_below ⟨hg.os, hg.tape, hg.output, hg.size, fun k hk => hg.block k hk (by simp [Value.ownBlock])⟩) (fun e => by obtain ⟨L, hL, _⟩ := h; have := hL.lt; omega)
  · refine h.but (q := g) ⟨hg.os, hg.tape, hg.output, hg.size, fun k hk hne => hg.block k hk (by simpa [Value.ownBlock] using hne)⟩ (fun e => ?_)
    obtain ⟨L, hL, _⟩ := h
    have h' : wr.heap[q]? = some (.cells L.toArray 37 (0, 0)) := hL
    rw [e, hgg] at h'; cases h'

theorem bsize_grown {w wr w' : World} {B q n : Nat} {kks : List T} {tv : Value} {xs : List Value} (h : Pend w wr q kks) (hown : wr.ownsRow B 35 1 tv n xs) (hg : wr.grownBy w' tv.ownBlock) (hz : bsize wr q ≠ 0) : bsize w' q = bsize wr q := by
  unfold bsize
  rw [hg.block q (bsize_lt hz) (fun e => ?_)]
  rcases hown.2 with ⟨rfl, _⟩ | ⟨g, cap, cur, rfl, hB, hgg, _⟩
  · cases e
  · cases e
    obtain ⟨L, hL, _⟩ := h
    have h' : wr.heap[g]? = some (.cells L.toArray 37 (0, 0)) := hL
    rw [hgg] at h'; cases h'
theorem row_grown {wr w' : World} {B B' n m size : Nat} {e : TypeId} {tv v : Value} {xs ys : List Value} (h : wr.ownsRow B' e size v m ys) (he : e ≠ 35) (hown : wr.ownsRow B 35 1 tv n xs) (hg : wr.grownBy w' tv.ownBlock) : w'.ownsRow B' e size v m ys := by
  rcases hown.2 with ⟨rfl, _⟩ | ⟨g, cap, cur, rfl, hB, hgg, _⟩
  · exact row_later h ⟨hg.os, hg.tape, hg.output, hg.size, fun k hk => hg.block k hk (by simp [Value.ownBlock])⟩
  · refine owns_but h (q := g) ⟨hg.os, hg.tape, hg.output, hg.size, fun k hk hne => hg.block k hk (by simpa [Value.ownBlock] using hne)⟩ (fun cs f e' => ?_)
    rw [hgg] at e'; cases e'; exact he rfl

theorem info_trees : (Tryz.prog.info? 35).map (fun i => (i.zero, i.size, i.bytes)) = some (some (.slice none 0 0), 1, 24) := by kernel_rfl
theorem info_trees_parts : ∃ i, Tryz.prog.info? 35 = some i ∧ i.zero = some (.slice none 0 0) ∧ i.size = 1 ∧ i.bytes = 24 := by
  have h := info_trees
  cases hi : Tryz.prog.info? 35 with
  | none => rw [hi] at h; cases h
  | some i =>
    rw [hi] at h
    simp only [Option.map_some, Option.some.injEq, Prod.mk.injEq] at h
    exact ⟨i, rfl, h.1, h.2.1, h.2.2⟩

set_option maxRecDepth 100000 in
set_option maxHeartbeats 20000000 in
theorem copy_any (n : Nat) (cs : List Value) (t : T) (w : World) (ht : IsT w n cs t) (hs : Small t) (hN : sizeN t ≤ 1000000) :
    Calls Tryz.prog 92 #[.agg cs.toArray] w (ECopyPost w t) := by
  have HI5 := Lib.hid (infoL (isT_five ht))
  obtain ⟨c0, c1, c2, c3, c4, rfl⟩ := five_list (isT_five ht)
  have HST := Lib.hid (copy_start ht hs)
  obtain ⟨i0, hi0, hz0, hz1, hz2⟩ := info_trees_parts
  have HI := Lib.hid hi0
  have HZ0 := Lib.hid hz0
  have HZ1 := Lib.hid hz1
  have HZ2 := Lib.hid hz2
  clear ht hs hi0 hz0 hz1 hz2
  go_enter Tryz.func92, Tryz.ntmps92
  go_wp2_with fail
  go_loopg [4] (sizeN t) (fun k tv wr => EOut w t (w.heap.size + 1) (w.heap.size + 1 + 1) k tv wr)
  case atStart => exact HST.out
  case round =>
    clear HST
    obtain ⟨S, G, O, hown, hcpy, hroot, hmu, hk, hz, hg1, hsm⟩ := hrel
    have HOWN := Lib.hid hown
    have HCPY := Lib.hid hcpy
    have HROOT := Lib.hid hroot
    have HMU := Lib.hid hmu
    have HZ := Lib.hid hz
    have HG1 := Lib.hid hg1
    have HSM := Lib.hid hsm
    have hlen := muS_len S (fun p hp => (hcpy.pend p hp).2.2.1)
    rcases List.eq_nil_or_concat S with hS | ⟨S', p, hS⟩
    · have hform : ∃ a c, u4 = .slice a 0 c := by
        subst hS
        rcases hown.2 with ⟨rfl, _⟩ | ⟨g, cap, cur, rfl, _⟩
        · exact ⟨_, _, rfl⟩
        · exact ⟨_, _, rfl⟩
      obtain ⟨a, c, rfl⟩ := hform
      obtain ⟨L, hL, hcl⟩ := ECpy.eclosed (by rw [← hS]; exact hcpy) hroot
      have hL5 := (flat_one hcl.2.1.flat).1
      have hLI : Hid ((Tryz.prog.info? 37).map (·.size) = some (five L 0).length) := Lib.hid (by rw [info5, hL5])
      have hLA := Lib.hid (infoL hL5)
      have HLO := Lib.hid (flat_one hcl.2.1.flat).2
      have HLS : Hid (zT.toArray.size = (five L 0).toArray.size) := Lib.hid (by simp [hL5, zT])
      have HCL := Lib.hid hcl
      have HLH := Lib.hid hL
      have HRG : Hid (wr.rangeAt (w.heap.size + 1 + 1) 0 (five L 0)) := Lib.hid (fun j v hv => by
        have hj : j < 5 := by have := (List.getElem?_eq_some_iff.1 hv).1; omega
        rw [five_get j hj] at hv
        rw [Nat.zero_add]
        exact hL.cellAt (by simpa using hv))
      clear hown hcpy hroot hmu hz hg1 hsm hS hL hcl hL5
      generalize five L 0 = L5 at *
      go_wp2_with (first
        | (refine wpList_load_mid rfl 37 _ rfl (w.heap.size + 1 + 1) 0 rfl L5 _ HRG.out Tryz.underlying37 rfl hLI.out ?_)
        | (refine wpList_store_row rfl 37 _ _ rfl (w.heap.size + 1) L5.toArray rfl rfl 37 _ HZ.out hLA.out HLS.out HLO.out ?_))
      refine bodyPost_ret (results_cell_row (fn := Tryz.f92) (p := 2) (ty := 37) Tryz.results92 _ _ (w.heap.size + 1) 37 L5.toArray (0, 0) _ rfl (setRow_heap _ _ _ _ _ _ HZ.out) Tryz.underlying37 rfl hLA.out) rfl ?_
      refine ⟨L5, G, O, _, rfl, HCL.out.but ((But.refl _ _ _).setRow (.inr rfl) _) (far_has HZ.out (by decide) (by decide)) (fun ks hg => ?_), below_setRow HCPY.out.below (by omega) _⟩
      have := HG1.out _ _ hg
      omega
    · rw [List.concat_eq_append] at hS
      subst hS
      obtain ⟨b, ks, c⟩ := p
      obtain ⟨m, hm⟩ : ∃ m, m = S'.length := ⟨_, rfl⟩
      obtain ⟨kl, hkl⟩ : ∃ kl, kl = ks.length := ⟨_, rfl⟩
      have hown2 : wr.ownsRow w.heap.size 35 1 u4 (m + 1) (S'.map entV ++ [entV (b, ks, c)]) := by rw [hm]; simpa using hown
      have hform : ∃ g cap, u4 = .slice (some ⟨g, 0, none⟩) (m + 1) cap ∧ m + 1 ≤ cap := by
        rcases hown2.2 with ⟨_, h0⟩ | ⟨g, cap, cur, rfl, _, _, h1, _⟩
        · omega
        · exact ⟨_, _, rfl, h1⟩
      obtain ⟨g, cap, rfl, hcap⟩ := hform
      have hcell : wr.cell? ⟨g, m, none⟩ = some (.slice (some ⟨b, 0, none⟩) kl c) := by
        rw [World.ownsRow.cellAt hown2 m (by omega), List.getElem?_append_right (by simp [hm]), hkl]
        simp [hm, entV]
      obtain ⟨hc2, hP, hGb, hne, hlc, hcm⟩ := hcpy.pop
      obtain ⟨L, hL, hF⟩ := hP
      have hmu2 := muS_snoc S' (b, ks, c)
      have HCI : Hid (EIn w t (w.heap.size + 1) (w.heap.size + 1 + 1) b ks gk 0 (.slice (some ⟨g, 0, none⟩) m cap) wr) := Lib.hid
        ⟨S', G, O, L, by have := owns_pre hown2; rw [← hm]; exact this, hc2, hroot, hGb, by rw [List.drop_zero]; have : sizeNL ((b, ks, c) : Nat × List T × Nat).2.1 = sizeNL ks := rfl; omega, hL, fun j hj => by omega, fun j _ hj => hF j hj, hz, hg1, hsm⟩
      have HKL := Lib.hid hkl
      have HNE := Lib.hid hne
      have hm6 : m ≤ 999999 := by rw [List.length_append] at hlen; simp at hlen; omega
      have hkl6 : kl ≤ 1000000 := by
        have := sizeNL_len ks
        have : sizeNL ((b, ks, c) : Nat × List T × Nat).2.1 = sizeNL ks := rfl
        omega
      have hgk : gk ≤ 1000000 := by omega
      have HKN := Lib.hid hk
      have hwr : wrap64 (((m + 1 : Nat) : Int) - 1) = (m : Int) := by
        rw [show ((m + 1 : Nat) : Int) - 1 = (m : Int) by omega]
        unfold wrap64; omega
      clear HOWN HCPY HROOT HMU HZ HG1 HSM hown hcpy hroot hmu hk hz hg1 hsm hlen hm hkl hown2 hc2 hGb hne hL hF hmu2
      go_wp2_with fail
      obtain ⟨wo, hwo⟩ : ∃ wo : World, wo = wr := ⟨_, rfl⟩
      go_loopw [4, 27] (fun tv iv wx => ∃ i : Nat, i ≤ kl ∧ iv = .int .i64 i ∧ EIn w t (w.heap.size + 1) (w.heap.size + 1 + 1) b ks gk i tv wx) (fun _ iv _ => kl - (intOf iv).toNat)
      case atStart => exact ⟨0, Nat.zero_le _, rfl, HCI.out⟩
      case round =>
        clear HCI
        obtain ⟨i, hi, rfl, S, G, O, L, hown, hcpy, hroot, hGb, hM, hL, hdone, hold, hz, hg1, hsm⟩ := hrel
        by_cases hlt : i < kl
        · have hlk : i < ks.length := by rw [← HKL.out]; exact hlt
          obtain ⟨n', hTi⟩ := hold i (Nat.le_refl _) hlk
          have mid : EMid w t (w.heap.size + 1) (w.heap.size + 1 + 1) b ks i S G O L wr := ⟨hcpy, hroot, hGb, hL, hdone, fun j hj => hold j (by omega), hz, hg1, hsm⟩
          have hsi := hsm b ks hGb i hlk
          obtain ⟨ti, hti⟩ : ∃ ti, ti = ks.getD i default := ⟨_, rfl⟩
          rw [← hti] at hTi hsi
          cases n' with
          | zero => exact absurd hTi (by simp [IsT])
          | succ n' =>
          obtain ⟨k, x, d, ns, kks⟩ := ti
          obtain ⟨ad, nd, cd, an, nn, cn, ak, nk, ck, hfv, hB, hS, hK⟩ := hTi
          obtain ⟨q0, q1, q2, q3, q4⟩ := five_at hfv
          cases hsi with
          | mk _ s2 s3 =>
          have hSl := muS_len S (fun p hp => (hcpy.pend p hp).2.2.1)
          have hSl6 : S.length ≤ 1000000 := by omega
          have hbl := hcpy.below
          have KB := Lib.hid (ownB_any ad nd cd d wr (hB.later hbl))
          have hc2 := hL.cellAt q2
          have hki : (i : Int) < (kl : Int) := by omega
          have HMID := Lib.hid mid
          have HOWN := Lib.hid hown
          have HFV := Lib.hid hfv
          have HSS := Lib.hid hS
          have HKK := Lib.hid hK
          have HTI := Lib.hid hti
          have HMM := Lib.hid hM
          have HBL := Lib.hid hbl
          have HS2 := Lib.hid s2
          have HS3 := Lib.hid s3
          have hnd : nd = d.length := hB.length.symm
          have hnn : nn = ns.length := hS.length.symm
          have hnk : nk = kks.length := hK.length.symm
          have HND := Lib.hid hnd
          have HNN := Lib.hid hnn
          have HNK := Lib.hid hnk
          have HLT := Lib.hid hlt
          clear hown hcpy hroot hGb hM hL hdone hold hz hg1 hsm mid hfv hB hS hK q0 q1 q2 q3 q4 hti s2 s3 hbl hSl hnd hnn hnk
          go_wp2_with fail
          refine KB.out.mono ?_
          rintro e w1 ⟨v1, rfl, o1, b1⟩
          rw [HND.out] at o1
          replace o1 := owns_low o1 HBL.out.size
          obtain ⟨a1, c1', rfl, _⟩ := isB_owned o1 HS3.out.1
          have M1 := HMID.out.later b1
          have hfz := M1.has.frozen (i * 5 + 2)
          have hcl := M1.has.cellAt (five_at HFV.out).2.2.1
          have O1 := Lib.hid (row_step (o := i * 5 + 2) (u := .slice a1 d.length c1') o1 (Below.refl _ _) M1.has (by decide))
          have OT1 := Lib.hid (row_step (o := i * 5 + 2) (u := .slice a1 d.length c1') HOWN.out b1 M1.has (by decide))
          have HM2 := Lib.hid (M1.store 2 (by omega) (.slice a1 d.length c1'))
          have HF2 : Hid (five (L.set (i * 5 + 2) (.slice a1 d.length c1')) i = [.int .u8 (k.toNat : Int), .bool x, .slice a1 d.length c1', .slice an nn cn, .slice ak nk ck]) := Lib.hid (by rw [five_set_same _ _ _ _ (by omega), HFV.out]; rfl)
          have HW1 := Lib.hid b1.size
          clear o1 b1 M1 KB hc2 HMID HOWN HFV
          go_upto_region 11 with fail
          generalize w1.setCell ⟨b, i * 5 + 2, none⟩ (.slice a1 d.length c1') = w2 at *
          generalize L.set (i * 5 + 2) (.slice a1 d.length c1') = L2 at *
          clear hfz hcl
          have KS := Lib.hid (ownS_any an nn cn ns w2 (HSS.out.later HM2.out.cpy.below) (by rw [HNN.out]; exact HS3.out.2.1))
          have hc3 := HM2.out.has.cellAt (five_at HF2.out).2.2.2.1
          go_wp2_with fail
          refine KS.out.mono ?_
          rintro e w3 ⟨v3, rfl, o3, b3⟩
          rw [HNN.out] at o3
          have hv3 : ∀ g, v3.ownBlock = some g → w2.heap.size ≤ g ∧ g < w3.heap.size := fun g hg => by
            rcases o3.2 with ⟨rfl, _⟩ | ⟨g', cap', cur', rfl, hg0, hgg, _⟩
            · cases hg
            · cases hg; exact ⟨hg0, (Array.getElem?_eq_some_iff.1 hgg).1⟩
          replace o3 := owns_low o3 HM2.out.cpy.below.size
          have M3' := (HM2.out.later b3).named v3 (fun g hg => by
            have h9 := hv3 g hg
            have h8 := (HM2.out.cpy.fresh _ _ HM2.out.gb).2
            refine ⟨by omega, ?_, Nat.le_trans HM2.out.cpy.below.size h9.1, h9.2⟩
            cases ho : O g with
            | none => rfl
            | some s' => have := (HM2.out.cpy.ofresh g s' ho).2.1; omega)
          obtain ⟨O2, hO2⟩ : ∃ O2, O2 = extO O v3 (b, i) := ⟨_, rfl⟩
          have HO2 : Hid (∀ g, v3.ownBlock = some g → O2 g = some (b, i)) := Lib.hid (fun g hg => by rw [hO2]; exact extO_same hg)
          rw [← hO2] at M3'
          clear hO2 hv3
          obtain ⟨a3, c3', rfl, _⟩ := isS_owned o3
          have M3 := M3'
          clear M3'
          have hfz := M3.has.frozen (i * 5 + 3)
          have hcl := M3.has.cellAt (five_at HF2.out).2.2.2.1
          have O3 := Lib.hid (row_step (o := i * 5 + 3) (u := .slice a3 ns.length c3') o3 (Below.refl _ _) M3.has (by decide))
          have O1' := Lib.hid (row_step (o := i * 5 + 3) (u := .slice a3 ns.length c3') O1.out b3 M3.has (by decide))
          have OT3 := Lib.hid (row_step (o := i * 5 + 3) (u := .slice a3 ns.length c3') OT1.out b3 M3.has (by decide))
          have HM4 := Lib.hid (M3.store 3 (by omega) (.slice a3 ns.length c3'))
          have HF4 : Hid (five (L2.set (i * 5 + 3) (.slice a3 ns.length c3')) i = [.int .u8 (k.toNat : Int), .bool x, .slice a1 d.length c1', .slice a3 ns.length c3', .slice ak nk ck]) := Lib.hid (by rw [five_set_same _ _ _ _ (by omega), HF2.out]; rfl)
          have HB24 := Lib.hid HM2.out.cpy.below.size
          clear o3 b3 M3 KS hc3 HM2 OT1 O1 HF2
          go_upto_region 12 with fail
          generalize w3.setCell ⟨b, i * 5 + 3, none⟩ (.slice a3 ns.length c3') = w4 at *
          generalize L2.set (i * 5 + 3) (.slice a3 ns.length c3') = L4 at *
          clear hfz hcl
          have KK := Lib.hid (eownK_any w n' ak nk ck kks w4 (HKK.out.mono HM4.out.cpy.below (fun _ _ h => h)) (by rw [HNK.out]; exact HS3.out.2.2))
          have hc4 := HM4.out.has.cellAt (five_at HF4.out).2.2.2.2
          go_wp2_with fail
          refine KK.out.mono ?_
          rintro e w5 ⟨⟨v5, LK, rfl, o5, hF5, b5⟩, hz5⟩
          have he5 : kks = [] → v5 = .slice none 0 0 := fun h => by have := hz5 h; cases this; rfl
          have M5 := HM4.out.later b5
          have hfz := M5.has.frozen (i * 5 + 4)
          have hcl := M5.has.cellAt (five_at HF4.out).2.2.2.2
          have hkids := kids_row (o := i * 5 + 4) (u := v5) o5 hF5 HM4.out.has.lt he5
          have O3' := Lib.hid (row_step (o := i * 5 + 4) (u := v5) O3.out b5 M5.has (by decide))
          have O1'' := Lib.hid (row_step (o := i * 5 + 4) (u := v5) O1'.out b5 M5.has (by decide))
          have OT5 := Lib.hid (row_step (o := i * 5 + 4) (u := v5) OT3.out b5 M5.has (by decide))
          have HM6 := Lib.hid (M5.store 4 (by omega) v5)
          have HF6 : Hid (five (L4.set (i * 5 + 4) v5) i = [.int .u8 (k.toNat : Int), .bool x, .slice a1 d.length c1', .slice a3 ns.length c3', v5]) := Lib.hid (by rw [five_set_same _ _ _ _ (by omega), HF4.out]; rfl)
          have HB46 := Lib.hid HM4.out.cpy.below.size
          have HG4 := Lib.hid HM4.out.cpy.fresh
          have HOF := Lib.hid HM4.out.cpy.ofresh
          clear o5 b5 M5 KK hc4 HM4 OT3 O1' O3 HF4 hz5 he5
          have hlr : i * 5 + 4 < 9223372036854775807 := by omega
          rcases hkids with ⟨hkk, a6, c6, rfl, hac6, hcm6⟩ | ⟨q, c, hkk, rfl, hq, hqc, hcm', hP, hcap⟩
          · have HAC := Lib.hid hac6
            have HCM6 := Lib.hid hcm6
            have HKK0 := Lib.hid hkk
            clear hac6 hcm6 hkk
            go_upto_region 13 with fail
            generalize w5.setCell ⟨b, i * 5 + 4, none⟩ (.slice a6 0 c6) = w6 at *
            generalize L4.set (i * 5 + 4) (.slice a6 0 c6) = L6 at *
            clear hfz hcl
            have hc4 := HM6.out.has.cellAt (five_at HF6.out).2.2.2.2
            go_wp2_with fail
            go_roundw
            case rel =>
              have hlt := HLT.out
              have hlk : i < ks.length := by rw [← HKL.out]; exact hlt
              refine ⟨i + 1, by omega, by go_num, HM6.out.leaf HTI.out hlk OT5.out ?_ HMM.out⟩
              exact ⟨_, _, a6, 0, c6, HF6.out, O1''.out, O3'.out, by rw [HKK0.out]; rfl, Nat.zero_le _, HCM6.out, .inl ⟨HKK0.out, HAC.out⟩, HO2.out⟩
            case measure =>
              have := HLT.out
              simp only [intOf]; omega
          · have HP := Lib.hid hP
            have HCAP := Lib.hid hcap
            have hkpos : 0 < kks.length := List.length_pos_iff.2 hkk
            have HKK0 := Lib.hid hkk
            clear hP hkk hcap
            go_upto_region 13 with fail
            generalize w5.setCell ⟨b, i * 5 + 4, none⟩ (.slice (some ⟨q, 0, none⟩) kks.length c) = w6 at *
            generalize L4.set (i * 5 + 4) (.slice (some ⟨q, 0, none⟩) kks.length c) = L6 at *
            clear hfz hcl
            have hc4 := HM6.out.has.cellAt (five_at HF6.out).2.2.2.2
            have hkz : (0 : Int) < (kks.length : Int) := by omega
            have HQ : Hid (w4.heap.size ≤ q) := Lib.hid hq
            have HQC := Lib.hid hqc
            have HCM := Lib.hid hcm'
            obtain ⟨n6, hn6⟩ : ∃ n6, n6 = kks.length := ⟨_, rfl⟩
            have HN6 := Lib.hid hn6
            rw [← hn6] at hc4 hkz hkpos
            have M7 := HM6.out.later ((Below.refl _ _).alloc (Nat.le_refl _) (.cells #[.slice (some ⟨q, 0, none⟩) n6 c] 35))
            have OT7 := Lib.hid (OT5.out.alloc (.cells #[.slice (some ⟨q, 0, none⟩) n6 c] 35))
            have HM7 := Lib.hid M7
            have HBW := Lib.hid HM6.out.cpy.below.size
            clear hq hqc hcm' hn6 M7
            go_wp2_with (at_builtin; refine wpList_append_src rfl _ _ 159 rfl w.heap.size 35 i0 (.slice none 0 0) 1 24 Tryz.underlying159 HI.out HZ0.out HZ1.out HZ2.out rfl (by omega) u4 S.length (S.map entV) rfl OT7.out (some ⟨w6.heap.size, 0, none⟩) 1 1 [.slice (some ⟨q, 0, none⟩) n6 c] rfl rfl (by simp) (fun ad had j u hj => by cases had; rw [Addr.add_mid, Nat.zero_add, cell_of_row _ _ _ _ _ _ (heap_alloc_new w6 _)]; simpa using hj) (fun u hu => by simp at hu; subst hu; rfl) (by unfold maxLen; omega) (by omega) (by have := HBW.out; simp; omega) ?_)
            intro v8 w8 hown8 hgr8
            have HM8 := Lib.hid (HM7.out.grown OT7.out hgr8)
            have HO8 := Lib.hid hown8
            have HR8 := Lib.hid hgr8
            clear hown8 hgr8
            go_wp2_with fail
            go_roundw
            case rel =>
              have hlt := HLT.out
              have hlk : i < ks.length := by rw [← HKL.out]; exact hlt
              have hrow1 := row_grown (row_later O1''.out ((Below.refl _ _).alloc (Nat.le_refl _) (.cells #[.slice (some ⟨q, 0, none⟩) n6 c] 35))) (by decide) OT7.out HR8.out
              have hrow3 := row_grown (row_later O3'.out ((Below.refl _ _).alloc (Nat.le_refl _) (.cells #[.slice (some ⟨q, 0, none⟩) n6 c] 35))) (by decide) OT7.out HR8.out
              have hp7 : Pend w (w6.alloc (.cells #[.slice (some ⟨q, 0, none⟩) n6 c] 35)) q kks := HP.out.but (q := w6.heap.size) (But.of_below ((Below.refl _ _).alloc (Nat.le_refl _) _)) (fun e => by obtain ⟨L', hL', _⟩ := HP.out; have := hL'.lt; omega)
              have hG4 := HG4.out
              have hq := HQ.out
              have hgb := HM6.out.gb
              have hbg := HM6.out.g1lt _ _ hgb
              have hb4 := (hG4 _ _ hgb).2
              have hbw := (hG4 _ _ hgb).1
              refine ⟨i + 1, by omega, by go_num, HM8.out.node HTI.out hlk ?_ (hp7.grown OT7.out HR8.out) ?_ (by omega) ?_ (by omega) HQC.out HCM.out hrow1 hrow3 HF6.out HMM.out (by omega) ?_ ?_ HO2.out⟩
              · have := HO8.out
                rw [HN6.out] at this
                exact this
              · cases hgq : G q with
                | none => rfl
                | some ks' => have := (hG4 _ _ hgq).2; omega
              · exact HKK0.out
              · have hz6 : bsize w6 q ≠ 0 := by have := HCAP.out; have := HQC.out; have := List.length_pos_iff.2 HKK0.out; omega
                have e7 := bsize_below ((Below.refl w6.heap.size w6).alloc (Nat.le_refl _) (.cells #[.slice (some ⟨q, 0, none⟩) n6 c] 35)) hz6
                rw [HCAP.out, ← e7]
                refine (bsize_grown hp7 OT7.out HR8.out (by rw [e7]; exact hz6)).symm
              · cases hgo : O2 q with
                | none => rfl
                | some s' => have := (HOF.out _ _ hgo).2.1; omega
            case measure =>
              have := HLT.out
              simp only [intOf]; omega
        · obtain rfl : i = kl := by omega
          have HS0 := Lib.hid hown
          have HS1 := Lib.hid (hcpy.finish hGb ⟨L, hL, fun j hj => hdone j (by rw [HKL.out]; exact hj)⟩)
          have HS2 := Lib.hid hroot
          have HS3 := Lib.hid hz
          have HS4 := Lib.hid hg1
          have HS5 := Lib.hid hsm
          have hpos : 0 < i := by
            have := HNE.out
            rw [HKL.out]
            exact List.length_pos_iff.2 this
          have hMu : muS S < gk := by omega
          clear hown hcpy hroot hGb hM hL hdone hold hz hg1 hsm
          go_wp2_with fail
          go_roundg (muS S)
          case rel => exact ⟨S, G, O, HS0.out, HS1.out, HS2.out, rfl, by have := HKN.out; omega, HS3.out, HS4.out, HS5.out⟩
          case measure => exact hMu
/-- Copy, as the edits take it: new rows, each serving one tree. -/
def MCopyP (w : World) (t : T) (e : Ending) (w' : World) : Prop := ∃ cs S, e = .returned (.agg cs.toArray) ∧ MT w' w.heap.size cs t S ∧ (∀ g ∈ S, w.heap.size ≤ g) ∧ Below w.heap.size w w'
theorem mcopy_any (n : Nat) (cs : List Value) (t : T) (w : World) (ht : IsT w n cs t) (hs : Small t) (hN : sizeN t ≤ 1000000) :
    Calls Tryz.prog 92 #[.agg cs.toArray] w (MCopyP w t) := by
  refine (copy_any n cs t w ht hs hN).mono ?_
  rintro e w' ⟨cs', G, O, s, he, hc, hb⟩
  obtain ⟨S, hS, hA⟩ := mt_closed hc.1 hc.2.2 _ s cs' t (Nat.le_refl _) hc.2.1
  exact ⟨cs', S, he, hS, fun g hg => (hA g hg).1, hb⟩

end Go.Proofs.YtlccdenafnekjaaGreatDoor
namespace Go.Proofs.YtlccdenafnekjaaGreatDoor
open Go.RowKit
set_option linter.unusedVariables false

/-- What stands behind some names, or the error's number. -/
def findT : List ByteArray → T → Int ⊕ T
  | [], t => .inr t
  | nm :: r, .mk k x d ns ks => if k ≠ 3 then .inl 8 else if Lib.idxOfS ns nm < 0 ∨ (ks.length : Int) ≤ Lib.idxOfS ns nm then .inl 6 else findT r (ks.getD (Lib.idxOfS ns nm).toNat default)

theorem at_ret {fn : Func} {P : Program} {p u : Tmp} {ty : TypeId} (h : fn.results = #[.cell p ty, .tmp u]) (tmps : Array Value) (w : World) (g : Nat) (t : TypeId) (cs : Array Value) (fr : Nat × Nat) (d : TypeDesc)
    (hp : tmps.getD p undef = .pointer (some ⟨g, 0, none⟩)) (hg : w.heap[g]? = some (.cells cs t fr))
    (hu : P.underlying ty = some d) (hd : (match d with | .struct _ | .array _ _ => true | _ => false) = true) (hi : (P.info? ty).map (·.size) = some cs.size) :
    (results fn tmps).run P w = .ok (.tuple #[.agg cs, tmps.getD u undef]) w := by
  have hp' : tmps[p]?.getD undef = .pointer (some ⟨g, 0, none⟩) := by simpa using hp
  simp [results, h, hp', asAddr, run_loadVar_row w g t ty cs fr d hg hu hd hi]

def mkB (l : List UInt8) : ByteArray := ⟨l.toArray⟩

theorem mkB_of {l : List ByteArray} {p : List (List UInt8)} (h : l.map (·.data.toList) = p) : l = p.map mkB := by
  subst h
  rw [List.map_map]
  have : (mkB ∘ fun x : ByteArray => x.data.toList) = id := by funext x; simp [mkB]
  rw [this]; simp

def atT (s : List UInt8) (t : T) : Int ⊕ T := if (splitT s).2 = 0 then findT ((splitT s).1.map mkB) t else .inl (splitT s).2

theorem findT_small : ∀ (l : List ByteArray) (t x : T), findT l t = .inr x → Small t → Small x ∧ sizeN x ≤ sizeN t
  | [], t, x, h, hs => by rw [findT] at h; cases h; exact ⟨hs, Nat.le_refl _⟩
  | nm :: r, .mk k e d ns ks, x, h, hs => by
    rw [findT] at h
    split at h
    · cases h
    · split at h
      · cases h
      · rename_i h1 h2
        have hj : (Lib.idxOfS ns nm).toNat < ks.length := by omega
        have := findT_small r _ x h (hs.kid _ hj)
        have h3 := sizeNL_get hj
        rw [sizeN_mk]
        exact ⟨this.1, by omega⟩

theorem atT_small {s : List UInt8} {t x : T} (h : atT s t = .inr x) (hs : Small t) : Small x ∧ sizeN x ≤ sizeN t := by
  unfold atT at h
  split at h
  · exact findT_small _ _ _ h hs
  · cases h

theorem findT_code : ∀ (l : List ByteArray) (t : T) (c : Int), findT l t = .inl c → c = 8 ∨ c = 6
  | [], t, c, h => by rw [findT] at h; cases h
  | nm :: r, .mk k e d ns ks, c, h => by
    rw [findT] at h
    split at h
    · cases h; exact .inl rfl
    · split at h
      · cases h; exact .inr rfl
      · exact findT_code r _ c h

theorem splitT_code (s : List UInt8) : (splitT s).2 = 0 ∨ (splitT s).2 = 2 ∨ (splitT s).2 = 4 := by
  unfold splitT
  split
  · simp
  · split
    · simp
    · split <;> simp

theorem atT_code {s : List UInt8} {t : T} {c : Int} (h : atT s t = .inl c) : c = 2 ∨ c = 4 ∨ c = 6 ∨ c = 8 := by
  unfold atT at h
  split at h
  · have := findT_code _ _ _ h; omega
  · cases h
    have := splitT_code s; omega

theorem findT_append : ∀ (p q : List ByteArray) (t : T), findT (p ++ q) t = match findT p t with | .inl c => .inl c | .inr y => findT q y
  | [], q, t => by simp [findT]
  | nm :: p, q, .mk k x d ns ks => by
    rw [List.cons_append, findT, findT]
    by_cases h1 : k ≠ 3
    · rw [if_pos h1, if_pos h1]
    · rw [if_neg h1, if_neg h1]
      by_cases h2 : Lib.idxOfS ns nm < 0 ∨ (ks.length : Int) ≤ Lib.idxOfS ns nm
      · rw [if_pos h2, if_pos h2]
      · rw [if_neg h2, if_neg h2]
        exact findT_append p q _

/-- No tree. -/
def zeroT : T := .mk 0 false [] [] []

def codeR : Int ⊕ T → Int
  | .inl c => c
  | .inr _ => 0

def resT : Int ⊕ T → T
  | .inl _ => zeroT
  | .inr x => x

theorem isB_none (w : World) : IsB w none 0 0 [] := ⟨rfl, .inl rfl, fun _ => ⟨rfl, rfl⟩, ⟨Nat.le_refl _, Nat.zero_le _⟩, Nat.zero_le _⟩
theorem isS_none (w : World) : IsS w none 0 0 [] := ⟨rfl, .inl rfl, fun _ => ⟨rfl, rfl⟩, ⟨Nat.le_refl _, Nat.zero_le _⟩⟩
theorem isK_none (R : List Value → T → Prop) (w : World) : IsK R w none 0 0 [] := ⟨rfl, .inl rfl, fun _ => ⟨rfl, rfl⟩, ⟨Nat.le_refl _, Nat.zero_le _⟩⟩
theorem isT_zero (w : World) : IsT w 1 zT zeroT := ⟨none, 0, 0, none, 0, 0, none, 0, 0, rfl, isB_none w, isS_none w, isK_none _ w⟩
theorem small_zero : Small zeroT := .mk (fun i hi => by simp at hi) (fun i hi => by simp at hi) (by simp)

end Go.Proofs.YtlccdenafnekjaaGreatDoor
namespace Go.Proofs.YtlccdenafnekjaaGreatDoor
open Go.RowKit
set_option linter.unusedVariables false

mutual
/-- How many levels there are below a tree. -/
def heightT : T → Nat
  | .mk _ _ _ _ ks => heightL ks
def heightL : List T → Nat
  | [] => 0
  | k :: r => Nat.max (1 + heightT k) (heightL r)
end
theorem heightT_mk (k : UInt8) (x : Bool) (d : List UInt8) (ns : List ByteArray) (ks : List T) : heightT (.mk k x d ns ks) = heightL ks := by rw [heightT]
theorem heightL_cons (k : T) (r : List T) : heightL (k :: r) = Nat.max (1 + heightT k) (heightL r) := by rw [heightL]
theorem heightL_nil : heightL [] = 0 := by rw [heightL]
theorem heightL_append : ∀ p q : List T, heightL (p ++ q) = Nat.max (heightL p) (heightL q)
  | [], q => by
    rw [List.nil_append, heightL_nil]
    exact (Nat.max_eq_right (Nat.zero_le _)).symm
  | k :: p, q => by
    rw [List.cons_append, heightL_cons, heightL_cons, heightL_append p q]
    exact (Nat.max_assoc _ _ _).symm
theorem heightL_take {l : List T} {i : Nat} (h : i < l.length) : heightL (l.take (i + 1)) = Nat.max (heightL (l.take i)) (1 + heightT (l.getD i default)) := by
  rw [List.take_succ_eq_append_getElem h, heightL_append, heightL_cons, heightL_nil]
  have e : l.getD i default = l[i] := by simp [List.getD, List.getElem?_eq_getElem h]
  rw [e]
  congr 1
  exact Nat.max_eq_left (Nat.zero_le _)
mutual
theorem heightT_lt : ∀ t : T, heightT t < sizeN t
  | .mk k x d ns ks => by
    rw [heightT_mk, sizeN_mk]
    have := heightL_le ks
    omega
theorem heightL_le : ∀ l : List T, heightL l ≤ sizeNL l
  | [] => by rw [heightL_nil]; omega
  | k :: r => by
    rw [heightL_cons, sizeNL_cons]
    have h1 := heightT_lt k
    have h2 := heightL_le r
    have h3 := sizeN_pos k
    exact Nat.max_le.2 ⟨by omega, by omega⟩
end
theorem heightL_take_le {l : List T} (i : Nat) : heightL (l.take i) ≤ sizeNL l := by
  have h1 := heightL_le (l.take i)
  have h2 := sizeNL_append (l.take i) (l.drop i)
  rw [List.take_append_drop] at h2
  omega

set_option maxRecDepth 100000 in
set_option maxHeartbeats 20000000 in
theorem height_any : ∀ (n : Nat) (cs : List Value) (t : T) (w : World), IsT w n cs t → sizeN t ≤ 1000000 →
    Calls Tryz.prog 143 #[.agg cs.toArray] w fun e w' => e = .returned (.int .i64 (heightT t : Int)) ∧ Below w.heap.size w w'
  | 0, _, _, _, ht => absurd ht (by simp [IsT])
  | n + 1, cs, .mk k x d ns ks, w, ht => by
    intro hN
    obtain ⟨ad, nd, cd, an, nn, cn, ak, nk, ck, rfl, hB, hS, hK⟩ := ht
    have HK := Lib.hid hK
    have hnk : nk = ks.length := hK.length.symm
    rw [sizeN_mk] at hN
    rw [heightT_mk]
    obtain ⟨M, hM⟩ : ∃ M, M = heightL ks := ⟨_, rfl⟩
    have HM := Lib.hid hM
    rw [← hM]
    have HZ : Hid (∀ i, heightL (ks.take i) ≤ 1000000) := Lib.hid (fun i => by have := heightL_take_le (l := ks) i; omega)
    have HZ2 : Hid (∀ i, i < ks.length → sizeN (ks.getD i default) ≤ 1000000) := Lib.hid (fun i hi => by have := sizeNL_get hi; omega)
    have HNK := Lib.hid hnk
    clear hB hS hK hM hN hnk
    go_enter Tryz.func143, Tryz.ntmps143
    go_upto_region 1 with fail
    obtain ⟨w1, hw1⟩ : ∃ w1, w1 = w.alloc (.cells #[.int .u8 (k.toNat : Int), .bool x, .slice ad nd cd, .slice an nn cn, .slice ak nk ck] 37) := ⟨_, rfl⟩
    have g1 : Has w1 w.heap.size [.int .u8 (k.toNat : Int), .bool x, .slice ad nd cd, .slice an nn cn, .slice ak nk ck] 37 := by rw [hw1]; exact Has.new w _ _
    have b1 : Below w.heap.size w w1 := by rw [hw1]; exact (Below.refl _ _).alloc (Nat.le_refl _) _
    have s1 : w1.heap.size = w.heap.size + 1 := by rw [hw1]; simp
    rw [← hw1]
    obtain ⟨g, hg⟩ : ∃ g, g = w.heap.size := ⟨_, rfl⟩
    rw [← hg] at g1 s1 b1 ⊢
    have HG := Lib.hid hg
    clear hg hw1
    have cg4 := g1.cellAt (i := 4) rfl
    have B1 := Lib.hid b1
    clear g1 b1
    go_wp2_with fail
    have info5 : Hid ((Tryz.prog.info? 37).map (·.size) = some 5) := Lib.hid (by kernel_rfl)
    go_loopw [3, 9] (fun vm vi wr => ∃ (i : Nat), i ≤ nk ∧ vi = .int .i64 i ∧ vm = .int .i64 (heightL (ks.take i) : Int) ∧ Below g w wr ∧ g + 1 ≤ wr.heap.size) (fun _ vi _ => nk - (intOf vi).toNat)
    case atStart => exact ⟨0, Nat.zero_le _, rfl, by rw [List.take_zero, heightL_nil]; rfl, B1.out, by omega⟩
    case round =>
      clear B1 cg4
      obtain ⟨i, hi, rfl, rfl, hbel, hsz⟩ := hrel
      by_cases hlt : i < nk
      · rcases HK.out.at_ with h0 | ⟨b, off, rfl, hb, hc⟩
        · omega
        obtain ⟨c0, c1, c2, c3, c4, hR, e0, e1, e2, e3, e4⟩ := hc i hlt
        have hbg : b < g := by rw [HG.out]; exact hb
        have hrange : wr.rangeAt b (off + i * 5) [c0, c1, c2, c3, c4] := fun j v hv => by
          rw [Nat.add_assoc]
          match j, hv with
          | 0, hv => cases hv; exact (hbel.cell (p := ⟨b, off + (i * 5 + 0), none⟩) hbg).trans e0
          | 1, hv => cases hv; exact (hbel.cell (p := ⟨b, off + (i * 5 + 1), none⟩) hbg).trans e1
          | 2, hv => cases hv; exact (hbel.cell (p := ⟨b, off + (i * 5 + 2), none⟩) hbg).trans e2
          | 3, hv => cases hv; exact (hbel.cell (p := ⟨b, off + (i * 5 + 3), none⟩) hbg).trans e3
          | 4, hv => cases hv; exact (hbel.cell (p := ⟨b, off + (i * 5 + 4), none⟩) hbg).trans e4
          | j + 5, hv => simp at hv
        have HRANGE := Lib.hid hrange
        have hki : (i : Int) < (nk : Int) := by omega
        have hroom := HK.out.room
        unfold maxLen at hroom
        have hni : (i : Int) + 1 ≤ 9223372036854775807 := by omega
        have hik : i < ks.length := by rw [← HNK.out]; exact hlt
        obtain ⟨q, hq⟩ : ∃ q, q = heightT (ks.getD i default) := ⟨_, rfl⟩
        obtain ⟨m, hm⟩ : ∃ m, m = heightL (ks.take i) := ⟨_, rfl⟩
        rw [← hm]
        have hq1 : q ≤ 1000000 := by have := heightT_lt (ks.getD i default); have := HZ2.out i hik; omega
        have hST : heightL (ks.take (i + 1)) = Nat.max m (1 + q) := by rw [heightL_take hik, hm, hq]
        have HST : Hid ((if m < 1 + q then 1 + q else m) = heightL (ks.take (i + 1))) := Lib.hid (by
          rw [hST]
          split
          · exact (Nat.max_eq_right (by omega)).symm
          · exact (Nat.max_eq_left (by omega)).symm)
        have hone := Lib.hid (isT_one hR)
        obtain ⟨L, hL⟩ : ∃ L, L = [c0, c1, c2, c3, c4] := ⟨_, rfl⟩
        rw [← hL] at HRANGE hR hone
        have hll : Hid (L.length = 5) := Lib.hid (by rw [hL]; rfl)
        have hA : Hid ((#[.int .u8 0, .bool false, .slice none 0 0, .slice none 0 0, .slice none 0 0] : Array Value).size = L.toArray.size) := Lib.hid (by have := hll.out; simp [this])
        have hI : Hid ((Tryz.prog.info? 37).map (·.size) = some L.toArray.size) := Lib.hid (by rw [info5.out, List.size_toArray, hll.out])
        have HR : Hid (∀ W, Below g w W → IsT W n L (ks.getD i default)) := Lib.hid (fun W hW => IsT.later (by rw [← HG.out]; exact hW) _ _ _ hR)
        have HLT := Lib.hid hlt
        have HBE := Lib.hid hbel
        have HIK := Lib.hid hik
        have HQ := Lib.hid hq
        clear hbel hc hR e0 e1 e2 e3 e4 hrange hL hST hm hik hq
        go_wp2_with (first
          | (refine wpList_load_mid rfl 37 _ rfl b (off + i * 5) rfl L _ HRANGE.out Tryz.underlying37 rfl (by rw [info5.out, hll.out]) ?_)
          | (refine wpList_store_row rfl 37 _ _ rfl wr.heap.size L.toArray rfl rfl 37 _ (heap_alloc_new wr _) hI.out hA.out hone.out ?_)
          | (refine wpList_load_row rfl 37 _ rfl wr.heap.size rfl 37 L.toArray (0, 0) _ (setRow_heap _ _ _ _ _ _ (heap_alloc_new wr _)) Tryz.underlying37 rfl hI.out ?_))
        obtain ⟨w5, hw5⟩ : ∃ w5, w5 = (wr.alloc (.cells #[.int .u8 0, .bool false, .slice none 0 0, .slice none 0 0, .slice none 0 0] 37)).setRow wr.heap.size L.toArray := ⟨_, rfl⟩
        have b5 : Below g w w5 := by
          rw [hw5]
          exact below_setRow (HBE.out.alloc (by omega) _) (by omega) _
        have s5 : w5.heap.size = wr.heap.size + 1 := by rw [hw5]; simp
        rw [← hw5]
        have K5 := Lib.hid (height_any n L (ks.getD i default) w5 (HR.out w5 b5) (HZ2.out i HIK.out))
        have B5 := Lib.hid b5
        clear hw5 b5
        refine K5.out.mono ?_
        rintro e w6 ⟨rfl, b6⟩
        have B6 := Lib.hid b6
        rw [← HQ.out]
        clear b6 K5
        by_cases hmq : m < 1 + q
        · have HS2 : Hid (1 + q = heightL (ks.take (i + 1))) := Lib.hid (by rw [← HST.out, if_pos hmq])
          have hmi : (m : Int) < 1 + (q : Int) := by omega
          clear hmq
          go_wp2_with fail
          go_roundw
          case rel => exact ⟨i + 1, by omega, by go_num, by rw [← HS2.out]; go_num, B5.out.trans (B6.out.mono (by omega)), by have := B6.out.size; omega⟩
          case measure =>
            have := HLT.out
            simp only [intOf]; omega
        · have HS2 : Hid (m = heightL (ks.take (i + 1))) := Lib.hid (by rw [← HST.out, if_neg hmq])
          have hmi : ¬ (m : Int) < 1 + (q : Int) := by omega
          clear hmq
          go_wp2_with fail
          go_roundw
          case rel => exact ⟨i + 1, by omega, by go_num, by rw [← HS2.out, Int.max_eq_left (by omega)], B5.out.trans (B6.out.mono (by omega)), by have := B6.out.size; omega⟩
          case measure =>
            have := HLT.out
            simp only [intOf]; omega
      · obtain rfl : nk = i := by omega
        have HE : Hid (heightL (ks.take nk) = M) := Lib.hid (by rw [HNK.out, List.take_of_length_le (Nat.le_refl _), HM.out])
        have HBE := Lib.hid hbel
        rw [HE.out]
        clear hbel
        go_wp2_with fail
        go_ret
        exact ⟨rfl, by rw [← HG.out]; exact HBE.out⟩

end Go.Proofs.YtlccdenafnekjaaGreatDoor
namespace Go.Proofs.YtlccdenafnekjaaGreatDoor
open Go.RowKit
set_option linter.unusedVariables false

/-! How great a tree is. -/
mutual
/-- All in it is formed. -/
def fmA : T → Prop
  | .mk k x d ns ks => formedT (.mk k x d ns ks) = true ∧ fmL ks
def fmL : List T → Prop
  | [] => True
  | k :: r => fmA k ∧ fmL r
end
mutual
/-- How many bytes there are in it. -/
def bytesT : T → Nat
  | .mk _ _ d _ ks => d.length + bytesL ks
def bytesL : List T → Nat
  | [] => 0
  | k :: r => bytesT k + bytesL r
end
theorem fmA_mk (k : UInt8) (x : Bool) (d : List UInt8) (ns : List ByteArray) (ks : List T) : fmA (.mk k x d ns ks) ↔ formedT (.mk k x d ns ks) = true ∧ fmL ks := by rw [fmA]
theorem fmL_cons (k : T) (r : List T) : fmL (k :: r) ↔ fmA k ∧ fmL r := by rw [fmL]
theorem bytesT_mk (k : UInt8) (x : Bool) (d : List UInt8) (ns : List ByteArray) (ks : List T) : bytesT (.mk k x d ns ks) = d.length + bytesL ks := by rw [bytesT]
theorem bytesL_cons (k : T) (r : List T) : bytesL (k :: r) = bytesT k + bytesL r := by rw [bytesL]
theorem fmL_append : ∀ p q : List T, fmL (p ++ q) ↔ fmL p ∧ fmL q
  | [], q => by simp [fmL]
  | k :: p, q => by rw [List.cons_append, fmL_cons, fmL_cons, fmL_append p q, and_assoc]
theorem bytesL_append : ∀ p q : List T, bytesL (p ++ q) = bytesL p + bytesL q
  | [], q => by simp [bytesL]
  | k :: p, q => by rw [List.cons_append, bytesL_cons, bytesL_cons, bytesL_append p q]; omega

mutual
theorem takeT_iff : ∀ (t : T) (D n b : Nat) (r : Nat × Nat), takeT t D n b = some r ↔ fmA t ∧ D + heightT t ≤ 16 ∧ n + sizeN t ≤ 4096 ∧ b + bytesT t ≤ 65536 ∧ r = (n + sizeN t, b + bytesT t)
  | .mk k x d ns ks, D, n, b, r => by
    rw [takeT_mk, fmA_mk, heightT_mk, sizeN_mk, bytesT_mk]
    by_cases hc : D ≤ 16 ∧ n + 1 ≤ 4096 ∧ b + d.length ≤ 65536 ∧ formedT (.mk k x d ns ks) = true
    · rw [if_pos hc, takeL_iff ks (D + 1) (n + 1) (b + d.length) r (by omega) hc.2.1 hc.2.2.1]
      constructor
      · rintro ⟨h1, h2, h3, h4, h5⟩
        exact ⟨⟨hc.2.2.2, h1⟩, by omega, by omega, by omega, by rw [h5]; simp only [Prod.mk.injEq]; omega⟩
      · rintro ⟨⟨_, h1⟩, h2, h3, h4, h5⟩
        exact ⟨h1, by omega, by omega, by omega, by rw [h5]; simp only [Prod.mk.injEq]; omega⟩
    · rw [if_neg hc]
      constructor
      · intro h; cases h
      · rintro ⟨⟨h0, h1⟩, h2, h3, h4, h5⟩
        exact absurd ⟨by omega, by omega, by omega, h0⟩ hc
theorem takeL_iff : ∀ (l : List T) (D n b : Nat) (r : Nat × Nat), D ≤ 17 → n ≤ 4096 → b ≤ 65536 → (takeL l D n b = some r ↔ fmL l ∧ D + heightL l ≤ 17 ∧ n + sizeNL l ≤ 4096 ∧ b + bytesL l ≤ 65536 ∧ r = (n + sizeNL l, b + bytesL l))
  | [], D, n, b, r, hD, hn, hb => by
    rw [takeL, heightL_nil]
    simp only [fmL, sizeNL, bytesL, Option.some.injEq, true_and, Nat.add_zero]
    constructor
    · rintro rfl; exact ⟨hD, hn, hb, rfl⟩
    · rintro ⟨_, _, _, rfl⟩; rfl
  | k :: l, D, n, b, r, hD, hn, hb => by
    rw [takeL, fmL_cons, heightL_cons, sizeNL_cons, bytesL_cons]
    cases hk : takeT k D n b with
    | none =>
      constructor
      · intro h; cases h
      · rintro ⟨⟨h0, h1⟩, h2, h3, h4, h5⟩
        have hm := Nat.le_max_left (1 + heightT k) (heightL l)
        have : takeT k D n b = some (n + sizeN k, b + bytesT k) := (takeT_iff k D n b _).2 ⟨h0, by have : D + (1 + heightT k) ≤ 17 := Nat.le_trans (Nat.add_le_add_left hm D) h2; omega, by omega, by omega, rfl⟩
        rw [hk] at this; cases this
    | some q =>
      obtain ⟨g0, g1, g2, g3, rfl⟩ := (takeT_iff k D n b q).1 hk
      show takeL l D (n + sizeN k) (b + bytesT k) = some r ↔ _
      rw [takeL_iff l D _ _ r hD g2 g3]
      constructor
      · rintro ⟨h1, h2, h3, h4, h5⟩
        exact ⟨⟨g0, h1⟩, by rcases Nat.le_total (1 + heightT k) (heightL l) with h | h
                            · rw [show Nat.max (1 + heightT k) (heightL l) = heightL l from Nat.max_eq_right h]; exact h2
                            · rw [show Nat.max (1 + heightT k) (heightL l) = 1 + heightT k from Nat.max_eq_left h]; omega, by omega, by omega, by rw [h5]; simp only [Prod.mk.injEq]; omega⟩
      · rintro ⟨⟨_, h1⟩, h2, h3, h4, h5⟩
        have hm := Nat.le_max_right (1 + heightT k) (heightL l)
        exact ⟨h1, Nat.le_trans (Nat.add_le_add_left hm D) h2, by omega, by omega, by rw [h5]; simp only [Prod.mk.injEq]; omega⟩
end
theorem sizeT_iff (t : T) (x y : Nat) : sizeT t = some (x, y) ↔ fmA t ∧ heightT t ≤ 16 ∧ sizeN t ≤ 4096 ∧ bytesT t ≤ 65536 ∧ x = sizeN t ∧ y = bytesT t := by
  unfold sizeT
  rw [takeT_iff]
  simp only [Nat.zero_add, Prod.mk.injEq]

/-! A kid taken out of a list, put in, put in the place of one. -/
theorem split_at {l : List T} {i : Nat} (h : i < l.length) : l = l.take i ++ l.getD i default :: l.drop (i + 1) := by
  have e : l.getD i default = l[i] := by simp [List.getD, List.getElem?_eq_getElem h]
  rw [e, ← List.drop_eq_getElem_cons h, List.take_append_drop]
theorem set_at {l : List T} {i : Nat} (h : i < l.length) (k : T) : l.set i k = l.take i ++ k :: l.drop (i + 1) := List.set_eq_take_append_cons_drop.trans (if_pos h)
theorem fmL_kid {l : List T} {i : Nat} (h : i < l.length) : fmL l ↔ fmL (l.take i) ∧ fmA (l.getD i default) ∧ fmL (l.drop (i + 1)) := by
  conv => lhs; rw [split_at h]
  rw [fmL_append, fmL_cons]
theorem fmL_getD {l : List T} (hf : fmL l) {i : Nat} (h : i < l.length) : fmA (l.getD i default) := ((fmL_kid h).1 hf).2.1
theorem sizeNL_kid {l : List T} {i : Nat} (h : i < l.length) : sizeNL l = sizeNL (l.take i) + (sizeN (l.getD i default) + sizeNL (l.drop (i + 1))) := by
  conv => lhs; rw [split_at h]
  rw [sizeNL_append, sizeNL_cons]
theorem bytesL_kid {l : List T} {i : Nat} (h : i < l.length) : bytesL l = bytesL (l.take i) + (bytesT (l.getD i default) + bytesL (l.drop (i + 1))) := by
  conv => lhs; rw [split_at h]
  rw [bytesL_append, bytesL_cons]
theorem heightL_kid {l : List T} {i : Nat} (h : i < l.length) : heightL l = Nat.max (heightL (l.take i)) (Nat.max (1 + heightT (l.getD i default)) (heightL (l.drop (i + 1)))) := by
  conv => lhs; rw [split_at h]
  rw [heightL_append, heightL_cons]
theorem heightL_split (l : List T) (i : Nat) : heightL l = Nat.max (heightL (l.take i)) (heightL (l.drop i)) := by
  conv => lhs; rw [← List.take_append_drop i l]
  rw [heightL_append]
theorem sizeNL_split (l : List T) (i : Nat) : sizeNL l = sizeNL (l.take i) + sizeNL (l.drop i) := by
  conv => lhs; rw [← List.take_append_drop i l]
  rw [sizeNL_append]
theorem bytesL_split (l : List T) (i : Nat) : bytesL l = bytesL (l.take i) + bytesL (l.drop i) := by
  conv => lhs; rw [← List.take_append_drop i l]
  rw [bytesL_append]
theorem fmL_split (l : List T) (i : Nat) : fmL l ↔ fmL (l.take i) ∧ fmL (l.drop i) := by
  conv => lhs; rw [← List.take_append_drop i l]
  rw [fmL_append]

/-! Names in their order. -/
theorem nl_trans : ∀ a b c : List UInt8, Op.bytesLess a b = true → Op.bytesLess b c = true → Op.bytesLess a c = true
  | _, [], _, h, _ => by simp [Op.bytesLess] at h
  | _, _ :: _, [], _, h => by simp [Op.bytesLess] at h
  | [], _ :: _, _ :: _, _, _ => rfl
  | x :: a, y :: b, z :: c, h1, h2 => by
    simp only [Op.bytesLess, Bool.or_eq_true, decide_eq_true_eq, Bool.and_eq_true, beq_iff_eq] at h1 h2 ⊢
    rcases h1 with h1 | ⟨rfl, h1⟩
    · rcases h2 with h2 | ⟨rfl, h2⟩
      · left; rw [UInt8.lt_iff_toNat_lt] at *; omega
      · exact .inl h1
    · rcases h2 with h2 | ⟨rfl, h2⟩
      · exact .inl h2
      · exact .inr ⟨rfl, nl_trans a b c h1 h2⟩

theorem nl_irr : ∀ a : List UInt8, Op.bytesLess a a = false
  | [] => rfl
  | x :: a => by simp [Op.bytesLess, nl_irr a]

/-- Names that rise are all different. -/
theorem nl_apart {l : List ByteArray} (h : risingT l = true) : ∀ j i, j < i → i < l.length → Op.bytesLess (l.getD j ⟨#[]⟩).toList (l.getD i ⟨#[]⟩).toList = true := by
  have hr := h
  unfold risingT at hr
  rw [List.all_eq_true] at hr
  have step : ∀ i, 1 ≤ i → i < l.length → Op.bytesLess (l.getD (i - 1) ⟨#[]⟩).toList (l.getD i ⟨#[]⟩).toList = true := fun i h1 hi => by
    have := hr i (List.mem_range.2 hi)
    simp only [Bool.and_eq_true, Bool.or_eq_true, Bool.not_eq_true', beq_iff_eq] at this
    rcases this.2 with h0 | h0
    · omega
    · unfold leS at h0
      have hs := less_swap (l.getD (i - 1) ⟨#[]⟩).toList (l.getD i ⟨#[]⟩).toList
      rw [h0] at hs
      simpa using hs
  intro j i hji hi
  induction i with
  | zero => omega
  | succ i ih =>
    by_cases e : j = i
    · subst e
      have := step (j + 1) (by omega) hi
      simpa using this
    · have h1 := ih (by omega) (by omega)
      have h2 := step (i + 1) (by omega) hi
      exact nl_trans _ _ _ h1 (by simpa using h2)

/-- The one name stands ahead of the other. -/
def nLt (a b : ByteArray) : Prop := Op.bytesLess a.toList b.toList = true
theorem nLt_trans {a b c : ByteArray} (h : nLt a b) (h' : nLt b c) : nLt a c := nl_trans _ _ _ h h'
theorem ba_list {a b : ByteArray} (h : a.toList = b.toList) : a = b := by
  rw [ByteArray.toList_eq, ByteArray.toList_eq] at h
  cases a with
  | mk a =>
    cases b with
    | mk b =>
      have h' : a = b := Array.toList_inj.1 h
      rw [h']
theorem nLt_total (a b : ByteArray) : nLt a b ∨ a = b ∨ nLt b a := by
  have h := less_swap a.toList b.toList
  unfold nLt
  cases h1 : Op.bytesLess a.toList b.toList with
  | true => exact .inl rfl
  | false =>
    rw [h1] at h
    have h2 : (Op.bytesLess b.toList a.toList || b.toList == a.toList) = true := by rw [← h]; rfl
    rw [Bool.or_eq_true, beq_iff_eq] at h2
    rcases h2 with h2 | h2
    · exact .inr (.inr h2)
    · exact .inr (.inl (ba_list h2.symm))
theorem nLt_irr (a : ByteArray) : ¬ nLt a a := by unfold nLt; rw [nl_irr]; simp
theorem risingT_iff (l : List ByteArray) : risingT l = true ↔ (∀ x ∈ l, tName x.data.toList = true) ∧ l.Pairwise nLt := by
  constructor
  · intro h
    refine ⟨fun x hx => ?_, ?_⟩
    · obtain ⟨i, hi, rfl⟩ := List.mem_iff_getElem.1 hx
      cases hn : tName (l[i]).data.toList with
      | true => rfl
      | false =>
        have : risingT l = false := risingT_name hi (by rw [List.getD_eq_getElem?_getD, List.getElem?_eq_getElem hi]; exact hn)
        rw [this] at h; cases h
    · rw [List.pairwise_iff_getElem]
      intro i j hi hj hij
      have := nl_apart h i j hij hj
      rw [List.getD_eq_getElem?_getD, List.getD_eq_getElem?_getD, List.getElem?_eq_getElem hi, List.getElem?_eq_getElem hj] at this
      exact this
  · rintro ⟨h1, h2⟩
    rw [List.pairwise_iff_getElem] at h2
    refine risingT_good fun i hi => ⟨?_, fun h0 => ?_⟩
    · rw [List.getD_eq_getElem?_getD, List.getElem?_eq_getElem hi]
      exact h1 _ (List.getElem_mem hi)
    · have h3 := h2 (i - 1) i (by omega) hi (by omega)
      rw [List.getD_eq_getElem?_getD, List.getD_eq_getElem?_getD, List.getElem?_eq_getElem hi, List.getElem?_eq_getElem (show i - 1 < l.length by omega)]
      have h4 := less_swap (l[i - 1]).toList (l[i]).toList
      have h5 : Op.bytesLess (l[i - 1]).toList (l[i]).toList = true := h3
      rw [h5] at h4
      unfold leS
      exact h4.symm

/-! Where a name stands, or would. -/
/-- The place that slices.BinarySearch tells. -/
def plc (ns : List ByteArray) (x : ByteArray) : Nat := Lib.bsGo (fun t => Op.bytesLess (ns.getD t ⟨#[]⟩).toList x.toList) ns.length 0 ns.length
/-- Does the name stand there? -/
def tkn (ns : List ByteArray) (x : ByteArray) : Bool := decide (plc ns x < ns.length ∧ ns.getD (plc ns x) ⟨#[]⟩ = x)

theorem bsGo_congr {less less' : Nat → Bool} : ∀ (f lo hi : Nat), (∀ t, lo ≤ t → t < hi → less t = less' t) → Lib.bsGo less f lo hi = Lib.bsGo less' f lo hi
  | 0, lo, hi, h => rfl
  | f + 1, lo, hi, h => by
    unfold Lib.bsGo
    by_cases hl : lo < hi
    · rw [if_pos hl, if_pos hl, h _ (by omega) (by omega), bsGo_congr f _ hi (fun t a b => h t (by omega) b), bsGo_congr f lo _ (fun t a b => h t a (by omega))]
    · rw [if_neg hl, if_neg hl]
theorem bsGo_le (less : Nat → Bool) : ∀ (f lo hi : Nat), lo ≤ hi → lo ≤ Lib.bsGo less f lo hi ∧ Lib.bsGo less f lo hi ≤ hi
  | 0, lo, hi, h => by simp [Lib.bsGo, h]
  | f + 1, lo, hi, h => by
    unfold Lib.bsGo
    by_cases hl : lo < hi
    · rw [if_pos hl]
      split
      · have := bsGo_le less f ((lo + hi) / 2 + 1) hi (by omega); omega
      · have := bsGo_le less f lo ((lo + hi) / 2) (by omega); omega
    · rw [if_neg hl]; omega
theorem plc_le (ns : List ByteArray) (x : ByteArray) : plc ns x ≤ ns.length := (bsGo_le _ ns.length 0 ns.length (Nat.zero_le _)).2
/-- Of names that rise: those ahead are less, those from there on are not. -/
theorem plc_spec {ns : List ByteArray} (h : ns.Pairwise nLt) (x : ByteArray) : (∀ y ∈ ns.take (plc ns x), nLt y x) ∧ (∀ y ∈ ns.drop (plc ns x), ¬ nLt y x) := by
  obtain ⟨k, hk⟩ : ∃ k, k = (ns.takeWhile fun y => Op.bytesLess y.toList x.toList).length := ⟨_, rfl⟩
  have hkl : k ≤ ns.length := by rw [hk]; exact (List.takeWhile_sublist _).length_le
  have htk : ns.take k = ns.takeWhile fun y => Op.bytesLess y.toList x.toList := by
    have hp : (ns.takeWhile fun y => Op.bytesLess y.toList x.toList) <+: ns := List.takeWhile_prefix _
    rw [hk]; exact (List.prefix_iff_eq_take.1 hp).symm
  have h1 : ∀ y ∈ ns.take k, nLt y x := fun y hy => by
    rw [htk] at hy
    exact (List.all_eq_true.1 List.all_takeWhile) y hy
  have h2 : ∀ y ∈ ns.drop k, ¬ nLt y x := by
    have hd : ns.drop k = ns.dropWhile fun y => Op.bytesLess y.toList x.toList := by
      have e := List.takeWhile_append_dropWhile (p := fun y : ByteArray => Op.bytesLess y.toList x.toList) (l := ns)
      conv => lhs; rw [← e]
      rw [hk, List.drop_left' rfl]
    intro y hy
    have hpd : (ns.drop k).Pairwise nLt := h.sublist (List.drop_sublist _ _)
    rw [hd] at hy hpd
    cases hw : ns.dropWhile fun y => Op.bytesLess y.toList x.toList with
    | nil => rw [hw] at hy; cases hy
    | cons z r =>
      have hz : ¬ nLt z x := by
        have := List.head_dropWhile_not (fun y : ByteArray => Op.bytesLess y.toList x.toList) (l := ns) (by rw [hw]; simp)
        simp only [hw, List.head_cons] at this
        unfold nLt; rw [this]; simp
      rw [hw] at hy hpd
      rcases List.mem_cons.1 hy with rfl | hy
      · exact hz
      · exact fun hl => hz (nLt_trans ((List.pairwise_cons.1 hpd).1 y hy) hl)
  have hkp : plc ns x = k := by
    unfold plc
    rw [bsGo_congr (less' := fun t => Op.bytesLess (ns.getD t ⟨#[]⟩).toList x.toList && decide (t < ns.length)) _ _ _ (fun t _ ht => by simp [ht])]
    refine Lib.bsGo_spec _ k (fun t ht => ?_) (fun t ht => ?_) _ _ _ (by omega) (Nat.zero_le _) hkl
    · have hm : ns[t]'(by omega) ∈ ns.take k := List.mem_take_iff_getElem.2 ⟨t, by omega, rfl⟩
      have := h1 _ hm
      rw [List.getD_eq_getElem?_getD, List.getElem?_eq_getElem (by omega)]
      simp only [Option.getD_some, Bool.and_eq_true, decide_eq_true_eq]
      exact ⟨this, by omega⟩
    · by_cases hl : t < ns.length
      · have hm : ns[t] ∈ ns.drop k := List.mem_drop_iff_getElem.2 ⟨t - k, by omega, by congr 1; omega⟩
        have := h2 _ hm
        rw [List.getD_eq_getElem?_getD, List.getElem?_eq_getElem hl]
        simp only [Option.getD_some, Bool.and_eq_false_iff]
        exact .inl (by simpa [nLt] using this)
      · simp [hl]
  rw [hkp]
  exact ⟨h1, h2⟩
theorem tkn_spec {ns : List ByteArray} {x : ByteArray} (h : tkn ns x = true) : plc ns x < ns.length ∧ ns.getD (plc ns x) ⟨#[]⟩ = x := by unfold tkn at h; simpa using h
theorem not_tkn {ns : List ByteArray} (hp : ns.Pairwise nLt) {x : ByteArray} (h : tkn ns x = false) : ∀ y ∈ ns.drop (plc ns x), nLt x y := by
  intro y hy
  rcases nLt_total x y with h1 | rfl | h1
  · exact h1
  · have hs := plc_spec hp x
    obtain ⟨j, hj, e⟩ := List.mem_drop_iff_getElem.1 hy
    have hlt : plc ns x < ns.length := by omega
    have h0 : ns[plc ns x]'hlt ∈ ns.drop (plc ns x) := List.mem_drop_iff_getElem.2 ⟨0, by omega, by simp⟩
    have hne : ns[plc ns x]'hlt ≠ x := fun e' => by
      have : tkn ns x = true := by
        unfold tkn
        simp only [decide_eq_true_eq]
        exact ⟨hlt, by rw [List.getD_eq_getElem?_getD, List.getElem?_eq_getElem hlt]; exact e'⟩
      rw [this] at h; cases h
    rcases Nat.eq_zero_or_pos j with rfl | hj0
    · exact absurd (by simpa using e) hne
    · have hq := List.pairwise_iff_getElem.1 hp (plc ns x) (plc ns x + j) hlt (by omega) (by omega)
      rw [e] at hq
      exact absurd hq (hs.2 _ h0)
  · exact absurd h1 ((plc_spec hp x).2 y hy)
theorem rising_ins {ns : List ByteArray} (h : risingT ns = true) {x : ByteArray} (hx : tName x.data.toList = true) (hn : tkn ns x = false) : risingT (ns.take (plc ns x) ++ x :: ns.drop (plc ns x)) = true := by
  rw [risingT_iff] at h ⊢
  refine ⟨fun y hy => ?_, ?_⟩
  · rcases List.mem_append.1 hy with h1 | h1
    · exact h.1 y (List.mem_of_mem_take h1)
    · rcases List.mem_cons.1 h1 with rfl | h1
      · exact hx
      · exact h.1 y (List.mem_of_mem_drop h1)
  · have hs := plc_spec h.2 x
    have ht := not_tkn h.2 hn
    rw [List.pairwise_append]
    refine ⟨h.2.sublist (List.take_sublist _ _), List.pairwise_cons.2 ⟨ht, h.2.sublist (List.drop_sublist _ _)⟩, fun a ha b hb => ?_⟩
    rcases List.mem_cons.1 hb with rfl | hb
    · exact hs.1 a ha
    · exact nLt_trans (hs.1 a ha) (ht b hb)
theorem rising_del {ns : List ByteArray} (h : risingT ns = true) (i : Nat) : risingT (ns.take i ++ ns.drop (i + 1)) = true := by
  rw [risingT_iff] at h ⊢
  have hsub : (ns.take i ++ ns.drop (i + 1)).Sublist ns := by
    conv => rhs; rw [← List.take_append_drop i ns]
    exact (List.Sublist.refl _).append (by rw [← List.drop_drop]; exact List.drop_sublist _ _)
  exact ⟨fun y hy => h.1 y (hsub.subset hy), h.2.sublist hsub⟩

/-! The changes. -/
def kindT : T → UInt8 | .mk k _ _ _ _ => k
def namesT : T → List ByteArray | .mk _ _ _ ns _ => ns
def kidsT : T → List T | .mk _ _ _ _ ks => ks
def insT (t : T) (i : Nat) (nm : ByteArray) (k : T) : T := match t with | .mk kd x d ns ks => .mk kd x d (ns.take i ++ nm :: ns.drop i) (ks.take i ++ k :: ks.drop i)
def delT (t : T) (i : Nat) : T := match t with | .mk kd x d ns ks => .mk kd x d (ns.take i ++ ns.drop (i + 1)) (ks.take i ++ ks.drop (i + 1))
def kidT (t : T) (i : Nat) : T := (kidsT t).getD i default
def setT (t : T) (i : Nat) (k : T) : T := match t with | .mk kd x d ns ks => .mk kd x d ns (ks.set i k)
def emptyDir : T := .mk 3 false [] [] []

/-- What is done at a spot: a new directory, a tree that is put, a drop. -/
inductive Ed where
  | mk
  | put (k : T)
  | drop
/-- The error, the tree, how many trees and bytes there are. -/
abbrev ER := Nat × T × Nat × Nat
def layE (nm : ByteArray) (i dep : Nat) (t k : T) (a b : Nat) : ER := (if 4096 < a + sizeN k ∨ 65536 < b + bytesT k ∨ 16 < dep + heightT k then 2 else 0, insT t i nm k, a + sizeN k, b + bytesT k)
def actE (e : Ed) (nm : ByteArray) (dep : Nat) (t : T) (a b : Nat) : ER :=
  match e with
  | .mk => if tkn (namesT t) nm then (7, t, a, b) else layE nm (plc (namesT t) nm) dep t emptyDir a b
  | .put k => if tkn (namesT t) nm then layE nm (plc (namesT t) nm) dep (delT t (plc (namesT t) nm)) k (a - sizeN (kidT t (plc (namesT t) nm))) (b - bytesT (kidT t (plc (namesT t) nm)))
      else layE nm (plc (namesT t) nm) dep t k a b
  | .drop => if tkn (namesT t) nm then (0, delT t (plc (namesT t) nm), a - sizeN (kidT t (plc (namesT t) nm)), b - bytesT (kidT t (plc (namesT t) nm))) else (6, t, a, b)
def chgE (e : Ed) : List ByteArray → Nat → T → Nat → Nat → ER
  | [], _, t, a, b => (8, t, a, b)
  | nm :: r, dep, t, a, b => if kindT t ≠ 3 then (8, t, a, b) else if r = [] then actE e nm dep t a b
    else if tkn (namesT t) nm then
      ((chgE e r (dep + 1) (kidT t (plc (namesT t) nm)) a b).1, setT t (plc (namesT t) nm) (chgE e r (dep + 1) (kidT t (plc (namesT t) nm)) a b).2.1, (chgE e r (dep + 1) (kidT t (plc (namesT t) nm)) a b).2.2)
    else (6, t, a, b)
/-- What stands at some names. -/
def getE : List ByteArray → T → T
  | [], t => t
  | nm :: r, t => getE r (kidT t (plc (namesT t) nm))

end Go.Proofs.YtlccdenafnekjaaGreatDoor
namespace Go.Proofs.YtlccdenafnekjaaGreatDoor
open Go.RowKit
set_option linter.unusedVariables false

abbrev tT : TypeId := 37

/-- copy at elements of any size, into a block that is known. -/
theorem run_copy_n {P : Program} (w : World) (dT sT ty elem : TypeId) (sz g o dLen dCap : Nat) (a : Addr) (sLen sCap : Nat) (cur : Array Value) (t : TypeId) (cs : List Value)
    (hu : P.underlying dT = some (.slice elem)) (hs : (P.info? elem).map (·.size) = some sz)
    (hg : w.heap[g]? = some (.cells cur t (0, 0))) (hn : cs.length = Nat.min sLen dLen * sz)
    (hsrc : ∀ j v, cs[j]? = some v → w.cell? (a.add j) = some v) (hfit : o + cs.length ≤ cur.size) (h1 : ∀ v ∈ cs, v.oneCell' = true) :
    (Builtin.copy_ #[dT, sT] ty #[.slice (some ⟨g, o, none⟩) dLen dCap, .slice (some a) sLen sCap]).run P w =
      .ok (goInt (Nat.min sLen dLen)) (w.setRow g (cur.toList.take o ++ cs ++ cur.toList.drop (o + cs.length)).toArray) := by
  have hl := run_loadCells_list (P := P) w a cs hsrc
  have hst := run_storeCells_at P g o t cs 0 cur w hg (by simpa using hfit) h1
  cases hq : P.info? elem with
  | none => simp [hq] at hs
  | some i =>
    have hi : i.size = sz := by simpa [hq] using hs
    simp only [Nat.min_def] at hn ⊢
    simp [Builtin.copy_, run_underlying hu, Builtin.lenOf, Builtin.firstCells, sizeOf, typeInfo, hq, hi, Nat.min_def, ← hn, hl, hst]

/-- append within the room of a block that is known. -/
theorem run_append_in {P : Program} (w : World) (t ty elem : TypeId) (sz g n cap : Nat) (x : Option Addr) (m c : Nat) (cur : Array Value) (tt : TypeId) (cs : List Value)
    (hu : P.underlying t = some (.slice elem)) (hs : (P.info? elem).map (·.size) = some sz)
    (hg : w.heap[g]? = some (.cells cur tt (0, 0))) (hn : cs.length = m * sz) (hroom : n + m ≤ cap)
    (hsrc : ∀ a, x = some a → ∀ j v, cs[j]? = some v → w.cell? (a.add j) = some v) (hx : x = none → m = 0) (hfit : n * sz + cs.length ≤ cur.size) (h1 : ∀ v ∈ cs, v.oneCell' = true) :
    (Builtin.append_ #[t, t] ty #[.slice (some ⟨g, 0, none⟩) n cap, .slice x m c]).run P w =
      .ok (.slice (some ⟨g, 0, none⟩) (n + m) cap) (w.setRow g (cur.toList.take (n * sz) ++ cs ++ cur.toList.drop (n * sz + cs.length)).toArray) := by
  have hst := run_storeCells_at P g (n * sz) tt cs 0 cur w hg (by simpa using hfit) h1
  have hadd : (⟨g, 0, none⟩ : Addr).add (n * sz) = ⟨g, n * sz, none⟩ := by rw [Addr.add_mid, Nat.zero_add]
  cases hq : P.info? elem with
  | none => simp [hq] at hs
  | some i =>
    have hi : i.size = sz := by simpa [hq] using hs
    cases x with
    | none =>
      obtain rfl := hx rfl
      obtain rfl : cs = [] := List.eq_nil_of_length_eq_zero (by simpa using hn)
      simp only [Nat.add_zero] at hroom
      simp at hst
      simp [Builtin.append_, run_underlying hu, Builtin.lenOf, Builtin.firstCells, sizeOf, typeInfo, hq, hi, hroom, hadd, hst]
    | some a =>
      have hl := run_loadCells_list (P := P) w a cs (hsrc a rfl)
      simp at hst
      simp [Builtin.append_, run_underlying hu, Builtin.lenOf, Builtin.firstCells, sizeOf, typeInfo, hq, hi, hroom, hadd, ← hn, hl, hst]

theorem info_T : (Tryz.prog.info? tT).map (·.size) = some 5 := by kernel_rfl
theorem getD_cell {w : World} {g : Nat} {cur : Array Value} {t : TypeId} {L : List Value} {n : Nat} (hg : w.heap[g]? = some (.cells cur t (0, 0))) (hL : cur.toList.take n = L) {j : Nat} {v : Value} (h : L[j]? = some v) : w.cell? ⟨g, j, none⟩ = some v := by
  rw [cell_of_row w g j cur t (0, 0) hg]
  rw [← hL, List.getElem?_take] at h
  split at h
  · rw [← h]; simp
  · cases h
theorem shape_of {w : World} {g : Nat} {cur : Array Value} {t : TypeId} (hg : w.heap[g]? = some (.cells cur t (0, 0))) : w.shape? g = some (t, cur.size) := by
  unfold World.shape?; rw [hg]
theorem frozen_of {w : World} {g o : Nat} {cur : Array Value} {t : TypeId} (hg : w.heap[g]? = some (.cells cur t (0, 0))) : w.frozen? ⟨g, o, none⟩ = false := by
  simp [World.frozen?, hg]

theorem row_ins {A D E ct : List Value} {k : Nat} (hA : A.length = k + 5) : (A ++ D ++ E).take k ++ ct ++ (A ++ D ++ E).drop (k + 5) = A.take k ++ ct ++ D ++ E := by
  rw [List.append_assoc A D E, List.take_append_of_le_length (by omega), List.drop_left' hA]
  simp [List.append_assoc]

set_option maxRecDepth 100000 in
set_option maxHeartbeats 4000000 in
/-- Insert where there is room. -/
theorem insT_in {w : World} {g n cap i vb : Nat} {cur : Array Value} {L ct : List Value} (hg : w.heap[g]? = some (.cells cur tT (0, 0))) (hcs : cur.size = cap * 5) (hL : cur.toList.take (n * 5) = L) (hroom : n + 1 ≤ cap) (hi : i < n) (hn : n ≤ 1000000) (hmx : cap ≤ maxLen)
    (hv : w.heap[vb]? = some (.cells ct.toArray tT (0, 0))) (hct : ct.length = 5) (hne : vb ≠ g) (h1L : ∀ u ∈ L, u.oneCell' = true) (h1c : ∀ u ∈ ct, u.oneCell' = true) :
    Calls Tryz.prog 141 #[.slice (some ⟨g, 0, none⟩) n cap, .int .i64 (i : Int), .slice (some ⟨vb, 0, none⟩) 1 1] w fun e w' =>
      e = .returned (.slice (some ⟨g, 0, none⟩) (n + 1) cap) ∧ ∃ q, w' = (w.drewN q).setRow g (L.take (i * 5) ++ ct ++ L.drop (i * 5) ++ cur.toList.drop ((n + 1) * 5)).toArray := by
  have hLl : L.length = n * 5 := by rw [← hL, List.length_take]; simp [hcs]; omega
  have hov : ∀ lb cb, (callFunc 152 #[.slice (some ⟨vb, 0, none⟩) 1 1, .slice (some ⟨g, (i + 1) * 5, none⟩) lb cb]).run Tryz.prog w = .ok (.value (.bool false)) w := fun lb cb => by
    rw [run_callFunc_extern Tryz.func152 (by kernel_rfl) (by kernel_rfl) (by kernel_rfl) (e := Extern.SlicesOverlaps.overlaps #[35, 35] #[4]) (by kernel_rfl),
      Lib.run_overlaps_apart w 35 4 tT Tryz.underlying35 5 Tryz.sizeOf37 ⟨vb, 0, none⟩ ⟨g, (i + 1) * 5, none⟩ 1 1 lb cb hne tT tT ct.toArray.size cur.size (shape_of hv) (shape_of hg) (by rw [hcs]; omega) (frozen_of hv) (frozen_of hv)]
    rfl
  obtain ⟨R1, hR1⟩ : ∃ R1 : Array Value, R1 = (cur.toList.take ((i + 1) * 5) ++ L.drop (i * 5) ++ cur.toList.drop ((n + 1) * 5)).toArray := ⟨_, rfl⟩
  obtain ⟨R2, hR2⟩ : ∃ R2 : Array Value, R2 = (L.take (i * 5) ++ ct ++ L.drop (i * 5) ++ cur.toList.drop ((n + 1) * 5)).toArray := ⟨_, rfl⟩
  have hcl : cur.toList.length = cap * 5 := by simp [hcs]
  have hdl : (L.drop (i * 5)).length = (n - i) * 5 := by rw [List.length_drop, hLl]; omega
  have hR1s : R1.size = cap * 5 := by rw [hR1]; simp [hcl, hLl]; omega
  have hcp1 : ∀ ty dl dc sl sc o1 o2 (W : World), W.heap[g]? = some (.cells cur tT (0, 0)) → dl = n - i → n - i ≤ sl → o1 = (i + 1) * 5 → o2 = i * 5 → (Builtin.copy_ #[35, 35] ty #[.slice (some ⟨g, o1, none⟩) dl dc, .slice (some ⟨g, o2, none⟩) sl sc]).run Tryz.prog W = .ok (goInt ((n - i : Nat) : Int)) (W.setRow g R1) := by
    rintro ty dl dc sl sc o1 o2 W hW rfl h2 rfl rfl
    have hmin : Nat.min sl (n - i) = n - i := Nat.min_eq_right h2
    rw [run_copy_n W _ _ ty tT 5 g ((i + 1) * 5) (n - i) dc ⟨g, i * 5, none⟩ sl sc cur tT (L.drop (i * 5)) Tryz.underlying35 info_T hW (by rw [hmin, hdl])
      (fun j v hj => by rw [Addr.add_mid]; rw [List.getElem?_drop] at hj; exact getD_cell hW hL hj) (by rw [hdl, hcs]; omega) (fun u hu => h1L u (List.mem_of_mem_drop hu)), hmin, hR1, hdl, show (i + 1) * 5 + (n - i) * 5 = (n + 1) * 5 by omega]
  have hcp2 : ∀ ty dl dc o1 (W : World), W.heap[g]? = some (.cells R1 tT (0, 0)) → W.heap[vb]? = some (.cells ct.toArray tT (0, 0)) → 1 ≤ dl → o1 = i * 5 → (Builtin.copy_ #[35, 35] ty #[.slice (some ⟨g, o1, none⟩) dl dc, .slice (some ⟨vb, 0, none⟩) 1 1]).run Tryz.prog W = .ok (goInt 1) (W.setRow g R2) := by
    rintro ty dl dc o1 W hW hWv h2 rfl
    have hmin : Nat.min 1 dl = 1 := Nat.min_eq_left h2
    rw [run_copy_n W _ _ ty tT 5 g (i * 5) dl dc ⟨vb, 0, none⟩ 1 1 R1 tT ct Tryz.underlying35 info_T hW (by rw [hmin, hct])
      (fun j v hj => by rw [Addr.add_mid, Nat.zero_add]; exact getD_cell hWv (n := 5) (L := ct) (by simp [← hct]) hj) (by rw [hct, hR1s]; omega) h1c, hmin, hR2, hct, hR1]
    have e1 : (cur.toList.take ((i + 1) * 5)).length = i * 5 + 5 := by rw [List.length_take, hcl]; omega
    have e2 : (cur.toList.take ((i + 1) * 5)).take (i * 5) = L.take (i * 5) := by rw [← hL, List.take_take, List.take_take, Nat.min_eq_left (by omega), Nat.min_eq_left (by omega)]
    show Result.ok (goInt 1) (W.setRow g ((cur.toList.take ((i + 1) * 5) ++ L.drop (i * 5) ++ cur.toList.drop ((n + 1) * 5)).take (i * 5) ++ ct ++ (cur.toList.take ((i + 1) * 5) ++ L.drop (i * 5) ++ cur.toList.drop ((n + 1) * 5)).drop (i * 5 + 5)).toArray) = _
    rw [row_ins e1, e2]
  have hR2e := Lib.hid hR2.symm
  have hcapi : (cap : Int) ≤ 9223372036854775807 := by unfold maxLen at hmx; omega
  have hin : (i : Int) ≤ (n : Int) := by omega
  have hw1 : IntKind.i64.wrap ((i : Int) + 1) = (i : Int) + 1 := by rw [IntKind.wrap_i64]; omega
  have hw2 : IntKind.i64.wrap ((n : Int) + 1) = (n : Int) + 1 := by rw [IntKind.wrap_i64]; omega
  have hz2 : ¬ ((i : Int) = (n : Int)) := by omega
  have hz3 : ¬ (cap : Int) < (n : Int) + 1 := by omega
  have hb2 : ¬ (cap = i + 1) := by omega
  have hb4 : ¬ (cap = i) := by omega
  have hb1 : (0 : Int) ≤ (i : Int) + 1 := by omega
  have hb3 : (i : Int) ≤ (n : Int) + 1 := by omega
  have mixed : Tryz.prog.follows .mixedOrders = true := by kernel_rfl
  have HG := Lib.hid hg
  have HV := Lib.hid hv
  have HC1 := Lib.hid (fun ty dc sc => hcp1 ty (n - i) dc (n + 1 - i) sc _ _ w.drew hg rfl (by omega) rfl rfl)
  obtain ⟨W1, hW1⟩ : ∃ W1, W1 = w.drew.setRow g R1 := ⟨_, rfl⟩
  have hg1 : W1.heap[g]? = some (.cells R1 tT (0, 0)) := by rw [hW1]; exact setRow_heap w.drew g cur R1 tT (0, 0) hg
  have hv1 : W1.heap[vb]? = some (.cells ct.toArray tT (0, 0)) := by rw [hW1]; exact (setRow_other w.drew g vb R1 hne).trans hv
  have HC2 := Lib.hid (fun ty dc => hcp2 ty (n + 1 - i) dc _ W1 hg1 hv1 (by omega) rfl)
  have HC2d := Lib.hid (fun ty dc => hcp2 ty (n + 1 - i) dc _ W1.drew hg1 hv1 (by omega) rfl)
  rw [← hW1] at HC1
  have HFIN : Hid (∃ q, W1.setRow g R2 = (w.drewN q).setRow g R2) := Lib.hid ⟨1, by rw [hW1, setRow_setRow]; rfl⟩
  clear hW1 hg1 hv1
  have HOV := Lib.hid hov
  clear hg hv hcp1 hcp2 hov hcs hL h1L h1c hLl hR1 hR2 hcl hdl hR1s hct hmx
  go_enter Tryz.func141, Tryz.ntmps141
  have hov := HOV.out
  go_upto_region 15 with (simp only [hov])
  go_region_law_o (refine step_copy_runI rfl _ _ 35 35 rfl _ _ (by simp [Act.eval, Act.put]) (by simp [Act.eval, Act.put]) (HC1.out 3 (cap - (i + 1)) (cap - i)) ?_)
  have hc2 := HC2.out 3 (cap - i)
  go_wp2_with fail
  go_ret
  obtain ⟨q, hq⟩ := HFIN.out
  refine ⟨rfl, q, ?_⟩
  rw [hq, ← hR2e.out]
  simp only [List.append_assoc]

theorem zeroT_size (k : Nat) (z : Value) (hz : z.cells.size = 5) : (Builtin.zeroCells z.cells k).size = k * 5 := by
  unfold Builtin.zeroCells
  simp [hz]

theorem grow_nums (n i : Nat) (hn : n ≤ 1000000) (hi : i < n) : IntKind.i64.wrap ((i : Int) + 1) = (i : Int) + 1 ∧ IntKind.i64.wrap ((n : Int) + 1) = (n : Int) + 1 ∧ IntKind.i64.wrap ((n : Int) + 1 - (i : Int)) = (n : Int) + 1 - (i : Int) := by
  refine ⟨?_, ?_, ?_⟩ <;> (rw [IntKind.wrap_i64]; omega)

set_option maxRecDepth 100000 in
set_option maxHeartbeats 4000000 in
/-- Insert where there is no room. -/
theorem insT_grow {w : World} {g n cap i vb : Nat} {cur : Array Value} {L ct : List Value} (hg : w.heap[g]? = some (.cells cur tT (0, 0))) (hcs : cur.size = cap * 5) (hL : cur.toList.take (n * 5) = L) (hnc : n ≤ cap) (hroom : cap < n + 1) (hi : i < n) (hn : n ≤ 1000000)
    (hv : w.heap[vb]? = some (.cells ct.toArray tT (0, 0))) (hct : ct.length = 5) (h1L : ∀ u ∈ L, u.oneCell' = true) (h1c : ∀ u ∈ ct, u.oneCell' = true) :
    Calls Tryz.prog 141 #[.slice (some ⟨g, 0, none⟩) n cap, .int .i64 (i : Int), .slice (some ⟨vb, 0, none⟩) 1 1] w fun e w' =>
      ∃ gc cur', e = .returned (.slice (some ⟨w.heap.size, 0, none⟩) (n + 1) gc) ∧ w'.heap[w.heap.size]? = some (.cells cur' tT (0, 0)) ∧ cur'.size = gc * 5 ∧ cur'.toList.take ((n + 1) * 5) = L.take (i * 5) ++ ct ++ L.drop (i * 5) ∧ n + 1 ≤ gc ∧ gc ≤ maxLen ∧ Below w.heap.size w w' := by
  have hLl : L.length = n * 5 := by rw [← hL, List.length_take]; simp [hcs]; omega
  obtain ⟨i0, hi0, hz0, hz1, hz2⟩ := info_tree_parts
  obtain ⟨z, hz⟩ : ∃ z : Value, z = .agg #[.int .u8 0, .bool false, .slice none 0 0, .slice none 0 0, .slice none 0 0] := ⟨_, rfl⟩
  have hzc : z.cells.size = 5 := by rw [hz]; rfl
  rw [← hz] at hz0
  obtain ⟨gc, hgc⟩ : ∃ gc, gc = grownCap w (n + 1) cap tT := ⟨_, rfl⟩
  have hge : n + 1 ≤ gc := by rw [hgc]; exact grownCap_ge _ _ _ _
  have hgm : gc ≤ maxLen := by rw [hgc]; exact grownCap_le_maxLen _ _ _ _ (by unfold maxLen; omega)
  obtain ⟨NB, hNB⟩ : ∃ NB, NB = w.heap.size := ⟨_, rfl⟩
  obtain ⟨R0, hR0⟩ : ∃ R0 : Array Value, R0 = (L.take (i * 5)).toArray ++ Builtin.zeroCells z.cells (n + 1 - i) ++ Builtin.zeroCells z.cells (gc - (n + 1)) := ⟨_, rfl⟩
  have hR0s : R0.size = gc * 5 := by
    rw [hR0, Array.size_append, Array.size_append, zeroT_size _ _ hzc, zeroT_size _ _ hzc]
    simp [hLl]; omega
  obtain ⟨W1, hW1⟩ : ∃ W1, W1 = w.drew.alloc (.cells R0 tT) := ⟨_, rfl⟩
  have hap : (Builtin.append_ #[35, 3] 35 #[.slice (some ⟨g, 0, none⟩) i cap, .int .i64 ((n : Int) + 1 - (i : Int))]).run Tryz.prog w = .ok (.slice (some ⟨NB, 0, none⟩) (n + 1) gc) W1 := by
    have hold : (Builtin.firstCells i0.size i (.slice (some ⟨g, 0, none⟩) i cap)).run Tryz.prog w.drew = .ok (L.take (i * 5)).toArray w.drew := by
      rw [hz1]
      exact run_firstCells_some w.drew 5 i ⟨g, 0, none⟩ i cap (L.take (i * 5)) (by rw [List.length_take]; omega) (fun j v hj => by
        rw [Addr.add_mid, Nat.zero_add]
        rw [List.getElem?_take] at hj
        split at hj
        · exact getD_cell (w := w.drew) hg hL hj
        · cases hj)
    have h := Lib.run_append_grow_zeros w 35 3 35 tT i0 z .i64 .i64 Tryz.underlying35 Tryz.underlying3 hi0 hz0 (some ⟨g, 0, none⟩) i cap (L.take (i * 5)) hold (n + 1 - i) (by omega) (by omega) (by omega) (by omega) (by rw [hz2]; omega) (by rw [hz2, show i + (n + 1 - i) = n + 1 by omega]; exact growslice_fits hroom (by omega))
    rw [show i + (n + 1 - i) = n + 1 by omega, ← hgc, show ((n + 1 - i : Nat) : Int) = (n : Int) + 1 - (i : Int) by omega, ← hNB, ← hR0, ← hW1] at h
    exact h
  have hgw : g < w.heap.size := (Array.getElem?_eq_some_iff.1 hg).1
  have hvw : vb < w.heap.size := (Array.getElem?_eq_some_iff.1 hv).1
  have hN1 : W1.heap[NB]? = some (.cells R0 tT (0, 0)) := by rw [hW1, hNB]; exact heap_alloc_new w.drew _
  have hG1 : W1.heap[g]? = some (.cells cur tT (0, 0)) := by rw [hW1]; exact (heap_alloc_old w.drew _ hgw).trans hg
  have hV1 : W1.heap[vb]? = some (.cells ct.toArray tT (0, 0)) := by rw [hW1]; exact (heap_alloc_old w.drew _ hvw).trans hv
  obtain ⟨R1, hR1⟩ : ∃ R1 : Array Value, R1 = (R0.toList.take (i * 5) ++ ct ++ R0.toList.drop (i * 5 + 5)).toArray := ⟨_, rfl⟩
  have hR1s : R1.size = gc * 5 := by rw [hR1]; simp [hR0s, hct]; omega
  have hR0t : R0.toList.take (i * 5) = L.take (i * 5) := by
    rw [hR0]
    simp only [Array.toList_append, List.append_assoc]
    rw [List.take_left' (by rw [List.length_take]; omega)]
  obtain ⟨R2, hR2⟩ : ∃ R2 : Array Value, R2 = (R1.toList.take ((i + 1) * 5) ++ L.drop (i * 5) ++ R1.toList.drop ((n + 1) * 5)).toArray := ⟨_, rfl⟩
  have hdl : (L.drop (i * 5)).length = (n - i) * 5 := by rw [List.length_drop, hLl]; omega
  have hR2s : R2.size = gc * 5 := by rw [hR2]; simp [hR1s, hLl]; omega
  have hR2t : R2.toList.take ((n + 1) * 5) = L.take (i * 5) ++ ct ++ L.drop (i * 5) := by
    have e1 : (R1.toList.take ((i + 1) * 5)) = L.take (i * 5) ++ ct := by
      rw [hR1, ← hR0t]
      exact List.take_left' (by rw [List.length_append, List.length_take]; simp [hR0s, hct]; omega)
    rw [hR2, e1]
    exact List.take_left' (by rw [List.length_append, hdl, List.length_append, List.length_take, hLl, hct]; omega)
  have hcp1 : ∀ ty dc, (Builtin.copy_ #[35, 35] ty #[.slice (some ⟨NB, i * 5, none⟩) (n + 1 - i) dc, .slice (some ⟨vb, 0, none⟩) 1 1]).run Tryz.prog W1 = .ok (goInt 1) (W1.setRow NB R1) := by
    intro ty dc
    have hmin : Nat.min 1 (n + 1 - i) = 1 := Nat.min_eq_left (by omega)
    rw [run_copy_n W1 _ _ ty tT 5 NB (i * 5) (n + 1 - i) dc ⟨vb, 0, none⟩ 1 1 R0 tT ct Tryz.underlying35 info_T hN1 (by rw [hmin, hct])
      (fun j v hj => by rw [Addr.add_mid, Nat.zero_add]; exact getD_cell hV1 (n := 5) (L := ct) (by simp [← hct]) hj) (by rw [hct, hR0s]; omega) h1c, hmin, hR1, hct]
    rfl
  obtain ⟨W2, hW2⟩ : ∃ W2, W2 = W1.setRow NB R1 := ⟨_, rfl⟩
  rw [← hW2] at hcp1
  have hgN : g ≠ NB := by omega
  have hN2 : W2.heap[NB]? = some (.cells R1 tT (0, 0)) := by rw [hW2]; exact setRow_heap W1 NB R0 R1 tT (0, 0) hN1
  have hG2 : W2.heap[g]? = some (.cells cur tT (0, 0)) := by rw [hW2]; exact (setRow_other W1 NB g R1 hgN).trans hG1
  have hcp2 : ∀ ty dc sc, (Builtin.copy_ #[35, 35] ty #[.slice (some ⟨NB, (i + 1) * 5, none⟩) (n - i) dc, .slice (some ⟨g, i * 5, none⟩) (n - i) sc]).run Tryz.prog W2.drew = .ok (goInt ((n - i : Nat) : Int)) (W2.drew.setRow NB R2) := by
    intro ty dc sc
    have hmin : Nat.min (n - i) (n - i) = n - i := Nat.min_self _
    rw [run_copy_n W2.drew _ _ ty tT 5 NB ((i + 1) * 5) (n - i) dc ⟨g, i * 5, none⟩ (n - i) sc R1 tT (L.drop (i * 5)) Tryz.underlying35 info_T hN2 (by rw [hmin, hdl])
      (fun j v hj => by rw [Addr.add_mid]; rw [List.getElem?_drop] at hj; exact getD_cell (w := W2.drew) hG2 hL hj) (by rw [hdl, hR1s]; omega) (fun u hu => h1L u (List.mem_of_mem_drop hu)), hmin, hR2, hdl, show (i + 1) * 5 + (n - i) * 5 = (n + 1) * 5 by omega]
  obtain ⟨W3, hW3⟩ : ∃ W3, W3 = W2.drew.setRow NB R2 := ⟨_, rfl⟩
  rw [← hW3] at hcp2
  have HEND : Hid (∃ cur', W3.heap[NB]? = some (.cells cur' tT (0, 0)) ∧ cur'.size = gc * 5 ∧ cur'.toList.take ((n + 1) * 5) = L.take (i * 5) ++ ct ++ L.drop (i * 5) ∧ n + 1 ≤ gc ∧ gc ≤ maxLen ∧ Below w.heap.size w W3) := Lib.hid
    ⟨R2, by rw [hW3]; exact setRow_heap W2.drew NB R1 R2 tT (0, 0) hN2, hR2s, hR2t, hge, hgm, by
      have b1 : Below w.heap.size w W1 := by rw [hW1]; exact (Below.refl _ _).drew.alloc (Nat.le_refl _) _
      have b2 : Below w.heap.size w W2 := by rw [hW2]; exact below_setRow b1 (by omega) _
      rw [hW3]; exact below_setRow b2.drew (by omega) _⟩
  have HAP := Lib.hid hap
  have HC1 := Lib.hid hcp1
  have HC2 := Lib.hid hcp2
  have HNB := Lib.hid hNB
  clear hg hv hcp1 hcp2 hap hcs hL h1L h1c hLl hR1 hR2 hR0 hdl hR1s hR2s hR2t hR0t hR0s hct hW1 hW2 hW3 hN1 hN2 hG1 hG2 hV1 hgc hNB hi0 hz0 hz1 hz2 hz hzc hgw hvw hgm hgN
  obtain ⟨hw1, hw2, hw3⟩ := grow_nums n i hn hi
  have hin : (i : Int) ≤ (n : Int) := by omega
  have hz2' : ¬ ((i : Int) = (n : Int)) := by omega
  have hz3 : (cap : Int) < (n : Int) + 1 := by omega
  have hb2 : ¬ (gc = i + 1) := by omega
  have hb4 : ¬ (cap = i) := by omega
  have hb5 : ¬ (gc = i) := by omega
  have hb1 : (0 : Int) ≤ (i : Int) + 1 := by omega
  have hb3 : (i : Int) ≤ (n : Int) + 1 := by omega
  have mixed : Tryz.prog.follows .mixedOrders = true := by kernel_rfl
  clear hge
  go_enter Tryz.func141, Tryz.ntmps141
  have hc1 := HC1.out 3 (gc - i)
  go_upto_region 11 with (at_builtin; refine Lib.wpList_append_run _ rfl _ _ _ _ rfl _ _ rfl rfl _ _ HAP.out ?_)
  go_region_law_o (refine step_copy_runI rfl _ _ 35 35 rfl _ _ (by simp [Act.eval, Act.put]) (by simp [Act.eval, Act.put]) (HC2.out 3 (gc - (i + 1)) (cap - i)) ?_)
  go_wp2_with fail
  go_ret
  obtain ⟨cur', q1, q2, q3, q4, q5, q6⟩ := HEND.out
  rw [← HNB.out]
  exact ⟨gc, cur', rfl, q1, q2, q3, q4, q5, by rw [HNB.out]; exact q6⟩

theorem insT_nums (n : Nat) (hn : n ≤ 1000000) : IntKind.i64.wrap ((n : Int) + 1) = (n : Int) + 1 := by rw [IntKind.wrap_i64]; omega

set_option maxRecDepth 100000 in
set_option maxHeartbeats 4000000 in
/-- Insert at the end. -/
theorem insT_end {w : World} {B n vb : Nat} {v : Value} {L ct : List Value} (ho : w.ownsRow B tT 5 v n L) (hB : B ≤ w.heap.size) (hn : n ≤ 1000000) (hv : w.heap[vb]? = some (.cells ct.toArray tT (0, 0))) (hct : ct.length = 5) (hne : v.ownBlock ≠ some vb) (h1c : ∀ u ∈ ct, u.oneCell' = true) :
    Calls Tryz.prog 141 #[v, .int .i64 (n : Int), .slice (some ⟨vb, 0, none⟩) 1 1] w fun e w' =>
      ∃ v', e = .returned v' ∧ w'.ownsRow B tT 5 v' (n + 1) (L ++ ct) ∧ w.grownBy w' v.ownBlock ∧ (∀ g, v'.ownBlock = some g → v.ownBlock = some g ∨ w.heap.size ≤ g) := by
  obtain ⟨i0, hi0, hz0, hz1, hz2⟩ := info_tree_parts
  have HO := Lib.hid ho
  have HI := Lib.hid hi0
  have HZ0 := Lib.hid hz0
  have HZ1 := Lib.hid hz1
  have HZ2 := Lib.hid hz2
  have HV : Hid (∀ ad : Addr, some (⟨vb, 0, none⟩ : Addr) = some ad → ∀ j u, ct[j]? = some u → w.cell? (ad.add j) = some u) := Lib.hid (fun ad had j u hj => by
    cases had
    rw [Addr.add_mid, Nat.zero_add]
    exact getD_cell hv (n := 5) (L := ct) (by simp [← hct]) hj)
  have HCT := Lib.hid hct
  have H1C := Lib.hid h1c
  have HN := Lib.hid hn
  have HB := Lib.hid hB
  have ho2 := ho.2
  clear ho hi0 hz0 hz1 hz2 hv hct h1c hB hne
  rcases ho2 with ⟨rfl, h0⟩ | ⟨g, cap, cur, rfl, _, _, hle, hmx, _⟩
  · subst h0
    clear hn
    go_enter Tryz.func141, Tryz.ntmps141
    go_upto_region 7 with fail
    go_wp2_with (at_builtin; refine wpList_append_lies w rfl _ _ 35 rfl B tT i0 (.agg #[.int .u8 0, .bool false, .slice none 0 0, .slice none 0 0, .slice none 0 0]) 5 80 Tryz.underlying35 HI.out HZ0.out HZ1.out HZ2.out rfl (by omega) (.slice none 0 0) 0 L rfl HO.out ⟨vb, 0, none⟩ 1 1 ct rfl HCT.out (HV.out _ rfl) H1C.out (by omega) (by have := HN.out; unfold maxLen; omega) (by have := HN.out; omega) HB.out w.heap.size rfl ?_)
    intro g' cap' w1 ho1 hg1 hb1 hl1
    have HO1 := Lib.hid ho1
    have HG1 := Lib.hid hg1
    have HB1 := Lib.hid hb1
    clear ho1 hg1 hb1 hl1
    go_wp2_with fail
    go_ret
    refine ⟨_, rfl, HO1.out, HG1.out, fun q hq => ?_⟩
    cases hq
    rcases HB1.out with h | h
    · exact .inl h
    · exact .inr (Nat.le_of_eq h.symm)
  · have hcm : cap ≤ 9223372036854775807 := by unfold maxLen at hmx; omega
    clear hmx hn
    by_cases hvc : cap = n
    · subst hvc
      go_enter Tryz.func141, Tryz.ntmps141
      go_upto_region 7 with fail
      go_wp2_with (at_builtin; refine wpList_append_lies w rfl _ _ 35 rfl B tT i0 (.agg #[.int .u8 0, .bool false, .slice none 0 0, .slice none 0 0, .slice none 0 0]) 5 80 Tryz.underlying35 HI.out HZ0.out HZ1.out HZ2.out rfl (by omega) (.slice (some ⟨g, 0, none⟩) cap cap) cap L rfl HO.out ⟨vb, 0, none⟩ 1 1 ct rfl HCT.out (HV.out _ rfl) H1C.out (by omega) (by have := HN.out; unfold maxLen; omega) (by have := HN.out; omega) HB.out w.heap.size rfl ?_)
      intro g' cap' w1 ho1 hg1 hb1 hl1
      have HO1 := Lib.hid ho1
      have HG1 := Lib.hid hg1
      have HB1 := Lib.hid hb1
      clear ho1 hg1 hb1 hl1
      go_wp2_with fail
      go_ret
      refine ⟨_, rfl, HO1.out, HG1.out, fun q hq => ?_⟩
      cases hq
      rcases HB1.out with h | h
      · exact .inl h
      · exact .inr (Nat.le_of_eq h.symm)
    · have hvc2 : ¬ (cap = n) := hvc
      clear hvc
      go_enter Tryz.func141, Tryz.ntmps141
      go_upto_region 7 with fail
      go_wp2_with (at_builtin; refine wpList_append_lies w rfl _ _ 35 rfl B tT i0 (.agg #[.int .u8 0, .bool false, .slice none 0 0, .slice none 0 0, .slice none 0 0]) 5 80 Tryz.underlying35 HI.out HZ0.out HZ1.out HZ2.out rfl (by omega) (.slice (some ⟨g, 0, none⟩) n cap) n L rfl HO.out ⟨vb, 0, none⟩ 1 1 ct rfl HCT.out (HV.out _ rfl) H1C.out (by omega) (by have := HN.out; unfold maxLen; omega) (by have := HN.out; omega) HB.out w.heap.size rfl ?_)
      intro g' cap' w1 ho1 hg1 hb1 hl1
      have HO1 := Lib.hid ho1
      have HG1 := Lib.hid hg1
      have HB1 := Lib.hid hb1
      clear ho1 hg1 hb1 hl1
      go_wp2_with fail
      go_ret
      refine ⟨_, rfl, HO1.out, HG1.out, fun q hq => ?_⟩
      cases hq
      rcases HB1.out with h | h
      · exact .inl h
      · exact .inr (Nat.le_of_eq h.symm)

/-- Insert of one tree into a row of one's own. -/
theorem insT_any {w : World} {B n i vb : Nat} {v : Value} {L ct : List Value} (ho : w.ownsRow B tT 5 v n L) (hB : B ≤ w.heap.size) (hn : n ≤ 1000000) (hi : i ≤ n) (hv : w.heap[vb]? = some (.cells ct.toArray tT (0, 0))) (hct : ct.length = 5) (hne : v.ownBlock ≠ some vb) (h1L : ∀ u ∈ L, u.oneCell' = true) (h1c : ∀ u ∈ ct, u.oneCell' = true) :
    Calls Tryz.prog 141 #[v, .int .i64 (i : Int), .slice (some ⟨vb, 0, none⟩) 1 1] w fun e w' =>
      ∃ v', e = .returned v' ∧ w'.ownsRow B tT 5 v' (n + 1) (L.take (i * 5) ++ ct ++ L.drop (i * 5)) ∧ w.grownBy w' v.ownBlock ∧ (∀ g, v'.ownBlock = some g → v.ownBlock = some g ∨ w.heap.size ≤ g) := by
  have hLl : L.length = n * 5 := ho.1
  by_cases hin : i = n
  · subst hin
    rw [List.take_of_length_le (by omega), List.drop_eq_nil_of_le (by omega), List.append_nil]
    exact insT_end ho hB hn hv hct hne h1c
  · rcases ho.2 with ⟨rfl, h0⟩ | ⟨g, cap, cur, rfl, hgB, hgg, hle, hmx, hsz, htk⟩
    · omega
    · have hgv : vb ≠ g := fun e => hne (by rw [e]; rfl)
      by_cases hr : n + 1 ≤ cap
      · refine (insT_in hgg hsz htk hr (by omega) hn (by assumption) hv hct hgv h1L h1c).mono ?_
        rintro e w' ⟨rfl, q, rfl⟩
        have hgq : (w.drewN q).heap[g]? = some (.cells cur tT (0, 0)) := hgg
        have hd5 : (L.drop (i * 5)).length = n * 5 - i * 5 := by rw [List.length_drop, hLl]
        have ht5 : (L.take (i * 5)).length = i * 5 := by rw [List.length_take, hLl]; omega
        refine ⟨_, rfl, ⟨by rw [List.length_append, List.length_append, hd5, ht5, hct]; omega, .inr ⟨g, cap, _, rfl, hgB, setRow_heap _ g cur _ tT (0, 0) hgq, hr, hmx, ?_, ?_⟩⟩, ⟨rfl, rfl, rfl, by simp [World.setRow], fun k hk hne' => setRow_other _ g k _ (fun e => hne' (by rw [e]; rfl))⟩, fun q' hq' => .inl hq'⟩
        · simp [hd5, ht5, hct, hsz]; omega
        · exact List.take_left' (by rw [List.length_append, List.length_append, hd5, ht5, hct]; omega)
      · refine (insT_grow hgg hsz htk hle (by omega) (by omega) hn hv hct h1L h1c).mono ?_
        rintro e w' ⟨gc, cur', rfl, h1, h2, h3, h4, h5, h6⟩
        have hd5 : (L.drop (i * 5)).length = n * 5 - i * 5 := by rw [List.length_drop, hLl]
        have ht5 : (L.take (i * 5)).length = i * 5 := by rw [List.length_take, hLl]; omega
        refine ⟨_, rfl, ⟨by rw [List.length_append, List.length_append, hd5, ht5, hct]; omega, .inr ⟨w.heap.size, gc, cur', rfl, hB, h1, h4, h5, h2, h3⟩⟩, ⟨h6.os, h6.tape, h6.output, h6.size, fun k hk _ => h6.block k hk⟩, fun q' hq' => ?_⟩
        cases hq'
        exact .inr (Nat.le_refl _)

end Go.Proofs.YtlccdenafnekjaaGreatDoor
namespace Go.Proofs.YtlccdenafnekjaaGreatDoor
open Go.RowKit
set_option linter.unusedVariables false

def insRen : Go.Shelf.Ren := ⟨fun | 22 => 140 | 17 => 159 | 29 => 150 | 30 => 151 | 36 => 156 | n => n, fun | 24 => 34 | 9 => 9 | 3 => 3 | 4 => 4 | 0 => 0 | n => n, fun | n => n⟩
theorem insLay : Go.Proofs.Lays2.n22 Tryz.prog insRen := {
  mixed := by kernel_rfl
  f17 := Tryz.func159.trans (congrArg some (by kernel_rfl))
  f22 := Tryz.func140.trans (congrArg some (by kernel_rfl))
  f29 := Tryz.func150.trans (congrArg some (by kernel_rfl))
  f30 := Tryz.func151.trans (congrArg some (by kernel_rfl))
  f36 := Tryz.func156.trans (congrArg some (by kernel_rfl))
  t0 := Tryz.underlying0
  a0 := Tryz.isAgg0
  z0 := Tryz.sizeOf0
  v0 := Tryz.zeroValue0
  t3 := Tryz.underlying3
  a3 := Tryz.isAgg3
  z3 := Tryz.sizeOf3
  v3 := Tryz.zeroValue3
  t4 := Tryz.underlying4
  a4 := Tryz.isAgg4
  z4 := Tryz.sizeOf4
  v4 := Tryz.zeroValue4
  t9 := Tryz.underlying9
  a9 := Tryz.isAgg9
  z9 := Tryz.sizeOf9
  v9 := Tryz.zeroValue9
  t24 := Tryz.underlying34
  a24 := Tryz.isAgg34
  z24 := Tryz.sizeOf34
  v24 := Tryz.zeroValue34
  i9 := by kernel_rfl }
def bsRen : Go.Shelf.Ren := ⟨fun | 26 => 149 | 33 => 154 | 34 => 155 | 38 => 158 | n => n, fun | 24 => 34 | 9 => 9 | 3 => 3 | 4 => 4 | 0 => 0 | 40 => 150 | n => n, fun | n => n⟩
theorem bsLay : Go.Proofs.Lays2.n26 Tryz.prog bsRen := {
  mixed := by kernel_rfl
  f26 := Tryz.func149.trans (congrArg some (by kernel_rfl))
  f33 := Tryz.func154.trans (congrArg some (by kernel_rfl))
  f34 := Tryz.func155.trans (congrArg some (by kernel_rfl))
  f38 := Tryz.func158.trans (congrArg some (by kernel_rfl))
  t0 := Tryz.underlying0
  a0 := Tryz.isAgg0
  z0 := Tryz.sizeOf0
  v0 := Tryz.zeroValue0
  t3 := Tryz.underlying3
  a3 := Tryz.isAgg3
  z3 := Tryz.sizeOf3
  v3 := Tryz.zeroValue3
  t4 := Tryz.underlying4
  a4 := Tryz.isAgg4
  z4 := Tryz.sizeOf4
  v4 := Tryz.zeroValue4
  t9 := Tryz.underlying9
  a9 := Tryz.isAgg9
  z9 := Tryz.sizeOf9
  v9 := Tryz.zeroValue9
  t24 := Tryz.underlying34
  a24 := Tryz.isAgg34
  z24 := Tryz.sizeOf34
  v24 := Tryz.zeroValue34
  t40 := Tryz.underlying150
  a40 := Tryz.isAgg150
  z40 := Tryz.sizeOf150
  v40 := Tryz.zeroValue150 }
end Go.Proofs.YtlccdenafnekjaaGreatDoor
namespace Go.Proofs.YtlccdenafnekjaaGreatDoor
open Go.RowKit
set_option linter.unusedVariables false

abbrev tS : TypeId := 9
theorem setCells_row {g : Nat} {t : TypeId} {fr : Nat × Nat} : ∀ (vs : List Value) (o : Nat) (cur : Array Value) (w : World), w.heap[g]? = some (.cells cur t fr) → o + vs.length ≤ cur.size →
    w.setCells g o vs = w.setRow g (cur.toList.take o ++ vs ++ cur.toList.drop (o + vs.length)).toArray
  | [], o, cur, w, hg, _ => by
    simp only [List.append_nil, List.length_nil, Nat.add_zero, List.take_append_drop, Array.toArray_toList]
    rw [setRow_self w g cur t fr hg]; rfl
  | v :: r, o, cur, w, hg, hl => by
    have hi : o < cur.size := by simp at hl; omega
    rw [World.setCells, setCell_eq_setRow w g o cur t fr v hg, setCells_row r (o + 1) (cur.setIfInBounds o v) _ (setRow_heap w g cur _ t fr hg) (by simp at hl ⊢; omega), setRow_setRow]
    congr 2
    have e := list_seg_step cur.toList o v r (by simp at hl ⊢; omega)
    simpa [Array.toList_setIfInBounds, Nat.add_assoc] using e

theorem infoSt_parts : ∃ i, Tryz.prog.info? tS = some i ∧ i.zero = some (.string ByteArray.empty) ∧ i.size = 1 ∧ i.bytes = 16 := by
  have h : (Tryz.prog.info? tS).map (fun i => (i.zero, i.size, i.bytes)) = some (some (.string ByteArray.empty), 1, 16) := by kernel_rfl
  obtain ⟨i, hi, hx⟩ := Option.map_eq_some_iff.1 h
  simp only [Prod.mk.injEq] at hx
  exact ⟨i, hi, hx.1, hx.2.1, hx.2.2⟩

theorem zeroS_size (k : Nat) : (Builtin.zeroCells (Value.string ⟨#[]⟩).cells k).size = k := by
  have h : (Value.string ⟨#[]⟩).cells.size = 1 := rfl
  unfold Builtin.zeroCells
  simp [h]
/-- A new row, written over behind it: what Insert has made where there was no room. -/
theorem grown_row {w : World} {B n gc : Nat} {A : Array Value} {xs : List Value} (hB : B ≤ w.heap.size) (hA : A.size = gc) (hx : A.toList.take n = xs) (hl : xs.length = n) (hg : n ≤ gc) (hm : gc ≤ maxLen) (row : Option Nat) :
    (w.drew.alloc (.cells A tS)).ownsRow B tS 1 (.slice (some ⟨w.heap.size, 0, none⟩) n gc) n xs ∧ w.grownBy (w.drew.alloc (.cells A tS)) row :=
  ⟨⟨by simpa using hl, .inr ⟨w.heap.size, gc, A, rfl, hB, heap_alloc_new w.drew _, hg, hm, by simpa using hA, by simpa using hx⟩⟩,
    ⟨rfl, rfl, rfl, by simp, fun k hk _ => heap_alloc_old w.drew _ hk⟩⟩
/-- Insert of one text into a row of one's own. -/
theorem insS_any {w : World} {B n i vb : Nat} {v : Value} {ns : List ByteArray} {x : ByteArray} (ho : w.ownsRow B tS 1 v n (ns.map Value.string)) (hB : B ≤ w.heap.size) (hn : n ≤ 1000000) (hi : i ≤ n) (hv : w.heap[vb]? = some (.cells #[.string x] tS (0, 0))) (hne : v.ownBlock ≠ some vb) :
    Calls Tryz.prog 140 #[v, .int .i64 (i : Int), .slice (some ⟨vb, 0, none⟩) 1 1] w fun e w' =>
      ∃ v', e = .returned v' ∧ w'.ownsRow B tS 1 v' (n + 1) ((ns.take i ++ x :: ns.drop i).map Value.string) ∧ w.grownBy w' v.ownBlock ∧ (∀ g, v'.ownBlock = some g → v.ownBlock = some g ∨ w.heap.size ≤ g) := by
  have hl : ns.length = n := by have := ho.1; simpa using this
  have hvs : ∀ j u, [Value.string x][j]? = some u → w.cell? ⟨vb, 0 + j, none⟩ = some u := fun j u hj => by
    rw [Nat.zero_add]
    exact getD_cell hv (n := 1) (L := [Value.string x]) rfl hj
  have h1v : ∀ u ∈ [Value.string x], u.oneCell' = true := fun u hu => by simp at hu; subst hu; rfl
  have h1c : ∀ u ∈ ns.map Value.string, u.oneCell' = true := str_one ns
  have hml : (ns.map Value.string).length = n := by simpa using hl
  have hfin : ((ns.take i ++ x :: ns.drop i).map Value.string) = (ns.map Value.string).take i ++ [Value.string x] ++ (ns.map Value.string).drop i := by simp
  have htl : ((ns.map Value.string).take i).length = i := by rw [List.length_take, hml]; omega
  have hdl : ((ns.map Value.string).drop i).length = n - i := by rw [List.length_drop, hml]
  have hln : ((ns.map Value.string).take i ++ [Value.string x] ++ (ns.map Value.string).drop i).length = n + 1 := by rw [List.length_append, List.length_append, htl, hdl]; simp; omega
  rw [hfin]
  rcases ho.2 with ⟨rfl, h0⟩ | ⟨g, cap, cur, rfl, hgB, hg, hle, hmx, hcs, hL⟩
  · subst h0
    obtain rfl : i = 0 := by omega
    obtain rfl : ns = [] := List.eq_nil_of_length_eq_zero hl
    refine (Any2.slices_Insert_string_end_grow insLay none 0 0 vb 0 1 1 [] [.string x] w (by omega) (by omega) (by omega) (by omega) rfl rfl (fun _ => rfl) (fun a e => by cases e) hvs h1v).mono ?_
    rintro e w' ⟨rfl, rfl⟩
    obtain ⟨gc, hgc⟩ : ∃ gc, gc = grownCap w (0 + 1) 0 (insRen.t 9) := ⟨_, rfl⟩
    have hge : 1 ≤ gc := by rw [hgc]; exact grownCap_ge _ _ _ _
    have hgm : gc ≤ maxLen := by rw [hgc]; exact grownCap_le_maxLen _ _ _ _ (by unfold maxLen; omega)
    rw [← hgc]
    have h := grown_row (w := w) (B := B) (n := 1) (gc := gc) (A := ([] ++ [Value.string x]).toArray ++ Builtin.zeroCells (Value.string ⟨#[]⟩).cells (gc - (0 + 1))) (xs := [Value.string x]) hB
      (by rw [Array.size_append, zeroS_size]; simp; omega) (by simp) rfl hge hgm none
    refine ⟨_, rfl, ?_, h.2, fun q hq => ?_⟩
    · exact h.1
    · cases hq; exact .inr (Nat.le_refl _)
  · have hgv : vb ≠ g := fun e => hne (by rw [e]; rfl)
    have hL' : cur.toList.take n = ns.map Value.string := by simpa using hL
    have hcs' : cur.size = cap := by simpa using hcs
    have hcc : ∀ j u, (ns.map Value.string)[j]? = some u → w.cell? ⟨g, 0 + j, none⟩ = some u := fun j u hj => by rw [Nat.zero_add]; exact getD_cell hg hL' hj
    have hcl : cur.toList.length = cap := by simpa using hcs'
    have hsp : ∀ j, j < cap → (w.cell? ⟨g, 0 + j, none⟩).isSome = true := fun j hj => by
      rw [Nat.zero_add, cell_of_row w g j cur tS (0, 0) hg, Array.getElem?_eq_getElem (by omega)]; rfl
    have hcm : cap ≤ 9223372036854775807 := by unfold maxLen at hmx; omega
    have hself : ∀ (A : Array Value), A.size = cap → A.toList.take (n + 1) = (ns.map Value.string).take i ++ [Value.string x] ++ (ns.map Value.string).drop i → n + 1 ≤ cap → ∀ W : World, W.heap[g]? = some (.cells cur tS (0, 0)) → W.os = w.os → W.tape = w.tape → W.output = w.output → W.heap = w.heap →
        (W.setRow g A).ownsRow B tS 1 (.slice (some ⟨g, 0, none⟩) (n + 1) cap) (n + 1) ((ns.map Value.string).take i ++ [Value.string x] ++ (ns.map Value.string).drop i) ∧ w.grownBy (W.setRow g A) (some g) := by
      intro A hA hx hr W hW h1 h2 h3 h4
      exact ⟨⟨by simpa using hln, .inr ⟨g, cap, A, rfl, hgB, setRow_heap W g cur A tS (0, 0) hW, hr, hmx, by simpa using hA, by simpa using hx⟩⟩,
        ⟨h1, h2, h3, by simp [World.setRow, h4], fun k hk hne' => by rw [setRow_other W g k A (fun e => hne' (by rw [e])), h4]⟩⟩
    obtain ⟨X, hX⟩ : ∃ X, X = (ns.map Value.string).take i ++ [Value.string x] ++ (ns.map Value.string).drop i ++ cur.toList.drop (n + 1) := ⟨_, rfl⟩
    have hXt : X.take (n + 1) = (ns.map Value.string).take i ++ [Value.string x] ++ (ns.map Value.string).drop i := by rw [hX]; exact List.take_left' hln
    have hXl : n + 1 ≤ cap → X.length = cap := fun h => by rw [hX, List.length_append, hln, List.length_drop, hcl]; omega
    by_cases hr : n + 1 ≤ cap
    · by_cases hin : i = n
      · subst hin
        refine (Any2.slices_Insert_string_end_room insLay g 0 i cap vb 0 1 1 [.string x] w (by omega) (by omega) hcm rfl (fun j hj => by rw [Nat.add_assoc]; exact hsp _ (by omega)) (fun j hj => frozen_of hg) hvs h1v).mono ?_
        rintro e w' ⟨rfl, rfl⟩
        have hW' : w.setCells g (0 + i) [Value.string x] = w.setRow g X.toArray := by
          rw [setCells_row [Value.string x] (0 + i) cur w hg (by have := hcl; simp at this ⊢; omega), hX]
          simp only [Nat.zero_add, List.length_cons, List.length_nil]
          rw [List.take_of_length_le (l := ns.map Value.string) (by omega), (show (ns.map Value.string).drop i = [] by apply List.drop_eq_nil_of_le; omega), List.append_nil, hL']
        have h := hself X.toArray (by simpa using hXl hr) hXt hr w hg rfl rfl rfl rfl
        rw [hW']
        exact ⟨_, rfl, h.1, h.2, fun q hq => .inl hq⟩
      · refine (Any2.slices_Insert_string_shift insLay g 0 n cap i vb 0 1 1 (ns.map Value.string) [.string x] w (by omega) (by omega) hr hcm hgv hml rfl hcc (fun j hj => hsp j (by omega)) (fun j hj => frozen_of hg) hvs h1c h1v tS tS 1 cur.size (shape_of hv) (shape_of hg) (by omega) (frozen_of hv) (frozen_of hv)).mono ?_
        rintro e w' ⟨rfl, rfl⟩
        have hd : (w.drew).heap[g]? = some (.cells cur tS (0, 0)) := hg
        have e1 : (cur.toList.take (i + 1)).length = i + 1 := by rw [List.length_take, hcl]; omega
        have e2 : (cur.toList.take (i + 1)).take i = (ns.map Value.string).take i := by rw [← hL', List.take_take, List.take_take, Nat.min_eq_left (by omega), Nat.min_eq_left (by omega)]
        have e3 : (cur.toList.take (i + 1) ++ (ns.map Value.string).drop i ++ cur.toList.drop (i + 1 + ((ns.map Value.string).drop i).length)).take i ++ [Value.string x] ++ (cur.toList.take (i + 1) ++ (ns.map Value.string).drop i ++ cur.toList.drop (i + 1 + ((ns.map Value.string).drop i).length)).drop (i + 1) = X := by
          rw [List.append_assoc (cur.toList.take (i + 1)), List.take_append_of_le_length (by omega), List.drop_left' e1, e2, hdl, show i + 1 + (n - i) = n + 1 by omega, hX]
          simp [List.append_assoc]
        have hW' : (w.drew.setCells g (0 + (i + 1)) ((ns.map Value.string).drop i)).setCells g (0 + i) [Value.string x] = w.drew.setRow g X.toArray := by
          rw [Nat.zero_add, Nat.zero_add, setCells_row ((ns.map Value.string).drop i) (i + 1) cur w.drew hd (by rw [hdl]; omega)]
          have hd2 := setRow_heap w.drew g cur (cur.toList.take (i + 1) ++ (ns.map Value.string).drop i ++ cur.toList.drop (i + 1 + ((ns.map Value.string).drop i).length)).toArray tS (0, 0) hd
          rw [setCells_row [Value.string x] i _ _ hd2 (by simp [hcs', hl]; omega), setRow_setRow]
          exact congrArg (fun l => w.drew.setRow g (List.toArray l)) e3
        have h := hself X.toArray (by simpa using hXl hr) hXt hr w.drew hd rfl rfl rfl rfl
        rw [hW']
        exact ⟨_, rfl, h.1, h.2, fun q hq => .inl hq⟩
    · by_cases hin : i = n
      · subst hin
        refine (Any2.slices_Insert_string_end_grow insLay (some ⟨g, 0, none⟩) i cap vb 0 1 1 (ns.map Value.string) [.string x] w (by omega) hle (by omega) (by omega) hml rfl (fun e => by cases e) (fun a e j u hj => by cases e; rw [Addr.add_mid]; exact hcc j u hj) hvs h1v).mono ?_
        rintro e w' ⟨rfl, rfl⟩
        obtain ⟨gc, hgc⟩ : ∃ gc, gc = grownCap w (i + 1) cap (insRen.t 9) := ⟨_, rfl⟩
        have hge : i + 1 ≤ gc := by rw [hgc]; exact grownCap_ge _ _ _ _
        have hgm : gc ≤ maxLen := by rw [hgc]; exact grownCap_le_maxLen _ _ _ _ (by unfold maxLen; omega)
        rw [← hgc]
        have h := grown_row (w := w) (B := B) (n := i + 1) (gc := gc) (A := (ns.map Value.string ++ [Value.string x]).toArray ++ Builtin.zeroCells (Value.string ⟨#[]⟩).cells (gc - (i + 1))) (xs := ns.map Value.string ++ [Value.string x]) hB
          (by rw [Array.size_append, zeroS_size]; simp [hl]; omega) (by rw [Array.toList_append]; exact List.take_left' (by simp [hl])) (by simp [hl]) hge hgm (some g)
        rw [List.take_of_length_le (l := ns.map Value.string) (by omega), (show (ns.map Value.string).drop i = [] by apply List.drop_eq_nil_of_le; omega), List.append_nil]
        exact ⟨_, rfl, h.1, h.2, fun q hq => by cases hq; exact .inr (Nat.le_refl _)⟩
      · refine (Any2.slices_Insert_string_grow insLay g 0 n cap i vb 0 1 1 (ns.map Value.string) [.string x] w (by omega) (by omega) hle (by omega) (by omega) hml rfl hcc hvs h1c h1v).mono ?_
        rintro e w' ⟨rfl, rfl⟩
        obtain ⟨gc, hgc⟩ : ∃ gc, gc = grownCap w (n + 1) cap (insRen.t 9) := ⟨_, rfl⟩
        have hge : n + 1 ≤ gc := by rw [hgc]; exact grownCap_ge _ _ _ _
        have hgm : gc ≤ maxLen := by rw [hgc]; exact grownCap_le_maxLen _ _ _ _ (by unfold maxLen; omega)
        rw [← hgc]
        obtain ⟨A, hA⟩ : ∃ A : Array Value, A = ((ns.map Value.string).take i).toArray ++ Builtin.zeroCells (Value.string ⟨#[]⟩).cells (n + 1 - i) ++ Builtin.zeroCells (Value.string ⟨#[]⟩).cells (gc - (n + 1)) := ⟨_, rfl⟩
        have hAs : A.size = gc := by rw [hA, Array.size_append, Array.size_append, zeroS_size, zeroS_size]; simp [hl]; omega
        have hAt : A.toList.take i = (ns.map Value.string).take i := by
          rw [hA]
          simp only [Array.toList_append, List.append_assoc]
          exact List.take_left' htl
        rw [← hA]
        obtain ⟨NB, hNB⟩ : ∃ NB, NB = w.heap.size := ⟨_, rfl⟩
        obtain ⟨W1, hW1⟩ : ∃ W1, W1 = (w.alloc (.cells A tS)).drew := ⟨_, rfl⟩
        have hN1 : W1.heap[NB]? = some (.cells A tS (0, 0)) := by rw [hW1, hNB]; exact heap_alloc_new w _
        obtain ⟨A1, hA1⟩ : ∃ A1 : Array Value, A1 = (A.toList.take i ++ [Value.string x] ++ A.toList.drop (i + 1)).toArray := ⟨_, rfl⟩
        have hA1s : A1.size = gc := by rw [hA1]; simp [hAs]; omega
        have hA1t : A1.toList.take (i + 1) = (ns.map Value.string).take i ++ [Value.string x] := by
          rw [hA1, hAt]
          exact List.take_left' (by rw [List.length_append, htl]; rfl)
        obtain ⟨A2, hA2⟩ : ∃ A2 : Array Value, A2 = (A1.toList.take (i + 1) ++ (ns.map Value.string).drop i ++ A1.toList.drop (i + 1 + ((ns.map Value.string).drop i).length)).toArray := ⟨_, rfl⟩
        have hA2s : A2.size = gc := by rw [hA2]; simp [hA1s, hl]; omega
        have hA2t : A2.toList.take (n + 1) = (ns.map Value.string).take i ++ [Value.string x] ++ (ns.map Value.string).drop i := by
          rw [hA2, hA1t]
          exact List.take_left' hln
        have hW' : (((w.alloc (.cells A tS)).drew.setCells NB i [Value.string x]).drew).setCells NB (i + 1) ((ns.map Value.string).drop i) = ((W1.setRow NB A1).drew).setRow NB A2 := by
          rw [← hW1, setCells_row [Value.string x] i A W1 hN1 (by simp [hAs]; omega)]
          have h2 : (W1.setRow NB A1).drew.heap[NB]? = some (.cells A1 tS (0, 0)) := setRow_heap W1 NB A A1 tS (0, 0) hN1
          have e : (W1.setRow NB (A.toList.take i ++ [Value.string x] ++ A.toList.drop (i + [Value.string x].length)).toArray) = W1.setRow NB A1 := by rw [hA1]; rfl
          rw [e, setCells_row ((ns.map Value.string).drop i) (i + 1) A1 _ h2 (by rw [hdl, hA1s]; omega), hA2]
        have h2 : (W1.setRow NB A1).drew.heap[NB]? = some (.cells A1 tS (0, 0)) := setRow_heap W1 NB A A1 tS (0, 0) hN1
        have hres := hW'
        rw [hNB] at hres
        rw [show ((w.alloc (.cells A (insRen.t 9))).drew.setCells w.heap.size i [Value.string x]).drew.setCells w.heap.size (i + 1) ((ns.map Value.string).drop i) = ((W1.setRow w.heap.size A1).drew).setRow w.heap.size A2 from hres]
        rw [← hNB]
        refine ⟨_, rfl, ⟨by simpa using hln, .inr ⟨NB, gc, A2, rfl, by rw [hNB]; exact hB, setRow_heap _ NB A1 A2 tS (0, 0) h2, hge, hgm, by simpa using hA2s, by simpa using hA2t⟩⟩, ⟨by rw [hW1]; rfl, by rw [hW1]; rfl, by rw [hW1]; rfl, by rw [hW1]; simp [World.setRow], fun k hk _ => ?_⟩, fun q hq => ?_⟩
        · have hkN : k ≠ NB := by omega
          rw [setRow_other _ NB k A2 hkN]
          show (W1.setRow NB A1).heap[k]? = _
          rw [setRow_other W1 NB k A1 hkN, hW1]
          exact heap_alloc_old w _ hk
        · cases hq; exact .inr (Nat.le_refl _)

end Go.Proofs.YtlccdenafnekjaaGreatDoor
namespace Go.Proofs.YtlccdenafnekjaaGreatDoor
open Go.RowKit
set_option linter.unusedVariables false

/-- All blocks but these are as they were. -/
structure Fr (S : List Nat) (w w' : World) : Prop where
  os : w'.os = w.os
  tape : w'.tape = w.tape
  output : w'.output = w.output
  size : w.heap.size ≤ w'.heap.size
  block : ∀ g, g < w.heap.size → g ∉ S → w'.heap[g]? = w.heap[g]?

theorem Fr.refl (S : List Nat) (w : World) : Fr S w w := ⟨rfl, rfl, rfl, Nat.le_refl _, fun _ _ _ => rfl⟩
theorem Fr.trans {S S' : List Nat} {w w1 w2 : World} (h : Fr S w w1) (h' : Fr S' w1 w2) (hs : ∀ g ∈ S', g < w.heap.size → g ∈ S) : Fr S w w2 :=
  ⟨h'.os.trans h.os, h'.tape.trans h.tape, h'.output.trans h.output, Nat.le_trans h.size h'.size, fun g hg hn =>
    (h'.block g (Nat.lt_of_lt_of_le hg h.size) (fun hm => hn (hs g hm hg))).trans (h.block g hg hn)⟩
theorem Fr.mono {S S' : List Nat} {w w' : World} (h : Fr S w w') (hs : ∀ g ∈ S, g < w.heap.size → g ∈ S') : Fr S' w w' :=
  ⟨h.os, h.tape, h.output, h.size, fun g hg hn => h.block g hg fun hm => hn (hs g hm hg)⟩
theorem Fr.of_below {S : List Nat} {w w' : World} (h : Below w.heap.size w w') : Fr S w w' := ⟨h.os, h.tape, h.output, h.size, fun g hg _ => h.block g hg⟩
theorem Fr.of_grown {S : List Nat} {w w' : World} {o : Option Nat} (h : w.grownBy w' o) (ho : ∀ g, o = some g → g ∈ S) : Fr S w w' :=
  ⟨h.os, h.tape, h.output, h.size, fun g hg hn => h.block g hg fun e => hn (ho g e.symm)⟩
theorem Fr.of_but {S : List Nat} {w w' : World} {q : Nat} (h : But w.heap.size q w w') (hq : q ∈ S ∨ w.heap.size ≤ q) : Fr S w w' :=
  ⟨h.os, h.tape, h.output, h.size, fun g hg hn => h.block g hg fun e => by
    subst e
    rcases hq with h1 | h1
    · exact hn h1
    · omega⟩
theorem Fr.below {S : List Nat} {w w' : World} {B : Nat} (h : Fr S w w') (hB : B ≤ w.heap.size) (hS : ∀ g ∈ S, B ≤ g) : Below B w w' :=
  ⟨h.os, h.tape, h.output, h.size, fun g hg => h.block g (Nat.lt_of_lt_of_le hg hB) fun hm => by have := hS g hm; omega⟩

/-- These are blocks that hold no bytes. -/
def Rows (w : World) (S : List Nat) : Prop := ∀ g ∈ S, ∃ L t, w.heap[g]? = some (.cells L t (0, 0)) ∧ t ≠ 5

theorem Rows.lt {w : World} {S : List Nat} (h : Rows w S) {g : Nat} (hg : g ∈ S) : g < w.heap.size := by
  obtain ⟨L, t, hL, _⟩ := h g hg
  exact (Array.getElem?_eq_some_iff.1 hL).1
theorem Rows.later {w w' : World} {S S' : List Nat} (h : Rows w S) (hf : Fr S' w w') (hd : ∀ g ∈ S, g ∉ S') : Rows w' S := fun g hg => by
  obtain ⟨L, t, hL, ht⟩ := h g hg
  exact ⟨L, t, (hf.block g (h.lt hg) (hd g hg)).trans hL, ht⟩
theorem Rows.append {w : World} {S S' : List Nat} (h : Rows w S) (h' : Rows w S') : Rows w (S ++ S') := fun g hg => by
  rcases List.mem_append.1 hg with h1 | h1
  · exact h g h1
  · exact h' g h1
theorem Rows.of_owns {w : World} {B : Nat} {t : TypeId} {size n : Nat} {v : Value} {xs : List Value} (h : w.ownsRow B t size v n xs) (ht : t ≠ 5) : Rows w (blk v) := fun g hg => by
  rw [mem_blk] at hg
  rcases h.2 with ⟨rfl, _⟩ | ⟨q, cap, cur, rfl, _, hq, _⟩
  · cases hg
  · cases hg
    exact ⟨cur, t, hq, ht⟩

theorem owns_fr {w w' : World} {S : List Nat} {B : Nat} {t : TypeId} {size n : Nat} {v : Value} {xs : List Value} (h : w.ownsRow B t size v n xs) (hf : Fr S w w') (hd : ∀ g ∈ blk v, g ∉ S) : w'.ownsRow B t size v n xs := by
  refine ⟨h.1, ?_⟩
  rcases h.2 with hn | ⟨g, cap, cur, rfl, hg, hgg, rest⟩
  · exact .inl hn
  · exact .inr ⟨g, cap, cur, rfl, hg, (hf.block g (Array.getElem?_eq_some_iff.1 hgg).1 (hd g (mem_blk.2 rfl))).trans hgg, rest⟩
theorem owns_bytes {w w' : World} {S : List Nat} {B : Nat} {size n : Nat} {v : Value} {xs : List Value} (h : w.ownsRow B 5 size v n xs) (hf : Fr S w w') (hS : Rows w S) : w'.ownsRow B 5 size v n xs := by
  refine ⟨h.1, ?_⟩
  rcases h.2 with hn | ⟨g, cap, cur, rfl, hg, hgg, rest⟩
  · exact .inl hn
  · refine .inr ⟨g, cap, cur, rfl, hg, (hf.block g (Array.getElem?_eq_some_iff.1 hgg).1 fun hm => ?_).trans hgg, rest⟩
    obtain ⟨L, t, hL, ht⟩ := hS g hm
    rw [hgg] at hL
    cases hL
    exact ht rfl

/-- A tree in rows that a change leaves alone. -/
theorem MT.frame {w w' : World} {S : List Nat} {B : Nat} (hf : Fr S w w') (hS : Rows w S) {cs : List Value} {t : T} {S' : List Nat} (h : MT w B cs t S') : (∀ g ∈ S', g ∉ S) → MT w' B cs t S' := by
  induction h with
  | @mk k x d ns ks vd vn vk L Ss hd hn hk hs hnd ih =>
    intro hD
    have h1 : ∀ g ∈ blk vn, g ∉ S := fun g hg => hD g (by simp [hg])
    have h2 : ∀ g ∈ blk vk, g ∉ S := fun g hg => hD g (by simp [hg])
    refine MT.mk (owns_bytes hd hf hS) (owns_fr hn hf h1) (owns_fr hk hf h2) (fun i hi => ih i hi fun g hg => hD g ?_) hnd
    exact List.mem_append_right _ (List.mem_flatMap.2 ⟨i, List.mem_range.2 hi, hg⟩)

theorem MT.rows {w : World} {B : Nat} {cs : List Value} {t : T} {S : List Nat} (h : MT w B cs t S) : Rows w S := by
  induction h with
  | @mk k x d ns ks vd vn vk L Ss hd hn hk hs hnd ih =>
    refine (Rows.append (Rows.of_owns hn (by decide)) (Rows.of_owns hk (by decide))).append fun g hg => ?_
    obtain ⟨i, hi, h8⟩ := List.mem_flatMap.1 hg
    exact ih i (List.mem_range.1 hi) g h8

theorem MT.from {w : World} {B : Nat} {cs : List Value} {t : T} {S : List Nat} (h : MT w B cs t S) : ∀ g ∈ S, B ≤ g := by
  have hv : ∀ {ty : TypeId} {size n : Nat} {v : Value} {xs : List Value} {g : Nat}, w.ownsRow B ty size v n xs → g ∈ blk v → B ≤ g := fun h hg => by
    rw [mem_blk] at hg
    rcases h.2 with ⟨rfl, _⟩ | ⟨q, cap, cur, rfl, hq, _⟩
    · cases hg
    · cases hg; exact hq
  induction h with
  | @mk k x d ns ks vd vn vk L Ss hd hn hk hs hnd ih =>
    intro g hg
    rcases List.mem_append.1 hg with h1 | h1
    · rcases List.mem_append.1 h1 with h2 | h2
      · exact hv hn h2
      · exact hv hk h2
    · obtain ⟨i, hi, h8⟩ := List.mem_flatMap.1 h1
      exact ih i (List.mem_range.1 hi) g h8

theorem MT.low {w : World} {B B' : Nat} (hB : B' ≤ B) {cs : List Value} {t : T} {S : List Nat} (h : MT w B cs t S) : MT w B' cs t S := by
  induction h with
  | @mk k x d ns ks vd vn vk L Ss hd hn hk hs hnd ih => exact MT.mk (owns_low hd hB) (owns_low hn hB) (owns_low hk hB) ih hnd

theorem MT.five {w : World} {B : Nat} {cs : List Value} {t : T} {S : List Nat} (h : MT w B cs t S) : cs.length = 5 := by
  cases h; rfl
theorem owns_one {v : Value} {w : World} {B n size : Nat} {t : TypeId} {xs : List Value} (h : w.ownsRow B t size v n xs) : v.oneCell' = true := by
  rcases h.2 with ⟨rfl, _⟩ | ⟨q, cap, cur, rfl, _⟩ <;> rfl
theorem MT.one {w : World} {B : Nat} {cs : List Value} {t : T} {S : List Nat} (h : MT w B cs t S) : ∀ u ∈ cs, u.oneCell' = true := by
  cases h with
  | mk hd hn hk hs hnd =>
    intro u hu
    simp only [List.mem_cons, List.not_mem_nil, or_false] at hu
    rcases hu with rfl | rfl | rfl | rfl | rfl
    · rfl
    · rfl
    · exact owns_one hd
    · exact owns_one hn
    · exact owns_one hk

/-- It may be read. -/
theorem MT.isT {w : World} {B : Nat} {cs : List Value} {t : T} {S : List Nat} (h : MT w B cs t S) : ∀ n, sizeN t ≤ n → Small t → IsT w n cs t := by
  induction h with
  | @mk k x d ns ks vd vn vk L Ss hd hn hk hs hnd ih =>
    intro n hz hsm
    rw [sizeN_mk] at hz
    obtain ⟨m, rfl⟩ : ∃ m, n = m + 1 := ⟨n - 1, by omega⟩
    cases hsm with
    | mk s1 s2 s3 =>
      obtain ⟨ad, cd, rfl, iB⟩ := isB_owned hd s3.1
      obtain ⟨an, cn, rfl, iS⟩ := isS_owned hn
      have hK : ∃ ak ck, vk = .slice ak ks.length ck ∧ IsK (IsT w m) w ak ks.length ck ks := by
        rcases hk.2 with ⟨rfl, h0⟩ | ⟨g, cap, cur, rfl, hg, hgg, hle, hmx, hsz, htk⟩
        · exact ⟨none, 0, by rw [h0], rfl, .inl h0, fun _ => ⟨h0, rfl⟩, by omega, Nat.zero_le _⟩
        · refine ⟨_, _, rfl, rfl, .inr ⟨g, 0, rfl, (Array.getElem?_eq_some_iff.1 hgg).1, fun i hi => ?_⟩, (fun e => by cases e), hle, hmx⟩
          have hi5 := (hs i hi).five
          obtain ⟨c0, c1, c2, c3, c4, h5⟩ := five_list hi5
          obtain ⟨a0, a1, a2, a3, a4⟩ := five_at h5
          have hT := ih i hi m (by have := sizeNL_get hi; omega) (s2 i hi)
          rw [h5] at hT
          have hc : ∀ {j : Nat} {v : Value}, L[j]? = some v → w.cell? ⟨g, 0 + j, none⟩ = some v := fun {j v} hj => by
            rw [Nat.zero_add]
            rw [cell_of_row w g j cur _ (0, 0) hgg]
            rw [← htk, List.getElem?_take] at hj
            split at hj
            · rw [← hj]; simp
            · cases hj
          exact ⟨c0, c1, c2, c3, c4, hT, hc a0, hc a1, hc a2, hc a3, hc a4⟩
      obtain ⟨ak, ck, rfl, iK⟩ := hK
      exact ⟨ad, _, cd, an, _, cn, ak, _, ck, rfl, iB, iS, iK⟩

end Go.Proofs.YtlccdenafnekjaaGreatDoor
namespace Go.Proofs.YtlccdenafnekjaaGreatDoor
open Go.RowKit
set_option linter.unusedVariables false

theorem has_fr {w w' : World} {S : List Nat} {b : Nat} {L : List Value} {t : TypeId} (h : Has w b L t) (hf : Fr S w w') (hb : b ∉ S) : Has w' b L t := (hf.block b h.lt hb).trans h
theorem Fr.setCell {S : List Nat} {w x : World} (h : Fr S w x) {b : Nat} (hb : b ∈ S ∨ w.heap.size ≤ b) (i : Nat) (v : Value) : Fr S w (x.setCell ⟨b, i, none⟩ v) :=
  ⟨h.os, h.tape, h.output, by simpa [World.setCell] using h.size, fun g hg hn => (heap_setCell_other x ⟨b, i, none⟩ g v (fun e => by
    have e' : g = b := e
    subst e'
    rcases hb with h1 | h1
    · exact hn h1
    · omega)).trans (h.block g hg hn)⟩
theorem Fr.alloc {S : List Nat} {w x : World} (h : Fr S w x) (o : Obj) : Fr S w (x.alloc o) :=
  h.trans (S' := []) (Fr.of_below ((Below.refl _ _).alloc (Nat.le_refl _) o)) (fun g hg => by simp at hg)
theorem Fr.drew {S : List Nat} {w x : World} (h : Fr S w x) : Fr S w x.drew :=
  h.trans (S' := []) (Fr.of_below (Below.refl _ _).drew) (fun g hg => by simp at hg)
theorem owns_alloc {w : World} {B size n : Nat} {t : TypeId} {v : Value} {xs : List Value} (h : w.ownsRow B t size v n xs) (o : Obj) : (w.alloc o).ownsRow B t size v n xs := World.ownsRow.alloc h o
theorem owns_drew {w : World} {B size n : Nat} {t : TypeId} {v : Value} {xs : List Value} (h : w.ownsRow B t size v n xs) : w.drew.ownsRow B t size v n xs := h
theorem has_range {w : World} {b : Nat} {L : List Value} {t : TypeId} (h : Has w b L t) : w.rangeAt b 0 L := fun j v hv => by
  have := h.cellAt hv
  rw [Nat.zero_add]
  exact this
theorem slice_owned {w : World} {B size n : Nat} {t : TypeId} {v : Value} {xs : List Value} (h : w.ownsRow B t size v n xs) : ∃ a m c, v = .slice a m c := by
  rcases h.2 with ⟨rfl, _⟩ | ⟨g, cap, cur', rfl, _⟩
  · exact ⟨_, _, _, rfl⟩
  · exact ⟨_, _, _, rfl⟩
theorem own_type2 {w : World} {B b size n : Nat} {L xs : List Value} {t e : TypeId} {v : Value} (h : w.ownsRow B e size v n xs) (h' : Has w b L t) (ht : e ≠ t) : v.ownBlock ≠ some b := fun ek => by
  rcases h.2 with ⟨rfl, _⟩ | ⟨g, cap, cur, rfl, hb, hg, _⟩
  · cases ek
  · cases ek
    have := hg.symm.trans (show w.heap[g]? = some (.cells L.toArray t (0, 0)) from h')
    simp only [Option.some.injEq, Obj.cells.injEq] at this
    exact ht this.2.1
theorem blk_lt {w : World} {B size n : Nat} {t : TypeId} {v : Value} {xs : List Value} (h : w.ownsRow B t size v n xs) {g : Nat} (hg : v.ownBlock = some g) : g < w.heap.size := by
  rcases h.2 with ⟨rfl, _⟩ | ⟨q, cap, cur, rfl, _, hq, _⟩
  · cases hg
  · cases hg; exact (Array.getElem?_eq_some_iff.1 hq).1
theorem owns_set2 {w : World} {B size n : Nat} {t : TypeId} {v : Value} {xs : List Value} (h : w.ownsRow B t size v n xs) {b : Nat} (hb : v.ownBlock ≠ some b) (i : Nat) (u : Value) : (w.setCell ⟨b, i, none⟩ u).ownsRow B t size v n xs :=
  owns_fr h ((Fr.refl [b] w).setCell (.inl (by simp)) i u) (fun g hg hm => by
    simp only [List.mem_cons, List.not_mem_nil, or_false] at hm
    subst hm
    exact hb (mem_blk.1 hg))
theorem owns_grown3 {w w2 : World} {B B' n size n' size' : Nat} {e e' : TypeId} {v v' : Value} {xs xs' : List Value} (hx : w.ownsRow B' e' size' v' n' xs') (h : w.ownsRow B e size v n xs) (he : e ≠ e') (hg : w.grownBy w2 v.ownBlock) : w2.ownsRow B' e' size' v' n' xs' :=
  owns_fr hx (Fr.of_grown (S := blk v) hg (fun g h => mem_blk.2 h)) (fun g h1 h2 => by
    rw [mem_blk] at h1 h2
    rcases h.2 with ⟨rfl, _⟩ | ⟨q, cap, cur, rfl, _, hq, _⟩
    · cases h2
    · rcases hx.2 with ⟨rfl, _⟩ | ⟨q', cap', cur', rfl, _, hq', _⟩
      · cases h1
      · cases h1; cases h2
        rw [hq] at hq'
        cases hq'
        exact he rfl)

/-- The cells of a spot. -/
def spC (db o : Nat) (x : ByteArray) (i dep : Nat) (tk : Bool) : List Value := [.pointer (some ⟨db, o, none⟩), .string x, .int .i64 (i : Int), .int .i64 (dep : Int), .bool tk]

theorem has_setRow {w : World} {g : Nat} {L L' : List Value} {t : TypeId} (h : Has w g L t) : Has (w.setRow g L'.toArray) g L' t := setRow_heap w g L.toArray L'.toArray t (0, 0) h
theorem has_setRow_other {w : World} {b g : Nat} {L : List Value} {t : TypeId} (h : Has w b L t) (hne : b ≠ g) (R : Array Value) : Has (w.setRow g R) b L t := (setRow_other w g b R hne).trans h
theorem Fr.setRow {S : List Nat} {w x : World} (h : Fr S w x) {b : Nat} (hb : b ∈ S ∨ w.heap.size ≤ b) (R : Array Value) : Fr S w (x.setRow b R) :=
  ⟨h.os, h.tape, h.output, by simpa [World.setRow] using h.size, fun g hg hn => (setRow_other x b g R (fun e => by
    subst e
    rcases hb with h1 | h1
    · exact hn h1
    · omega)).trans (h.block g hg hn)⟩
theorem range_five {w : World} {kb n i : Nat} {cur : List Value} {L : List Value} {t : TypeId} (h : Has w kb cur t) (hL : cur.take (n * 5) = L) (hi : i < n) : w.rangeAt kb (i * 5) (five L i) := fun j v hv => by
  have hj : j < 5 := by
    have := (List.getElem?_eq_some_iff.1 hv).1
    unfold five at this
    rw [List.length_take] at this
    omega
  rw [five_get j hj, ← hL, List.getElem?_take] at hv
  split at hv
  · exact h.cellAt hv
  · cases hv

end Go.Proofs.YtlccdenafnekjaaGreatDoor
namespace Go.Proofs.YtlccdenafnekjaaGreatDoor
open Go.RowKit
set_option linter.unusedVariables false

/-- The seven cells of a tree that is worked on: its five, how many trees, how many bytes. -/
def wkC (c0 c1 c2 c3 c4 : Value) (a b : Int) : List Value := [c0, c1, c2, c3, c4, .int .i64 a, .int .i64 b]

set_option maxRecDepth 100000 in
set_option maxHeartbeats 8000000 in
theorem count_w (n : Nat) (cs : List Value) (t : T) (w : World) (p : Nat) (c0 c1 c2 c3 c4 : Value) (a b s : Int) (x y : Nat) (ht : IsT w n cs t) (hw : Has w p (wkC c0 c1 c2 c3 c4 a b) 140)
    (hz : sizeT t = some (x, y)) (hs : s = 1 ∨ s = -1) (ha : -1000000 ≤ a ∧ a ≤ 1000000) (hb : -1000000 ≤ b ∧ b ≤ 1000000) :
    Calls Tryz.prog 142 #[.pointer (some ⟨p, 0, none⟩), .agg cs.toArray, .int .i64 s] w fun e w' => e = .returned (.tuple #[]) ∧ Has w' p (wkC c0 c1 c2 c3 c4 (a + s * x) (b + s * y)) 140 ∧ But w.heap.size p w w' := by
  have hI := Lib.hid (infoL (isT_five ht))
  have HT := Lib.hid ht
  have hxy := takeT_le _ _ _ _ _ hz
  simp only at hxy
  obtain ⟨hx1, hy1⟩ := hxy
  have HV : Hid (sizeV t = .tuple #[.int .i64 (x : Int), .int .i64 (y : Int), .int .i64 0]) := Lib.hid (by unfold sizeV; rw [hz])
  have HW := Lib.hid hw
  have HP : Hid (p < w.heap.size) := Lib.hid hw.lt
  clear ht hz hw
  go_enter Tryz.func142, Tryz.ntmps142
  go_upto_region 1 with fail
  obtain ⟨w1, hw1⟩ : ∃ w1, w1 = w.alloc (.cells cs.toArray 37) := ⟨_, rfl⟩
  have g1 : Has w1 w.heap.size cs 37 := by rw [hw1]; exact Has.new w cs _
  have b1 : Below w.heap.size w w1 := by rw [hw1]; exact (Below.refl _ _).alloc (Nat.le_refl _) _
  rw [← hw1]
  have HK := Lib.hid (size_any n cs t w1 (IsT.later b1 _ _ _ HT.out))
  have G1 := Lib.hid (show w1.heap[w.heap.size]? = some (.cells cs.toArray 37 (0, 0)) from g1)
  have B1 := Lib.hid b1
  clear hw1 g1 b1
  go_wp2_with (refine wpList_load_row rfl 37 _ rfl w.heap.size rfl 37 cs.toArray (0, 0) _ G1.out Tryz.underlying37 rfl hI.out ?_)
  refine HK.out.mono ?_
  rintro e w2 ⟨rfl, b2⟩
  rw [HV.out]
  have B2 := Lib.hid (B1.out.trans (b2.mono B1.out.size))
  have x2 : Has w2 p (wkC c0 c1 c2 c3 c4 a b) 140 := HW.out.below B2.out HP.out
  have X2 := Lib.hid x2
  have ch5 := x2.cellAt (i := 5) rfl
  have ch6 := x2.cellAt (i := 6) rfl
  have f5 := x2.frozen 5
  clear HK b2 x2
  rcases hs with rfl | rfl
  · go_upto_region 3 with fail
    obtain ⟨w3, hw3⟩ : ∃ w3, w3 = w2.setCell ⟨p, 5, none⟩ (.int .i64 (a + (x : Int))) := ⟨_, rfl⟩
    have x3 : Has w3 p (wkC c0 c1 c2 c3 c4 (a + (x : Int)) b) 140 := by rw [hw3]; exact X2.out.set 5 _
    have b3 : But w.heap.size p w w3 := by rw [hw3]; exact (But.of_below B2.out).setB 5 _
    rw [← hw3]
    have X3 := Lib.hid x3
    have B3 := Lib.hid b3
    clear ch5 ch6 f5 hw3 b3
    have ch6 := x3.cellAt (i := 6) rfl
    have f6 := x3.frozen 6
    clear x3
    go_wp2_with fail
    first | go_end0 | (simp only [Exit.inBlock, Exit.then]; refine bodyPost_ret (results_none rfl _ _ _) rfl ?_) | refine bodyPost_ret (results_none rfl _ _ _) rfl ?_
    rw [Int.one_mul, Int.one_mul]
    exact ⟨rfl, X3.out.set 6 _, B3.out.setB 6 _⟩
  · go_upto_region 3 with fail
    obtain ⟨w3, hw3⟩ : ∃ w3, w3 = w2.setCell ⟨p, 5, none⟩ (.int .i64 (a + -(x : Int))) := ⟨_, rfl⟩
    have x3 : Has w3 p (wkC c0 c1 c2 c3 c4 (a + -(x : Int)) b) 140 := by rw [hw3]; exact X2.out.set 5 _
    have b3 : But w.heap.size p w w3 := by rw [hw3]; exact (But.of_below B2.out).setB 5 _
    rw [← hw3]
    have X3 := Lib.hid x3
    have B3 := Lib.hid b3
    clear ch5 ch6 f5 hw3 b3
    have ch6 := x3.cellAt (i := 6) rfl
    have f6 := x3.frozen 6
    clear x3
    go_wp2_with fail
    first | go_end0 | (simp only [Exit.inBlock, Exit.then]; refine bodyPost_ret (results_none rfl _ _ _) rfl ?_) | refine bodyPost_ret (results_none rfl _ _ _) rfl ?_
    rw [Int.neg_mul, Int.one_mul, Int.neg_mul, Int.one_mul]
    exact ⟨rfl, X3.out.set 6 _, B3.out.setB 6 _⟩

end Go.Proofs.YtlccdenafnekjaaGreatDoor

/-
  A directory that is being read: what the memory holds between two steps. No program text.
-/
import Derived.Test.YthjihibocobndaaNFile
namespace Go.Proofs.Ythjihibocobndaa
open Go.RowKit
set_option linter.unusedVariables false

/-- Five cells read as a tree, as long as of the blocks from lo on those stay of which P does not hold. -/
def KStab (lo : Nat) (P : Nat → Prop) (w : World) (n : Nat) (cs : List Value) (t : T) : Prop :=
  ∀ w', w.heap.size ≤ w'.heap.size → (∀ k, lo ≤ k → k < w.heap.size → ¬ P k → w'.heap[k]? = w.heap[k]?) → IsT w' n cs t
theorem KStab.step {lo : Nat} {P P' : Nat → Prop} {w w' : World} {n : Nat} {cs : List Value} {t : T} (h : KStab lo P w n cs t) (hsz : w.heap.size ≤ w'.heap.size)
    (hs : ∀ k, lo ≤ k → k < w.heap.size → ¬ P k → w'.heap[k]? = w.heap[k]?) (hP : ∀ k, k < w.heap.size → P' k → P k) : KStab lo P' w' n cs t :=
  fun w'' h1 h2 => h w'' (Nat.le_trans hsz h1) (fun k hk1 hk2 hk3 => (h2 k hk1 (Nat.lt_of_lt_of_le hk2 hsz) (fun hp => hk3 (hP k hk2 hp))).trans (hs k hk1 hk2 hk3))
theorem KStab.of {lo lo' : Nat} {P : Nat → Prop} {w : World} {n : Nat} {cs : List Value} {t : T} (h : Stab lo' [] w n cs t) (hl : lo ≤ lo') (hP : ∀ k, P k → k < lo') : KStab lo P w n cs t :=
  fun w' h1 h2 => h w' h1 (fun k hk1 hk2 _ => h2 k (Nat.le_trans hl hk1) hk2 (fun hp => by have := hP k hp; omega))

def KP (A : Nat) (vn vk : Value) (k : Nat) : Prop := k = A ∨ k = A + 1 ∨ vn.ownBlock = some k ∨ vk.ownBlock = some k

def zeroL : List Value := [.int .u8 0, .bool false, .slice none 0 0, .slice none 0 0, .slice none 0 0]
def dirC (vn vk : Value) : List Value := [.int .u8 3, .bool false, .slice none 0 0, vn, vk]

structure Dir (rb : Nat) (w0 w : World) (A : Nat) (ns : List ByteArray) (ks : List T) (R : List UInt8) (vn vk : Value) (wr : World) : Prop where
  rd : Rd rb w0 R wr
  but : But w.heap.size rb w wr
  low : rb < A
  res : Has wr A zeroL 26
  box : Has wr (A + 1) (dirC vn vk) 26
  names : wr.ownsRow (A + 2) 9 1 vn ns.length (ns.map Value.string)
  kids : ∃ LK, wr.ownsRow (A + 2) 26 5 vk ks.length LK ∧ ∀ i, i < ks.length → ∃ n, KStab A (KP A vn vk) wr n (five LK i) (ks.getD i default)
  base : A = w.heap.size

theorem owns_keep {w w' : World} {B n size : Nat} {e : TypeId} {v : Value} {xs : List Value} (h : w.ownsRow B e size v n xs) (hs : ∀ g, v.ownBlock = some g → w'.heap[g]? = w.heap[g]?) : w'.ownsRow B e size v n xs := by
  refine ⟨h.1, ?_⟩
  rcases h.2 with h0 | ⟨g, cap, cur, h1, h2, h3, h4⟩
  · exact .inl h0
  · exact .inr ⟨g, cap, cur, h1, h2, (hs g (by rw [h1]; rfl)).trans h3, h4⟩

section
variable {rb A : Nat} {w0 w wr : World} {ns : List ByteArray} {ks : List T} {R : List UInt8} {vn vk : Value}

/-- Older blocks, but the reader's, stay. -/
theorem Dir.go (h : Dir rb w0 w A ns ks R vn vk wr) {w' : World} {R' : List UInt8} (hb : But wr.heap.size rb wr w') (hr : Rd rb w0 R' w') : Dir rb w0 w A ns ks R' vn vk w' := by
  have hlow := h.low
  have hne : ∀ k, A ≤ k → k < wr.heap.size → w'.heap[k]? = wr.heap[k]? := fun k h1 h2 => hb.block k h2 (by omega)
  obtain ⟨LK, hk, hst⟩ := h.kids
  exact ⟨hr, h.but.trans (hb.mono h.but.size), hlow, h.res.but hb h.res.lt (by omega), h.box.but hb h.box.lt (by omega),
    owns_keep h.names (fun g hg => by have := h.names.lt g hg; exact hne g (by omega) this.2), ⟨LK, owns_keep hk (fun g hg => by have := hk.lt g hg; exact hne g (by omega) this.2), fun i hi => by
      obtain ⟨n, hn⟩ := hst i hi
      exact ⟨n, hn.step hb.size (fun k h1 h2 _ => hne k h1 h2) (fun k _ hp => hp)⟩⟩, h.base⟩
theorem Dir.later (h : Dir rb w0 w A ns ks R vn vk wr) {w' : World} (hb : Below wr.heap.size wr w') : Dir rb w0 w A ns ks R vn vk w' := h.go (But.of_below hb) (h.rd.later hb)
theorem Dir.drew (h : Dir rb w0 w A ns ks R vn vk wr) : Dir rb w0 w A ns ks R vn vk wr.drew :=
  h.go ⟨rfl, rfl, rfl, Nat.le_refl _, fun _ _ _ => rfl⟩ (by
    obtain ⟨a, len, cap, hx, hB, hbel, h0, hR⟩ := h.rd
    exact ⟨a, len, cap, hx.drew, hB, hbel.drew, h0, hR⟩)

theorem KP_lt (h : Dir rb w0 w A ns ks R vn vk wr) : ∀ k, KP A vn vk k → k < wr.heap.size := by
  intro k hk
  have h1 := h.res.lt
  have h2 := h.box.lt
  obtain ⟨LK, hkk, _⟩ := h.kids
  rcases hk with rfl | rfl | hk | hk
  · exact h1
  · exact h2
  · exact (h.names.lt k hk).2
  · exact (hkk.lt k hk).2

/-- A name more. -/
theorem Dir.name (h : Dir rb w0 w A ns ks R vn vk wr) {nm : ByteArray} {w' : World} {g cap : Nat} (ho : w'.ownsRow (A + 2) 9 1 (.slice (some ⟨g, 0, none⟩) (ns.length + 1) cap) (ns.length + 1) (ns.map Value.string ++ [.string nm]))
    (hg : wr.grownBy w' vn.ownBlock) (hn : vn.ownBlock = some g ∨ g = wr.heap.size) :
    Dir rb w0 w A (ns ++ [nm]) ks R (.slice (some ⟨g, 0, none⟩) (ns.length + 1) cap) vk (w'.setCell ⟨A + 1, 3, none⟩ (.slice (some ⟨g, 0, none⟩) (ns.length + 1) cap)) := by
  have hlow := h.low
  have hbase := h.base
  have hob := ho.lt g rfl
  have e1 : ∀ k, k < wr.heap.size → k ≠ A + 1 → vn.ownBlock ≠ some k → (w'.setCell ⟨A + 1, 3, none⟩ (.slice (some ⟨g, 0, none⟩) (ns.length + 1) cap)).heap[k]? = wr.heap[k]? := fun k h1 h2 h3 =>
    (heap_setCell_other w' ⟨A + 1, 3, none⟩ k _ h2).trans (hg.block k h1 (fun e => h3 e.symm))
  have hsz : wr.heap.size ≤ (w'.setCell ⟨A + 1, 3, none⟩ (.slice (some ⟨g, 0, none⟩) (ns.length + 1) cap)).heap.size := by simp only [World.setCell, Array.size_modify]; exact hg.size
  have hnb : ∀ k, vn.ownBlock = some k → A + 2 ≤ k := fun k hk => (h.names.lt k hk).1
  obtain ⟨LK, hk, hst⟩ := h.kids
  have hB1 : Has w' (A + 1) (dirC vn vk) 26 := (hg.block _ h.box.lt (fun e => by have := hnb _ e.symm; omega)).trans h.box
  have hbut : But wr.heap.size (A + 1) wr (w'.setCell ⟨A + 1, 3, none⟩ (.slice (some ⟨g, 0, none⟩) (ns.length + 1) cap)) ∨ True := .inr trivial
  have hrd : Rd rb w0 R (w'.setCell ⟨A + 1, 3, none⟩ (.slice (some ⟨g, 0, none⟩) (ns.length + 1) cap)) := by
    obtain ⟨a, len, c, hx, hB, hbel, h0, hR⟩ := h.rd
    refine ⟨a, len, c, (e1 rb hx.lt (by omega) (fun e => by have := hnb _ e; omega)).trans hx, hB, ?_, h0, hR⟩
    exact (hbel.grown hg (Nat.le_of_lt hx.lt) (fun k hk => by have := hnb k hk; omega)).setCell (p := ⟨A + 1, 3, none⟩) (by show rb ≤ A + 1; omega) _
  refine ⟨hrd, ?_, hlow, (e1 A h.res.lt (by omega) (fun e => by have := hnb _ e; omega)).trans h.res, hB1.set 3 _, ?_, ⟨LK, ?_, fun i hi => ?_⟩, hbase⟩
  · refine ⟨h.but.os.symm ▸ ?_, ?_, ?_, Nat.le_trans h.but.size hsz, fun k hk hne => (e1 k (Nat.lt_of_lt_of_le hk h.but.size) (by omega) (fun e => by have := hnb _ e; omega)).trans (h.but.block k hk hne)⟩
    · exact hg.os.trans rfl
    · exact hg.tape.trans h.but.tape
    · exact hg.output.trans h.but.output
  · rw [List.length_append, List.map_append]
    exact owns_keep ho (fun q hq => heap_setCell_other w' ⟨A + 1, 3, none⟩ q _ (by
      have := (ho.lt q hq).1
      show q ≠ A + 1; omega))
  · exact owns_keep hk (fun q hq => e1 q (hk.lt q hq).2 (by have := (hk.lt q hq).1; omega) (fun e => by
      rcases hk.2 with ⟨h0, _⟩ | ⟨g2, cap2, cur2, h1, _, h3, _⟩
      · rw [h0] at hq; cases hq
      · rw [h1] at hq
        simp only [Value.ownBlock, Option.some.injEq] at hq
        subst hq
        exact row_block_type h.names h3 (by decide) e))
  · obtain ⟨n, hn'⟩ := hst i hi
    refine ⟨n, hn'.step hsz (fun k h1 h2 h3 => e1 k h2 (fun e => h3 (.inr (.inl e))) (fun e => h3 (.inr (.inr (.inl e))))) (fun k hk hp => ?_)⟩
    rcases hp with hp | hp | hp | hp
    · exact .inl hp
    · exact .inr (.inl hp)
    · simp only [Value.ownBlock, Option.some.injEq] at hp
      rcases hn with hn | hn
      · exact .inr (.inr (.inl (by rw [hn, hp])))
      · omega
    · exact .inr (.inr (.inr hp))

theorem five_append_old {LK cs : List Value} {i n : Nat} (hl : LK.length = n * 5) (hi : i < n) : five (LK ++ cs) i = five LK i := by
  unfold five
  rw [List.drop_append_of_le_length (by omega), List.take_append_of_le_length (by rw [List.length_drop]; omega)]
theorem five_append_new {LK cs : List Value} {n : Nat} (hl : LK.length = n * 5) (hc : cs.length = 5) : five (LK ++ cs) n = cs := by
  unfold five
  rw [← hl, List.drop_left, List.take_of_length_le (by omega)]

/-- What the kids' row holds. -/
def KidsRow (A : Nat) (vn vk : Value) (ks : List T) (LK : List Value) (wr : World) : Prop := wr.ownsRow (A + 2) 26 5 vk ks.length LK ∧ ∀ i, i < ks.length → ∃ n, KStab A (KP A vn vk) wr n (five LK i) (ks.getD i default)

/-- A kid more. -/
theorem Dir.kid (h : Dir rb w0 w A ns ks R vn vk wr) {LK : List Value} (hk : wr.ownsRow (A + 2) 26 5 vk ks.length LK) (hst : ∀ i, i < ks.length → ∃ n, KStab A (KP A vn vk) wr n (five LK i) (ks.getD i default))
    {t : T} {cs : List Value} {m : Nat} (ht : KStab A (KP A vn vk) wr m cs t) (hc : cs.length = 5) {w' : World} {g cap : Nat}
    (ho : w'.ownsRow (A + 2) 26 5 (.slice (some ⟨g, 0, none⟩) (ks.length + 1) cap) (ks.length + 1) (LK ++ cs)) (hg : wr.grownBy w' vk.ownBlock) (hn : vk.ownBlock = some g ∨ g = wr.heap.size) :
    Dir rb w0 w A ns (ks ++ [t]) R vn (.slice (some ⟨g, 0, none⟩) (ks.length + 1) cap) (w'.setCell ⟨A + 1, 4, none⟩ (.slice (some ⟨g, 0, none⟩) (ks.length + 1) cap)) := by
  have hlow := h.low
  have hbase := h.base
  have e1 : ∀ k, k < wr.heap.size → k ≠ A + 1 → vk.ownBlock ≠ some k → (w'.setCell ⟨A + 1, 4, none⟩ (.slice (some ⟨g, 0, none⟩) (ks.length + 1) cap)).heap[k]? = wr.heap[k]? := fun k h1 h2 h3 =>
    (heap_setCell_other w' ⟨A + 1, 4, none⟩ k _ h2).trans (hg.block k h1 (fun e => h3 e.symm))
  have hsz : wr.heap.size ≤ (w'.setCell ⟨A + 1, 4, none⟩ (.slice (some ⟨g, 0, none⟩) (ks.length + 1) cap)).heap.size := by simp only [World.setCell, Array.size_modify]; exact hg.size
  have hnb : ∀ k, vk.ownBlock = some k → A + 2 ≤ k := fun k hq => (hk.lt k hq).1
  have hB1 : Has w' (A + 1) (dirC vn vk) 26 := (hg.block _ h.box.lt (fun e => by have := hnb _ e.symm; omega)).trans h.box
  have hrd : Rd rb w0 R (w'.setCell ⟨A + 1, 4, none⟩ (.slice (some ⟨g, 0, none⟩) (ks.length + 1) cap)) := by
    obtain ⟨a, len, c, hx, hB, hbel, h0, hR⟩ := h.rd
    refine ⟨a, len, c, (e1 rb hx.lt (by omega) (fun e => by have := hnb _ e; omega)).trans hx, hB, ?_, h0, hR⟩
    exact (hbel.grown hg (Nat.le_of_lt hx.lt) (fun k hk => by have := hnb k hk; omega)).setCell (p := ⟨A + 1, 4, none⟩) (by show rb ≤ A + 1; omega) _
  have hstep : ∀ {n : Nat} {ds : List Value} {u : T}, KStab A (KP A vn vk) wr n ds u → KStab A (KP A vn (.slice (some ⟨g, 0, none⟩) (ks.length + 1) cap)) (w'.setCell ⟨A + 1, 4, none⟩ (.slice (some ⟨g, 0, none⟩) (ks.length + 1) cap)) n ds u := fun hn' =>
    hn'.step hsz (fun k h1 h2 h3 => e1 k h2 (fun e => h3 (.inr (.inl e))) (fun e => h3 (.inr (.inr (.inr e))))) (fun k hk hp => by
      rcases hp with hp | hp | hp | hp
      · exact .inl hp
      · exact .inr (.inl hp)
      · exact .inr (.inr (.inl hp))
      · simp only [Value.ownBlock, Option.some.injEq] at hp
        rcases hn with hn | hn
        · exact .inr (.inr (.inr (by rw [hn, hp])))
        · omega)
  refine ⟨hrd, ?_, hlow, (e1 A h.res.lt (by omega) (fun e => by have := hnb _ e; omega)).trans h.res, hB1.set 4 _, ?_, ⟨LK ++ cs, ?_, fun i hi => ?_⟩, hbase⟩
  · refine ⟨hg.os.trans h.but.os, hg.tape.trans h.but.tape, hg.output.trans h.but.output, Nat.le_trans h.but.size hsz, fun k hk' hne => (e1 k (Nat.lt_of_lt_of_le hk' h.but.size) (by omega) (fun e => by have := hnb _ e; omega)).trans (h.but.block k hk' hne)⟩
  · exact owns_keep h.names (fun q hq => e1 q (h.names.lt q hq).2 (by have := (h.names.lt q hq).1; omega) (fun e => by
      rcases hk.2 with ⟨h0, _⟩ | ⟨g2, cap2, cur2, h1, _, h3, _⟩
      · rw [h0] at e; cases e
      · rw [h1] at e
        simp only [Value.ownBlock, Option.some.injEq] at e
        subst e
        exact row_block_type h.names h3 (by decide) hq))
  · rw [List.length_append]
    exact owns_keep ho (fun q hq => heap_setCell_other w' ⟨A + 1, 4, none⟩ q _ (by
      have := (ho.lt q hq).1
      show q ≠ A + 1; omega))
  · have hl : LK.length = ks.length * 5 := hk.1
    rw [List.length_append, List.length_singleton] at hi
    rcases Nat.lt_or_ge i ks.length with h' | h'
    · obtain ⟨n, hn'⟩ := hst i h'
      refine ⟨n, ?_⟩
      rw [five_append_old hl h', List.getD_eq_getElem?_getD, List.getElem?_append_left h', ← List.getD_eq_getElem?_getD]
      exact hstep hn'
    · obtain rfl : i = ks.length := by omega
      refine ⟨m, ?_⟩
      rw [five_append_new hl hc, List.getD_eq_getElem?_getD, List.getElem?_append_right (Nat.le_refl _), Nat.sub_self]
      exact hstep ht

end

end Go.Proofs.Ythjihibocobndaa

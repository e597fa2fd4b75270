/-
  A tree in rows of its own, each row serving one tree alone: what the edits turn. No program text but the types' numbers.
-/
import Derived.Test.YtbempgdndmchlaaDoorEFlat
namespace Go.Proofs.YtbempgdndmchlaaDoor
open Go.RowKit
set_option linter.unusedVariables false

/-- The row that a value lies in. -/
def blk (v : Value) : List Nat := match v.ownBlock with
  | some g => [g]
  | none => []
theorem mem_blk {v : Value} {g : Nat} : g ∈ blk v ↔ v.ownBlock = some g := by
  unfold blk
  cases v.ownBlock with
  | none => simp
  | some q => simp [eq_comm]
theorem blk_nodup (v : Value) : (blk v).Nodup := by
  unfold blk
  cases v.ownBlock with
  | none => simp
  | some q => simp

/-- Five values that read as a tree, in rows of its own; S: these rows (of names, of kids), each once. -/
inductive MT (w : World) (B : Nat) : List Value → T → List Nat → Prop where
  | mk {k : UInt8} {x : Bool} {d : List UInt8} {ns : List ByteArray} {ks : List T} {vd vn vk : Value} {L : List Value} {Ss : Nat → List Nat}
      (hd : w.ownsRow B 5 1 vd d.length (d.map bv)) (hn : w.ownsRow B 9 1 vn ns.length (ns.map Value.string)) (hk : w.ownsRow B 26 5 vk ks.length L)
      (hs : ∀ i, i < ks.length → MT w B (five L i) (ks.getD i default) (Ss i))
      (hnd : (blk vn ++ blk vk ++ (List.range ks.length).flatMap Ss).Nodup) :
      MT w B [.int .u8 (k.toNat : Int), .bool x, vd, vn, vk] (.mk k x d ns ks) (blk vn ++ blk vk ++ (List.range ks.length).flatMap Ss)

theorem MT.nodup {w : World} {B : Nat} {cs : List Value} {t : T} {S : List Nat} (h : MT w B cs t S) : S.Nodup := by
  cases h with
  | mk _ _ _ _ h => exact h

/-! Who belongs to whom. -/
inductive Anc (O : Nat → Option (Nat × Nat)) (s : Nat × Nat) : Nat → Prop where
  | base {g : Nat} (h : O g = some s) : Anc O s g
  | step {g g' j : Nat} (h : O g = some (g', j)) (ha : Anc O s g') : Anc O s g
theorem anc_lt {O : Nat → Option (Nat × Nat)} (hO : ∀ g s, O g = some s → s.1 < g) {s : Nat × Nat} {g : Nat} (h : Anc O s g) : s.1 < g := by
  induction h with
  | base h => exact hO _ _ h
  | step h _ ih => exact Nat.lt_trans ih (hO _ _ h)
theorem anc_up {O : Nat → Option (Nat × Nat)} {s : Nat × Nat} {kb i g : Nat} (h : Anc O (kb, i) g) (hk : O kb = some s) : Anc O s g := by
  induction h with
  | base h => exact .step h (.base hk)
  | step h _ ih => exact .step h ih
theorem anc_not {O : Nat → Option (Nat × Nat)} (hO : ∀ g s, O g = some s → s.1 < g) {s : Nat × Nat} {kb i g : Nat} (h : Anc O (kb, i) g) (hk : O kb = some s) : O g ≠ some s := by
  intro hg
  have h1 := hO _ _ hk
  cases h with
  | base h => rw [hg] at h; cases h; omega
  | step h ha =>
    rw [hg] at h
    cases h
    have := anc_lt hO ha
    simp only at this h1
    omega
theorem anc_apart {O : Nat → Option (Nat × Nat)} (hO : ∀ g s, O g = some s → s.1 < g) {b i j : Nat} : ∀ (n g : Nat), g ≤ n → Anc O (b, i) g → Anc O (b, j) g → i = j
  | 0, g, hn, h1, _ => by have := anc_lt hO h1; omega
  | n + 1, g, hn, h1, h2 => by
    cases h1 with
    | base a =>
      cases h2 with
      | base c => rw [a] at c; cases c; rfl
      | step c d =>
        rw [a] at c; cases c
        have := anc_lt hO d
        simp at this
    | step a e =>
      cases h2 with
      | base c =>
        rw [a] at c; cases c
        have := anc_lt hO e
        simp at this
      | step c d =>
        rw [a] at c; cases c
        have := hO _ _ a
        exact anc_apart hO n _ (by simp only at this; omega) e d

theorem flatMap_nodup {n : Nat} {f : Nat → List Nat} (h1 : ∀ i, i < n → (f i).Nodup) (h2 : ∀ i j, i < n → j < n → i ≠ j → ∀ g, g ∈ f i → g ∉ f j) : ((List.range n).flatMap f).Nodup := by
  induction n with
  | zero => simp
  | succ n ih =>
    rw [List.range_succ, List.flatMap_append, List.nodup_append]
    refine ⟨ih (fun i hi => h1 i (by omega)) (fun i j hi hj => h2 i j (by omega) (by omega)), by simpa using h1 n (by omega), fun a ha b hb => ?_⟩
    obtain ⟨i, hi, hai⟩ := List.mem_flatMap.1 ha
    have hi := List.mem_range.1 hi
    have hbn : b ∈ f n := by simpa using hb
    exact fun e => h2 i n (by omega) (by omega) (by omega) a hai (e ▸ hbn)

/-- A copy is a tree in rows of its own. -/
theorem mt_closed {w : World} {B : Nat} {G : Nat → Option (List T)} {O : Nat → Option (Nat × Nat)} (hall : ∀ b ks, G b = some ks → B ≤ b ∧ EDone w B G O b ks) (hO : ∀ g s, O g = some s → B ≤ g ∧ s.1 < g) :
    ∀ (n : Nat) (s : Nat × Nat) (cs : List Value) (t : T), sizeN t ≤ n → EFlat w B G O s cs t → ∃ S, MT w B cs t S ∧ ∀ g ∈ S, B ≤ g ∧ Anc O s g
  | 0, s, cs, t, hn, _ => by have := sizeN_pos t; omega
  | n + 1, s, cs, .mk k x d ns ks, hn, hf => by
    have hO1 : ∀ g s, O g = some s → s.1 < g := fun g s h => (hO g s h).2
    obtain ⟨vd, vn, ak, nk, ck, rfl, hd, hnm, rfl, h2, h3, h4, h5⟩ := hf
    rw [sizeN_mk] at hn
    rcases h4 with ⟨rfl, rfl, rfl⟩ | ⟨b, rfl, hks, hg, hob, hcap⟩
    · refine ⟨_, MT.mk (L := []) (Ss := fun _ => []) hd hnm (World.ownsRow_nil _ _ _ _) (fun i hi => by simp at hi) ?_, fun g hg => ?_⟩
      · simp [blk, Value.ownBlock]
        exact blk_nodup vn
      · simp [blk, Value.ownBlock] at hg
        have hg2 : g ∈ blk vn := hg
        have := h5 g (mem_blk.1 hg2)
        exact ⟨(hO _ _ this).1, .base this⟩
    · obtain ⟨hBb, L, hL, hF⟩ := hall b ks hg
      have hrec : ∀ i, i < ks.length → ∃ S, MT w B (five L i) (ks.getD i default) S ∧ ∀ g ∈ S, B ≤ g ∧ Anc O (b, i) g := fun i hi =>
        mt_closed hall hO n (b, i) (five L i) (ks.getD i default) (by have := sizeNL_get hi; omega) (hF i hi)
      have hch : ∃ Ss : Nat → List Nat, ∀ i, i < ks.length → MT w B (five L i) (ks.getD i default) (Ss i) ∧ ∀ g ∈ Ss i, B ≤ g ∧ Anc O (b, i) g := by
        refine ⟨fun i => if h : i < ks.length then Classical.choose (hrec i h) else [], fun i hi => ?_⟩
        simp only [dif_pos hi]
        exact Classical.choose_spec (hrec i hi)
      obtain ⟨Ss, hSs⟩ := hch
      have hLl : L.length = ck * 5 := by rw [hcap]; exact (bsize_has hL).symm
      have hLh : w.heap[b]? = some (.cells L.toArray 26 (0, 0)) := hL
      have hrow : w.ownsRow B 26 5 (.slice (some ⟨b, 0, none⟩) ks.length ck) ks.length (L.take (ks.length * 5)) :=
        ⟨by rw [List.length_take, hLl]; omega, .inr ⟨b, ck, L.toArray, rfl, hBb, hLh, h2, h3, by simpa using hLl, by simp⟩⟩
      have hne : ∀ g, g ∈ blk vn → g ≠ b := fun g hg' e => by
        subst e
        rcases hnm.2 with ⟨rfl, _⟩ | ⟨q, cap, cur, rfl, _, hqq, _⟩
        · simp [blk, Value.ownBlock] at hg'
        · simp [blk, Value.ownBlock] at hg'
          subst hg'
          rw [hqq] at hLh
          cases hLh
      have hmem : ∀ g, g ∈ (List.range ks.length).flatMap Ss → ∃ i, i < ks.length ∧ g ∈ Ss i := fun g hg' => by
        obtain ⟨i, hi, h⟩ := List.mem_flatMap.1 hg'
        exact ⟨i, List.mem_range.1 hi, h⟩
      have hbk : blk (.slice (some ⟨b, 0, none⟩) ks.length ck) = [b] := rfl
      refine ⟨_, MT.mk (Ss := Ss) hd hnm hrow (fun i hi => by rw [five_take hi]; exact (hSs i hi).1) ?_, fun g hg' => ?_⟩
      · rw [hbk, List.nodup_append, List.nodup_append]
        refine ⟨⟨blk_nodup vn, by simp, fun a ha c hc => ?_⟩, flatMap_nodup (fun i hi => ?_) (fun i j hi hj hij g h6 h7 => ?_), fun a ha c hc e => ?_⟩
        · simp at hc; subst hc; exact hne a ha
        · exact (hSs i hi).1.nodup
        · exact hij (anc_apart hO1 g g (Nat.le_refl _) ((hSs i hi).2 g h6).2 ((hSs j hj).2 g h7).2)
        · subst e
          obtain ⟨i, hi, h8⟩ := hmem a hc
          have han := ((hSs i hi).2 a h8).2
          rcases List.mem_append.1 ha with h9 | h9
          · exact anc_not hO1 han hob (h5 a (mem_blk.1 h9))
          · simp at h9
            subst h9
            exact anc_not hO1 han hob hob
      · rcases List.mem_append.1 hg' with h6 | h6
        · rcases List.mem_append.1 h6 with h7 | h7
          · have := h5 g (mem_blk.1 h7)
            exact ⟨(hO _ _ this).1, .base this⟩
          · rw [hbk] at h7
            simp at h7
            subst h7
            exact ⟨hBb, .base hob⟩
        · obtain ⟨i, hi, h8⟩ := hmem g h6
          exact ⟨((hSs i hi).2 g h8).1, anc_up ((hSs i hi).2 g h8).2 hob⟩

end Go.Proofs.YtbempgdndmchlaaDoor

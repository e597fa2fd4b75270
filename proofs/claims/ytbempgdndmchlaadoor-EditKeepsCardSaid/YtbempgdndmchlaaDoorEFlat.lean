/-
  A copy on its way, with owners: which slot (row, place) a row of names or of kids belongs to (so that no row serves two trees). No program text but the types' numbers.
-/
import Derived.Test.YtbempgdndmchlaaDoorTFlat
namespace Go.Proofs.YtbempgdndmchlaaDoor
open Go.RowKit
set_option linter.unusedVariables false

/-- How many cells a block has. -/
def bsize (w : World) (b : Nat) : Nat := match w.heap[b]? with
  | some (.cells X _ _) => X.size
  | _ => 0
theorem bsize_lt {w : World} {b : Nat} (h : bsize w b ≠ 0) : b < w.heap.size := by
  unfold bsize at h
  cases e : w.heap[b]? with
  | none => rw [e] at h; exact absurd rfl h
  | some o => exact (Array.getElem?_eq_some_iff.1 e).1
theorem bsize_but {w w' : World} {q b : Nat} (hb : But w.heap.size q w w') (hne : b ≠ q) (h : bsize w b ≠ 0) : bsize w' b = bsize w b := by
  unfold bsize
  rw [hb.block b (bsize_lt h) hne]
theorem bsize_below {w w' : World} {b : Nat} (hb : Below w.heap.size w w') (h : bsize w b ≠ 0) : bsize w' b = bsize w b := by
  unfold bsize
  rw [hb.block b (bsize_lt h)]
theorem bsize_set {w : World} {q o b : Nat} {v : Value} {L : List Value} {t : TypeId} (h : Has w q L t) : bsize (w.setCell ⟨q, o, none⟩ v) b = bsize w b := by
  by_cases e : b = q
  · subst e
    have h1 : (w.setCell ⟨b, o, none⟩ v).heap[b]? = some (.cells (L.set o v).toArray t (0, 0)) := h.set o v
    have h2 : w.heap[b]? = some (.cells L.toArray t (0, 0)) := h
    unfold bsize
    rw [h1, h2]
    simp
  · unfold bsize
    rw [heap_setCell_other w ⟨q, o, none⟩ b v e]
theorem bsize_has {w : World} {q : Nat} {L : List Value} {t : TypeId} (h : Has w q L t) : bsize w q = L.length := by
  have h2 : w.heap[q]? = some (.cells L.toArray t (0, 0)) := h
  unfold bsize
  rw [h2]; simp

/-- Five cells that read as a tree, all of whose lists lie in rows of their own from block B on; where its kids lie G says. -/
def EFlat (w : World) (B : Nat) (G : Nat → Option (List T)) (O : Nat → Option (Nat × Nat)) (s : Nat × Nat) (cs : List Value) : T → Prop
  | .mk k x d ns ks => ∃ vd vn ak nk ck, cs = [.int .u8 (k.toNat : Int), .bool x, vd, vn, .slice ak nk ck] ∧
      w.ownsRow B 5 1 vd d.length (d.map bv) ∧ w.ownsRow B 9 1 vn ns.length (ns.map Value.string) ∧
      nk = ks.length ∧ nk ≤ ck ∧ ck ≤ maxLen ∧ ((ks = [] ∧ ak = none ∧ ck = 0) ∨ ∃ b, ak = some ⟨b, 0, none⟩ ∧ ks ≠ [] ∧ G b = some ks ∧ O b = some s ∧ ck * 5 = bsize w b) ∧ (∀ g, vn.ownBlock = some g → O g = some s)

theorem EFlat.but {w w' : World} {B q : Nat} {G G' : Nat → Option (List T)} {O O' : Nat → Option (Nat × Nat)} {cs : List Value} {t : T} {s : Nat × Nat} (h : EFlat w B G O s cs t) (hb : But w.heap.size q w w') (hq : Far w q) (hG : ∀ b ks, G b = some ks → G' b = some ks) (hO : ∀ b s, O b = some s → O' b = some s) (hs : ∀ ks, G q = some ks → bsize w' q = bsize w q) : EFlat w' B G' O' s cs t := by
  obtain ⟨k, x, d, ns, ks⟩ := t
  obtain ⟨vd, vn, ak, nk, ck, hcs, hd, hn, h1, h2, h3, h4, h5⟩ := h
  exact ⟨vd, vn, ak, nk, ck, hcs, owns_but hd hb hq.1, owns_but hn hb hq.2, h1, h2, h3, h4.imp id fun ⟨b, e1, e2, e3, e4, e5⟩ => ⟨b, e1, e2, hG _ _ e3, hO _ _ e4, by
    by_cases e : b = q
    · subst e; rw [hs _ e3]; exact e5
    · have hz : bsize w b ≠ 0 := by have := List.length_pos_iff.2 e2; omega
      rw [bsize_but hb e hz]; exact e5⟩, fun g hg => hO _ _ (h5 g hg)⟩
theorem EFlat.flat {w : World} {B : Nat} {G : Nat → Option (List T)} {O : Nat → Option (Nat × Nat)} {s : Nat × Nat} {cs : List Value} {t : T} (h : EFlat w B G O s cs t) : Flat w B G cs t := by
  obtain ⟨k, x, d, ns, ks⟩ := t
  obtain ⟨vd, vn, ak, nk, ck, hcs, hd, hn, h1, h2, h3, h4, h5⟩ := h
  exact ⟨vd, vn, ak, nk, ck, hcs, hd, hn, h1, h2, h3, h4.imp (fun ⟨a, _, c⟩ => ⟨a, fun _ => c⟩) fun ⟨b, e1, e2, e3, _, _⟩ => ⟨b, e1, e2, e3⟩⟩

/-- Each of these trees is in memory of its own, in block b. -/
def EDone (w : World) (B : Nat) (G : Nat → Option (List T)) (O : Nat → Option (Nat × Nat)) (b : Nat) (ks : List T) : Prop := ∃ L, Has w b L 26 ∧ ∀ i, i < ks.length → EFlat w B G O (b, i) (five L i) (ks.getD i default)

theorem EDone.but {w w' : World} {B b q : Nat} {G G' : Nat → Option (List T)} {O O' : Nat → Option (Nat × Nat)} {ks : List T} (h : EDone w B G O b ks) (hb : But w.heap.size q w w') (hq : Far w q) (hne : b ≠ q) (hG : ∀ b ks, G b = some ks → G' b = some ks) (hO : ∀ b s, O b = some s → O' b = some s) (hs : ∀ ks, G q = some ks → bsize w' q = bsize w q) : EDone w' B G' O' b ks := by
  obtain ⟨L, hL, hF⟩ := h
  exact ⟨L, hL.but hb hL.lt hne, fun i hi => (hF i hi).but hb hq hG hO hs⟩

/-- A copy on its way: S are the rows that must still get lists of their own (block, trees, capacity), cur the one that is gone through. -/
structure ECpy (w0 w : World) (G : Nat → Option (List T)) (O : Nat → Option (Nat × Nat)) (S : List (Nat × List T × Nat)) (cur : Option Nat) : Prop where
  below : Below w0.heap.size w0 w
  fresh : ∀ b ks, G b = some ks → w0.heap.size ≤ b ∧ b < w.heap.size
  done : ∀ b ks, G b = some ks → (∀ p ∈ S, p.1 ≠ b) → cur ≠ some b → EDone w w0.heap.size G O b ks
  pend : ∀ p ∈ S, G p.1 = some p.2.1 ∧ Pend w0 w p.1 p.2.1 ∧ p.2.1 ≠ [] ∧ cur ≠ some p.1 ∧ p.2.1.length ≤ p.2.2 ∧ p.2.2 ≤ maxLen
  nodup : (S.map (·.1)).Nodup
  ofresh : ∀ g s, O g = some s → w0.heap.size ≤ g ∧ g < w.heap.size ∧ s.1 < g

/-- A block that is none of these is written. -/
theorem ECpy.but {w0 w w' : World} {G : Nat → Option (List T)} {O : Nat → Option (Nat × Nat)} {S : List (Nat × List T × Nat)} {cur : Option Nat} {q : Nat} (h : ECpy w0 w G O S cur) (hb : But w.heap.size q w w') (hq : Far w q) (hB : w0.heap.size ≤ q) (hne : ∀ ks, G q = some ks → cur = some q) (hs : ∀ ks, G q = some ks → bsize w' q = bsize w q) : ECpy w0 w' G O S cur := by
  have hsz := h.below.size
  refine ⟨h.below.trans ((hb.mono hsz).below hB), fun b ks hg => ⟨(h.fresh b ks hg).1, Nat.lt_of_lt_of_le (h.fresh b ks hg).2 hb.size⟩, fun b ks hg hS hc => ?_, fun p hp => ?_, h.nodup, fun g s hg => ⟨(h.ofresh g s hg).1, Nat.lt_of_lt_of_le (h.ofresh g s hg).2.1 hb.size, (h.ofresh g s hg).2.2⟩⟩
  · exact (h.done b ks hg hS hc).but hb hq (fun e => hc (by rw [e]; exact hne ks (e ▸ hg))) (fun _ _ h => h) (fun _ _ h => h) hs
  · obtain ⟨h1, h2, h3, h4, h5, h6⟩ := h.pend p hp
    exact ⟨h1, h2.but hb (fun e => h4 (by rw [e]; exact hne _ (e ▸ h1))), h3, h4, h5, h6⟩

theorem ECpy.later {w0 w w' : World} {G : Nat → Option (List T)} {O : Nat → Option (Nat × Nat)} {S : List (Nat × List T × Nat)} {cur : Option Nat} (h : ECpy w0 w G O S cur) (hb : Below w.heap.size w w') : ECpy w0 w' G O S cur :=
  h.but (q := w.heap.size) (But.of_below hb) (far_new w) h.below.size (fun ks hg => by have := (h.fresh _ ks hg).2; omega) (fun ks hg => by have := (h.fresh _ ks hg).2; omega)

/-- A new row is to be gone through, too. -/
theorem ECpy.push {w0 w : World} {G : Nat → Option (List T)} {O : Nat → Option (Nat × Nat)} {S : List (Nat × List T × Nat)} {q b c : Nat} {ks : List T} (h : ECpy w0 w G O S (some q)) (hP : Pend w0 w b ks) (hnew : G b = none) (h0 : w0.heap.size ≤ b) (hks : ks ≠ []) (hbq : b ≠ q) (hc : ks.length ≤ c) (hm : c ≤ maxLen) {s : Nat × Nat} (hs : s.1 < b) (honew : O b = none) :
    ECpy w0 w (fun x => if x = b then some ks else G x) (fun x => if x = b then some s else O x) (S ++ [(b, ks, c)]) (some q) := by
  have hlt : b < w.heap.size := by obtain ⟨L, hL, _⟩ := hP; exact hL.lt
  have hS : ∀ p ∈ S, p.1 ≠ b := fun p hp e => by have := (h.pend p hp).1; rw [e, hnew] at this; cases this
  have hG : ∀ b' ks', G b' = some ks' → (fun x => if x = b then some ks else G x) b' = some ks' := fun b' ks' hg => by
    by_cases e : b' = b
    · rw [e, hnew] at hg; cases hg
    · simpa [e] using hg
  have hO : ∀ b' s', O b' = some s' → (fun x => if x = b then some s else O x) b' = some s' := fun b' s' hg => by
    by_cases e : b' = b
    · rw [e, honew] at hg; cases hg
    · simpa [e] using hg
  refine ⟨h.below, fun b' ks' hg => ?_, fun b' ks' hg hS' hc' => ?_, fun p hp => ?_, ?_, fun g s' hg => ?_⟩
  · by_cases e : b' = b
    · subst e; exact ⟨h0, hlt⟩
    · exact h.fresh b' ks' (by simpa [e] using hg)
  · have e : b' ≠ b := fun e => hS' (b, ks, c) (by simp) e.symm
    obtain ⟨L, hL, hF⟩ := h.done b' ks' (by simpa [e] using hg) (fun p hp => hS' p (by simp [hp])) hc'
    exact ⟨L, hL, fun i hi => (hF i hi).but (But.refl _ w.heap.size _) (far_new w) hG hO (fun _ _ => rfl)⟩
  · rcases List.mem_append.1 hp with hp | hp
    · obtain ⟨h1, h2, h3, h4, h5, h6⟩ := h.pend p hp
      exact ⟨hG _ _ h1, h2, h3, h4, h5, h6⟩
    · simp only [List.mem_cons, List.not_mem_nil, or_false] at hp
      subst hp
      exact ⟨by simp, hP, hks, fun e => hbq (Option.some.inj e).symm, hc, hm⟩
  · rw [List.map_append, List.nodup_append]
    refine ⟨h.nodup, by simp, fun a ha b' hb' => ?_⟩
    obtain ⟨p, hp, rfl⟩ := List.mem_map.1 ha
    simp at hb'
    subst hb'
    exact hS p hp
  · by_cases e : g = b
    · subst e
      simp at hg
      subst hg
      exact ⟨h0, hlt, hs⟩
    · exact h.ofresh g s' (by simpa [e] using hg)

/-- A row has an owner. -/
def extO (O : Nat → Option (Nat × Nat)) (v : Value) (s : Nat × Nat) : Nat → Option (Nat × Nat) := fun x => if v.ownBlock = some x then some s else O x
theorem extO_same {O : Nat → Option (Nat × Nat)} {v : Value} {s : Nat × Nat} {g : Nat} (h : v.ownBlock = some g) : extO O v s g = some s := by unfold extO; rw [if_pos h]
theorem extO_old {O : Nat → Option (Nat × Nat)} {v : Value} {s : Nat × Nat} (hn : ∀ g, v.ownBlock = some g → O g = none) : ∀ b' s', O b' = some s' → extO O v s b' = some s' := fun b' s' hg => by
  unfold extO
  by_cases e : v.ownBlock = some b'
  · rw [hn b' e] at hg; cases hg
  · rw [if_neg e]; exact hg
theorem ECpy.named {w0 w : World} {G : Nat → Option (List T)} {O : Nat → Option (Nat × Nat)} {S : List (Nat × List T × Nat)} {cur : Option Nat} (h : ECpy w0 w G O S cur) (v : Value) {s : Nat × Nat} (hv : ∀ g, v.ownBlock = some g → s.1 < g ∧ O g = none ∧ w0.heap.size ≤ g ∧ g < w.heap.size) :
    ECpy w0 w G (extO O v s) S cur := by
  have hO := extO_old (O := O) (v := v) (s := s) (fun g hg => (hv g hg).2.1)
  refine ⟨h.below, h.fresh, fun b' ks' hg hS' hc' => ?_, h.pend, h.nodup, fun g s' hg => ?_⟩
  · obtain ⟨L, hL, hF⟩ := h.done b' ks' hg hS' hc'
    exact ⟨L, hL, fun i hi => (hF i hi).but (But.refl _ w.heap.size _) (far_new w) (fun _ _ h => h) hO (fun _ _ => rfl)⟩
  · unfold extO at hg
    by_cases e : v.ownBlock = some g
    · rw [if_pos e] at hg
      cases hg
      exact ⟨(hv g e).2.2.1, (hv g e).2.2.2, (hv g e).1⟩
    · rw [if_neg e] at hg
      exact h.ofresh g s' hg

/-- The last row is gone through now. -/
theorem ECpy.pop {w0 w : World} {G : Nat → Option (List T)} {O : Nat → Option (Nat × Nat)} {S : List (Nat × List T × Nat)} {b c : Nat} {ks : List T} (h : ECpy w0 w G O (S ++ [(b, ks, c)]) none) : ECpy w0 w G O S (some b) ∧ Pend w0 w b ks ∧ G b = some ks ∧ ks ≠ [] ∧ ks.length ≤ c ∧ c ≤ maxLen := by
  have hp := h.pend (b, ks, c) (by simp)
  have hnd := h.nodup
  rw [List.map_append, List.nodup_append] at hnd
  have hS : ∀ p ∈ S, p.1 ≠ b := fun p hp' => hnd.2.2 p.1 (List.mem_map_of_mem hp') b (by simp)
  refine ⟨⟨h.below, h.fresh, fun b' ks' hg hS' hc' => h.done b' ks' hg (fun p hp' => ?_) (by simp), fun p hp' => ?_, hnd.1, h.ofresh⟩, hp.2.1, hp.1, hp.2.2.1, hp.2.2.2.2⟩
  · rcases List.mem_append.1 hp' with hp' | hp'
    · exact hS' p hp'
    · simp only [List.mem_cons, List.not_mem_nil, or_false] at hp'
      subst hp'
      exact fun e => hc' (by rw [← e])
  · obtain ⟨h1, h2, h3, h4, h5⟩ := h.pend p (by simp [hp'])
    exact ⟨h1, h2, h3, fun e => hS p hp' (Option.some.inj e).symm, h5⟩

/-- The row that was gone through has lists of its own. -/
theorem ECpy.finish {w0 w : World} {G : Nat → Option (List T)} {O : Nat → Option (Nat × Nat)} {S : List (Nat × List T × Nat)} {b : Nat} {ks : List T} (h : ECpy w0 w G O S (some b)) (hg : G b = some ks) (hd : EDone w w0.heap.size G O b ks) : ECpy w0 w G O S none := by
  refine ⟨h.below, h.fresh, fun b' ks' hg' hS' hc' => ?_, fun p hp => ?_, h.nodup, h.ofresh⟩
  · by_cases e : b' = b
    · subst e; rw [hg] at hg'; cases hg'; exact hd
    · exact h.done b' ks' hg' hS' (fun e' => e (Option.some.inj e').symm)
  · obtain ⟨h1, h2, h3, h4, h5⟩ := h.pend p hp
    exact ⟨h1, h2, h3, by simp, h5⟩

/-- A tree that is all in memory of its own, from block B on. -/
def EClosed (w : World) (B : Nat) (G : Nat → Option (List T)) (O : Nat → Option (Nat × Nat)) (s : Nat × Nat) (cs : List Value) (t : T) : Prop := (∀ b ks, G b = some ks → B ≤ b ∧ EDone w B G O b ks) ∧ EFlat w B G O s cs t ∧ (∀ g s, O g = some s → B ≤ g ∧ s.1 < g)
theorem EDone.done {w : World} {B b : Nat} {G : Nat → Option (List T)} {O : Nat → Option (Nat × Nat)} {ks : List T} (h : EDone w B G O b ks) : Done w B G b ks := by
  obtain ⟨L, hL, hF⟩ := h
  exact ⟨L, hL, fun i hi => (hF i hi).flat⟩
theorem EClosed.closed {w : World} {B : Nat} {G : Nat → Option (List T)} {O : Nat → Option (Nat × Nat)} {s : Nat × Nat} {cs : List Value} {t : T} (h : EClosed w B G O s cs t) : Closed w B G cs t := ⟨fun b ks hg => ⟨(h.1 b ks hg).1, (h.1 b ks hg).2.done⟩, h.2.1.flat⟩
theorem ECpy.eclosed {w0 w : World} {G : Nat → Option (List T)} {O : Nat → Option (Nat × Nat)} {b : Nat} {t : T} (h : ECpy w0 w G O [] none) (hg : G b = some [t]) : ∃ L, Has w b L 26 ∧ EClosed w w0.heap.size G O (b, 0) (five L 0) t := by
  have hd := fun b ks hg => h.done b ks hg (by simp) (by simp)
  obtain ⟨L, hL, hF⟩ := hd b [t] hg
  exact ⟨L, hL, fun b ks hg => ⟨(h.fresh b ks hg).1, hd b ks hg⟩, hF 0 (by simp), fun g s hg => ⟨(h.ofresh g s hg).1, (h.ofresh g s hg).2.2⟩⟩


end Go.Proofs.YtbempgdndmchlaaDoor

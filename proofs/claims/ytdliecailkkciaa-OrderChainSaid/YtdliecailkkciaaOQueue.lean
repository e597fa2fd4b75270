/-
  The queue: a heap of names, who waits for a name, how many each name waits for. What each step does to it.
-/
import Derived.Test.YtdliecailkkciaaOWait
import Derived.Test.YtdliecailkkciaaOHeap
namespace Go.Proofs.Ytdliecailkkciaa
open Go.RowKit
set_option linter.unusedVariables false

theorem MapV.stay {w w' : World} {b n : Nat} {M : ByteArray → Option Value} (h : MapV w b n M) (e : w'.heap[b]? = w.heap[b]?) : MapV w' b n M := by
  obtain ⟨D, ⟨es, clock, h1, h2⟩, h3⟩ := h
  exact ⟨D, ⟨es, clock, e.trans h1, h2⟩, h3⟩
theorem NM.stay {w w' : World} {mb B n : Nat} {M : ByteArray → Option Value} {N : ByteArray → Option (List ByteArray)} (h : NM w mb B n M N) (e : w'.heap[mb]? = w.heap[mb]?) (hr : ∀ x u g, M x = some u → u.ownBlock = some g → w'.heap[g]? = w.heap[g]?) : NM w' mb B n M N :=
  ⟨h.map.stay e, h.same, fun s v l h1 h2 => owns_stay (h.row s v l h1 h2) (fun g hg => hr s v g h1 hg), h.apart⟩
theorem NM.rows {w : World} {mb B n : Nat} {M : ByteArray → Option Value} {N : ByteArray → Option (List ByteArray)} (h : NM w mb B n M N) {x : ByteArray} {u : Value} {g : Nat} (hu : M x = some u) (hg : u.ownBlock = some g) : B ≤ g ∧ g < w.heap.size := by
  obtain ⟨l, hl⟩ := Option.isSome_iff_exists.1 (by rw [← h.same x, hu]; rfl : (N x).isSome = true)
  exact (h.row x u l hu hl).lt g hg
theorem getV_own {M : ByteArray → Option Value} {t : ByteArray} {g : Nat} (h : (getV M t).ownBlock = some g) : ∃ u, M t = some u ∧ u.ownBlock = some g := by
  unfold getV at h
  cases hm : M t with
  | none => rw [hm] at h; cases h
  | some u => rw [hm] at h; exact ⟨u, rfl, h⟩
/-- Numbers of names. -/
def cV (C : ByteArray → Option Nat) : ByteArray → Option Value := fun s => (C s).map (fun n => Value.int .i64 (n : Int))
def getC (C : ByteArray → Option Nat) (s : ByteArray) : Nat := (C s).getD 0
def putC (C : ByteArray → Option Nat) (s : ByteArray) (n : Nat) : ByteArray → Option Nat := fun x => if x = s then some n else C x
theorem cV_put (C : ByteArray → Option Nat) (s : ByteArray) (n : Nat) : putM (cV C) s (.int .i64 (n : Int)) = cV (putC C s n) := by
  funext x
  unfold putM cV putC
  by_cases h : x = s
  · rw [if_pos h, if_pos h]; rfl
  · rw [if_neg h, if_neg h]
theorem zeroI (w : World) : (zeroValue 3).run Try.prog w = .ok (.int .i64 0) w := by kernel_rfl
theorem cV_get {w : World} {cb k : Nat} {C : ByteArray → Option Nat} (h : MapV w cb k (cV C)) {s : ByteArray} (hs : s.size ≤ maxLen) : (Instr.lookup 51 (.map (some cb)) (.string s) false).run Try.prog w = .ok (.int .i64 (getC C s : Int)) w := by
  have h1 := h.get Try.underlying51 (zeroI w) hs
  have h2 : (cV C s).getD (.int .i64 0) = .int .i64 (getC C s : Int) := by
    unfold cV getC
    cases C s <;> rfl
  rw [h2] at h1
  exact h1

/-- The queue in memory. -/
structure Qs (w : World) (q B wb cb k k' : Nat) (rv : Value) (l : List ByteArray) (MW : ByteArray → Option Value) (W : ByteArray → Option (List ByteArray)) (C : ByteArray → Option Nat) : Prop where
  hp : Hp w q B [.map (some wb), .map (some cb)] rv l
  wm : NM w wb B k MW W
  cm : MapV w cb k' (cV C)
  sep : ∀ x u g, MW x = some u → u.ownBlock = some g → rv.ownBlock ≠ some g
  ord : wb < cb ∧ cb < q

section
variable {w w' : World} {q B wb cb k k' : Nat} {rv : Value} {l : List ByteArray} {MW : ByteArray → Option Value} {W : ByteArray → Option (List ByteArray)} {C : ByteArray → Option Nat}
theorem Qs.later (h : Qs w q B wb cb k k' rv l MW W C) (hb : Below w.heap.size w w') : Qs w' q B wb cb k k' rv l MW W C :=
  ⟨h.hp.later hb, h.wm.later hb, h.cm.below hb h.cm.lt, h.sep, h.ord⟩
/-- A name more waits for t. -/
theorem Qs.wait {t : ByteArray} {vr : Value} {W' : ByteArray → Option (List ByteArray)} (h : Qs w q B wb cb k k' rv l MW W C) (hf : HF wb (getV MW t) w vr w') (hn : NM w' wb B (k + 1) (putM MW t vr) W') : Qs w' q B wb cb (k + 1) k' rv l (putM MW t vr) W' C := by
  have hqB := h.hp.lt
  have hord := h.ord
  have hrow : ∀ g, (getV MW t).ownBlock = some g → B ≤ g ∧ g < w.heap.size ∧ rv.ownBlock ≠ some g := fun g hg => by
    obtain ⟨u, hu, hug⟩ := getV_own hg
    have := h.wm.rows hu hug
    exact ⟨this.1, this.2, h.sep t u g hu hug⟩
  have hq : w'.heap[q]? = w.heap[q]? := hf.block q h.hp.box.lt (by omega) (fun e => by have := (hrow q e.symm).1; omega)
  refine ⟨⟨hq.trans h.hp.box, owns_stay h.hp.own (fun g hg => hf.block g (h.hp.own.lt g hg).2 (by have := (h.hp.own.lt g hg).1; omega) (fun e => (hrow g e.symm).2.2 hg)), h.hp.lt, Nat.le_trans h.hp.size hf.size⟩, hn, h.cm.stay (hf.block cb h.cm.lt (by omega) (fun e => by have := (hrow cb e.symm).1; omega)), fun x u g hx hg => ?_, h.ord⟩
  unfold putM at hx
  by_cases hxt : x = t
  · rw [if_pos hxt] at hx
    cases hx
    rcases hf.own g hg with h1 | h1
    · exact (hrow g h1).2.2
    · exact fun e => by have := (h.hp.own.lt g e).2; omega
  · rw [if_neg hxt] at hx
    exact h.sep x u g hx hg
/-- A number is changed. -/
theorem Qs.count {C' : ByteArray → Option Nat} (h : Qs w q B wb cb k k' rv l MW W C) (hg : w.grownBy w' (some cb)) (hc : MapV w' cb (k' + 1) (cV C')) : Qs w' q B wb cb k (k' + 1) rv l MW W C' := by
  have hqB := h.hp.lt
  have hord := h.ord
  have st : ∀ g, g < w.heap.size → g ≠ cb → w'.heap[g]? = w.heap[g]? := fun g h1 h2 => hg.block g h1 (fun e => h2 (Option.some.inj e))
  exact ⟨⟨(st q h.hp.box.lt (by omega)).trans h.hp.box, owns_stay h.hp.own (fun g hg => st g (h.hp.own.lt g hg).2 (by have := (h.hp.own.lt g hg).1; omega)), h.hp.lt, Nat.le_trans h.hp.size hg.size⟩,
    h.wm.stay (st wb h.wm.map.lt (by omega)) (fun x u g hu hug => st g (h.wm.rows hu hug).2 (by have := (h.wm.rows hu hug).1; omega)), hc, h.sep, h.ord⟩
/-- The heap is changed. -/
theorem Qs.heap {rv' : Value} {l' : List ByteArray} (h : Qs w q B wb cb k k' rv l MW W C) (hf : HF q rv w rv' w') (hp : Hp w' q B [.map (some wb), .map (some cb)] rv' l') : Qs w' q B wb cb k k' rv' l' MW W C := by
  have hqB := h.hp.lt
  have hord := h.ord
  have hown : ∀ g, rv.ownBlock = some g → B ≤ g := fun g hg => (h.hp.own.lt g hg).1
  refine ⟨hp, h.wm.stay (hf.block wb h.wm.map.lt (by omega) (fun e => by have := hown wb e.symm; omega)) (fun x u g hu hug => hf.block g (h.wm.rows hu hug).2 (by have := (h.wm.rows hu hug).1; omega) (fun e => h.sep x u g hu hug e.symm)),
    h.cm.stay (hf.block cb h.cm.lt (by omega) (fun e => by have := hown cb e.symm; omega)), fun x u g hu hug e => ?_, h.ord⟩
  rcases hf.own g e with h1 | h1
  · exact h.sep x u g hu hug h1
  · have := (h.wm.rows hu hug).2; omega
/-- A name is waited for no more. -/
theorem Qs.del {t : ByteArray} (h : Qs w q B wb cb k k' rv l MW W C) (hg : w.grownBy w' (some wb)) (hm : MapV w' wb k (delM MW t)) : Qs w' q B wb cb k k' rv l (delM MW t) (fun x => if x = t then none else W x) C := by
  have hqB := h.hp.lt
  have hord := h.ord
  have st : ∀ g, g < w.heap.size → g ≠ wb → w'.heap[g]? = w.heap[g]? := fun g h1 h2 => hg.block g h1 (fun e => h2 (Option.some.inj e))
  have hd : ∀ x u, delM MW t x = some u → x ≠ t ∧ MW x = some u := fun x u hx => by
    unfold delM at hx
    by_cases e : x = t
    · rw [if_pos e] at hx; cases hx
    · rw [if_neg e] at hx; exact ⟨e, hx⟩
  refine ⟨⟨(st q h.hp.box.lt (by omega)).trans h.hp.box, owns_stay h.hp.own (fun g hg => st g (h.hp.own.lt g hg).2 (by have := (h.hp.own.lt g hg).1; omega)), h.hp.lt, Nat.le_trans h.hp.size hg.size⟩,
    ⟨hm, fun s => ?_, fun s v l' h1 h2 => ?_, fun s1 s2 v u g h1 h2 h3 h4 => h.wm.apart s1 s2 v u g (hd s1 v h1).2 (hd s2 u h2).2 h3 h4⟩,
    h.cm.stay (st cb h.cm.lt (by omega)), fun x u g hu hug => h.sep x u g (hd x u hu).2 hug, h.ord⟩
  · unfold delM
    by_cases e : s = t
    · rw [if_pos e, if_pos e]; rfl
    · rw [if_neg e, if_neg e]; exact h.wm.same s
  · obtain ⟨e, h3⟩ := hd s v h1
    rw [if_neg e] at h2
    exact owns_stay (h.wm.row s v l' h3 h2) (fun g hg => st g (h.wm.rows h3 hg).2 (by have := (h.wm.rows h3 hg).1; omega))
end
end Go.Proofs.Ytdliecailkkciaa

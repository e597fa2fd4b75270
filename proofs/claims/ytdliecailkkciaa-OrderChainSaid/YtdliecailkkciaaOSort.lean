/-
  Sort. Conditions: bounds on the graph.
-/
import Derived.Test.YtdliecailkkciaaOSortM
import Derived.Deep.DeepMust
namespace Go.Proofs.Ytdliecailkkciaa
open Go.RowKit
set_option linter.unusedVariables false

/-- Sort's loop: the answer so far (it reads as vs) is a row of its own, apart from the queue's. -/
structure SL (w wr : World) (G : List ByteArray) (N : ByteArray → Option (List ByteArray)) (q B wb cb k k' : Nat) (lv rv : Value) (vs out l : List ByteArray) (MW : ByteArray → Option Value) (W : ByteArray → Option (List ByteArray)) (C : ByteArray → Option Nat) : Prop where
  low : Below w.heap.size w wr
  qs : Qs wr q B wb cb k k' rv l MW W C
  heap : HeapN l.length l
  pops : Pops G N out l W C
  keep : Keep G N W C out l
  own : wr.ownsRow B 9 1 lv vs.length (vs.map Value.string)
  apart : ∀ g, lv.ownBlock = some g → rv.ownBlock ≠ some g
  apart2 : ∀ x u g, MW x = some u → u.ownBlock = some g → lv.ownBlock ≠ some g
  count : k' ≤ (out.length + 1) * totN G N G.length
/-- A name leaves the queue. -/
theorem SL.next {w wr w' : World} {G : List ByteArray} {N : ByteArray → Option (List ByteArray)} {q B wb cb k k' : Nat} {lv rv rv' : Value} {vs out l l0 l' : List ByteArray} {MW : ByteArray → Option Value} {W : ByteArray → Option (List ByteArray)} {C : ByteArray → Option Nat} {x : ByteArray} {kk : Nat} (hwb : w.heap.size ≤ wb) (hG : G.Nodup)
    (h : SL w wr G N q B wb cb k k' lv rv vs out l MW W C) (hx : ∀ y ∈ l, ¬ btsOf y < btsOf x) (hf : QF q wb cb rv wr rv' w') (hq : Qs w' q B wb cb k kk rv' l' (delM MW x) (fun y => if y = x then none else W y) (dcC (getN W x) C (getN W x).length)) (hk : kk ≤ k' + (getN W x).length) (h0 : (l0 ++ [x]).Perm l) (hl : l'.Perm (l0 ++ psh (getN W x) C (getN W x).length)) (hh : HeapN l'.length l') :
    SL w w' G N q B wb cb k kk lv rv' vs (out ++ [x]) l' (delM MW x) (fun y => if y = x then none else W y) (dcC (getN W x) C (getN W x).length) := by
  have hqB := h.qs.hp.lt
  have hord := h.qs.ord
  have hus : (getN W x).length ≤ totN G N G.length := by
    rcases h.keep.rows x with e | e
    · rw [e]; exact outW_len G N _ x
    · rw [e]; exact Nat.zero_le _
  refine ⟨h.low.trans (hf.low hwb (by omega) (by omega) h.low.size (fun g hg => by have := (h.qs.hp.own.lt g hg).1; omega)), hq, hh, h.pops.snoc hx h0 hl, h.keep.next hG (outW_in G N _ (Nat.le_refl _)) h0 hl,
    owns_stay h.own (fun g hg => hf.block g (h.own.lt g hg).2 (by have := (h.own.lt g hg).1; omega) (by have := (h.own.lt g hg).1; omega) (by have := (h.own.lt g hg).1; omega) (fun e => h.apart g hg e.symm)), fun g hg e => ?_, fun y u g hy hu => ?_, ?_⟩
  · rcases hf.own g e with h1 | h1
    · exact h.apart g hg h1
    · have := (h.own.lt g hg).2; omega
  · unfold delM at hy
    by_cases e : y = x
    · rw [if_pos e] at hy; cases hy
    · rw [if_neg e] at hy; exact h.apart2 y u g hy hu
  · have h1 := h.count
    have h2 : ((out ++ [x]).length + 1) * totN G N G.length = (out.length + 1) * totN G N G.length + totN G N G.length := by
      rw [List.length_append, List.length_singleton, Nat.add_mul (out.length + 1) 1, Nat.one_mul]
    omega
/-- The answer's row has grown, or a new one is made. -/
theorem SL.add {w wr w' : World} {G : List ByteArray} {N : ByteArray → Option (List ByteArray)} {q B wb cb k k' : Nat} {lv lv' rv : Value} {vs vs' out l : List ByteArray} {MW : ByteArray → Option Value} {W : ByteArray → Option (List ByteArray)} {C : ByteArray → Option Nat}
    (h : SL w wr G N q B wb cb k k' lv rv vs out l MW W C) (hb : w.heap.size ≤ B) (hos : w'.os = wr.os) (htp : w'.tape = wr.tape) (hout : w'.output = wr.output) (hsz : wr.heap.size ≤ w'.heap.size) (hst : ∀ g, g < wr.heap.size → some g ≠ lv.ownBlock → w'.heap[g]? = wr.heap[g]?) (ho : w'.ownsRow B 9 1 lv' vs'.length (vs'.map Value.string)) (hn : ∀ g, lv'.ownBlock = some g → lv.ownBlock = some g ∨ wr.heap.size ≤ g) :
    SL w w' G N q B wb cb k k' lv' rv vs' out l MW W C := by
  have hqB := h.qs.hp.lt
  have hord := h.qs.ord
  have hlo : ∀ g, lv.ownBlock = some g → B ≤ g := fun g hg => (h.own.lt g hg).1
  refine ⟨h.low.trans ⟨hos, htp, hout, hsz, fun g hg => hst g (Nat.lt_of_lt_of_le hg h.low.size) (fun e => by have := hlo g e.symm; omega)⟩,
    ⟨⟨(hst q h.qs.hp.box.lt (fun e => by have := hlo q e.symm; omega)).trans h.qs.hp.box, owns_stay h.qs.hp.own (fun g hg => hst g (h.qs.hp.own.lt g hg).2 (fun e => h.apart g e.symm hg)), h.qs.hp.lt, Nat.le_trans h.qs.hp.size hsz⟩,
      h.qs.wm.stay (hst wb h.qs.wm.map.lt (fun e => by have := hlo wb e.symm; omega)) (fun y u g hy hu => hst g (h.qs.wm.rows hy hu).2 (fun e => h.apart2 y u g hy hu e.symm)), h.qs.cm.stay (hst cb h.qs.cm.lt (fun e => by have := hlo cb e.symm; omega)), h.qs.sep, h.qs.ord⟩,
    h.heap, h.pops, h.keep, ho, fun g hg e => ?_, fun y u g hy hu e => ?_, h.count⟩
  · rcases hn g hg with h1 | h1
    · exact h.apart g h1 e
    · have := (h.qs.hp.own.lt g e).2; omega
  · rcases hn g e with h1 | h1
    · exact h.apart2 y u g hy hu h1
    · have := (h.qs.wm.rows hy hu).2; omega
end Go.Proofs.Ytdliecailkkciaa

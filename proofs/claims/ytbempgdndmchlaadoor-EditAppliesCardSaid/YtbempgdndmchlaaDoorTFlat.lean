/-
  A tree in memory of its own, and one that is on the way to be one: what a copy keeps to, round by round. No program text but the types' numbers.
-/
import Derived.Test.YtbempgdndmchlaaDoorTOpen
import Derived.Test.YtbempgdndmchlaaDoorBut
import Derived.Laws.AppendOwn
import Derived.Laws.OwnMore
namespace Go.Proofs.YtbempgdndmchlaaDoor
open Go.RowKit
set_option linter.unusedVariables false

mutual
/-- How many trees there are in it, it among them. -/
def sizeN : T → Nat
  | .mk _ _ _ _ ks => 1 + sizeNL ks
def sizeNL : List T → Nat
  | [] => 0
  | k :: r => sizeN k + sizeNL r
end

theorem sizeN_mk (k : UInt8) (x : Bool) (d : List UInt8) (ns : List ByteArray) (ks : List T) : sizeN (.mk k x d ns ks) = 1 + sizeNL ks := by rw [sizeN]
theorem sizeNL_cons (k : T) (r : List T) : sizeNL (k :: r) = sizeN k + sizeNL r := by rw [sizeNL]
theorem sizeNL_append : ∀ p q : List T, sizeNL (p ++ q) = sizeNL p + sizeNL q
  | [], q => by simp [sizeNL]
  | k :: p, q => by rw [List.cons_append, sizeNL_cons, sizeNL_cons, sizeNL_append p q]; omega
theorem sizeN_pos : ∀ t : T, 1 ≤ sizeN t
  | .mk k x d ns ks => by rw [sizeN_mk]; omega
theorem sizeNL_len : ∀ l : List T, l.length ≤ sizeNL l
  | [] => by simp
  | k :: r => by rw [sizeNL_cons, List.length_cons]; have := sizeN_pos k; have := sizeNL_len r; omega
theorem sizeNL_drop {l : List T} {i : Nat} (h : i < l.length) : sizeNL (l.drop i) = sizeN (l.getD i default) + sizeNL (l.drop (i + 1)) := by
  rw [List.drop_eq_getElem_cons h, sizeNL_cons]
  simp [List.getD, List.getElem?_eq_getElem h]
theorem sizeNL_take {l : List T} {i : Nat} (h : i < l.length) : sizeNL (l.take (i + 1)) = sizeNL (l.take i) + sizeN (l.getD i default) := by
  rw [List.take_succ_eq_append_getElem h, sizeNL_append, sizeNL_cons]
  simp [List.getD, List.getElem?_eq_getElem h, sizeNL]
theorem sizeNL_get {l : List T} {i : Nat} (h : i < l.length) : sizeN (l.getD i default) ≤ sizeNL l := by
  have h1 := sizeNL_drop h
  have h2 := sizeNL_append (l.take i) (l.drop i)
  rw [List.take_append_drop] at h2
  omega

/-- The five cells of the i-th tree of a row. -/
def five (L : List Value) (i : Nat) : List Value := (L.drop (i * 5)).take 5

theorem five_get {L : List Value} {i : Nat} (j : Nat) (hj : j < 5) : (five L i)[j]? = L[i * 5 + j]? := by
  unfold five
  rw [List.getElem?_take_of_lt hj, List.getElem?_drop]
theorem five_at {L : List Value} {i : Nat} {c0 c1 c2 c3 c4 : Value} (h : five L i = [c0, c1, c2, c3, c4]) :
    L[i * 5]? = some c0 ∧ L[i * 5 + 1]? = some c1 ∧ L[i * 5 + 2]? = some c2 ∧ L[i * 5 + 3]? = some c3 ∧ L[i * 5 + 4]? = some c4 := by
  have g := fun j hj => five_get (L := L) (i := i) j hj
  rw [h] at g
  exact ⟨(g 0 (by omega)).symm, (g 1 (by omega)).symm, (g 2 (by omega)).symm, (g 3 (by omega)).symm, (g 4 (by omega)).symm⟩
theorem five_lt {L : List Value} {i : Nat} (h : (five L i).length = 5) : i * 5 + 4 < L.length := by
  unfold five at h
  rw [List.length_take, List.length_drop] at h
  omega
theorem five_set_same (L : List Value) (i j : Nat) (v : Value) (hj : j < 5) : five (L.set (i * 5 + j) v) i = (five L i).set j v := by
  apply List.ext_getElem?
  intro q
  by_cases hq : q < 5
  · rw [five_get q hq]
    rw [List.getElem?_set, List.getElem?_set]
    by_cases e : j = q
    · subst e
      rw [if_pos rfl, if_pos rfl]
      unfold five
      rw [List.length_take, List.length_drop]
      by_cases hl : i * 5 + j < L.length
      · rw [if_pos hl, if_pos (by omega)]
      · rw [if_neg hl, if_neg (by omega)]
    · rw [if_neg (by omega), if_neg e, five_get q hq]
  · unfold five
    rw [List.getElem?_eq_none (by rw [List.length_take]; omega), List.getElem?_eq_none (by rw [List.length_set, List.length_take]; omega)]
theorem five_set_other (L : List Value) (i i' j : Nat) (v : Value) (hj : j < 5) (h : i' ≠ i) : five (L.set (i * 5 + j) v) i' = five L i' := by
  apply List.ext_getElem?
  intro q
  by_cases hq : q < 5
  · rw [five_get q hq, five_get q hq, List.getElem?_set, if_neg (by omega)]
  · unfold five
    rw [List.getElem?_eq_none (by rw [List.length_take]; omega), List.getElem?_eq_none (by rw [List.length_take]; omega)]
theorem five_take {L : List Value} {i n : Nat} (h : i < n) : five (L.take (n * 5)) i = five L i := by
  apply List.ext_getElem?
  intro q
  by_cases hq : q < 5
  · rw [five_get q hq, five_get q hq, List.getElem?_take_of_lt (by omega)]
  · unfold five
    rw [List.getElem?_eq_none (by rw [List.length_take]; omega), List.getElem?_eq_none (by rw [List.length_take]; omega)]

def bv (b : UInt8) : Value := .int .u8 (b.toNat : Int)

/-! A row of one's own under changes. -/

theorem owns_but {w w' : World} {B q : Nat} {e : TypeId} {size : Nat} {v : Value} {n : Nat} {xs : List Value} (h : w.ownsRow B e size v n xs) (hb : But w.heap.size q w w') (hq : ∀ cs f, w.heap[q]? ≠ some (.cells cs e f)) : w'.ownsRow B e size v n xs := by
  refine ⟨h.1, ?_⟩
  rcases h.2 with hn | ⟨g, cap, cur, rfl, hg, hgg, rest⟩
  · exact .inl hn
  · refine .inr ⟨g, cap, cur, rfl, hg, ?_, rest⟩
    have hne : g ≠ q := fun e => hq _ _ (e ▸ hgg)
    exact (hb.block g (Array.getElem?_eq_some_iff.1 hgg).1 hne).trans hgg

theorem owns_low {w : World} {B B' : Nat} {e : TypeId} {size : Nat} {v : Value} {n : Nat} {xs : List Value} (h : w.ownsRow B e size v n xs) (hB : B' ≤ B) : w.ownsRow B' e size v n xs := by
  refine ⟨h.1, ?_⟩
  rcases h.2 with hn | ⟨g, cap, cur, rfl, hg, rest⟩
  · exact .inl hn
  · exact .inr ⟨g, cap, cur, rfl, by omega, rest⟩

/-- A block that holds neither bytes nor texts. -/
def Far (w : World) (q : Nat) : Prop := (∀ cs f, w.heap[q]? ≠ some (.cells cs 5 f)) ∧ (∀ cs f, w.heap[q]? ≠ some (.cells cs 9 f))

theorem far_new (w : World) : Far w w.heap.size := by
  have h : w.heap[w.heap.size]? = none := by simp
  exact ⟨fun cs f => by rw [h]; simp, fun cs f => by rw [h]; simp⟩
theorem far_has {w : World} {q : Nat} {L : List Value} {t : TypeId} (h : Has w q L t) (h1 : t ≠ 5) (h2 : t ≠ 9) : Far w q := by
  have h' : w.heap[q]? = some (.cells L.toArray t (0, 0)) := h
  refine ⟨fun cs f e => ?_, fun cs f e => ?_⟩
  · rw [h'] at e; cases e; exact h1 rfl
  · rw [h'] at e; cases e; exact h2 rfl
theorem far_cells {w : World} {q : Nat} {L : Array Value} {t : TypeId} {f : Nat × Nat} (h : w.heap[q]? = some (.cells L t f)) (h1 : t ≠ 5) (h2 : t ≠ 9) : Far w q := by
  refine ⟨fun cs f e => ?_, fun cs f e => ?_⟩
  · rw [h] at e; cases e; exact h1 rfl
  · rw [h] at e; cases e; exact h2 rfl

/-- Five cells that read as a tree, all of whose lists lie in rows of their own from block B on; where its kids lie G says. -/
def Flat (w : World) (B : Nat) (G : Nat → Option (List T)) (cs : List Value) : T → Prop
  | .mk k x d ns ks => ∃ vd vn ak nk ck, cs = [.int .u8 (k.toNat : Int), .bool x, vd, vn, .slice ak nk ck] ∧
      w.ownsRow B 5 1 vd d.length (d.map bv) ∧ w.ownsRow B 9 1 vn ns.length (ns.map Value.string) ∧
      nk = ks.length ∧ nk ≤ ck ∧ ck ≤ maxLen ∧ ((ks = [] ∧ (ak = none → ck = 0)) ∨ ∃ b, ak = some ⟨b, 0, none⟩ ∧ ks ≠ [] ∧ G b = some ks)

theorem Flat.but {w w' : World} {B q : Nat} {G G' : Nat → Option (List T)} {cs : List Value} {t : T} (h : Flat w B G cs t) (hb : But w.heap.size q w w') (hq : Far w q) (hG : ∀ b ks, G b = some ks → G' b = some ks) : Flat w' B G' cs t := by
  obtain ⟨k, x, d, ns, ks⟩ := t
  obtain ⟨vd, vn, ak, nk, ck, hcs, hd, hn, h1, h2, h3, h4⟩ := h
  exact ⟨vd, vn, ak, nk, ck, hcs, owns_but hd hb hq.1, owns_but hn hb hq.2, h1, h2, h3, h4.imp id fun ⟨b, e1, e2, e3⟩ => ⟨b, e1, e2, hG _ _ e3⟩⟩

/-- Each of these trees is in memory of its own, in block b. -/
def Done (w : World) (B : Nat) (G : Nat → Option (List T)) (b : Nat) (ks : List T) : Prop := ∃ L, Has w b L 26 ∧ ∀ i, i < ks.length → Flat w B G (five L i) (ks.getD i default)

theorem Done.but {w w' : World} {B b q : Nat} {G G' : Nat → Option (List T)} {ks : List T} (h : Done w B G b ks) (hb : But w.heap.size q w w') (hq : Far w q) (hne : b ≠ q) (hG : ∀ b ks, G b = some ks → G' b = some ks) : Done w' B G' b ks := by
  obtain ⟨L, hL, hF⟩ := h
  exact ⟨L, hL.but hb hL.lt hne, fun i hi => (hF i hi).but hb hq hG⟩

/-- Each of these trees still has its old lists. -/
def Pend (w0 w : World) (b : Nat) (ks : List T) : Prop := ∃ L, Has w b L 26 ∧ ∀ i, i < ks.length → ∃ n, IsT w0 n (five L i) (ks.getD i default)

theorem Pend.but {w0 w w' : World} {b q : Nat} {ks : List T} (h : Pend w0 w b ks) (hb : But w.heap.size q w w') (hne : b ≠ q) : Pend w0 w' b ks := by
  obtain ⟨L, hL, hF⟩ := h
  exact ⟨L, hL.but hb hL.lt hne, hF⟩

/-- A copy on its way: S are the rows that must still get lists of their own (block, trees, capacity), cur the one that is gone through. -/
structure Cpy (w0 w : World) (G : Nat → Option (List T)) (S : List (Nat × List T × Nat)) (cur : Option Nat) : Prop where
  below : Below w0.heap.size w0 w
  fresh : ∀ b ks, G b = some ks → w0.heap.size ≤ b ∧ b < w.heap.size
  done : ∀ b ks, G b = some ks → (∀ p ∈ S, p.1 ≠ b) → cur ≠ some b → Done w w0.heap.size G b ks
  pend : ∀ p ∈ S, G p.1 = some p.2.1 ∧ Pend w0 w p.1 p.2.1 ∧ p.2.1 ≠ [] ∧ cur ≠ some p.1 ∧ p.2.1.length ≤ p.2.2 ∧ p.2.2 ≤ maxLen
  nodup : (S.map (·.1)).Nodup

/-- A block that is none of these is written. -/
theorem Cpy.but {w0 w w' : World} {G : Nat → Option (List T)} {S : List (Nat × List T × Nat)} {cur : Option Nat} {q : Nat} (h : Cpy w0 w G S cur) (hb : But w.heap.size q w w') (hq : Far w q) (hB : w0.heap.size ≤ q) (hne : ∀ ks, G q = some ks → cur = some q) : Cpy w0 w' G S cur := by
  have hsz := h.below.size
  refine ⟨h.below.trans ((hb.mono hsz).below hB), fun b ks hg => ⟨(h.fresh b ks hg).1, Nat.lt_of_lt_of_le (h.fresh b ks hg).2 hb.size⟩, fun b ks hg hS hc => ?_, fun p hp => ?_, h.nodup⟩
  · exact (h.done b ks hg hS hc).but hb hq (fun e => hc (by rw [e]; exact hne ks (e ▸ hg))) (fun _ _ h => h)
  · obtain ⟨h1, h2, h3, h4, h5, h6⟩ := h.pend p hp
    exact ⟨h1, h2.but hb (fun e => h4 (by rw [e]; exact hne _ (e ▸ h1))), h3, h4, h5, h6⟩

theorem Cpy.later {w0 w w' : World} {G : Nat → Option (List T)} {S : List (Nat × List T × Nat)} {cur : Option Nat} (h : Cpy w0 w G S cur) (hb : Below w.heap.size w w') : Cpy w0 w' G S cur :=
  h.but (q := w.heap.size) (But.of_below hb) (far_new w) h.below.size (fun ks hg => by have := (h.fresh _ ks hg).2; omega)

/-- A new row is to be gone through, too. -/
theorem Cpy.push {w0 w : World} {G : Nat → Option (List T)} {S : List (Nat × List T × Nat)} {q b c : Nat} {ks : List T} (h : Cpy w0 w G S (some q)) (hP : Pend w0 w b ks) (hnew : G b = none) (h0 : w0.heap.size ≤ b) (hks : ks ≠ []) (hbq : b ≠ q) (hc : ks.length ≤ c) (hm : c ≤ maxLen) :
    Cpy w0 w (fun x => if x = b then some ks else G x) (S ++ [(b, ks, c)]) (some q) := by
  have hlt : b < w.heap.size := by obtain ⟨L, hL, _⟩ := hP; exact hL.lt
  have hS : ∀ p ∈ S, p.1 ≠ b := fun p hp e => by have := (h.pend p hp).1; rw [e, hnew] at this; cases this
  have hG : ∀ b' ks', G b' = some ks' → (fun x => if x = b then some ks else G x) b' = some ks' := fun b' ks' hg => by
    by_cases e : b' = b
    · rw [e, hnew] at hg; cases hg
    · simpa [e] using hg
  refine ⟨h.below, fun b' ks' hg => ?_, fun b' ks' hg hS' hc' => ?_, fun p hp => ?_, ?_⟩
  · by_cases e : b' = b
    · subst e; exact ⟨h0, hlt⟩
    · exact h.fresh b' ks' (by simpa [e] using hg)
  · have e : b' ≠ b := fun e => hS' (b, ks, c) (by simp) e.symm
    obtain ⟨L, hL, hF⟩ := h.done b' ks' (by simpa [e] using hg) (fun p hp => hS' p (by simp [hp])) hc'
    exact ⟨L, hL, fun i hi => (hF i hi).but (But.refl _ w.heap.size _) (far_new w) hG⟩
  · rcases List.mem_append.1 hp with hp | hp
    · obtain ⟨h1, h2, h3, h4, h5, h6⟩ := h.pend p hp
      exact ⟨hG _ _ h1, h2, h3, h4, h5, h6⟩
    · simp only [List.mem_cons, List.not_mem_nil, or_false] at hp
      subst hp
      exact ⟨by simp, hP, hks, fun e => hbq (Option.some.inj e).symm, hc, hm⟩
  · rw [List.map_append, List.nodup_append]
    refine ⟨h.nodup, by simp, fun a ha b' hb' => ?_⟩
    obtain ⟨p, hp, rfl⟩ := List.mem_map.1 ha
    simp at hb'
    subst hb'
    exact hS p hp

/-- The last row is gone through now. -/
theorem Cpy.pop {w0 w : World} {G : Nat → Option (List T)} {S : List (Nat × List T × Nat)} {b c : Nat} {ks : List T} (h : Cpy w0 w G (S ++ [(b, ks, c)]) none) : Cpy w0 w G S (some b) ∧ Pend w0 w b ks ∧ G b = some ks ∧ ks ≠ [] ∧ ks.length ≤ c ∧ c ≤ maxLen := by
  have hp := h.pend (b, ks, c) (by simp)
  have hnd := h.nodup
  rw [List.map_append, List.nodup_append] at hnd
  have hS : ∀ p ∈ S, p.1 ≠ b := fun p hp' => hnd.2.2 p.1 (List.mem_map_of_mem hp') b (by simp)
  refine ⟨⟨h.below, h.fresh, fun b' ks' hg hS' hc' => h.done b' ks' hg (fun p hp' => ?_) (by simp), fun p hp' => ?_, hnd.1⟩, hp.2.1, hp.1, hp.2.2.1, hp.2.2.2.2⟩
  · rcases List.mem_append.1 hp' with hp' | hp'
    · exact hS' p hp'
    · simp only [List.mem_cons, List.not_mem_nil, or_false] at hp'
      subst hp'
      exact fun e => hc' (by rw [← e])
  · obtain ⟨h1, h2, h3, h4, h5⟩ := h.pend p (by simp [hp'])
    exact ⟨h1, h2, h3, fun e => hS p hp' (Option.some.inj e).symm, h5⟩

/-- The row that was gone through has lists of its own. -/
theorem Cpy.finish {w0 w : World} {G : Nat → Option (List T)} {S : List (Nat × List T × Nat)} {b : Nat} {ks : List T} (h : Cpy w0 w G S (some b)) (hg : G b = some ks) (hd : Done w w0.heap.size G b ks) : Cpy w0 w G S none := by
  refine ⟨h.below, h.fresh, fun b' ks' hg' hS' hc' => ?_, fun p hp => ?_, h.nodup⟩
  · by_cases e : b' = b
    · subst e; rw [hg] at hg'; cases hg'; exact hd
    · exact h.done b' ks' hg' hS' (fun e' => e (Option.some.inj e').symm)
  · obtain ⟨h1, h2, h3, h4, h5⟩ := h.pend p hp
    exact ⟨h1, h2, h3, by simp, h5⟩

/-- A row of bytes of one's own as a list of bytes. -/
theorem isB_owned {w : World} {B : Nat} {v : Value} {l : List UInt8} (h : w.ownsRow B 5 1 v l.length (l.map bv)) (hm : l.length ≤ 140737488355328) : ∃ a c, v = .slice a l.length c ∧ IsB w a l.length c l := by
  rcases h.2 with ⟨rfl, h0⟩ | ⟨g, cap, cur, rfl, hg, hgg, hle, hmx, hsz, htk⟩
  · exact ⟨none, 0, by rw [h0], ⟨rfl, .inl h0, fun _ => ⟨h0, rfl⟩, ⟨by omega, Nat.zero_le _⟩, hm⟩⟩
  · refine ⟨_, _, rfl, ⟨rfl, .inr ⟨g, 0, rfl, (Array.getElem?_eq_some_iff.1 hgg).1, fun i hi => ?_⟩, (fun e => by cases e), ⟨hle, hmx⟩, hm⟩⟩
    have hc := World.ownsRow.cellAt h i (by omega)
    rw [Nat.zero_add, hc, List.getElem?_map, List.getElem?_eq_getElem hi]
    simp [bv, List.getD, List.getElem?_eq_getElem hi]

theorem isS_owned {w : World} {B : Nat} {v : Value} {l : List ByteArray} (h : w.ownsRow B 9 1 v l.length (l.map Value.string)) : ∃ a c, v = .slice a l.length c ∧ IsS w a l.length c l := by
  rcases h.2 with ⟨rfl, h0⟩ | ⟨g, cap, cur, rfl, hg, hgg, hle, hmx, hsz, htk⟩
  · exact ⟨none, 0, by rw [h0], ⟨rfl, .inl h0, fun _ => ⟨h0, rfl⟩, ⟨by omega, Nat.zero_le _⟩⟩⟩
  · refine ⟨_, _, rfl, ⟨rfl, .inr ⟨g, 0, rfl, (Array.getElem?_eq_some_iff.1 hgg).1, fun i hi => ?_⟩, (fun e => by cases e), ⟨hle, hmx⟩⟩⟩
    have hc := World.ownsRow.cellAt h i (by omega)
    rw [Nat.zero_add, hc, List.getElem?_map, List.getElem?_eq_getElem hi]
    simp [List.getD, List.getElem?_eq_getElem hi]

theorem isT_mono {w : World} : ∀ (m n : Nat) (cs : List Value) (t : T), n ≤ m → IsT w n cs t → IsT w m cs t
  | 0, n, cs, t, h, ht => by obtain rfl : n = 0 := by omega
                             exact ht
  | m + 1, n, cs, t, h, ht => by
    by_cases e : n = m + 1
    · subst e; exact ht
    · exact isT_up m cs t (isT_mono m n cs t (by omega) ht)

/-- A tree that is all in memory of its own, from block B on. -/
def Closed (w : World) (B : Nat) (G : Nat → Option (List T)) (cs : List Value) (t : T) : Prop := (∀ b ks, G b = some ks → B ≤ b ∧ Done w B G b ks) ∧ Flat w B G cs t

theorem isT_closed {w : World} {B : Nat} {G : Nat → Option (List T)} (hall : ∀ b ks, G b = some ks → B ≤ b ∧ Done w B G b ks) : ∀ (n : Nat) (cs : List Value) (t : T), sizeN t ≤ n → Flat w B G cs t → Small t → IsT w n cs t
  | 0, cs, t, hn, _, _ => by have := sizeN_pos t; omega
  | n + 1, cs, .mk k x d ns ks, hn, hf, hs => by
    obtain ⟨vd, vn, ak, nk, ck, rfl, hd, hnm, rfl, h2, h3, h4⟩ := hf
    rw [sizeN_mk] at hn
    cases hs with
    | mk s1 s2 s3 =>
    obtain ⟨ad, cd, rfl, hB⟩ := isB_owned hd s3.1
    obtain ⟨an, cn, rfl, hS⟩ := isS_owned hnm
    refine ⟨ad, _, cd, an, _, cn, ak, _, ck, rfl, hB, hS, ⟨rfl, ?_, ?_, ⟨h2, h3⟩⟩⟩
    · rcases h4 with ⟨rfl, _⟩ | ⟨b, rfl, hks, hg⟩
      · exact .inl rfl
      · obtain ⟨_, L, hL, hF⟩ := hall b ks hg
        refine .inr ⟨b, 0, rfl, hL.lt, fun i hi => ?_⟩
        have hi' := isT_closed hall n (five L i) (ks.getD i default) (by have := sizeNL_get hi; omega) (hF i hi) (s2 i hi)
        cases n with
        | zero => have := sizeN_pos (ks.getD i default); have := sizeNL_get hi; omega
        | succ n =>
        have hi2 := hi'
        generalize ks.getD i default = tt at hi' hi2
        obtain ⟨k', x', d', ns', ks'⟩ := tt
        obtain ⟨ad', nd', cd', an', nn', cn', ak', nk', ck', h5, _⟩ := hi'
        obtain ⟨q0, q1, q2, q3, q4⟩ := five_at h5
        refine ⟨_, _, _, _, _, by rw [← h5]; exact hi2, ?_, ?_, ?_, ?_, ?_⟩
        · rw [Nat.zero_add]; exact hL.cellAt q0
        · rw [Nat.zero_add]; exact hL.cellAt q1
        · rw [Nat.zero_add]; exact hL.cellAt q2
        · rw [Nat.zero_add]; exact hL.cellAt q3
        · rw [Nat.zero_add]; exact hL.cellAt q4
    · intro e
      rcases h4 with ⟨rfl, h5⟩ | ⟨b, rfl, _⟩
      · exact ⟨rfl, h5 e⟩
      · cases e

theorem Closed.isT {w : World} {B : Nat} {G : Nat → Option (List T)} {cs : List Value} {t : T} (h : Closed w B G cs t) (hs : Small t) : IsT w (sizeN t) cs t := isT_closed h.1 _ cs t (Nat.le_refl _) h.2 hs

theorem Cpy.closed {w0 w : World} {G : Nat → Option (List T)} {b : Nat} {t : T} (h : Cpy w0 w G [] none) (hg : G b = some [t]) : ∃ L, Has w b L 26 ∧ Closed w w0.heap.size G (five L 0) t := by
  have hd := fun b ks hg => h.done b ks hg (by simp) (by simp)
  obtain ⟨L, hL, hF⟩ := hd b [t] hg
  exact ⟨L, hL, fun b ks hg => ⟨(h.fresh b ks hg).1, hd b ks hg⟩, hF 0 (by simp)⟩

end Go.Proofs.YtbempgdndmchlaaDoor

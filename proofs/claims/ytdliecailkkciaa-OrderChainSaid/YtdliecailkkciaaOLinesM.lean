/-
  Rows of texts of the call's own, gathered in a row; the same names told from another place on. No program text but the types' numbers.
-/
import Derived.Test.YtdliecailkkciaaOGreat
namespace Go.Proofs.Ytdliecailkkciaa
open Go.RowKit
set_option linter.unusedVariables false

theorem info_strs : (Try.prog.info? 22).map (fun i => (i.zero, i.size, i.bytes)) = some (some (.slice none 0 0), 1, 24) := by kernel_rfl
/-- Rows of two types are two. -/
theorem own_two {w : World} {B B' size size' n n' : Nat} {e e' : TypeId} {v v' : Value} {xs xs' : List Value} (h : w.ownsRow B e size v n xs) (h' : w.ownsRow B' e' size' v' n' xs') (hne : e ≠ e') : v.ownBlock = none ∨ v.ownBlock ≠ v'.ownBlock := by
  rcases h.2 with ⟨rfl, _⟩ | ⟨g, cap, cur, rfl, _, hg, _⟩
  · left; rfl
  · rcases h'.2 with ⟨rfl, _⟩ | ⟨g', cap', cur', rfl, _, hg', _⟩
    · right; simp [Value.ownBlock]
    · right
      intro e2
      have e3 : g = g' := by simpa [Value.ownBlock] using e2
      subst e3
      rw [hg] at hg'
      injection hg' with hg'
      injection hg' with _ h2
      exact hne h2
def nilV : Value := .slice none 0 0
/-- A row of texts mv, and a row kv of rows of texts, all of them the call's own, none in another's block. -/
structure LN (w wr : World) (mv kv : Value) (vs : List Value) (ms : List ByteArray) (rows : List (List ByteArray)) : Prop where
  low : Below w.heap.size w wr
  m : wr.ownsRow w.heap.size 9 1 mv ms.length (ms.map Value.string)
  k : wr.ownsRow w.heap.size 22 1 kv vs.length vs
  len : vs.length = rows.length
  row : ∀ i, i < rows.length → wr.ownsRow w.heap.size 9 1 (vs.getD i nilV) (rows.getD i []).length ((rows.getD i []).map Value.string)
  apart : ∀ i, i < rows.length → (vs.getD i nilV).ownBlock = none ∨ (vs.getD i nilV).ownBlock ≠ mv.ownBlock
theorem LN.start (w : World) {wr : World} (h : Below w.heap.size w wr) : LN w wr nilV nilV [] [] [] :=
  ⟨h, World.ownsRow_nil _ _ _ _, World.ownsRow_nil _ _ _ _, rfl, fun i hi => (by cases hi), fun i hi => (by cases hi)⟩
theorem LN.later {w wr w' : World} {mv kv : Value} {vs : List Value} {ms : List ByteArray} {rows : List (List ByteArray)} (h : LN w wr mv kv vs ms rows) (hb : Below wr.heap.size wr w') : LN w w' mv kv vs ms rows :=
  ⟨h.low.trans (hb.mono h.low.size), own_later h.m hb, own_later h.k hb, h.len, fun i hi => own_later (h.row i hi) hb, h.apart⟩
theorem LN.mgrow {w wr w' : World} {mv kv mv' : Value} {vs : List Value} {ms ms' : List ByteArray} {rows : List (List ByteArray)} (h : LN w wr mv kv vs ms rows) (hg : wr.grownBy w' mv.ownBlock) (hm : w'.ownsRow w.heap.size 9 1 mv' ms'.length (ms'.map Value.string)) (ho : ∀ q, mv'.ownBlock = some q → mv.ownBlock = some q ∨ wr.heap.size ≤ q) : LN w w' mv' kv vs ms' rows :=
  ⟨below_grown h.low h.low.size h.m hg, hm, h.k.kept hg ((own_two h.k h.m (by decide)).imp id (fun h => h)), h.len, fun i hi => (h.row i hi).kept hg (h.apart i hi), fun i hi => by
    rcases h.apart i hi with h1 | h1
    · exact .inl h1
    · cases hq : (vs.getD i nilV).ownBlock with
      | none => exact .inl rfl
      | some q =>
        right
        intro e
        rcases ho q e.symm with h2 | h2
        · exact h1 (hq.trans h2.symm)
        · have := ((h.row i hi).lt q hq).2
          omega⟩
theorem LN.kgrow {w wr w' : World} {mv kv kv' v : Value} {vs : List Value} {ms l : List ByteArray} {rows : List (List ByteArray)} (h : LN w wr mv kv vs ms rows) (hv : wr.ownsRow w.heap.size 9 1 v l.length (l.map Value.string)) (ha : v.ownBlock = none ∨ v.ownBlock ≠ mv.ownBlock) (hg : wr.grownBy w' kv.ownBlock) (hk : w'.ownsRow w.heap.size 22 1 kv' (vs ++ [v]).length (vs ++ [v])) : LN w w' mv kv' (vs ++ [v]) ms (rows ++ [l]) := by
  have hl := h.len
  have key : ∀ i, i < (rows ++ [l]).length → (i < rows.length ∧ (vs ++ [v]).getD i nilV = vs.getD i nilV ∧ (rows ++ [l]).getD i [] = rows.getD i []) ∨ ((vs ++ [v]).getD i nilV = v ∧ (rows ++ [l]).getD i [] = l) := by
    intro i hi
    rw [List.length_append, List.length_singleton] at hi
    by_cases h1 : i < rows.length
    · left
      refine ⟨h1, ?_, ?_⟩
      · rw [List.getD_eq_getElem?_getD, List.getElem?_append_left (by omega), ← List.getD_eq_getElem?_getD]
      · rw [List.getD_eq_getElem?_getD, List.getElem?_append_left h1, ← List.getD_eq_getElem?_getD]
    · right
      obtain rfl : i = rows.length := by omega
      refine ⟨?_, ?_⟩
      · rw [List.getD_eq_getElem?_getD, ← hl, List.getElem?_concat_length]; rfl
      · rw [List.getD_eq_getElem?_getD, List.getElem?_concat_length]; rfl
  refine ⟨below_grown h.low h.low.size h.k hg, h.m.kept hg ((own_two h.m h.k (by decide)).imp id (fun h => h)), hk, by rw [List.length_append, List.length_append, hl]; rfl, fun i hi => ?_, fun i hi => ?_⟩
  · rcases key i hi with ⟨h1, h2, h3⟩ | ⟨h2, h3⟩
    · rw [h2, h3]
      exact (h.row i h1).kept hg (own_two (h.row i h1) h.k (by decide))
    · rw [h2, h3]
      exact hv.kept hg (own_two hv h.k (by decide))
  · rcases key i hi with ⟨h1, h2, h3⟩ | ⟨h2, h3⟩
    · rw [h2]; exact h.apart i h1
    · rw [h2]; exact ha
theorem LN.isSS {w wr : World} {mv kv : Value} {vs : List Value} {ms : List ByteArray} {rows : List (List ByteArray)} (h : LN w wr mv kv vs ms rows) : ∃ a c, kv = .slice a rows.length c ∧ IsSS wr a rows.length c rows := by
  rcases h.k.2 with ⟨h1, h2⟩ | ⟨g, cap, cur, h1, hb, hg, hnc, hcm, hcs, htake⟩
  · have : rows = [] := List.eq_nil_of_length_eq_zero (by rw [← h.len]; omega)
    subst this
    exact ⟨none, 0, h1, rfl, .inl rfl, fun _ => ⟨rfl, rfl⟩, Nat.le_refl _, Nat.zero_le _⟩
  · rw [h.len] at h1 hnc
    refine ⟨_, cap, h1, rfl, .inr ⟨g, 0, rfl, (Array.getElem?_eq_some_iff.1 hg).1, fun i hi => ?_⟩, (fun e => by cases e), hnc, hcm⟩
    obtain ⟨a', c', he, hs⟩ := owns_isS (h.row i hi)
    refine ⟨a', _, c', ?_, hs⟩
    have h2 := h.k.cells (g := g) (by rw [h1]; rfl) i (vs.getD i nilV) (by rw [List.getD_eq_getElem?_getD, List.getElem?_eq_getElem (by rw [h.len]; exact hi)]; rfl)
    rw [Addr.add_lit] at h2
    rw [← he]
    exact h2

/-! From another place on. -/
theorem rot_surj {n : Nat} (hn : 0 < n) (b j : Nat) (hj : j < n) : ∃ i, i < n ∧ (i + b) % n = j := by
  refine ⟨(j + (n - b % n)) % n, Nat.mod_lt _ hn, ?_⟩
  rw [Nat.mod_add_mod]
  have h1 := Nat.div_add_mod b n
  have h2 := Nat.mod_lt b hn
  have e : j + (n - b % n) + b = j + n * (b / n + 1) := by
    rw [Nat.mul_add, Nat.mul_one]
    omega
  rw [e, Nat.add_mul_mod_self_left]
  exact Nat.mod_eq_of_lt hj
def rotN (ns : List ByteArray) (b i : Nat) : List ByteArray := (List.range i).map (fun i => ns.getD ((i + b) % ns.length) ⟨#[]⟩)
def rotK (ns : List ByteArray) (ks : List (List ByteArray)) (b i : Nat) : List (List ByteArray) := (List.range i).map (fun i => ks.getD ((i + b) % ns.length) [] ++ [ns.getD ((i + b) % ns.length) ⟨#[]⟩])
theorem rotN_len (ns : List ByteArray) (b i : Nat) : (rotN ns b i).length = i := by unfold rotN; simp
theorem rotK_len (ns : List ByteArray) (ks : List (List ByteArray)) (b i : Nat) : (rotK ns ks b i).length = i := by unfold rotK; simp
theorem rotN_succ (ns : List ByteArray) (b i : Nat) : rotN ns b (i + 1) = rotN ns b i ++ [ns.getD ((i + b) % ns.length) ⟨#[]⟩] := by unfold rotN; rw [List.range_succ, List.map_append]; rfl
theorem rotK_succ (ns : List ByteArray) (ks : List (List ByteArray)) (b i : Nat) : rotK ns ks b (i + 1) = rotK ns ks b i ++ [ks.getD ((i + b) % ns.length) [] ++ [ns.getD ((i + b) % ns.length) ⟨#[]⟩]] := by unfold rotK; rw [List.range_succ, List.map_append]; rfl
theorem rotN_get (ns : List ByteArray) (b : Nat) {i n : Nat} (hi : i < n) : (rotN ns b n).getD i ⟨#[]⟩ = ns.getD ((i + b) % ns.length) ⟨#[]⟩ := by
  unfold rotN
  rw [List.getD_eq_getElem?_getD, List.getElem?_map, List.getElem?_range hi]; rfl
theorem rotK_get (ns : List ByteArray) (ks : List (List ByteArray)) (b : Nat) {i n : Nat} (hi : i < n) : (rotK ns ks b n).getD i [] = ks.getD ((i + b) % ns.length) [] ++ [ns.getD ((i + b) % ns.length) ⟨#[]⟩] := by
  unfold rotK
  rw [List.getD_eq_getElem?_getD, List.getElem?_map, List.getElem?_range hi]; rfl
theorem rot_mem {ns : List ByteArray} (hn : 0 < ns.length) (b : Nat) (s : ByteArray) : s ∈ ns ↔ s ∈ rotN ns b ns.length := by
  constructor
  · intro h
    obtain ⟨j, hj, rfl⟩ := List.getElem_of_mem h
    obtain ⟨i, hi, e⟩ := rot_surj hn b j hj
    refine List.mem_map.2 ⟨i, List.mem_range.2 hi, ?_⟩
    rw [e, getD_get hj]
  · intro h
    obtain ⟨i, _, rfl⟩ := List.mem_map.1 h
    exact getD_mem2 (Nat.mod_lt _ hn)
theorem rot_need {ns : List ByteArray} (hn : 0 < ns.length) (ks : List (List ByteArray)) (b : Nat) (s t : ByteArray) : Need (rotN ns b ns.length) (rotK ns ks b ns.length) s t ↔ Need ns ks s t ∨ (t = s ∧ s ∈ ns) := by
  constructor
  · rintro ⟨i, hi, e, ht⟩
    rw [rotN_len] at hi
    rw [rotN_get ns b hi] at e
    rw [rotK_get ns ks b hi, List.mem_append, List.mem_singleton, e] at ht
    have hm := Nat.mod_lt (i + b) hn
    rcases ht with ht | ht
    · exact .inl ⟨_, hm, e, ht⟩
    · exact .inr ⟨ht, by rw [← e]; exact getD_mem2 hm⟩
  · rintro (⟨j, hj, e, ht⟩ | ⟨rfl, hs⟩)
    · obtain ⟨i, hi, e2⟩ := rot_surj hn b j hj
      refine ⟨i, by rw [rotN_len]; exact hi, by rw [rotN_get ns b hi, e2]; exact e, ?_⟩
      rw [rotK_get ns ks b hi, e2]
      exact List.mem_append_left _ ht
    · obtain ⟨j, hj, rfl⟩ := List.getElem_of_mem hs
      obtain ⟨i, hi, e2⟩ := rot_surj hn b j hj
      refine ⟨i, by rw [rotN_len]; exact hi, by rw [rotN_get ns b hi, e2, getD_get hj], ?_⟩
      rw [rotK_get ns ks b hi, e2, getD_get hj]
      simp
theorem rot_topo {ns : List ByteArray} (hn : 0 < ns.length) (ks : List (List ByteArray)) (b : Nat) : topoL (risL ns) (finN ns ks) = topoL (risL (rotN ns b ns.length)) (finN (rotN ns b ns.length) (rotK ns ks b ns.length)) :=
  topo_congr (rot_mem hn b) (fun s t hne => by
    rw [rot_need hn]
    exact ⟨.inl, fun h => h.elim id (fun h2 => absurd h2.1 hne)⟩)
theorem rot_told {ns : List ByteArray} {ks : List (List ByteArray)} (hn : 0 < ns.length) (hk : ks.length = ns.length) (h1 : ns.length + tot ks ns.length ≤ 60) (h3 : ∀ s ∈ ns, s.size ≤ maxLen) (h4 : ∀ l ∈ ks, ∀ s ∈ l, s.size ≤ maxLen) (b : Nat) : Told (rotN ns b ns.length) (rotK ns ks b ns.length) := by
  refine ⟨by rw [rotN_len]; omega, ?_, fun s => ?_, fun s hs => h3 s ((rot_mem hn b s).2 hs), fun l hl s hs => ?_⟩
  · rw [rotN_len]
    have := tot_le (rotK ns ks b ns.length) 61 ns.length (fun j hj => by
      rw [rotK_get ns ks b hj, List.length_append, List.length_singleton]
      have := tot_one (ks := ks) (Nat.mod_lt (j + b) hn)
      omega)
    omega
  · have h5 : (getN (finN (rotN ns b ns.length) (rotK ns ks b ns.length)) s).length ≤ (s :: getN (finN ns ks) s).length := by
      refine nodup_len ((fin_inc _ _ s).imp (fun h e => by subst e; exact bt_irr _ h)) (fun t ht => ?_)
      rw [fin_mem, rot_need hn] at ht
      rcases ht with ht | ht
      · exact List.mem_cons_of_mem _ ((fin_mem _ _ _ _).2 ht)
      · rw [ht.1]; exact List.mem_cons_self ..
    have h6 := fin_len ns ks s
    rw [List.length_cons] at h5
    omega
  · obtain ⟨i, _, rfl⟩ := List.mem_map.1 hl
    have hm := Nat.mod_lt (i + b) hn
    rcases List.mem_append.1 hs with h5 | h5
    · exact h4 _ (ss_mem (by omega)) s h5
    · rw [List.mem_singleton] at h5
      rw [h5]; exact h3 _ (getD_mem2 hm)
end Go.Proofs.Ytdliecailkkciaa

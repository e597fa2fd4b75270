/-
  The list of what is still to be looked at. No program text but the types' numbers.
-/
import Derived.Test.YtcmgafehidgkmaaRfNamed
import Derived.Test.YtcmgafehidgkmaaRfPartsWalk
namespace Go.Proofs.Ytcmgafehidgkmaa
open Go.RowKit
set_option linter.unusedVariables false

mutual
def cntT : T → Nat
  | .mk _ _ _ _ ks => 1 + cntL ks
def cntL : List T → Nat
  | [] => 0
  | k :: r => cntT k + cntL r
end
theorem cntT_mk (k : UInt8) (x : Bool) (d : List UInt8) (ns : List ByteArray) (ks : List T) : cntT (.mk k x d ns ks) = 1 + cntL ks := by rw [cntT]
theorem cntL_append : ∀ p q : List T, cntL (p ++ q) = cntL p + cntL q
  | [], q => by simp [cntL]
  | k :: p, q => by rw [List.cons_append, cntL, cntL, cntL_append p q]; omega
theorem cntL_one (t : T) : cntL [t] = cntT t := by simp [cntL]
theorem cntT_pos : ∀ t : T, 1 ≤ cntT t
  | .mk k x d ns ks => by rw [cntT_mk]; omega
theorem cntL_len : ∀ l : List T, l.length ≤ cntL l
  | [] => by simp
  | k :: r => by
    have h1 := cntL_len r
    have h2 := cntT_pos k
    rw [cntL, List.length_cons]; omega

/-- What is met in one of these. -/
def MetL (ts : List T) (K : Bts) : Prop := ∃ i, i < ts.length ∧ MetT (ts.getD i default) K
theorem metL_append {p q : List T} {K : Bts} : MetL (p ++ q) K ↔ MetL p K ∨ MetL q K := by
  constructor
  · rintro ⟨i, hi, h⟩
    by_cases e : i < p.length
    · exact .inl ⟨i, e, by rw [List.getD_eq_getElem?_getD, List.getElem?_append_left e, ← List.getD_eq_getElem?_getD] at h; exact h⟩
    · exact .inr ⟨i - p.length, by rw [List.length_append] at hi; omega, by rw [List.getD_eq_getElem?_getD, List.getElem?_append_right (by omega), ← List.getD_eq_getElem?_getD] at h; exact h⟩
  · rintro (⟨i, hi, h⟩ | ⟨i, hi, h⟩)
    · exact ⟨i, by rw [List.length_append]; omega, by rw [List.getD_eq_getElem?_getD, List.getElem?_append_left hi, ← List.getD_eq_getElem?_getD]; exact h⟩
    · exact ⟨p.length + i, by rw [List.length_append]; omega, by rw [List.getD_eq_getElem?_getD, List.getElem?_append_right (by omega), show p.length + i - p.length = i by omega, ← List.getD_eq_getElem?_getD]; exact h⟩
theorem metL_one {t : T} {K : Bts} : MetL [t] K ↔ MetT t K := by
  constructor
  · rintro ⟨i, hi, h⟩
    obtain rfl : i = 0 := by simpa using hi
    exact h
  · exact fun h => ⟨0, by simp, h⟩
theorem metL_nil {K : Bts} : ¬ MetL [] K := by rintro ⟨i, hi, _⟩; simp at hi

/-- Cells, five by five, that read as trees. -/
def Tds (w : World) (ts : List T) (css : List (List Value)) : Prop := css.length = ts.length ∧ ∀ i, i < ts.length → (css.getD i []).length = 5 ∧ Small (ts.getD i default) ∧ ∃ n, IsT w n (css.getD i []) (ts.getD i default)
theorem flat_len : ∀ {css : List (List Value)}, (∀ i, i < css.length → (css.getD i []).length = 5) → css.flatten.length = css.length * 5
  | [], _ => rfl
  | c :: css, h => by
    have h0 := h 0 (by simp)
    rw [List.flatten_cons, List.length_append, flat_len (css := css) (fun i hi => h (i + 1) (by simpa using hi)), List.length_cons]
    have h1 : c.length = 5 := h0
    omega
theorem flat_at : ∀ {css : List (List Value)}, (∀ i, i < css.length → (css.getD i []).length = 5) → ∀ (i j : Nat), i < css.length → j < 5 → css.flatten[i * 5 + j]? = (css.getD i [])[j]?
  | c :: css, h, 0, j, _, hj => by
    have h0 : c.length = 5 := h 0 (by simp)
    rw [List.flatten_cons, Nat.zero_mul, Nat.zero_add, List.getElem?_append_left (by omega)]; rfl
  | c :: css, h, i + 1, j, hi, hj => by
    have h0 : c.length = 5 := h 0 (by simp)
    have ih := flat_at (css := css) (fun k hk => h (k + 1) (by simpa using hk)) i j (by simpa using hi) hj
    rw [List.flatten_cons, List.getElem?_append_right (by omega), show (i + 1) * 5 + j - c.length = i * 5 + j by omega, ih]; rfl
theorem Tds.snoc {w : World} {ts : List T} {css : List (List Value)} {x : T} (h : Tds w (ts ++ [x]) css) : ∃ css' c, css = css' ++ [c] ∧ Tds w ts css' ∧ c.length = 5 ∧ Small x ∧ ∃ n, IsT w n c x := by
  obtain ⟨h1, h2⟩ := h
  rcases List.eq_nil_or_concat css with e | ⟨css', c', e⟩
  · subst e; simp at h1
  · rw [List.concat_eq_append] at e
    subst e
    have hl : css'.length = ts.length := by simpa using h1
    refine ⟨css', c', rfl, ⟨hl, fun i hi => ?_⟩, ?_⟩
    · have h3 := h2 i (by simp; omega)
      rw [List.getD_eq_getElem?_getD, List.getElem?_append_left (by omega), ← List.getD_eq_getElem?_getD, List.getD_eq_getElem?_getD (l := ts ++ [x]), List.getElem?_append_left hi, ← List.getD_eq_getElem?_getD] at h3
      exact h3
    · have h3 := h2 ts.length (by simp)
      have e1 : (css' ++ [c']).getD ts.length [] = c' := by rw [← hl, List.getD_eq_getElem?_getD, List.getElem?_append_right (Nat.le_refl _), Nat.sub_self]; rfl
      have e2 : (ts ++ [x]).getD ts.length default = x := by rw [List.getD_eq_getElem?_getD, List.getElem?_append_right (Nat.le_refl _), Nat.sub_self]; rfl
      rw [e1, e2] at h3
      exact h3
theorem Tds.append {w : World} {ts us : List T} {css dss : List (List Value)} (h : Tds w ts css) (k : Tds w us dss) : Tds w (ts ++ us) (css ++ dss) := by
  obtain ⟨h1, h2⟩ := h
  obtain ⟨k1, k2⟩ := k
  refine ⟨by simp [h1, k1], fun i hi => ?_⟩
  by_cases e : i < ts.length
  · rw [List.getD_eq_getElem?_getD, List.getElem?_append_left (by omega), ← List.getD_eq_getElem?_getD, List.getD_eq_getElem?_getD (l := ts ++ us), List.getElem?_append_left e, ← List.getD_eq_getElem?_getD]
    exact h2 i e
  · rw [List.getD_eq_getElem?_getD, List.getElem?_append_right (by omega), ← List.getD_eq_getElem?_getD, List.getD_eq_getElem?_getD (l := ts ++ us), List.getElem?_append_right (by omega), ← List.getD_eq_getElem?_getD, h1]
    exact k2 (i - ts.length) (by rw [List.length_append] at hi; omega)
/-- The parts of a tree, as a list of cells. -/
theorem kids_list {w : World} {n : Nat} {ak : Option Addr} {nk ck : Nat} {ks : List T} (h : IsK (IsT w n) w ak nk ck ks) (hsm : ∀ i, i < ks.length → Small (ks.getD i default)) :
    ∃ css, Tds w ks css ∧ (nk = 0 ∨ ∃ b off, ak = some ⟨b, off, none⟩ ∧ b < w.heap.size ∧ w.rangeAt b off css.flatten) := by
  have hl := h.length
  rcases h.at_ with h0 | ⟨b, off, rfl, hb, hc⟩
  · subst h0
    obtain rfl : ks = [] := List.eq_nil_of_length_eq_zero hl
    exact ⟨[], ⟨rfl, fun i hi => by simp at hi⟩, .inl rfl⟩
  · have hall : ∀ i, i < nk → ∃ c : List Value, c.length = 5 ∧ IsT w n c (ks.getD i default) ∧ ∀ j v, c[j]? = some v → w.cell? ⟨b, off + (i * 5 + j), none⟩ = some v := by
      intro i hi
      obtain ⟨c0, c1, c2, c3, c4, hR, e0, e1, e2, e3, e4⟩ := hc i hi
      refine ⟨[c0, c1, c2, c3, c4], rfl, hR, fun j v hv => ?_⟩
      match j, hv with
      | 0, hv => cases hv; exact e0
      | 1, hv => cases hv; exact e1
      | 2, hv => cases hv; exact e2
      | 3, hv => cases hv; exact e3
      | 4, hv => cases hv; exact e4
      | j + 5, hv => simp at hv
    obtain ⟨f, hf⟩ := Deep.choose_lt hall
    have hg : ∀ i, i < nk → ((List.range nk).map f).getD i [] = f i := fun i hi => by simp [List.getD, hi]
    have h5 : ∀ i, i < ((List.range nk).map f).length → (((List.range nk).map f).getD i []).length = 5 := fun i hi => by
      have hi' : i < nk := by simpa using hi
      rw [hg i hi']; exact (hf i hi').1
    refine ⟨(List.range nk).map f, ⟨by simp [hl], fun i hi => ?_⟩, .inr ⟨b, off, rfl, hb, ?_⟩⟩
    · have hi' : i < nk := by omega
      rw [hg i hi']
      exact ⟨(hf i hi').1, hsm i hi, n, (hf i hi').2.1⟩
    · intro j v hv
      have hjl : j < nk * 5 := by
        obtain ⟨h1, _⟩ := List.getElem?_eq_some_iff.1 hv
        rw [flat_len h5] at h1; simpa using h1
      have e : j = (j / 5) * 5 + j % 5 := by omega
      have hq : j / 5 < nk := by omega
      rw [e, flat_at h5 (j / 5) (j % 5) (by simpa using hq) (by omega), hg _ hq] at hv
      rw [e]
      exact (hf _ hq).2.2 _ _ hv
theorem isT_one {w : World} {n : Nat} {cs : List Value} {t : T} (h : IsT w n cs t) : ∀ u ∈ cs, u.oneCell' = true := by
  cases n with
  | zero => exact absurd h (by simp [IsT])
  | succ n =>
    cases t
    obtain ⟨_, _, _, _, _, _, _, _, _, rfl, _⟩ := h
    intro u hu
    simp only [List.mem_cons, List.not_mem_nil, or_false] at hu
    rcases hu with rfl | rfl | rfl | rfl | rfl <;> rfl
theorem Tds.one {w : World} {ts : List T} {css : List (List Value)} (h : Tds w ts css) : ∀ u ∈ css.flatten, u.oneCell' = true := by
  intro u hu
  obtain ⟨c, hc, hu⟩ := List.mem_flatten.1 hu
  obtain ⟨i, hi, e⟩ := List.getElem_of_mem hc
  obtain ⟨_, _, n, hT⟩ := h.2 i (by rw [← h.1]; exact hi)
  rw [List.getD_eq_getElem?_getD, List.getElem?_eq_getElem hi, Option.getD_some, e] at hT
  exact isT_one hT u hu
theorem Tds.five {w : World} {ts : List T} {css : List (List Value)} (h : Tds w ts css) : ∀ i, i < css.length → (css.getD i []).length = 5 := fun i hi => (h.2 i (by rw [← h.1]; exact hi)).1
/-- The first of a row of one's own. -/
theorem own_take {w : World} {B g c n m size : Nat} {e : TypeId} {xs : List Value} (h : w.ownsRow B e size (.slice (some ⟨g, 0, none⟩) n c) n xs) (hm : m ≤ n) : w.ownsRow B e size (.slice (some ⟨g, 0, none⟩) m c) m (xs.take (m * size)) := by
  have hmul : m * size ≤ n * size := Nat.mul_le_mul_right _ hm
  rcases h.2 with ⟨h1, _⟩ | ⟨g', c', cur, h1, hb, hg, hnc, hcm, hcs, ht⟩
  · cases h1
  · simp only [Value.slice.injEq, Option.some.injEq, Addr.mk.injEq, and_true, true_and] at h1
    obtain ⟨rfl, rfl⟩ := h1
    refine ⟨by rw [List.length_take, h.1]; omega, .inr ⟨g, c, cur, rfl, hb, hg, Nat.le_trans hm hnc, hcm, hcs, ?_⟩⟩
    rw [← ht, List.take_take, Nat.min_eq_left hmul]
/-- 'append' of parts that came in, nil and empty ones too. -/
theorem wpList_append_kids {P : Program} {w : World} {ops : Array Oper} {rest : List Oper} {o : Oper} {a : Act} {Q : Exit → Act → World → Prop} (hgd : o.guard = none) (s x : Operand) (t : TypeId)
    (ho : o.op = .call { callee := .builtin .append, args := #[s, x], argTypes := #[t, t] })
    (base : Nat) (e : TypeId) (i : TypeInfo) (z : Value) (ht : P.underlying t = some (.slice e)) (hi : P.info? e = some i) (hz : i.zero = some z)
    (hsize : i.size = 5) (hby : i.bytes = 80) (hzs : z.cells.size = 5)
    (v : Value) (n : Nat) (xs : List Value) (hs : a.eval s = v) (hown : w.ownsRow base e 5 v n xs)
    (ao : Option Addr) (m c : Nat) (news : List Value) (hx : a.eval x = .slice ao m c) (hnil : ao = none → m = 0 ∧ c = 0) (hl : news.length = m * 5) (hsrc : m = 0 ∨ ∃ b off, ao = some ⟨b, off, none⟩ ∧ w.rangeAt b off news) (h1 : ∀ u ∈ news, u.oneCell' = true)
    (hbytes : (n + m) * 80 ≤ 140737488355328) (hbase : base ≤ w.heap.size)
    (h : ∀ v' w', w'.ownsRow base e 5 v' (n + m) (xs ++ news) → w.grownBy w' v.ownBlock → wpList P ops Q rest (a.put o.dst v') w') : wpList P ops Q (o :: rest) a w := by
  cases ao with
  | none =>
    obtain ⟨rfl, rfl⟩ := hnil rfl
    obtain rfl : news = [] := List.eq_nil_of_length_eq_zero (by simpa using hl)
    refine wpList_append_own_none hgd s x t ho base e i 5 ht hi v n xs hs hown hx ?_
    exact h v w (by simpa using hown) (World.grownBy.refl w _)
  | some ad =>
    refine wpList_append_own w hgd s x t ho base e i _ 5 80 ht hi hz hsize hby hzs (by omega) v n xs hs hown ad m c news hx hl ?_ h1 (by unfold maxLen; omega) (by omega) hbase ?_
    · intro j u hj
      rcases hsrc with h0 | ⟨b, off, he, hr⟩
      · subst h0
        obtain rfl : news = [] := List.eq_nil_of_length_eq_zero (by simpa using hl)
        simp at hj
      · cases he
        rw [Addr.add_mid]
        exact hr j u hj
    · intro v' w' h5 h6 _
      exact h v' w' h5 h6

end Go.Proofs.Ytcmgafehidgkmaa

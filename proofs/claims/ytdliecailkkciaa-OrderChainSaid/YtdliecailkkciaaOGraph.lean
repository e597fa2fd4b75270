/-
  A graph as a function of the names and needs that it is made of; where it stands in memory.
-/
import Derived.Test.YtdliecailkkciaaOGr
import Derived.Test.YtdliecailkkciaaORise
namespace Go.Proofs.Ytdliecailkkciaa
open Go.RowKit
set_option linter.unusedVariables false

/-! Texts, rising, each once. -/
def unb (b : Bts) : ByteArray := ⟨b.toArray⟩
theorem unb_bts (x : ByteArray) : unb (btsOf x) = x := by
  unfold unb btsOf; rw [Array.toArray_toList]
theorem bts_unb (b : Bts) : btsOf (unb b) = b := rfl
theorem bts_inj {x y : ByteArray} (h : btsOf x = btsOf y) : x = y := by rw [← unb_bts x, h, unb_bts]
def risL (l : List ByteArray) : List ByteArray := (sortT (l.map btsOf)).map unb
theorem risL_of {out l : List ByteArray} (h : out.map btsOf = sortT (l.map btsOf)) : out = risL l := by
  unfold risL
  rw [← h, List.map_map]
  have : (unb ∘ btsOf) = id := by funext x; exact unb_bts x
  rw [this, List.map_id]
theorem risL_bts (l : List ByteArray) : (risL l).map btsOf = sortT (l.map btsOf) := by
  unfold risL
  rw [List.map_map]
  have : (btsOf ∘ unb) = id := by funext x; rfl
  rw [this, List.map_id]
theorem risL_mem {l : List ByteArray} {x : ByteArray} : x ∈ risL l ↔ x ∈ l := by
  unfold risL
  constructor
  · intro h
    obtain ⟨b, hb, rfl⟩ := List.mem_map.1 h
    rw [sortT_mem] at hb
    obtain ⟨y, hy, rfl⟩ := List.mem_map.1 hb
    rw [unb_bts]; exact hy
  · intro h
    exact List.mem_map.2 ⟨btsOf x, (sortT_mem _ _).2 (List.mem_map.2 ⟨x, h, rfl⟩), unb_bts x⟩
theorem risL_inc (l : List ByteArray) : (risL l).Pairwise (fun x y => btsOf x < btsOf y) := by
  have h : Inc ((risL l).map btsOf) := by rw [risL_bts]; exact sortT_inc _
  exact List.pairwise_map.1 h
theorem risL_nodup (l : List ByteArray) : (risL l).Nodup :=
  List.Pairwise.imp (R := fun x y : ByteArray => btsOf x < btsOf y) (S := fun x y => x ≠ y) (fun {a b} h e => by subst e; exact bt_irr _ h) (risL_inc l)
noncomputable instance memDec (s : ByteArray) (l : List ByteArray) : Decidable (s ∈ l) := Classical.propDecidable _

/-! What New's two loops come to. -/
def nsN (ns : List ByteArray) (ks : List (List ByteArray)) : Nat → ByteArray → Option (List ByteArray)
  | 0 => fun _ => none
  | i + 1 => putN (nsN ns ks i) (ns.getD i ⟨#[]⟩) (getN (nsN ns ks i) (ns.getD i ⟨#[]⟩) ++ ks.getD i [])
def gath (ns : List ByteArray) (ks : List (List ByteArray)) : Nat → ByteArray → List ByteArray
  | 0, _ => []
  | i + 1, s => if s = ns.getD i ⟨#[]⟩ then gath ns ks i s ++ ks.getD i [] else gath ns ks i s
def tot (ks : List (List ByteArray)) : Nat → Nat
  | 0 => 0
  | i + 1 => tot ks i + (ks.getD i []).length
theorem tot_mono (ks : List (List ByteArray)) {i j : Nat} (h : i ≤ j) : tot ks i ≤ tot ks j := by
  induction h with
  | refl => exact Nat.le_refl _
  | step _ ih => exact Nat.le_trans ih (Nat.le_add_right _ _)
theorem nsN_get (ns : List ByteArray) (ks : List (List ByteArray)) : ∀ i s, getN (nsN ns ks i) s = gath ns ks i s
  | 0, _ => rfl
  | i + 1, s => by
    have ih := nsN_get ns ks i
    unfold getN at ih
    unfold nsN gath getN putN
    by_cases h : s = ns.getD i ⟨#[]⟩
    · rw [if_pos h, if_pos h]
      show getN (nsN ns ks i) (ns.getD i ⟨#[]⟩) ++ ks.getD i [] = _
      rw [← h]
      show (nsN ns ks i s).getD [] ++ _ = _
      rw [ih s]
    · rw [if_neg h, if_neg h]; exact ih s
theorem nsN_some (ns : List ByteArray) (ks : List (List ByteArray)) : ∀ i s, i ≤ ns.length → ((nsN ns ks i s).isSome = true ↔ s ∈ ns.take i)
  | 0, _, _ => by simp [nsN]
  | i + 1, s, h => by
    have ih := nsN_some ns ks i s (by omega)
    have hg : ns.getD i ⟨#[]⟩ = ns[i] := by rw [List.getD_eq_getElem?_getD, List.getElem?_eq_getElem (by omega)]; rfl
    rw [List.take_succ_eq_append_getElem (by omega), List.mem_append, List.mem_singleton]
    unfold nsN putN
    by_cases h2 : s = ns.getD i ⟨#[]⟩
    · rw [if_pos h2]
      exact ⟨fun _ => .inr (by rw [h2, hg]), fun _ => rfl⟩
    · rw [if_neg h2, ih]
      exact ⟨.inl, fun h3 => h3.elim id (fun e => absurd (by rw [e, hg]) h2)⟩
theorem gath_len (ns : List ByteArray) (ks : List (List ByteArray)) : ∀ i s, (gath ns ks i s).length ≤ tot ks i
  | 0, _ => Nat.le_refl _
  | i + 1, s => by
    have ih := gath_len ns ks i s
    unfold gath tot
    by_cases h : s = ns.getD i ⟨#[]⟩
    · rw [if_pos h, List.length_append]; omega
    · rw [if_neg h]; omega
theorem gath_mem (ns : List ByteArray) (ks : List (List ByteArray)) (x : ByteArray) : ∀ i s, x ∈ gath ns ks i s ↔ ∃ j, j < i ∧ ns.getD j ⟨#[]⟩ = s ∧ x ∈ ks.getD j []
  | 0, _ => by simp [gath]
  | i + 1, s => by
    have ih := gath_mem ns ks x i s
    unfold gath
    by_cases h : s = ns.getD i ⟨#[]⟩
    · rw [if_pos h, List.mem_append, ih]
      constructor
      · rintro (⟨j, h1, h2⟩ | h1)
        · exact ⟨j, by omega, h2⟩
        · exact ⟨i, by omega, h.symm, h1⟩
      · rintro ⟨j, h1, h2, h3⟩
        by_cases hj : j = i
        · subst hj; exact .inr h3
        · exact .inl ⟨j, by omega, h2, h3⟩
    · rw [if_neg h, ih]
      constructor
      · rintro ⟨j, h1, h2⟩; exact ⟨j, by omega, h2⟩
      · rintro ⟨j, h1, h2, h3⟩
        by_cases hj : j = i
        · subst hj; exact absurd h2.symm h
        · exact ⟨j, by omega, h2, h3⟩
def rsN (N : ByteArray → Option (List ByteArray)) (G : List ByteArray) : Nat → ByteArray → Option (List ByteArray)
  | 0 => N
  | j + 1 => putN (rsN N G j) (G.getD j ⟨#[]⟩) (risL (getN (rsN N G j) (G.getD j ⟨#[]⟩)))
theorem rsN_eq (N : ByteArray → Option (List ByteArray)) (G : List ByteArray) (hG : G.Nodup) : ∀ j, j ≤ G.length → ∀ s, rsN N G j s = if s ∈ G.take j then some (risL (getN N s)) else N s
  | 0, _, s => by simp [rsN]
  | j + 1, h, s => by
    have ih := rsN_eq N G hG j (by omega)
    have hg : G.getD j ⟨#[]⟩ = G[j] := by rw [List.getD_eq_getElem?_getD, List.getElem?_eq_getElem (by omega)]; rfl
    have hni : G[j] ∉ G.take j := by
      intro hm
      obtain ⟨i, hi, e⟩ := List.mem_take_iff_getElem.1 hm
      exact List.pairwise_iff_getElem.1 hG i j (by omega) (by omega) (by omega) e
    have hmem : s ∈ G.take (j + 1) ↔ s ∈ G.take j ∨ s = G[j] := by rw [List.take_succ_eq_append_getElem (by omega), List.mem_append, List.mem_singleton]
    unfold rsN putN
    rw [hg]
    by_cases h2 : s = G[j]
    · rw [if_pos h2, if_pos (hmem.2 (.inr h2))]
      unfold getN
      rw [ih (G[j]), if_neg hni, h2]
    · rw [if_neg h2, ih s]
      by_cases h3 : s ∈ G.take j
      · rw [if_pos h3, if_pos (hmem.2 (.inl h3))]
      · rw [if_neg h3, if_neg (fun h4 => (hmem.1 h4).elim h3 h2)]
/-- A graph's needs. -/
noncomputable def finN (ns : List ByteArray) (ks : List (List ByteArray)) : ByteArray → Option (List ByteArray) := fun s => if s ∈ ns then some (risL (gath ns ks ns.length s)) else none
theorem rsN_fin (ns : List ByteArray) (ks : List (List ByteArray)) (s : ByteArray) : rsN (nsN ns ks ns.length) (risL ns) (risL ns).length s = finN ns ks s := by
  rw [rsN_eq _ _ (risL_nodup ns) _ (Nat.le_refl _), List.take_length]
  unfold finN
  have h1 := nsN_some ns ks ns.length s (Nat.le_refl _)
  rw [List.take_length] at h1
  by_cases h : s ∈ ns
  · rw [if_pos h, if_pos (risL_mem.2 h), nsN_get]
  · rw [if_neg h, if_neg (fun h2 => h (risL_mem.1 h2))]
    cases hn : nsN ns ks ns.length s with
    | none => rfl
    | some l => rw [hn] at h1; exact absurd (h1.1 rfl) h
theorem risL_len (l : List ByteArray) : (risL l).length ≤ l.length := by
  have h : ∀ (x : Bts) (t : List Bts), (putT x t).length ≤ t.length + 1 := by
    intro x t
    induction t with
    | nil => simp [putT]
    | cons y t ih =>
      unfold putT
      by_cases hy : y < x
      · rw [if_pos hy]; simp only [List.length_cons]; omega
      · rw [if_neg hy, List.length_cons]
        have := List.length_filter_le (fun z => z != x) (y :: t)
        omega
  have h2 : ∀ (l o : List Bts), (l.foldl (fun o s => putT s o) o).length ≤ o.length + l.length := by
    intro l
    induction l with
    | nil => intro o; simp
    | cons x l ih =>
      intro o
      rw [List.foldl_cons, List.length_cons]
      have := ih (putT x o)
      have := h x o
      omega
  unfold risL sortT
  rw [List.length_map]
  have := h2 (l.map btsOf) []
  simp only [List.length_nil, List.length_map] at this
  omega
theorem rsN_len (ns : List ByteArray) (ks : List (List ByteArray)) (j : Nat) (hj : j ≤ (risL ns).length) (s : ByteArray) : (getN (rsN (nsN ns ks ns.length) (risL ns) j) s).length ≤ tot ks ns.length := by
  have h := gath_len ns ks ns.length s
  rw [← nsN_get] at h
  unfold getN at h ⊢
  rw [rsN_eq _ _ (risL_nodup ns) _ hj]
  by_cases h1 : s ∈ (risL ns).take j
  · rw [if_pos h1]
    refine Nat.le_trans (risL_len _) h
  · rw [if_neg h1]; exact h

/-! Where they stand. -/
/-- A slice of slices of texts. -/
structure IsSS (w : World) (a : Option Addr) (len cap : Nat) (ls : List (List ByteArray)) : Prop where
  length : ls.length = len
  at_ : len = 0 ∨ ∃ b off, a = some ⟨b, off, none⟩ ∧ b < w.heap.size ∧ ∀ i, i < len → ∃ ao m c, w.cell? ⟨b, off + i, none⟩ = some (.slice ao m c) ∧ IsS w ao m c (ls.getD i [])
  nil : a = none → len = 0 ∧ cap = 0
  room : len ≤ cap ∧ cap ≤ maxLen
theorem IsSS.later {w w' : World} {a : Option Addr} {len cap : Nat} {l : List (List ByteArray)} (h : IsSS w a len cap l) (hb : Below w.heap.size w w') : IsSS w' a len cap l := by
  refine ⟨h.length, ?_, h.nil, h.room⟩
  rcases h.at_ with h0 | ⟨b, off, rfl, hlt, hc⟩
  · exact .inl h0
  · refine .inr ⟨b, off, rfl, Nat.lt_of_lt_of_le hlt hb.size, fun i hi => ?_⟩
    obtain ⟨ao, m, c, h1, h2⟩ := hc i hi
    exact ⟨ao, m, c, (hb.cell (p := ⟨b, off + i, none⟩) hlt).trans h1, h2.later hb⟩
/-- A graph. -/
structure Gr (w : World) (gb : Nat) (G : List ByteArray) (N : ByteArray → Option (List ByteArray)) : Prop where
  ex : ∃ a n c mb k M, Has w gb [.slice a n c, .map (some mb)] 47 ∧ IsS w a n c G ∧ MapV w mb k M ∧ (∀ s, (M s).isSome = (N s).isSome) ∧ ∀ s l, N s = some l → ∃ a n c, M s = some (.slice a n c) ∧ IsS w a n c l
theorem Gr.lt {w : World} {gb : Nat} {G : List ByteArray} {N : ByteArray → Option (List ByteArray)} (h : Gr w gb G N) : gb < w.heap.size := by
  obtain ⟨a, n, c, mb, k, M, h1, _⟩ := h.ex
  exact h1.lt
theorem Gr.later {w w' : World} {gb : Nat} {G : List ByteArray} {N : ByteArray → Option (List ByteArray)} (h : Gr w gb G N) (hb : Below w.heap.size w w') : Gr w' gb G N := by
  obtain ⟨a, n, c, mb, k, M, h1, h2, h3, h4, h5⟩ := h.ex
  refine ⟨a, n, c, mb, k, M, h1.below hb h1.lt, h2.later hb, h3.below hb h3.lt, h4, fun s l hl => ?_⟩
  obtain ⟨a', n', c', h6, h7⟩ := h5 s l hl
  exact ⟨a', n', c', h6, h7.later hb⟩
theorem NM.gr {w : World} {gb mb B k : Nat} {M : ByteArray → Option Value} {N N' : ByteArray → Option (List ByteArray)} {G : List ByteArray} {a : Option Addr} {n c : Nat} (h : NM w mb B k M N) (hN : ∀ s, N s = N' s) (hH : Has w gb [.slice a n c, .map (some mb)] 47) (hS : IsS w a n c G) : Gr w gb G N' := by
  refine ⟨a, n, c, mb, k, M, hH, hS, h.map, fun s => by rw [h.same s, hN s], fun s l hl => ?_⟩
  rw [← hN s] at hl
  have h1 := h.same s
  rw [hl] at h1
  obtain ⟨v, hv⟩ := Option.isSome_iff_exists.1 h1
  obtain ⟨a', c', rfl, h2⟩ := owns_isS (h.row s v l hv hl)
  exact ⟨a', _, c', hv, h2⟩
end Go.Proofs.Ytdliecailkkciaa

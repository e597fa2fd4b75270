/-
  Edits that came in; edits in a row of one's own. No program text but the types' numbers.
-/
import Derived.Test.YtbempgdndmchlaaDoorERunA
import Derived.Test.YtbempgdndmchlaaDoorTOpen
namespace Go.Proofs.YtbempgdndmchlaaDoor
open Go.RowKit Go.ChangeShapes Go.WideShapes
set_option linter.unusedVariables false

section
variable {H : Type} {enc : TypeId × Value → H} {w : World} {base : Nat} {held : Bool}

theorem isX_up {m : Nat} {cs : List Value} {x : EdD} (h : IsX w m cs x) : IsX w (m + 1) cs x := by
  obtain ⟨ct, h1, h2⟩ := h
  exact ⟨ct, h1, isT_up _ _ _ h2⟩
set_option maxRecDepth 100000 in
theorem isX_of {fuel : Nat} {cs : List Value} {x : DataW H × List MemPlace} (h : DataW.trod enc Tryd.prog w base (fun _ => true) held fuel 41 cs = some x)
    (hw : ∀ m ∈ x.1.weights Tryd.prog 41, m ≤ reachBytes) : ∃ y, IsX w fuel cs y ∧ Small y.tree ∧ cs.length = 8 := by
  obtain ⟨xs, n, rfl, hx, hlen, hxl, hg⟩ := DataW.trod_struct Tryd.underlying41 h
  have hC : Tryd.prog.cellsOf 41 = 8 := by kernel_rfl
  have k0 : Tryd.prog.cellsOf 5 = 1 := by kernel_rfl
  have k1 : Tryd.prog.cellsOf 9 = 1 := by kernel_rfl
  have k2 : Tryd.prog.cellsOf 26 = 5 := by kernel_rfl
  rw [hC] at hlen
  have hW : ∀ m ∈ DataW.weightsEach Tryd.prog [5, 9, 9, 26] (xs.map (·.1)), m ≤ reachBytes := by
    rw [hx] at hw
    simpa [DataW.weights, Tryd.underlying41] using hw
  obtain ⟨c0, c1, c2, c3, c4, c5, c6, c7, rfl⟩ : ∃ a b c d e f g h, cs = [a, b, c, d, e, f, g, h] := by
    match cs, hlen with
    | [a, b, c, d, e, f, g, h], _ => exact ⟨a, b, c, d, e, f, g, h, rfl⟩
  obtain ⟨y0, y1, y2, y3, rfl⟩ : ∃ a b c d, xs = [a, b, c, d] := by
    match xs, (show xs.length = 4 from hxl) with
    | [a, b, c, d], _ => exact ⟨a, b, c, d, rfl⟩
  have g0 : DataW.trod enc Tryd.prog w base (fun _ => true) held n 5 [c0] = some y0 := by simpa [k0] using hg 0 _ rfl
  have g1 : DataW.trod enc Tryd.prog w base (fun _ => true) held n 9 [c1] = some y1 := by simpa [k0, k1] using hg 1 _ rfl
  have g2 : DataW.trod enc Tryd.prog w base (fun _ => true) held n 9 [c2] = some y2 := by simpa [k0, k1] using hg 2 _ rfl
  have g3 : DataW.trod enc Tryd.prog w base (fun _ => true) held n 26 [c3, c4, c5, c6, c7] = some y3 := by simpa [k0, k1, k2] using hg 3 _ rfl
  obtain ⟨z, hz, _, hzw⟩ := DataW.trod_int Tryd.underlying5 g0
  obtain ⟨s1, hs1, _, _⟩ := DataW.trod_string Tryd.underlying9 g1
  obtain ⟨s2, hs2, _, _⟩ := DataW.trod_string Tryd.underlying9 g2
  obtain ⟨t, hT, hsm⟩ := isT_of n _ _ g3 (fun m hm => hW m (DataW.weights_mem_each (j := 3) rfl rfl m hm))
  simp only [List.cons.injEq, and_true] at hz hs1 hs2
  subst hz hs1 hs2
  exact ⟨⟨UInt8.ofNat z.toNat, s1, s2, t⟩, ⟨[c3, c4, c5, c6, c7], by simp only [List.cons_append, List.nil_append]; rw [byte_back hzw], isT_up _ _ _ hT⟩, hsm, rfl⟩

theorem isXs_of {fuel : Nat} {c : Value} {x : DataW H × List MemPlace} (h : DataW.trod enc Tryd.prog w base (fun _ => true) held fuel 27 [c] = some x)
    (hw : ∀ m ∈ x.1.weights Tryd.prog 27, m ≤ reachBytes) : ∃ m a len cap l, c = .slice a len cap ∧ IsXs w m a len cap l ∧ (∀ i, i < l.length → Small (l.getD i default).tree) ∧ len * 120 ≤ 140737488355328 := by
  have hC : Tryd.prog.cellsOf 41 = 8 := by kernel_rfl
  rcases Deep.open_slice Tryd.underlying27 h with ⟨hc, _⟩ | ⟨y, len, cap, m, n, D, Pl, hc, _, hl, hm, hmm, hxx, hx⟩
  · simp at hc
    exact ⟨0, none, 0, 0, [], hc, ⟨rfl, .inl rfl, fun _ => ⟨rfl, rfl⟩, Nat.le_refl _, Nat.zero_le _⟩, fun i hi => by simp at hi, by simp⟩
  · simp at hc
    have hb120 : Tryd.prog.bytesOf 41 = 120 := by kernel_rfl
    have h120 : len * 120 ≤ 140737488355328 := by
      have := hw ((len + (m - len)) * Tryd.prog.bytesOf 41) (by rw [hxx]; simp [DataW.weights, Tryd.underlying27])
      rw [hb120] at this
      unfold reachBytes at this
      omega
    have hlm : len ≤ m := by rw [hmm]; split <;> omega
    have hall : ∀ i, i < len → ∃ q : List Value × EdD, IsX w n q.1 q.2 ∧ Small q.2.tree ∧ q.1.length = 8 ∧ ∀ j, j < 8 → w.cell? (y.add (i * 8 + j)) = q.1[j]? := by
      intro i hi
      obtain ⟨cs', hcs', ht⟩ := hx i (by omega)
      rw [hC] at hcs'
      obtain ⟨_, hl8, hat⟩ := World.cells?_some hcs'
      obtain ⟨x', h1, h2, h3⟩ := isX_of ht (fun q hq => hw q (by
        rw [hxx]
        simp only [DataW.weights, Tryd.underlying27, List.mem_cons, List.mem_append]
        exact .inr (.inl (weights_all _ i (D i) (by rw [List.getElem?_map, List.getElem?_range hi]; rfl) q hq))))
      refine ⟨(cs', x'), h1, h2, h3, fun j hj => ?_⟩
      have := hat j (by omega)
      rw [Deep.add_add] at this
      exact this
    obtain ⟨f, hf⟩ := Deep.choose_lt hall
    have hgd : ∀ i, i < len → ((List.range len).map fun i => (f i).2).getD i default = (f i).2 := fun i hi => by simp [List.getD, hi]
    refine ⟨n, some y, len, cap, (List.range len).map (fun i => (f i).2), hc, ⟨by simp, ?_, (fun h => by cases h), hl, hm⟩, fun i hi => ?_, h120⟩
    · rcases Nat.eq_zero_or_pos len with h0 | h0
      · exact .inl h0
      · right
        obtain ⟨b, off, spot⟩ := y
        obtain ⟨_, _, hl0, hc0⟩ := hf 0 (by omega)
        have hc00 := hc0 0 (by omega)
        rw [List.getElem?_eq_getElem (by omega)] at hc00
        have hspot : spot = none := by simpa [Addr.add] using World.cell?_spot hc00
        subst hspot
        have hb := World.block_lt_of_cell? w _ hc00
        refine ⟨b, off, rfl, by simpa [Addr.add] using hb, fun i hi => ?_⟩
        obtain ⟨ho, _, hl8, hcs⟩ := hf i hi
        rw [hgd i hi]
        refine ⟨(f i).1, ho, fun j u hj => ?_⟩
        have hj8 : j < 8 := by
          obtain ⟨h1, _⟩ := List.getElem?_eq_some_iff.1 hj
          omega
        have := hcs j hj8
        rw [Addr.add_mid] at this
        rw [Nat.add_assoc, this, hj]
    · have hi' : i < len := by simpa using hi
      rw [hgd i hi']
      exact (hf i hi').2.1
end

/-! A row of one's own. -/
def eight (L : List Value) (i : Nat) : List Value := (L.drop (i * 8)).take 8
theorem eight_get {L : List Value} {i : Nat} (j : Nat) (hj : j < 8) : (eight L i)[j]? = L[i * 8 + j]? := by
  unfold eight
  rw [List.getElem?_take, if_pos hj, List.getElem?_drop]
theorem eight_none (L : List Value) (i j : Nat) (hj : ¬ j < 8) : (eight L i)[j]? = none := List.getElem?_eq_none (by unfold eight; rw [List.length_take]; omega)
theorem eight_left {A C : List Value} {i m : Nat} (hA : A.length = m * 8) (hi : i < m) : eight (A ++ C) i = eight A i := by
  refine List.ext_getElem? fun j => ?_
  by_cases hj : j < 8
  · rw [eight_get j hj, eight_get j hj, List.getElem?_append_left (by omega)]
  · rw [eight_none _ _ _ hj, eight_none _ _ _ hj]
theorem eight_right {A C : List Value} {i m : Nat} (hA : A.length = m * 8) (hi : m ≤ i) : eight (A ++ C) i = eight C (i - m) := by
  refine List.ext_getElem? fun j => ?_
  by_cases hj : j < 8
  · rw [eight_get j hj, eight_get j hj, List.getElem?_append_right (by omega)]
    congr 1; omega
  · rw [eight_none _ _ _ hj, eight_none _ _ _ hj]

/-- A list of edits as one list of cells. -/
theorem srcX {w : World} {m : Nat} {a : Option Addr} {n c : Nat} {l : List EdD} (h : IsXs w m a n c l) :
    ∃ L : List Value, L.length = n * 8 ∧ (∀ i, i < n → IsX w m (eight L i) (l.getD i default)) ∧ (∀ ad, a = some ad → ∀ j u, L[j]? = some u → w.cell? (ad.add j) = some u) ∧ (∀ u ∈ L, u.oneCell' = true) := by
  rcases h.at_ with h0 | ⟨b, off, rfl, hb, hc⟩
  · subst h0
    exact ⟨[], rfl, fun i hi => by omega, fun ad _ j u hu => by simp at hu, fun u hu => by cases hu⟩
  · obtain ⟨f, hf⟩ := Deep.choose_lt hc
    have hlen : ∀ i, i < n → (f i).length = 8 := fun i hi => (hf i hi).1.eight.1
    have key : ∀ k, k ≤ n → ∃ L : List Value, L.length = k * 8 ∧ (∀ i, i < k → eight L i = f i) ∧ (∀ j u, L[j]? = some u → w.cell? ⟨b, off + j, none⟩ = some u) ∧ (∀ u ∈ L, u.oneCell' = true) := by
      intro k
      induction k with
      | zero => exact fun _ => ⟨[], rfl, fun i hi => by omega, fun j u hu => by simp at hu, fun u hu => by cases hu⟩
      | succ k ih =>
        intro hk
        obtain ⟨L, h1, h2, h3, h4⟩ := ih (by omega)
        have hfk := hlen k (by omega)
        refine ⟨L ++ f k, by rw [List.length_append, h1, hfk]; omega, fun i hi => ?_, fun j u hu => ?_, fun u hu => ?_⟩
        · by_cases e : i < k
          · rw [eight_left h1 e]; exact h2 i e
          · have e' : i = k := by omega
            subst e'
            rw [eight_right h1 (Nat.le_refl _), Nat.sub_self]
            unfold eight; simp [← hfk]
        · by_cases e : j < k * 8
          · rw [List.getElem?_append_left (by omega)] at hu; exact h3 j u hu
          · rw [List.getElem?_append_right (by omega), h1] at hu
            have := (hf k (by omega)).2 (j - k * 8) u hu
            rw [Nat.add_assoc, show k * 8 + (j - k * 8) = j by omega] at this
            exact this
        · rcases List.mem_append.1 hu with h | h
          · exact h4 u h
          · have := (hf k (by omega)).1.eight.2
            rw [Array.all_eq_true_iff_forall_mem] at this
            exact this u (by simpa using h)
    obtain ⟨L, h1, h2, h3, h4⟩ := key n (Nat.le_refl _)
    refine ⟨L, h1, fun i hi => by rw [h2 i hi]; exact (hf i hi).1, fun ad ha j u hu => ?_, h4⟩
    cases ha
    rw [Addr.add_mid]
    exact h3 j u hu
theorem isXs_owned {w : World} {B m n : Nat} {v : Value} {L : List Value} {l : List EdD} (h : w.ownsRow B 41 8 v n L) (hl : l.length = n) (hx : ∀ i, i < n → IsX w m (eight L i) (l.getD i default)) : ∃ a c, v = .slice a n c ∧ IsXs w m a n c l := by
  rcases h.2 with ⟨rfl, h0⟩ | ⟨g, cap, cur, rfl, hg, hgg, hle, hmx, hsz, htk⟩
  · subst h0
    exact ⟨none, 0, rfl, hl, .inl rfl, fun _ => ⟨rfl, rfl⟩, Nat.le_refl _, Nat.zero_le _⟩
  · refine ⟨_, _, rfl, hl, .inr ⟨g, 0, rfl, (Array.getElem?_eq_some_iff.1 hgg).1, fun i hi => ⟨_, hx i hi, fun j u hu => ?_⟩⟩, (fun e => by cases e), hle, hmx⟩
    have hj : j < 8 := by
      obtain ⟨h1, _⟩ := List.getElem?_eq_some_iff.1 hu
      unfold eight at h1
      rw [List.length_take] at h1; omega
    rw [eight_get j hj, ← htk, List.getElem?_take] at hu
    split at hu
    · rw [Nat.zero_add, cell_of_row w g (i * 8 + j) cur _ (0, 0) hgg]
      rw [← hu]; simp
    · cases hu

end Go.Proofs.YtbempgdndmchlaaDoor

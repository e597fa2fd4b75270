/-
  A map from texts to rows of texts that are all its own; the append of a whole slice. No program text but the types' numbers.
-/
import Derived.Test.YtdliecailkkciaaTree
import Derived.Deep.AppendSrc
import Derived.Deep.AppendLies
import Derived.Deep.Upon
namespace Go.Proofs.Ytdliecailkkciaa
open Go.RowKit
set_option linter.unusedVariables false

theorem wp_append_srcL {P : Program} {w : World} {o : Oper} {a : Act} {K : Act → World → Prop} {Q : Exit → Act → World → Prop} (s x : Operand) (t : TypeId)
    (ho : o.op = .call { callee := .builtin .append, args := #[s, x], argTypes := #[t, t] })
    (base : Nat) (e : TypeId) (i : TypeInfo) (z : Value) (size bytes : Nat) (ht : P.underlying t = some (.slice e)) (hi : P.info? e = some i) (hz : i.zero = some z)
    (hsize : i.size = size) (hby : i.bytes = bytes) (hzs : z.cells.size = size) (hsz : 0 < size)
    (v : Value) (n : Nat) (xs : List Value) (hs : a.eval s = v) (hown : w.ownsRow base e size v n xs)
    (ao : Option Addr) (m c : Nat) (news : List Value) (hx : a.eval x = .slice ao m c) (hl : news.length = m * size) (hnone : ao = none → m = 0 ∧ c = 0)
    (hnews : ∀ ad, ao = some ad → ∀ j u, news[j]? = some u → w.cell? (ad.add j) = some u) (h1 : ∀ u ∈ news, u.oneCell' = true)
    (h63 : n + m ≤ maxLen) (hbytes : (n + m) * bytes ≤ 140737488355328) (hbase : base ≤ w.heap.size)
    (h : ∀ v' w', w'.ownsRow base e size v' (n + m) (xs ++ news) → w.grownBy w' v.ownBlock → (∀ q, v'.ownBlock = some q → v.ownBlock = some q ∨ q = w.heap.size) → K (a.put o.dst v') w') : o.wp P a w K Q := by
  rcases Nat.eq_zero_or_pos m with h0 | h0
  · subst h0
    obtain rfl : news = [] := List.eq_nil_of_length_eq_zero (by simpa using hl)
    have hform : ∃ b cap, v = .slice b n cap ∧ n ≤ cap := by
      rcases hown.2 with ⟨rfl, rfl⟩ | ⟨g, cap, cur, rfl, _, _, h2, _⟩
      · exact ⟨_, _, rfl, Nat.le_refl _⟩
      · exact ⟨_, _, rfl, h2⟩
    obtain ⟨b, cap, rfl, hle⟩ := hform
    have hsrc : Src P i.size t (.slice ao 0 c) 0 [] w := by
      cases ao with
      | none => exact Src.ofNil w ht c
      | some ad => exact Src.ofSlice w ht ad 0 c [] (by simp) (fun j u hj => by simp at hj) (fun u hu => by simp at hu)
    have hr := run_append_nothing (P := P) w t t o.type e i ht hi b n cap hle (.slice ao 0 c) hsrc
    unfold Oper.wp execOp
    simp only [ho, resolve, invoke, builtin, Sem.run_bind, Sem.run_pure, Result.andThen_ok, List.map_toArray, List.map_cons, List.map_nil, hs, hx, hr]
    exact h _ _ (by simpa using hown) (World.grownBy.refl w _) (fun q hq => .inl hq)
  · cases ao with
    | none => have := (hnone rfl).1; omega
    | some ad =>
      exact wp_append_lies w s x t ho base e i z size bytes ht hi hz hsize hby hzs hsz v n xs hs hown ad m c news hx hl (hnews ad rfl) h1 h0 h63 hbytes hbase w.heap.size rfl (fun g cap w' h2 h3 h4 h5 => h _ _ h2 h3 (fun q hq => by
        simp only [Value.ownBlock, Option.some.injEq] at hq
        subst hq
        exact h4))

theorem owns_stay {w w' : World} {B n size : Nat} {e : TypeId} {v : Value} {xs : List Value} (h : w.ownsRow B e size v n xs) (hs : ∀ g, v.ownBlock = some g → w'.heap[g]? = w.heap[g]?) : w'.ownsRow B e size v n xs := by
  refine ⟨h.1, ?_⟩
  rcases h.2 with h0 | ⟨g, cap, cur, h1, h2, h3, h4⟩
  · exact .inl h0
  · exact .inr ⟨g, cap, cur, h1, h2, (hs g (by rw [h1]; rfl)).trans h3, h4⟩
theorem owns_down {w : World} {B B' size n : Nat} {e : TypeId} {v : Value} {xs : List Value} (h : w.ownsRow B e size v n xs) (hB : B' ≤ B) : w.ownsRow B' e size v n xs := by
  refine ⟨h.1, ?_⟩
  rcases h.2 with h0 | ⟨g, cap, cur, h1, h2, h3⟩
  · exact .inl h0
  · exact .inr ⟨g, cap, cur, h1, Nat.le_trans hB h2, h3⟩
/-- A row of one's own is a slice. -/
theorem owns_isS {w : World} {B n : Nat} {v : Value} {l : List ByteArray} (h : w.ownsRow B 9 1 v n (l.map Value.string)) : ∃ a c, v = .slice a n c ∧ IsS w a n c l := by
  have hl : l.length = n := by simpa using h.1
  rcases h.2 with ⟨rfl, rfl⟩ | ⟨g, cap, cur, rfl, hb, hg, hnc, hcm, hcs, htake⟩
  · exact ⟨none, 0, rfl, hl, .inl rfl, fun _ => ⟨rfl, rfl⟩, Nat.le_refl _, Nat.zero_le _⟩
  · refine ⟨_, cap, rfl, hl, .inr ⟨g, 0, rfl, (Array.getElem?_eq_some_iff.1 hg).1, fun i hi => ?_⟩, fun e => (by cases e), hnc, hcm⟩
    have h2 := h.cells (g := g) rfl i (.string (l.getD i ⟨#[]⟩)) (by rw [List.getElem?_map, List.getElem?_eq_getElem (by omega), List.getD_eq_getElem?_getD, List.getElem?_eq_getElem (by omega)]; rfl)
    rw [Addr.add_lit] at h2
    exact h2

/-- A map from texts to rows of texts of its own: none of them below B, no two in one block. -/
structure NM (w : World) (mb B n : Nat) (M : ByteArray → Option Value) (N : ByteArray → Option (List ByteArray)) : Prop where
  map : MapV w mb n M
  same : ∀ s, (M s).isSome = (N s).isSome
  row : ∀ s v l, M s = some v → N s = some l → w.ownsRow B 9 1 v l.length (l.map Value.string)
  apart : ∀ s t v u g, M s = some v → M t = some u → v.ownBlock = some g → u.ownBlock = some g → s = t

theorem mapv_ne {w : World} {B size n k : Nat} {e : TypeId} {v : Value} {xs : List Value} {mb : Nat} {M : ByteArray → Option Value} (h : w.ownsRow B e size v n xs) (hs : MapV w mb k M) : v.ownBlock ≠ some mb := by
  rcases h.2 with ⟨rfl, _⟩ | ⟨g, cap, cur, rfl, _, hg, _⟩
  · simp [Value.ownBlock]
  · intro e2
    simp only [Value.ownBlock, Option.some.injEq] at e2
    subst e2
    obtain ⟨D, ⟨es, clock, hb, _⟩, _⟩ := hs
    rw [hb] at hg
    cases hg
theorem NM.made (w : World) (B : Nat) : NM (w.alloc (.map #[] 0)) w.heap.size B 0 (fun _ => none) (fun _ => none) :=
  ⟨MapV.made w, fun _ => rfl, fun s v l h => (by cases h), fun s t v u g h => (by cases h)⟩
theorem NM.later {w w' : World} {mb B n : Nat} {M : ByteArray → Option Value} {N : ByteArray → Option (List ByteArray)} (h : NM w mb B n M N) (hb : Below w.heap.size w w') : NM w' mb B n M N :=
  ⟨h.map.below hb h.map.lt, h.same, fun s v l h1 h2 => owns_stay (h.row s v l h1 h2) (fun g hg => hb.block g ((h.row s v l h1 h2).lt g hg).2), h.apart⟩
theorem NM.drewN {w : World} {mb B n : Nat} {M : ByteArray → Option Value} {N : ByteArray → Option (List ByteArray)} (h : NM w mb B n M N) (k : Nat) : NM (w.drewN k) mb B n M N :=
  ⟨h.map, h.same, h.row, h.apart⟩
theorem zeroS (w : World) : (zeroValue 22).run Try.prog w = .ok (.slice none 0 0) w := by kernel_rfl
/-- What the map tells of a text. -/
def getN (N : ByteArray → Option (List ByteArray)) (s : ByteArray) : List ByteArray := (N s).getD []
def getV (M : ByteArray → Option Value) (s : ByteArray) : Value := (M s).getD (.slice none 0 0)
theorem NM.get {w : World} {mb B n : Nat} {M : ByteArray → Option Value} {N : ByteArray → Option (List ByteArray)} (h : NM w mb B n M N) {s : ByteArray} (hs : s.size ≤ maxLen) :
    (Instr.lookup 45 (.map (some mb)) (.string s) false).run Try.prog w = .ok (getV M s) w := h.map.get Try.underlying45 (zeroS w) hs
theorem NM.look {w : World} {mb B n : Nat} {M : ByteArray → Option Value} {N : ByteArray → Option (List ByteArray)} (h : NM w mb B n M N) {s : ByteArray} (hs : s.size ≤ maxLen) :
    (Instr.lookup 45 (.map (some mb)) (.string s) true).run Try.prog w = .ok (.tuple #[getV M s, .bool (N s).isSome]) w := by
  rw [← h.same s]
  exact h.map.look Try.underlying45 (zeroS w) hs
theorem NM.own {w : World} {mb B n : Nat} {M : ByteArray → Option Value} {N : ByteArray → Option (List ByteArray)} (h : NM w mb B n M N) (s : ByteArray) : w.ownsRow B 9 1 (getV M s) (getN N s).length ((getN N s).map Value.string) := by
  have h1 := h.same s
  unfold getV getN
  cases hm : M s with
  | none =>
    rw [hm] at h1
    cases hn : N s with
    | none => exact World.ownsRow_nil _ _ _ _
    | some l => rw [hn] at h1; cases h1
  | some v =>
    rw [hm] at h1
    cases hn : N s with
    | none => rw [hn] at h1; cases h1
    | some l => exact h.row s v l hm hn
def putN (N : ByteArray → Option (List ByteArray)) (s : ByteArray) (l : List ByteArray) : ByteArray → Option (List ByteArray) := fun x => if x = s then some l else N x
/-- A row of the map has grown, or a new one is made: it is put in its place. -/
theorem NM.put {w w1 : World} {mb B n : Nat} {M : ByteArray → Option Value} {N : ByteArray → Option (List ByteArray)} (h : NM w mb B n M N) (hn : n < maxLen) {s : ByteArray} (hs : s.size ≤ maxLen) {v : Value} {l : List ByteArray}
    (hg : w.grownBy w1 (getV M s).ownBlock) (hv : w1.ownsRow B 9 1 v l.length (l.map Value.string)) (ho : ∀ q, v.ownBlock = some q → (getV M s).ownBlock = some q ∨ w.heap.size ≤ q) :
    ∃ w2, (Instr.mapUpdate 45 (.map (some mb)) (.string s) v).run Try.prog w1 = .ok () w2 ∧ NM w2 mb B (n + 1) (putM M s v) (putN N s l) ∧ w1.grownBy w2 (some mb) ∧ w2.heap.size = w1.heap.size := by
  have hm1 : MapV w1 mb n M := h.map.kept hg (fun e => mapv_ne (h.own s) h.map e.symm)
  obtain ⟨w2, hr, hm2, hg2, hs2⟩ := hm1.put Try.underlying45 hn hs v
  have hne : ∀ t u, t ≠ s → M t = some u → ∀ g, u.ownBlock = some g → (getV M s).ownBlock ≠ some g := by
    intro t u hts hu g hg1 hg2
    unfold getV at hg2
    cases hms : M s with
    | none => rw [hms] at hg2; cases hg2
    | some y =>
      rw [hms] at hg2
      exact hts (h.apart t s u y g hu hms hg1 hg2)
  have hpn : ∀ t, t ≠ s → putM M s v t = M t := fun t ht => if_neg ht
  have hps : putM M s v s = some v := if_pos rfl
  refine ⟨w2, hr, ⟨hm2, fun t => ?_, fun t u k h1 h2 => ?_, fun t1 t2 v1 v2 g h1 h2 h3 h4 => ?_⟩, hg2, hs2⟩
  · unfold putM putN
    by_cases ht : t = s
    · rw [if_pos ht, if_pos ht]; rfl
    · rw [if_neg ht, if_neg ht]; exact h.same t
  · have key : w1.ownsRow B 9 1 u k.length (k.map Value.string) := by
      unfold putN at h2
      by_cases ht : t = s
      · subst ht
        rw [hps] at h1
        rw [if_pos rfl] at h2
        cases h1; cases h2
        exact hv
      · rw [hpn t ht] at h1
        rw [if_neg ht] at h2
        have hr1 := h.row t u k h1 h2
        exact owns_stay hr1 (fun g hg1 => hg.block g (hr1.lt g hg1).2 (fun e => hne t u ht h1 g hg1 e.symm))
    exact owns_stay key (fun g hg1 => hg2.block g (key.lt g hg1).2 (fun e => mapv_ne key hm1 (hg1.trans e)))
  · by_cases e1 : t1 = s
    · by_cases e2 : t2 = s
      · rw [e1, e2]
      · exfalso
        subst e1
        rw [hps] at h1
        rw [hpn t2 e2] at h2
        cases h1
        rcases ho g h3 with h5 | h5
        · exact hne t2 v2 e2 h2 g h4 h5
        · obtain ⟨l2, hl2⟩ := Option.isSome_iff_exists.1 (by rw [← h.same t2, h2]; rfl : (N t2).isSome = true)
          have := ((h.row t2 v2 l2 h2 hl2).lt g h4).2
          omega
    · by_cases e2 : t2 = s
      · exfalso
        subst e2
        rw [hps] at h2
        rw [hpn t1 e1] at h1
        cases h2
        rcases ho g h4 with h5 | h5
        · exact hne t1 v1 e1 h1 g h3 h5
        · obtain ⟨l1, hl1⟩ := Option.isSome_iff_exists.1 (by rw [← h.same t1, h1]; rfl : (N t1).isSome = true)
          have := ((h.row t1 v1 l1 h1 hl1).lt g h3).2
          omega
      · rw [hpn t1 e1] at h1
        rw [hpn t2 e2] at h2
        exact h.apart t1 t2 v1 v2 g h1 h2 h3 h4
end Go.Proofs.Ytdliecailkkciaa

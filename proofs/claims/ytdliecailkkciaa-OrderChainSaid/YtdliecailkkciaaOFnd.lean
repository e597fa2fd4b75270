/-
  What slices.BinarySearch finds in texts that rise. No program text.
-/
import Derived.Test.YtdliecailkkciaaOUsers
namespace Go.Proofs.Ytdliecailkkciaa
open Go.RowKit
set_option linter.unusedVariables false

def nLt (a b : ByteArray) : Prop := Op.bytesLess a.toList b.toList = true
theorem nLt_iff (a b : ByteArray) : nLt a b ↔ btsOf a < btsOf b := by
  unfold nLt
  rw [bytesLess_eq, ByteArray.toList_eq, ByteArray.toList_eq]
  exact decide_eq_true_iff
theorem nLt_trans {a b c : ByteArray} (h1 : nLt a b) (h2 : nLt b c) : nLt a c := by
  rw [nLt_iff] at *
  exact bt_trans h1 h2
/-- The place that slices.BinarySearch tells. -/
def plc (ns : List ByteArray) (x : ByteArray) : Nat := Lib.bsGo (fun t => Op.bytesLess (ns.getD t ⟨#[]⟩).toList x.toList) ns.length 0 ns.length
/-- Does the name stand there? -/
def tkn (ns : List ByteArray) (x : ByteArray) : Bool := decide (plc ns x < ns.length ∧ ns.getD (plc ns x) ⟨#[]⟩ = x)

theorem bsGo_congr {less less' : Nat → Bool} : ∀ (f lo hi : Nat), (∀ t, lo ≤ t → t < hi → less t = less' t) → Lib.bsGo less f lo hi = Lib.bsGo less' f lo hi
  | 0, lo, hi, h => rfl
  | f + 1, lo, hi, h => by
    unfold Lib.bsGo
    by_cases hl : lo < hi
    · rw [if_pos hl, if_pos hl, h _ (by omega) (by omega), bsGo_congr f _ hi (fun t a b => h t (by omega) b), bsGo_congr f lo _ (fun t a b => h t a (by omega))]
    · rw [if_neg hl, if_neg hl]
theorem bsGo_le (less : Nat → Bool) : ∀ (f lo hi : Nat), lo ≤ hi → lo ≤ Lib.bsGo less f lo hi ∧ Lib.bsGo less f lo hi ≤ hi
  | 0, lo, hi, h => by simp [Lib.bsGo, h]
  | f + 1, lo, hi, h => by
    unfold Lib.bsGo
    by_cases hl : lo < hi
    · rw [if_pos hl]
      split
      · have := bsGo_le less f ((lo + hi) / 2 + 1) hi (by omega); omega
      · have := bsGo_le less f lo ((lo + hi) / 2) (by omega); omega
    · rw [if_neg hl]; omega
theorem plc_le (ns : List ByteArray) (x : ByteArray) : plc ns x ≤ ns.length := (bsGo_le _ ns.length 0 ns.length (Nat.zero_le _)).2
/-- Of names that rise: those ahead are less, those from there on are not. -/
theorem plc_spec {ns : List ByteArray} (h : ns.Pairwise nLt) (x : ByteArray) : (∀ y ∈ ns.take (plc ns x), nLt y x) ∧ (∀ y ∈ ns.drop (plc ns x), ¬ nLt y x) := by
  obtain ⟨k, hk⟩ : ∃ k, k = (ns.takeWhile fun y => Op.bytesLess y.toList x.toList).length := ⟨_, rfl⟩
  have hkl : k ≤ ns.length := by rw [hk]; exact (List.takeWhile_sublist _).length_le
  have htk : ns.take k = ns.takeWhile fun y => Op.bytesLess y.toList x.toList := by
    have hp : (ns.takeWhile fun y => Op.bytesLess y.toList x.toList) <+: ns := List.takeWhile_prefix _
    rw [hk]; exact (List.prefix_iff_eq_take.1 hp).symm
  have h1 : ∀ y ∈ ns.take k, nLt y x := fun y hy => by
    rw [htk] at hy
    exact (List.all_eq_true.1 List.all_takeWhile) y hy
  have h2 : ∀ y ∈ ns.drop k, ¬ nLt y x := by
    have hd : ns.drop k = ns.dropWhile fun y => Op.bytesLess y.toList x.toList := by
      have e := List.takeWhile_append_dropWhile (p := fun y : ByteArray => Op.bytesLess y.toList x.toList) (l := ns)
      conv => lhs; rw [← e]
      rw [hk, List.drop_left' rfl]
    intro y hy
    have hpd : (ns.drop k).Pairwise nLt := h.sublist (List.drop_sublist _ _)
    rw [hd] at hy hpd
    cases hw : ns.dropWhile fun y => Op.bytesLess y.toList x.toList with
    | nil => rw [hw] at hy; cases hy
    | cons z r =>
      have hz : ¬ nLt z x := by
        have := List.head_dropWhile_not (fun y : ByteArray => Op.bytesLess y.toList x.toList) (l := ns) (by rw [hw]; simp)
        simp only [hw, List.head_cons] at this
        unfold nLt; rw [this]; simp
      rw [hw] at hy hpd
      rcases List.mem_cons.1 hy with rfl | hy
      · exact hz
      · exact fun hl => hz (nLt_trans ((List.pairwise_cons.1 hpd).1 y hy) hl)
  have hkp : plc ns x = k := by
    unfold plc
    rw [bsGo_congr (less' := fun t => Op.bytesLess (ns.getD t ⟨#[]⟩).toList x.toList && decide (t < ns.length)) _ _ _ (fun t _ ht => by simp [ht])]
    refine Lib.bsGo_spec _ k (fun t ht => ?_) (fun t ht => ?_) _ _ _ (by omega) (Nat.zero_le _) hkl
    · have hm : ns[t]'(by omega) ∈ ns.take k := List.mem_take_iff_getElem.2 ⟨t, by omega, rfl⟩
      have := h1 _ hm
      rw [List.getD_eq_getElem?_getD, List.getElem?_eq_getElem (by omega)]
      simp only [Option.getD_some, Bool.and_eq_true, decide_eq_true_eq]
      exact ⟨this, by omega⟩
    · by_cases hl : t < ns.length
      · have hm : ns[t] ∈ ns.drop k := List.mem_drop_iff_getElem.2 ⟨t - k, by omega, by congr 1; omega⟩
        have := h2 _ hm
        rw [List.getD_eq_getElem?_getD, List.getElem?_eq_getElem hl]
        simp only [Option.getD_some, Bool.and_eq_false_iff]
        exact .inl (by simpa [nLt] using this)
      · simp [hl]
  rw [hkp]
  exact ⟨h1, h2⟩

theorem fnd_iff {l : List ByteArray} (h : l.Pairwise (fun x y => btsOf x < btsOf y)) (x : ByteArray) : fnd l x = true ↔ x ∈ l := by
  have hp : l.Pairwise nLt := h.imp (fun h => (nLt_iff _ _).2 h)
  have hs := plc_spec hp x
  have e : fnd l x = tkn l x := rfl
  rw [e]
  unfold tkn
  rw [decide_eq_true_iff]
  constructor
  · rintro ⟨h1, h2⟩
    rw [← h2]; exact getD_mem2 h1
  · intro hx
    have hsplit : x ∈ l.take (plc l x) ++ l.drop (plc l x) := by rw [List.take_append_drop]; exact hx
    rcases List.mem_append.1 hsplit with h1 | h1
    · have := (nLt_iff _ _).1 (hs.1 x h1)
      exact absurd this (bt_irr _)
    · obtain ⟨p, hpp⟩ : ∃ p, p = plc l x := ⟨_, rfl⟩
      have h2 := hs.2
      rw [← hpp] at h1 h2 ⊢
      clear hs hsplit hpp
      obtain ⟨j, hj, e2⟩ := List.mem_drop_iff_getElem.1 h1
      have hk : p < l.length := by omega
      refine ⟨hk, ?_⟩
      rw [getD_get hk]
      by_cases hj0 : j = 0
      · subst hj0
        simpa using e2
      · exfalso
        have h3 : l[p] ∈ l.drop p := List.mem_drop_iff_getElem.2 ⟨0, by omega, by simp⟩
        have h4 := List.pairwise_iff_getElem.1 h p (p + j) hk (by omega) (by omega)
        rw [e2] at h4
        exact h2 _ h3 ((nLt_iff _ _).2 h4)
/-- Who of the names needs x, itself aside. -/
theorem usr_mem {G : List ByteArray} {N : ByteArray → Option (List ByteArray)} {x : ByteArray} (hN : ∀ s, (getN N s).Pairwise (fun x y => btsOf x < btsOf y)) : ∀ i, i ≤ G.length → ∀ s, s ∈ usr G N x i ↔ s ∈ G.take i ∧ x ∈ getN N s ∧ s ≠ x
  | 0, _, s => by simp [usr]
  | i + 1, h, s => by
    have ih := usr_mem (G := G) (x := x) hN i (by omega) s
    rw [take_next (l := G) (j := i) (by omega), List.mem_append, List.mem_singleton]
    unfold usr
    by_cases hc : fnd (getN N (G.getD i ⟨#[]⟩)) x = true ∧ G.getD i ⟨#[]⟩ ≠ x
    · rw [if_pos hc, List.mem_append, List.mem_singleton, ih]
      rw [fnd_iff (hN _)] at hc
      constructor
      · rintro (⟨h1, h2⟩ | rfl)
        · exact ⟨.inl h1, h2⟩
        · exact ⟨.inr rfl, hc⟩
      · rintro ⟨h1 | rfl, h2⟩
        · exact .inl ⟨h1, h2⟩
        · exact .inr rfl
    · rw [if_neg hc, ih]
      rw [fnd_iff (hN _)] at hc
      constructor
      · rintro ⟨h1, h2⟩; exact ⟨.inl h1, h2⟩
      · rintro ⟨h1 | rfl, h2⟩
        · exact ⟨h1, h2⟩
        · exact absurd h2 hc
theorem usr_sub (G : List ByteArray) (N : ByteArray → Option (List ByteArray)) (x : ByteArray) : ∀ i, i ≤ G.length → (usr G N x i).Sublist (G.take i)
  | 0, _ => by simp [usr]
  | i + 1, h => by
    have ih := usr_sub G N x i (by omega)
    rw [take_next (l := G) (j := i) (by omega)]
    unfold usr
    split
    · exact ih.append (List.Sublist.refl _)
    · exact ih.trans (List.sublist_append_left _ _)
end Go.Proofs.Ytdliecailkkciaa

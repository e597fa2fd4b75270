/-
  What the edits do to a tree, as functions on trees; that they leave right trees right. No program text.
-/
import Derived.Test.YtbempgdndmchlaaDoorEHeight
import Derived.Test.YtbempgdndmchlaaDoorTGood
import Derived.Test.YtbempgdndmchlaaDoorTOwn
import Derived.Shelf.Spec.SearchS
namespace Go.Proofs.YtbempgdndmchlaaDoor
open Go.RowKit
set_option linter.unusedVariables false

/-! How great a tree is. -/
mutual
/-- All in it is formed. -/
def fmA : T → Prop
  | .mk k x d ns ks => formedT (.mk k x d ns ks) = true ∧ fmL ks
def fmL : List T → Prop
  | [] => True
  | k :: r => fmA k ∧ fmL r
end
mutual
/-- How many bytes there are in it. -/
def bytesT : T → Nat
  | .mk _ _ d _ ks => d.length + bytesL ks
def bytesL : List T → Nat
  | [] => 0
  | k :: r => bytesT k + bytesL r
end
theorem fmA_mk (k : UInt8) (x : Bool) (d : List UInt8) (ns : List ByteArray) (ks : List T) : fmA (.mk k x d ns ks) ↔ formedT (.mk k x d ns ks) = true ∧ fmL ks := by rw [fmA]
theorem fmL_cons (k : T) (r : List T) : fmL (k :: r) ↔ fmA k ∧ fmL r := by rw [fmL]
theorem bytesT_mk (k : UInt8) (x : Bool) (d : List UInt8) (ns : List ByteArray) (ks : List T) : bytesT (.mk k x d ns ks) = d.length + bytesL ks := by rw [bytesT]
theorem bytesL_cons (k : T) (r : List T) : bytesL (k :: r) = bytesT k + bytesL r := by rw [bytesL]
theorem fmL_append : ∀ p q : List T, fmL (p ++ q) ↔ fmL p ∧ fmL q
  | [], q => by simp [fmL]
  | k :: p, q => by rw [List.cons_append, fmL_cons, fmL_cons, fmL_append p q, and_assoc]
theorem bytesL_append : ∀ p q : List T, bytesL (p ++ q) = bytesL p + bytesL q
  | [], q => by simp [bytesL]
  | k :: p, q => by rw [List.cons_append, bytesL_cons, bytesL_cons, bytesL_append p q]; omega

mutual
theorem takeT_iff : ∀ (t : T) (D n b : Nat) (r : Nat × Nat), takeT t D n b = some r ↔ fmA t ∧ D + heightT t ≤ 16 ∧ n + sizeN t ≤ 4096 ∧ b + bytesT t ≤ 65536 ∧ r = (n + sizeN t, b + bytesT t)
  | .mk k x d ns ks, D, n, b, r => by
    rw [takeT_mk, fmA_mk, heightT_mk, sizeN_mk, bytesT_mk]
    by_cases hc : D ≤ 16 ∧ n + 1 ≤ 4096 ∧ b + d.length ≤ 65536 ∧ formedT (.mk k x d ns ks) = true
    · rw [if_pos hc, takeL_iff ks (D + 1) (n + 1) (b + d.length) r (by omega) hc.2.1 hc.2.2.1]
      constructor
      · rintro ⟨h1, h2, h3, h4, h5⟩
        exact ⟨⟨hc.2.2.2, h1⟩, by omega, by omega, by omega, by rw [h5]; simp only [Prod.mk.injEq]; omega⟩
      · rintro ⟨⟨_, h1⟩, h2, h3, h4, h5⟩
        exact ⟨h1, by omega, by omega, by omega, by rw [h5]; simp only [Prod.mk.injEq]; omega⟩
    · rw [if_neg hc]
      constructor
      · intro h; cases h
      · rintro ⟨⟨h0, h1⟩, h2, h3, h4, h5⟩
        exact absurd ⟨by omega, by omega, by omega, h0⟩ hc
theorem takeL_iff : ∀ (l : List T) (D n b : Nat) (r : Nat × Nat), D ≤ 17 → n ≤ 4096 → b ≤ 65536 → (takeL l D n b = some r ↔ fmL l ∧ D + heightL l ≤ 17 ∧ n + sizeNL l ≤ 4096 ∧ b + bytesL l ≤ 65536 ∧ r = (n + sizeNL l, b + bytesL l))
  | [], D, n, b, r, hD, hn, hb => by
    rw [takeL, heightL_nil]
    simp only [fmL, sizeNL, bytesL, Option.some.injEq, true_and, Nat.add_zero]
    constructor
    · rintro rfl; exact ⟨hD, hn, hb, rfl⟩
    · rintro ⟨_, _, _, rfl⟩; rfl
  | k :: l, D, n, b, r, hD, hn, hb => by
    rw [takeL, fmL_cons, heightL_cons, sizeNL_cons, bytesL_cons]
    cases hk : takeT k D n b with
    | none =>
      constructor
      · intro h; cases h
      · rintro ⟨⟨h0, h1⟩, h2, h3, h4, h5⟩
        have hm := Nat.le_max_left (1 + heightT k) (heightL l)
        have : takeT k D n b = some (n + sizeN k, b + bytesT k) := (takeT_iff k D n b _).2 ⟨h0, by have : D + (1 + heightT k) ≤ 17 := Nat.le_trans (Nat.add_le_add_left hm D) h2; omega, by omega, by omega, rfl⟩
        rw [hk] at this; cases this
    | some q =>
      obtain ⟨g0, g1, g2, g3, rfl⟩ := (takeT_iff k D n b q).1 hk
      show takeL l D (n + sizeN k) (b + bytesT k) = some r ↔ _
      rw [takeL_iff l D _ _ r hD g2 g3]
      constructor
      · rintro ⟨h1, h2, h3, h4, h5⟩
        exact ⟨⟨g0, h1⟩, by rcases Nat.le_total (1 + heightT k) (heightL l) with h | h
                            · rw [show Nat.max (1 + heightT k) (heightL l) = heightL l from Nat.max_eq_right h]; exact h2
                            · rw [show Nat.max (1 + heightT k) (heightL l) = 1 + heightT k from Nat.max_eq_left h]; omega, by omega, by omega, by rw [h5]; simp only [Prod.mk.injEq]; omega⟩
      · rintro ⟨⟨_, h1⟩, h2, h3, h4, h5⟩
        have hm := Nat.le_max_right (1 + heightT k) (heightL l)
        exact ⟨h1, Nat.le_trans (Nat.add_le_add_left hm D) h2, by omega, by omega, by rw [h5]; simp only [Prod.mk.injEq]; omega⟩
end
theorem sizeT_iff (t : T) (x y : Nat) : sizeT t = some (x, y) ↔ fmA t ∧ heightT t ≤ 16 ∧ sizeN t ≤ 4096 ∧ bytesT t ≤ 65536 ∧ x = sizeN t ∧ y = bytesT t := by
  unfold sizeT
  rw [takeT_iff]
  simp only [Nat.zero_add, Prod.mk.injEq]

/-! A kid taken out of a list, put in, put in the place of one. -/
theorem split_at {l : List T} {i : Nat} (h : i < l.length) : l = l.take i ++ l.getD i default :: l.drop (i + 1) := by
  have e : l.getD i default = l[i] := by simp [List.getD, List.getElem?_eq_getElem h]
  rw [e, ← List.drop_eq_getElem_cons h, List.take_append_drop]
theorem set_at {l : List T} {i : Nat} (h : i < l.length) (k : T) : l.set i k = l.take i ++ k :: l.drop (i + 1) := List.set_eq_take_append_cons_drop.trans (if_pos h)
theorem fmL_kid {l : List T} {i : Nat} (h : i < l.length) : fmL l ↔ fmL (l.take i) ∧ fmA (l.getD i default) ∧ fmL (l.drop (i + 1)) := by
  conv => lhs; rw [split_at h]
  rw [fmL_append, fmL_cons]
theorem fmL_getD {l : List T} (hf : fmL l) {i : Nat} (h : i < l.length) : fmA (l.getD i default) := ((fmL_kid h).1 hf).2.1
theorem sizeNL_kid {l : List T} {i : Nat} (h : i < l.length) : sizeNL l = sizeNL (l.take i) + (sizeN (l.getD i default) + sizeNL (l.drop (i + 1))) := by
  conv => lhs; rw [split_at h]
  rw [sizeNL_append, sizeNL_cons]
theorem bytesL_kid {l : List T} {i : Nat} (h : i < l.length) : bytesL l = bytesL (l.take i) + (bytesT (l.getD i default) + bytesL (l.drop (i + 1))) := by
  conv => lhs; rw [split_at h]
  rw [bytesL_append, bytesL_cons]
theorem heightL_kid {l : List T} {i : Nat} (h : i < l.length) : heightL l = Nat.max (heightL (l.take i)) (Nat.max (1 + heightT (l.getD i default)) (heightL (l.drop (i + 1)))) := by
  conv => lhs; rw [split_at h]
  rw [heightL_append, heightL_cons]
theorem heightL_split (l : List T) (i : Nat) : heightL l = Nat.max (heightL (l.take i)) (heightL (l.drop i)) := by
  conv => lhs; rw [← List.take_append_drop i l]
  rw [heightL_append]
theorem sizeNL_split (l : List T) (i : Nat) : sizeNL l = sizeNL (l.take i) + sizeNL (l.drop i) := by
  conv => lhs; rw [← List.take_append_drop i l]
  rw [sizeNL_append]
theorem bytesL_split (l : List T) (i : Nat) : bytesL l = bytesL (l.take i) + bytesL (l.drop i) := by
  conv => lhs; rw [← List.take_append_drop i l]
  rw [bytesL_append]
theorem fmL_split (l : List T) (i : Nat) : fmL l ↔ fmL (l.take i) ∧ fmL (l.drop i) := by
  conv => lhs; rw [← List.take_append_drop i l]
  rw [fmL_append]

/-! Names in their order. -/
theorem nl_trans : ∀ a b c : List UInt8, Op.bytesLess a b = true → Op.bytesLess b c = true → Op.bytesLess a c = true
  | _, [], _, h, _ => by simp [Op.bytesLess] at h
  | _, _ :: _, [], _, h => by simp [Op.bytesLess] at h
  | [], _ :: _, _ :: _, _, _ => rfl
  | x :: a, y :: b, z :: c, h1, h2 => by
    simp only [Op.bytesLess, Bool.or_eq_true, decide_eq_true_eq, Bool.and_eq_true, beq_iff_eq] at h1 h2 ⊢
    rcases h1 with h1 | ⟨rfl, h1⟩
    · rcases h2 with h2 | ⟨rfl, h2⟩
      · left; rw [UInt8.lt_iff_toNat_lt] at *; omega
      · exact .inl h1
    · rcases h2 with h2 | ⟨rfl, h2⟩
      · exact .inl h2
      · exact .inr ⟨rfl, nl_trans a b c h1 h2⟩

theorem nl_irr : ∀ a : List UInt8, Op.bytesLess a a = false
  | [] => rfl
  | x :: a => by simp [Op.bytesLess, nl_irr a]

/-- Names that rise are all different. -/
theorem nl_apart {l : List ByteArray} (h : risingT l = true) : ∀ j i, j < i → i < l.length → Op.bytesLess (l.getD j ⟨#[]⟩).toList (l.getD i ⟨#[]⟩).toList = true := by
  have hr := h
  unfold risingT at hr
  rw [List.all_eq_true] at hr
  have step : ∀ i, 1 ≤ i → i < l.length → Op.bytesLess (l.getD (i - 1) ⟨#[]⟩).toList (l.getD i ⟨#[]⟩).toList = true := fun i h1 hi => by
    have := hr i (List.mem_range.2 hi)
    simp only [Bool.and_eq_true, Bool.or_eq_true, Bool.not_eq_true', beq_iff_eq] at this
    rcases this.2 with h0 | h0
    · omega
    · unfold leS at h0
      have hs := less_swap (l.getD (i - 1) ⟨#[]⟩).toList (l.getD i ⟨#[]⟩).toList
      rw [h0] at hs
      simpa using hs
  intro j i hji hi
  induction i with
  | zero => omega
  | succ i ih =>
    by_cases e : j = i
    · subst e
      have := step (j + 1) (by omega) hi
      simpa using this
    · have h1 := ih (by omega) (by omega)
      have h2 := step (i + 1) (by omega) hi
      exact nl_trans _ _ _ h1 (by simpa using h2)

/-- The one name stands ahead of the other. -/
def nLt (a b : ByteArray) : Prop := Op.bytesLess a.toList b.toList = true
theorem nLt_trans {a b c : ByteArray} (h : nLt a b) (h' : nLt b c) : nLt a c := nl_trans _ _ _ h h'
theorem ba_list {a b : ByteArray} (h : a.toList = b.toList) : a = b := by
  rw [ByteArray.toList_eq, ByteArray.toList_eq] at h
  cases a with
  | mk a =>
    cases b with
    | mk b =>
      have h' : a = b := Array.toList_inj.1 h
      rw [h']
theorem nLt_total (a b : ByteArray) : nLt a b ∨ a = b ∨ nLt b a := by
  have h := less_swap a.toList b.toList
  unfold nLt
  cases h1 : Op.bytesLess a.toList b.toList with
  | true => exact .inl rfl
  | false =>
    rw [h1] at h
    have h2 : (Op.bytesLess b.toList a.toList || b.toList == a.toList) = true := by rw [← h]; rfl
    rw [Bool.or_eq_true, beq_iff_eq] at h2
    rcases h2 with h2 | h2
    · exact .inr (.inr h2)
    · exact .inr (.inl (ba_list h2.symm))
theorem nLt_irr (a : ByteArray) : ¬ nLt a a := by unfold nLt; rw [nl_irr]; simp
theorem risingT_iff (l : List ByteArray) : risingT l = true ↔ (∀ x ∈ l, tName x.data.toList = true) ∧ l.Pairwise nLt := by
  constructor
  · intro h
    refine ⟨fun x hx => ?_, ?_⟩
    · obtain ⟨i, hi, rfl⟩ := List.mem_iff_getElem.1 hx
      cases hn : tName (l[i]).data.toList with
      | true => rfl
      | false =>
        have : risingT l = false := risingT_name hi (by rw [List.getD_eq_getElem?_getD, List.getElem?_eq_getElem hi]; exact hn)
        rw [this] at h; cases h
    · rw [List.pairwise_iff_getElem]
      intro i j hi hj hij
      have := nl_apart h i j hij hj
      rw [List.getD_eq_getElem?_getD, List.getD_eq_getElem?_getD, List.getElem?_eq_getElem hi, List.getElem?_eq_getElem hj] at this
      exact this
  · rintro ⟨h1, h2⟩
    rw [List.pairwise_iff_getElem] at h2
    refine risingT_good fun i hi => ⟨?_, fun h0 => ?_⟩
    · rw [List.getD_eq_getElem?_getD, List.getElem?_eq_getElem hi]
      exact h1 _ (List.getElem_mem hi)
    · have h3 := h2 (i - 1) i (by omega) hi (by omega)
      rw [List.getD_eq_getElem?_getD, List.getD_eq_getElem?_getD, List.getElem?_eq_getElem hi, List.getElem?_eq_getElem (show i - 1 < l.length by omega)]
      have h4 := less_swap (l[i - 1]).toList (l[i]).toList
      have h5 : Op.bytesLess (l[i - 1]).toList (l[i]).toList = true := h3
      rw [h5] at h4
      unfold leS
      exact h4.symm

/-! Where a name stands, or would. -/
/-- The place that slices.BinarySearch tells. -/
def plc (ns : List ByteArray) (x : ByteArray) : Nat := Lib.bsGo (fun t => Op.bytesLess (ns.getD t ⟨#[]⟩).toList x.toList) ns.length 0 ns.length
/-- Does the name stand there? -/
def tkn (ns : List ByteArray) (x : ByteArray) : Bool := decide (plc ns x < ns.length ∧ ns.getD (plc ns x) ⟨#[]⟩ = x)

theorem bsGo_congr {less less' : Nat → Bool} : ∀ (f lo hi : Nat), (∀ t, lo ≤ t → t < hi → less t = less' t) → Lib.bsGo less f lo hi = Lib.bsGo less' f lo hi
  | 0, lo, hi, h => rfl
  | f + 1, lo, hi, h => by
    unfold Lib.bsGo
    by_cases hl : lo < hi
    · rw [if_pos hl, if_pos hl, h _ (by omega) (by omega), bsGo_congr f _ hi (fun t a b => h t (by omega) b), bsGo_congr f lo _ (fun t a b => h t a (by omega))]
    · rw [if_neg hl, if_neg hl]
theorem bsGo_le (less : Nat → Bool) : ∀ (f lo hi : Nat), lo ≤ hi → lo ≤ Lib.bsGo less f lo hi ∧ Lib.bsGo less f lo hi ≤ hi
  | 0, lo, hi, h => by simp [Lib.bsGo, h]
  | f + 1, lo, hi, h => by
    unfold Lib.bsGo
    by_cases hl : lo < hi
    · rw [if_pos hl]
      split
      · have := bsGo_le less f ((lo + hi) / 2 + 1) hi (by omega); omega
      · have := bsGo_le less f lo ((lo + hi) / 2) (by omega); omega
    · rw [if_neg hl]; omega
theorem plc_le (ns : List ByteArray) (x : ByteArray) : plc ns x ≤ ns.length := (bsGo_le _ ns.length 0 ns.length (Nat.zero_le _)).2
/-- Of names that rise: those ahead are less, those from there on are not. -/
theorem plc_spec {ns : List ByteArray} (h : ns.Pairwise nLt) (x : ByteArray) : (∀ y ∈ ns.take (plc ns x), nLt y x) ∧ (∀ y ∈ ns.drop (plc ns x), ¬ nLt y x) := by
  obtain ⟨k, hk⟩ : ∃ k, k = (ns.takeWhile fun y => Op.bytesLess y.toList x.toList).length := ⟨_, rfl⟩
  have hkl : k ≤ ns.length := by rw [hk]; exact (List.takeWhile_sublist _).length_le
  have htk : ns.take k = ns.takeWhile fun y => Op.bytesLess y.toList x.toList := by
    have hp : (ns.takeWhile fun y => Op.bytesLess y.toList x.toList) <+: ns := List.takeWhile_prefix _
    rw [hk]; exact (List.prefix_iff_eq_take.1 hp).symm
  have h1 : ∀ y ∈ ns.take k, nLt y x := fun y hy => by
    rw [htk] at hy
    exact (List.all_eq_true.1 List.all_takeWhile) y hy
  have h2 : ∀ y ∈ ns.drop k, ¬ nLt y x := by
    have hd : ns.drop k = ns.dropWhile fun y => Op.bytesLess y.toList x.toList := by
      have e := List.takeWhile_append_dropWhile (p := fun y : ByteArray => Op.bytesLess y.toList x.toList) (l := ns)
      conv => lhs; rw [← e]
      rw [hk, List.drop_left' rfl]
    intro y hy
    have hpd : (ns.drop k).Pairwise nLt := h.sublist (List.drop_sublist _ _)
    rw [hd] at hy hpd
    cases hw : ns.dropWhile fun y => Op.bytesLess y.toList x.toList with
    | nil => rw [hw] at hy; cases hy
    | cons z r =>
      have hz : ¬ nLt z x := by
        have := List.head_dropWhile_not (fun y : ByteArray => Op.bytesLess y.toList x.toList) (l := ns) (by rw [hw]; simp)
        simp only [hw, List.head_cons] at this
        unfold nLt; rw [this]; simp
      rw [hw] at hy hpd
      rcases List.mem_cons.1 hy with rfl | hy
      · exact hz
      · exact fun hl => hz (nLt_trans ((List.pairwise_cons.1 hpd).1 y hy) hl)
  have hkp : plc ns x = k := by
    unfold plc
    rw [bsGo_congr (less' := fun t => Op.bytesLess (ns.getD t ⟨#[]⟩).toList x.toList && decide (t < ns.length)) _ _ _ (fun t _ ht => by simp [ht])]
    refine Lib.bsGo_spec _ k (fun t ht => ?_) (fun t ht => ?_) _ _ _ (by omega) (Nat.zero_le _) hkl
    · have hm : ns[t]'(by omega) ∈ ns.take k := List.mem_take_iff_getElem.2 ⟨t, by omega, rfl⟩
      have := h1 _ hm
      rw [List.getD_eq_getElem?_getD, List.getElem?_eq_getElem (by omega)]
      simp only [Option.getD_some, Bool.and_eq_true, decide_eq_true_eq]
      exact ⟨this, by omega⟩
    · by_cases hl : t < ns.length
      · have hm : ns[t] ∈ ns.drop k := List.mem_drop_iff_getElem.2 ⟨t - k, by omega, by congr 1; omega⟩
        have := h2 _ hm
        rw [List.getD_eq_getElem?_getD, List.getElem?_eq_getElem hl]
        simp only [Option.getD_some, Bool.and_eq_false_iff]
        exact .inl (by simpa [nLt] using this)
      · simp [hl]
  rw [hkp]
  exact ⟨h1, h2⟩
theorem tkn_spec {ns : List ByteArray} {x : ByteArray} (h : tkn ns x = true) : plc ns x < ns.length ∧ ns.getD (plc ns x) ⟨#[]⟩ = x := by unfold tkn at h; simpa using h
theorem not_tkn {ns : List ByteArray} (hp : ns.Pairwise nLt) {x : ByteArray} (h : tkn ns x = false) : ∀ y ∈ ns.drop (plc ns x), nLt x y := by
  intro y hy
  rcases nLt_total x y with h1 | rfl | h1
  · exact h1
  · have hs := plc_spec hp x
    obtain ⟨j, hj, e⟩ := List.mem_drop_iff_getElem.1 hy
    have hlt : plc ns x < ns.length := by omega
    have h0 : ns[plc ns x]'hlt ∈ ns.drop (plc ns x) := List.mem_drop_iff_getElem.2 ⟨0, by omega, by simp⟩
    have hne : ns[plc ns x]'hlt ≠ x := fun e' => by
      have : tkn ns x = true := by
        unfold tkn
        simp only [decide_eq_true_eq]
        exact ⟨hlt, by rw [List.getD_eq_getElem?_getD, List.getElem?_eq_getElem hlt]; exact e'⟩
      rw [this] at h; cases h
    rcases Nat.eq_zero_or_pos j with rfl | hj0
    · exact absurd (by simpa using e) hne
    · have hq := List.pairwise_iff_getElem.1 hp (plc ns x) (plc ns x + j) hlt (by omega) (by omega)
      rw [e] at hq
      exact absurd hq (hs.2 _ h0)
  · exact absurd h1 ((plc_spec hp x).2 y hy)
theorem rising_ins {ns : List ByteArray} (h : risingT ns = true) {x : ByteArray} (hx : tName x.data.toList = true) (hn : tkn ns x = false) : risingT (ns.take (plc ns x) ++ x :: ns.drop (plc ns x)) = true := by
  rw [risingT_iff] at h ⊢
  refine ⟨fun y hy => ?_, ?_⟩
  · rcases List.mem_append.1 hy with h1 | h1
    · exact h.1 y (List.mem_of_mem_take h1)
    · rcases List.mem_cons.1 h1 with rfl | h1
      · exact hx
      · exact h.1 y (List.mem_of_mem_drop h1)
  · have hs := plc_spec h.2 x
    have ht := not_tkn h.2 hn
    rw [List.pairwise_append]
    refine ⟨h.2.sublist (List.take_sublist _ _), List.pairwise_cons.2 ⟨ht, h.2.sublist (List.drop_sublist _ _)⟩, fun a ha b hb => ?_⟩
    rcases List.mem_cons.1 hb with rfl | hb
    · exact hs.1 a ha
    · exact nLt_trans (hs.1 a ha) (ht b hb)
theorem rising_del {ns : List ByteArray} (h : risingT ns = true) (i : Nat) : risingT (ns.take i ++ ns.drop (i + 1)) = true := by
  rw [risingT_iff] at h ⊢
  have hsub : (ns.take i ++ ns.drop (i + 1)).Sublist ns := by
    conv => rhs; rw [← List.take_append_drop i ns]
    exact (List.Sublist.refl _).append (by rw [← List.drop_drop]; exact List.drop_sublist _ _)
  exact ⟨fun y hy => h.1 y (hsub.subset hy), h.2.sublist hsub⟩

/-! The changes. -/
def kindT : T → UInt8 | .mk k _ _ _ _ => k
def namesT : T → List ByteArray | .mk _ _ _ ns _ => ns
def kidsT : T → List T | .mk _ _ _ _ ks => ks
def insT (t : T) (i : Nat) (nm : ByteArray) (k : T) : T := match t with | .mk kd x d ns ks => .mk kd x d (ns.take i ++ nm :: ns.drop i) (ks.take i ++ k :: ks.drop i)
def delT (t : T) (i : Nat) : T := match t with | .mk kd x d ns ks => .mk kd x d (ns.take i ++ ns.drop (i + 1)) (ks.take i ++ ks.drop (i + 1))
def kidT (t : T) (i : Nat) : T := (kidsT t).getD i default
def setT (t : T) (i : Nat) (k : T) : T := match t with | .mk kd x d ns ks => .mk kd x d ns (ks.set i k)
def emptyDir : T := .mk 3 false [] [] []

/-- What is done at a spot: a new directory, a tree that is put, a drop. -/
inductive Ed where
  | mk
  | put (k : T)
  | drop
/-- The error, the tree, how many trees and bytes there are. -/
abbrev ER := Nat × T × Nat × Nat
def layE (nm : ByteArray) (i dep : Nat) (t k : T) (a b : Nat) : ER := (if 4096 < a + sizeN k ∨ 65536 < b + bytesT k ∨ 16 < dep + heightT k then 2 else 0, insT t i nm k, a + sizeN k, b + bytesT k)
def actE (e : Ed) (nm : ByteArray) (dep : Nat) (t : T) (a b : Nat) : ER :=
  match e with
  | .mk => if tkn (namesT t) nm then (7, t, a, b) else layE nm (plc (namesT t) nm) dep t emptyDir a b
  | .put k => if tkn (namesT t) nm then layE nm (plc (namesT t) nm) dep (delT t (plc (namesT t) nm)) k (a - sizeN (kidT t (plc (namesT t) nm))) (b - bytesT (kidT t (plc (namesT t) nm)))
      else layE nm (plc (namesT t) nm) dep t k a b
  | .drop => if tkn (namesT t) nm then (0, delT t (plc (namesT t) nm), a - sizeN (kidT t (plc (namesT t) nm)), b - bytesT (kidT t (plc (namesT t) nm))) else (6, t, a, b)
def chgE (e : Ed) : List ByteArray → Nat → T → Nat → Nat → ER
  | [], _, t, a, b => (8, t, a, b)
  | nm :: r, dep, t, a, b => if kindT t ≠ 3 then (8, t, a, b) else if r = [] then actE e nm dep t a b
    else if tkn (namesT t) nm then
      ((chgE e r (dep + 1) (kidT t (plc (namesT t) nm)) a b).1, setT t (plc (namesT t) nm) (chgE e r (dep + 1) (kidT t (plc (namesT t) nm)) a b).2.1, (chgE e r (dep + 1) (kidT t (plc (namesT t) nm)) a b).2.2)
    else (6, t, a, b)
/-- What stands at some names. -/
def getE : List ByteArray → T → T
  | [], t => t
  | nm :: r, t => getE r (kidT t (plc (namesT t) nm))

end Go.Proofs.YtbempgdndmchlaaDoor

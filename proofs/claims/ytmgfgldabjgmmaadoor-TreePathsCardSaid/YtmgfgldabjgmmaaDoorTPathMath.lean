/-
  Which texts are paths of a tree: just those at which something stands; none is told twice. No program text.
-/
import Derived.Test.YtmgfgldabjgmmaaDoorTRPaths
import Derived.Test.YtmgfgldabjgmmaaDoorTDownWalk
namespace Go.Proofs.YtmgfgldabjgmmaaDoor
open Go.RowKit
set_option linter.unusedVariables false

theorem less_trans : ∀ a b c : List UInt8, Op.bytesLess a b = true → Op.bytesLess b c = true → Op.bytesLess a c = true
  | _, [], _, h, _ => by simp [Op.bytesLess] at h
  | _, _ :: _, [], _, h => by simp [Op.bytesLess] at h
  | [], _ :: _, _ :: _, _, _ => rfl
  | x :: a, y :: b, z :: c, h1, h2 => by
    simp only [Op.bytesLess, Bool.or_eq_true, decide_eq_true_eq, Bool.and_eq_true, beq_iff_eq] at h1 h2 ⊢
    rcases h1 with h1 | ⟨rfl, h1⟩
    · rcases h2 with h2 | ⟨rfl, h2⟩
      · left; rw [UInt8.lt_iff_toNat_lt] at *; omega
      · exact .inl h1
    · rcases h2 with h2 | ⟨rfl, h2⟩
      · exact .inl h2
      · exact .inr ⟨rfl, less_trans a b c h1 h2⟩

theorem less_irrefl : ∀ a : List UInt8, Op.bytesLess a a = false
  | [] => rfl
  | x :: a => by simp [Op.bytesLess, less_irrefl a]

/-- Names that rise are all different. -/
theorem rising_apart {l : List ByteArray} (h : risingT l = true) : ∀ j i, j < i → i < l.length → Op.bytesLess (l.getD j ⟨#[]⟩).toList (l.getD i ⟨#[]⟩).toList = true := by
  have hr := h
  unfold risingT at hr
  rw [List.all_eq_true] at hr
  have step : ∀ i, 1 ≤ i → i < l.length → Op.bytesLess (l.getD (i - 1) ⟨#[]⟩).toList (l.getD i ⟨#[]⟩).toList = true := fun i h1 hi => by
    have := hr i (List.mem_range.2 hi)
    simp only [Bool.and_eq_true, Bool.or_eq_true, Bool.not_eq_true', beq_iff_eq] at this
    rcases this.2 with h0 | h0
    · omega
    · unfold leS at h0
      have hs := less_swap (l.getD (i - 1) ⟨#[]⟩).toList (l.getD i ⟨#[]⟩).toList
      rw [h0] at hs
      simpa using hs
  intro j i hji hi
  induction i with
  | zero => omega
  | succ i ih =>
    by_cases e : j = i
    · subst e
      have := step (j + 1) (by omega) hi
      simpa using this
    · have h1 := ih (by omega) (by omega)
      have h2 := step (i + 1) (by omega) hi
      exact less_trans _ _ _ h1 (by simpa using h2)

theorem rising_inj {l : List ByteArray} (h : risingT l = true) {j i : Nat} (hj : j < l.length) (hi : i < l.length) (e : l.getD j ⟨#[]⟩ = l.getD i ⟨#[]⟩) : j = i := by
  rcases Nat.lt_trichotomy j i with h1 | h1 | h1
  · have := rising_apart h j i h1 hi
    rw [e, less_irrefl] at this; cases this
  · exact h1
  · have := rising_apart h i j h1 hj
    rw [e, less_irrefl] at this; cases this

theorem rising_name {l : List ByteArray} (h : risingT l = true) {i : Nat} (hi : i < l.length) : tName (l.getD i ⟨#[]⟩).data.toList = true := by
  unfold risingT at h
  rw [List.all_eq_true] at h
  have := h i (List.mem_range.2 hi)
  simp only [Bool.and_eq_true] at this
  exact this.1

theorem tName_facts {l : List UInt8} (h : tName l = true) : l ≠ [] ∧ 47 ∉ l := by
  unfold tName at h
  simp only [Bool.and_eq_true, decide_eq_true_eq, Bool.not_eq_true'] at h
  refine ⟨fun e => ?_, fun e => ?_⟩
  · have := h.1.1.1.1.1
    rw [e] at this; simp at this
  · have := h.1.2
    rw [List.contains_iff_mem.2 e] at this; cases this

theorem pieces_one : ∀ l : List UInt8, 47 ∉ l → pieces l = [l]
  | [], _ => rfl
  | c :: t, h => by
    have hc : c ≠ 47 := fun e => h (by simp [e])
    rw [pieces, if_neg hc, pieces_one t (fun e => h (by simp [e]))]

theorem pieces_cons : ∀ (p h : List UInt8) (r : List (List UInt8)), pieces p = h :: r → 47 ∉ h ∧ ((r = [] ∧ p = h) ∨ ∃ q, p = h ++ 47 :: q ∧ pieces q = r)
  | [], h, r, e => by
    rw [pieces] at e
    cases e
    exact ⟨by simp, .inl ⟨rfl, rfl⟩⟩
  | c :: t, h, r, e => by
    rw [pieces] at e
    by_cases hc : c = 47
    · rw [if_pos hc] at e
      cases e
      subst hc
      exact ⟨by simp, .inr ⟨t, rfl, rfl⟩⟩
    · rw [if_neg hc] at e
      cases hp : pieces t with
      | nil => exact absurd hp (pieces_ne t)
      | cons h' r' =>
        rw [hp] at e
        injection e with e1 e2
        subst e1
        subst e2
        obtain ⟨h1, h2⟩ := pieces_cons t h' r' hp
        refine ⟨fun hm => ?_, ?_⟩
        · rcases List.mem_cons.1 hm with hm | hm
          · exact hc hm.symm
          · exact h1 hm
        · rcases h2 with ⟨rfl, rfl⟩ | ⟨q, rfl, hq⟩
          · exact .inl ⟨rfl, rfl⟩
          · exact .inr ⟨q, rfl, hq⟩

theorem mkB_data (b : ByteArray) : mkB b.data.toList = b := bytes_ext (by simp [mkB])
theorem data_mkB (l : List UInt8) : (mkB l).data.toList = l := by simp [mkB]

/-- What is told of a directory: each name, and what is told of what stands there behind it. -/
theorem mem_pathsL : ∀ (ks : List T) (ns : List ByteArray) (p : ByteArray), ns.length = ks.length → (p ∈ pathsL ks ns ⟨#[]⟩ ↔ ∃ i, i < ks.length ∧ (p = ns.getD i ⟨#[]⟩ ∨ ∃ q ∈ pathsT (ks.getD i default) ⟨#[]⟩, p = ns.getD i ⟨#[]⟩ ++ ⟨#[47]⟩ ++ q))
  | [], ns, p, h => by simp [pathsL]
  | k :: r, [], p, h => by simp at h
  | k :: r, nm :: s, p, h => by
    have ih := mem_pathsL r s p (by simpa using h)
    rw [pathsL, bytes_empty, pathsT_map, List.mem_cons, List.mem_append, ih, List.mem_map]
    constructor
    · rintro (rfl | ⟨q, hq, rfl⟩ | ⟨i, hi, hp⟩)
      · exact ⟨0, by simp, .inl (by simp)⟩
      · exact ⟨0, by simp, .inr ⟨q, by simpa using hq, by simp⟩⟩
      · exact ⟨i + 1, by simpa using hi, by simpa using hp⟩
    · rintro ⟨i, hi, hp⟩
      cases i with
      | zero =>
        rcases hp with hp | ⟨q, hq, hp⟩
        · exact .inl (by simpa using hp)
        · exact .inr (.inl ⟨q, by simpa using hq, by simpa using hp.symm⟩)
      | succ i => exact .inr (.inr ⟨i, by simpa using hi, by simpa using hp⟩)

/-- Something stands there. -/
def Leads (p : List UInt8) (t : T) : Prop := (pieces p).all tName = true ∧ ∃ x, findT ((pieces p).map mkB) t = .inr x

theorem Good.form {k : UInt8} {x : Bool} {d : List UInt8} {ns : List ByteArray} {ks : List T} (h : Good (.mk k x d ns ks)) : formedT (.mk k x d ns ks) = true := by
  obtain ⟨D, c, b, r, h⟩ := h
  exact (takeT_facts h).2.2.1

theorem Good.dir {k : UInt8} {x : Bool} {d : List UInt8} {ns : List ByteArray} {ks : List T} (h : Good (.mk k x d ns ks)) (hk : 0 < ks.length) : k = 3 ∧ risingT ns = true := by
  have hf := h.form
  by_cases h3 : k = 3
  · subst h3
    rw [formedT_dir] at hf
    simp only [Bool.and_eq_true] at hf
    exact ⟨rfl, hf.2⟩
  · rw [formedT_other h3] at hf
    simp only [Bool.and_eq_true, List.isEmpty_iff] at hf
    rw [hf.1.2] at hk; simp at hk

theorem Good.rises {k : UInt8} {x : Bool} {d : List UInt8} {ns : List ByteArray} {ks : List T} (h : Good (.mk k x d ns ks)) : risingT ns = true := by
  by_cases hk : 0 < ks.length
  · exact (h.dir hk).2
  · have hn := h.lens
    have : ns = [] := List.eq_nil_of_length_eq_zero (by omega)
    subst this; rfl

theorem find_one {k : UInt8} {x : Bool} {d : List UInt8} {ns : List ByteArray} {ks : List T} (h : Good (.mk k x d ns ks)) (i : Nat) (hi : i < ks.length) (l : List ByteArray) : findT (ns.getD i ⟨#[]⟩ :: l) (.mk k x d ns ks) = findT l (ks.getD i default) := by
  obtain ⟨rfl, hr⟩ := h.dir (by omega)
  have hn := h.lens
  have hx : Lib.idxOfS ns (ns.getD i ⟨#[]⟩) = (i : Int) := by
    have h1 := Lib.idxOfS_hit ns ns.length i (ns.getD i ⟨#[]⟩) (by omega) (Nat.le_refl _) rfl (fun j hj e => by
      rw [empty_eq] at e
      have := rising_inj hr (by omega) (by omega) e
      omega)
    rwa [List.take_of_length_le (Nat.le_refl _)] at h1
  rw [findT, if_neg (by simp), hx, if_neg (by omega)]
  simp

theorem find_back {k : UInt8} {x : Bool} {d : List UInt8} {ns : List ByteArray} {ks : List T} {nm : ByteArray} {l : List ByteArray} {y : T} (hf : findT (nm :: l) (.mk k x d ns ks) = .inr y) (hn : ns.length = ks.length) : ∃ i, i < ks.length ∧ nm = ns.getD i ⟨#[]⟩ ∧ findT l (ks.getD i default) = .inr y := by
  rw [findT] at hf
  split at hf
  · cases hf
  · split at hf
    · cases hf
    · rename_i h1 h2
      have h0 : 0 ≤ Lib.idxOfS ns nm := by omega
      have hlt : (Lib.idxOfS ns nm).toNat < ks.length := by omega
      refine ⟨_, hlt, ?_, hf⟩
      obtain ⟨j, hj⟩ := List.getElem?_of_mem ((Lib.idxOfS_nonneg_iff ns nm).1 h0)
      have hjl : j < ns.length := (List.getElem?_eq_some_iff.1 hj).1
      -- the first place
      have hex : ∃ m, m < ns.length ∧ ns.getD m ⟨#[]⟩ = nm ∧ ∀ q, q < m → ns.getD q ⟨#[]⟩ ≠ nm := by
        have hj' : ns.getD j ⟨#[]⟩ = nm := by rw [List.getD_eq_getElem?_getD, hj]; rfl
        clear hf h1 h2 h0 hlt
        induction j using Nat.strongRecOn with
        | _ j ih =>
          by_cases hq : ∃ q, q < j ∧ ns.getD q ⟨#[]⟩ = nm
          · obtain ⟨q, hq1, hq2⟩ := hq
            exact ih q hq1 (by rw [← hq2, List.getD_eq_getElem?_getD, List.getElem?_eq_getElem (by omega)]; rfl) (by omega) hq2
          · exact ⟨j, hjl, hj', fun q hq1 hq2 => hq ⟨q, hq1, hq2⟩⟩
      obtain ⟨m, hm, hm1, hm2⟩ := hex
      have hx := Lib.idxOfS_hit ns ns.length m nm hm (Nat.le_refl _) (by rw [empty_eq]; exact hm1) (fun q hq => by rw [empty_eq]; exact hm2 q hq)
      rw [List.take_of_length_le (Nat.le_refl _)] at hx
      rw [hx]
      simpa using hm1.symm

theorem path_leads (N : Nat) : ∀ (t : T), sizeN t ≤ N → Good t → ∀ p : List UInt8, mkB p ∈ pathsT t ⟨#[]⟩ ↔ Leads p t := by
  induction N with
  | zero => intro t h; have := sizeN_pos t; omega
  | succ N ih =>
    intro t hN hg p
    obtain ⟨k, x, d, ns, ks⟩ := t
    rw [sizeN_mk] at hN
    have hn := hg.lens
    have hr := hg.rises
    rw [pathsT, mem_pathsL ks ns _ hn]
    constructor
    · rintro ⟨i, hi, hp⟩
      have hname := rising_name hr (i := i) (by omega)
      have hfs := tName_facts hname
      rcases hp with hp | ⟨q, hq, hp⟩
      · have hpd : p = (ns.getD i ⟨#[]⟩).data.toList := by rw [← hp, data_mkB]
        have hpp : pieces p = [(ns.getD i ⟨#[]⟩).data.toList] := by rw [hpd]; exact pieces_one _ hfs.2
        refine ⟨by rw [hpp]; simp only [List.all_cons, List.all_nil, Bool.and_true]; exact hname, ks.getD i default, ?_⟩
        rw [hpp, List.map_cons, List.map_nil, mkB_data, find_one hg i hi, findT]
      · have hk := (ih (ks.getD i default) (by have := sizeNL_get hi; omega) (hg.kid i hi) q.data.toList).1 (by rw [mkB_data]; exact hq)
        have hpd : p = (ns.getD i ⟨#[]⟩).data.toList ++ 47 :: q.data.toList := by rw [← data_mkB p, hp, slash_cat]
        have hpp : pieces p = (ns.getD i ⟨#[]⟩).data.toList :: pieces q.data.toList := by rw [hpd, pieces_cat, pieces_one _ hfs.2]; rfl
        obtain ⟨hall, y, hy⟩ := hk
        refine ⟨by rw [hpp, List.all_cons, hname, Bool.true_and]; exact hall, y, ?_⟩
        rw [hpp, List.map_cons, mkB_data, find_one hg i hi]
        exact hy
    · rintro ⟨hall, y, hy⟩
      cases hpp : pieces p with
      | nil => exact absurd hpp (pieces_ne p)
      | cons h r =>
        rw [hpp] at hall hy
        rw [List.all_cons, Bool.and_eq_true] at hall
        rw [List.map_cons] at hy
        obtain ⟨i, hi, hnm, hy2⟩ := find_back hy hn
        obtain ⟨_, hc⟩ := pieces_cons p h r hpp
        refine ⟨i, hi, ?_⟩
        rcases hc with ⟨rfl, rfl⟩ | ⟨q, rfl, hq⟩
        · exact .inl hnm
        · refine .inr ⟨mkB q, (ih (ks.getD i default) (by have := sizeNL_get hi; omega) (hg.kid i hi) q).2 ⟨by rw [hq]; exact hall.2, y, by rw [hq]; exact hy2⟩, ?_⟩
          rw [← hnm]
          apply bytes_ext
          rw [data_mkB, slash_cat, data_mkB, data_mkB]

/-- The first name of a path. -/
theorem first_name : ∀ (ks : List T) (ns : List ByteArray), ns.length = ks.length → (∀ i, i < ns.length → 47 ∉ (ns.getD i ⟨#[]⟩).data.toList) → ∀ p ∈ pathsL ks ns ⟨#[]⟩, ∃ i, i < ns.length ∧ (pieces p.data.toList).head? = some (ns.getD i ⟨#[]⟩).data.toList := by
  intro ks ns hn h47 p hp
  obtain ⟨i, hi, hp⟩ := (mem_pathsL ks ns p hn).1 hp
  refine ⟨i, by omega, ?_⟩
  rcases hp with rfl | ⟨q, _, rfl⟩
  · rw [pieces_one _ (h47 i (by omega))]; rfl
  · rw [slash_cat, pieces_cat, pieces_one _ (h47 i (by omega))]; rfl

mutual
theorem paths_nodup : ∀ (t : T), Good t → (pathsT t ⟨#[]⟩).Nodup
  | .mk k x d ns ks, hg => by
    rw [pathsT]
    have hr := hg.rises
    exact pathsL_nodup ks ns hg.lens (fun i hi => (tName_facts (rising_name hr hi)).2) (fun j i hj hi e => rising_inj hr hj hi e) (fun i hi => hg.kid i hi)
theorem pathsL_nodup : ∀ (ks : List T) (ns : List ByteArray), ns.length = ks.length → (∀ i, i < ns.length → 47 ∉ (ns.getD i ⟨#[]⟩).data.toList) → (∀ j i, j < ns.length → i < ns.length → ns.getD j ⟨#[]⟩ = ns.getD i ⟨#[]⟩ → j = i) → (∀ i, i < ks.length → Good (ks.getD i default)) → (pathsL ks ns ⟨#[]⟩).Nodup
  | [], ns, _, _, _, _ => by simp [pathsL]
  | k :: r, [], h, _, _, _ => by simp at h
  | k :: r, nm :: s, hn, h47, hinj, hgood => by
    have hk := paths_nodup k (by have := hgood 0 (by simp); simpa using this)
    have hr := pathsL_nodup r s (by simpa using hn) (fun i hi => by have := h47 (i + 1) (by simpa using hi); simpa using this)
      (fun j i hj hi e => by have := hinj (j + 1) (i + 1) (by simpa using hj) (by simpa using hi) (by simpa using e); omega)
      (fun i hi => by have := hgood (i + 1) (by simpa using hi); simpa using this)
    have hnm : 47 ∉ nm.data.toList := by have := h47 0 (by simp); simpa using this
    have hfirst := first_name r s (by simpa using hn) (fun i hi => by have := h47 (i + 1) (by simpa using hi); simpa using this)
    have hfar : ∀ p ∈ pathsL r s ⟨#[]⟩, (pieces p.data.toList).head? ≠ some nm.data.toList := fun p hp e => by
      obtain ⟨i, hi, hf⟩ := hfirst p hp
      rw [hf] at e
      have e2 : s.getD i ⟨#[]⟩ = nm := bytes_ext (Option.some.inj e)
      have := hinj 0 (i + 1) (by simp) (by simpa using hi) (by simpa using e2.symm)
      omega
    rw [pathsL, bytes_empty, pathsT_map]
    rw [List.nodup_cons, List.nodup_append]
    refine ⟨fun hm => ?_, ?_, hr, fun a ha b hb e => ?_⟩
    · rcases List.mem_append.1 hm with hm | hm
      · obtain ⟨q, _, hq⟩ := List.mem_map.1 hm
        have := congrArg ByteArray.size hq
        simp only [ByteArray.size_append] at this
        have h1 : (⟨#[47]⟩ : ByteArray).size = 1 := rfl
        omega
      · exact hfar nm hm (by rw [pieces_one _ hnm]; rfl)
    · exact List.pairwise_map.2 (List.Pairwise.imp (fun {p q} hne hpq => hne (by
        apply bytes_ext
        have := congrArg (fun z : ByteArray => z.data.toList) hpq
        simpa using this)) hk)
    · subst e
      obtain ⟨q, _, rfl⟩ := List.mem_map.1 ha
      exact hfar _ hb (by rw [slash_cat, pieces_cat, pieces_one _ hnm]; rfl)
end

/-- A path that is told leads to something; and the other way about. -/
theorem told_iff {t : T} (hg : Good t) (p : ByteArray) (h1 : p.data.toList ≠ []) (h2 : p.data.toList.length ≤ 400) : p ∈ pathsT t ⟨#[]⟩ ↔ codeR (atT p.data.toList t) = 0 := by
  have h := path_leads (sizeN t) t (Nat.le_refl _) hg p.data.toList
  rw [mkB_data] at h
  rw [h]
  have hs := splitT_ne h1 h2
  unfold Leads
  by_cases hall : (pieces p.data.toList).all tName = true
  · rw [if_pos hall] at hs
    have e : atT p.data.toList t = findT ((pieces p.data.toList).map mkB) t := by unfold atT; rw [hs]; simp
    rw [e]
    cases hf : findT ((pieces p.data.toList).map mkB) t with
    | inl c =>
      have hc := findT_code _ _ _ hf
      constructor
      · rintro ⟨_, x, hx⟩; cases hx
      · intro h0
        have h0' : c = 0 := h0
        omega
    | inr y => exact ⟨fun _ => rfl, fun _ => ⟨hall, y, rfl⟩⟩
  · rw [if_neg hall] at hs
    have e : atT p.data.toList t = .inl 4 := by unfold atT; rw [hs]; simp
    rw [e]
    constructor
    · rintro ⟨h, _⟩; exact absurd h hall
    · intro h0
      have h0' : (4 : Int) = 0 := h0
      omega

end Go.Proofs.YtmgfgldabjgmmaaDoor

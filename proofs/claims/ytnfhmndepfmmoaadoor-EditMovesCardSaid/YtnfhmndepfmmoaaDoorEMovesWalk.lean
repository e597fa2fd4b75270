/-
  What is put and dropped again, what is moved there and back: as functions on trees. No program text.
-/
import Derived.Test.YtnfhmndepfmmoaaDoorEMath2
import Derived.Test.YtnfhmndepfmmoaaDoorEAtMath
import Derived.Test.YtnfhmndepfmmoaaDoorEApp
import Derived.Test.YtnfhmndepfmmoaaDoorERunA
import Derived.Test.YtnfhmndepfmmoaaDoorEArg
import Derived.BigFrame
import Derived.Test.YtnfhmndepfmmoaaDoorEAwake
import Derived.Test.YtnfhmndepfmmoaaDoorTRSame
import Derived.Test.YtnfhmndepfmmoaaDoorTRForm
import Derived.Test.YtnfhmndepfmmoaaDoorTGreat
namespace Go.Proofs.YtnfhmndepfmmoaaDoor
open Go.RowKit
set_option linter.unusedVariables false

/-! Names and places. -/
theorem plc_of {ns : List ByteArray} {x : ByteArray} {k : Nat} (hkl : k ≤ ns.length) (h1 : ∀ y ∈ ns.take k, nLt y x) (h2 : ∀ y ∈ ns.drop k, ¬ nLt y x) : plc ns x = k := by
  unfold plc
  rw [bsGo_congr (less' := fun t => Op.bytesLess (ns.getD t ⟨#[]⟩).toList x.toList && decide (t < ns.length)) _ _ _ (fun t _ ht => by simp [ht])]
  refine Lib.bsGo_spec _ k (fun t ht => ?_) (fun t ht => ?_) _ _ _ (by omega) (Nat.zero_le _) hkl
  · have hm : ns[t]'(by omega) ∈ ns.take k := List.mem_take_iff_getElem.2 ⟨t, by omega, rfl⟩
    have := h1 _ hm
    rw [List.getD_eq_getElem?_getD, List.getElem?_eq_getElem (by omega)]
    simp only [Option.getD_some, Bool.and_eq_true, decide_eq_true_eq]
    exact ⟨this, by omega⟩
  · by_cases hl : t < ns.length
    · have hm : ns[t] ∈ ns.drop k := List.mem_drop_iff_getElem.2 ⟨t - k, by omega, by congr 1; omega⟩
      have := h2 _ hm
      rw [List.getD_eq_getElem?_getD, List.getElem?_eq_getElem hl]
      simp only [Option.getD_some, Bool.and_eq_false_iff]
      exact .inl (by simpa [nLt] using this)
    · simp [hl]
theorem getD_ns {ns : List ByteArray} {j : Nat} (hj : j < ns.length) : ns.getD j ⟨#[]⟩ = ns[j] := by rw [List.getD_eq_getElem?_getD, List.getElem?_eq_getElem hj]; rfl
theorem plc_mem {ns : List ByteArray} (hp : ns.Pairwise nLt) {j : Nat} (hj : j < ns.length) : plc ns ns[j] = j ∧ tkn ns ns[j] = true := by
  have h1 : plc ns ns[j] = j := plc_of (Nat.le_of_lt hj) (fun y hy => by
    obtain ⟨m, hm, rfl⟩ := List.mem_take_iff_getElem.1 hy
    exact List.pairwise_iff_getElem.1 hp m j (by omega) hj (by omega)) (fun y hy => by
    obtain ⟨m, hm, rfl⟩ := List.mem_drop_iff_getElem.1 hy
    rcases Nat.eq_zero_or_pos m with rfl | h0
    · exact nLt_irr _
    · exact fun h => nLt_irr _ (nLt_trans (List.pairwise_iff_getElem.1 hp j (j + m) hj (by omega) (by omega)) h))
  refine ⟨h1, ?_⟩
  unfold tkn
  rw [h1]
  simp only [decide_eq_true_eq]
  exact ⟨hj, getD_ns hj⟩
theorem tkn_mem {ns : List ByteArray} (hp : ns.Pairwise nLt) {x : ByteArray} : tkn ns x = true ↔ x ∈ ns := by
  constructor
  · intro h
    obtain ⟨h1, h2⟩ := tkn_spec h
    rw [← h2, getD_ns h1]
    exact List.getElem_mem h1
  · intro h
    obtain ⟨j, hj, rfl⟩ := List.mem_iff_getElem.1 h
    exact (plc_mem hp hj).2
theorem idx_tkn {ns : List ByteArray} (hp : ns.Pairwise nLt) {x : ByteArray} : Lib.idxOfS ns x = if tkn ns x = true then (plc ns x : Int) else -1 := by
  have e0 : Lib.idxOfS (ns.take ns.length) x = Lib.idxOfS ns x := by rw [List.take_length]
  by_cases h : tkn ns x = true
  · rw [if_pos h, ← e0]
    obtain ⟨h1, h2⟩ := tkn_spec h
    refine Lib.idxOfS_hit ns ns.length (plc ns x) x h1 (Nat.le_refl _) h2 (fun j hj e => ?_)
    have e' : ns.getD j ⟨#[]⟩ = x := e
    rw [getD_ns (by omega)] at e'
    have := (plc_mem hp (show j < ns.length by omega)).1
    rw [e'] at this
    omega
  · rw [if_neg h, ← e0]
    refine Lib.idxOfS_miss ns ns.length x (fun j hj e => h ((tkn_mem hp).2 ?_))
    have e' : ns.getD j ⟨#[]⟩ = x := e
    rw [getD_ns hj] at e'
    rw [← e']
    exact List.getElem_mem hj

/-- What a directory has by a name. -/
theorem dir_pw {x : Bool} {d : List UInt8} {ns : List ByteArray} {ks : List T} (h : fmA (.mk 3 x d ns ks)) : ns.length = ks.length ∧ ns.Pairwise nLt ∧ risingT ns = true := by
  rw [fmA_mk] at h
  obtain ⟨h1, h2, _⟩ := dir_form h.1
  exact ⟨h1, ((risingT_iff ns).1 h2).2, h2⟩
theorem find_dir {x : Bool} {d : List UInt8} {ns : List ByteArray} {ks : List T} (h : fmA (.mk 3 x d ns ks)) (nm : ByteArray) (r : List ByteArray) : findT (nm :: r) (.mk 3 x d ns ks) = if tkn ns nm = true then findT r (ks.getD (plc ns nm) default) else .inl 6 := by
  obtain ⟨hl, hp, _⟩ := dir_pw h
  rw [findT, if_neg (by simp), idx_tkn hp]
  by_cases ht : tkn ns nm = true
  · have := (tkn_spec ht).1
    rw [if_pos ht, if_pos ht, if_neg (by omega)]
    rfl
  · rw [if_neg ht, if_neg ht, if_pos (.inl (by omega))]

theorem chg_dir (e : Ed) (nm : ByteArray) (r : List ByteArray) (hr : r ≠ []) (dep : Nat) (x : Bool) (d : List UInt8) (ns : List ByteArray) (ks : List T) (a b : Nat) : chgE e (nm :: r) dep (.mk 3 x d ns ks) a b =
    if tkn ns nm = true then ((chgE e r (dep + 1) (ks.getD (plc ns nm) default) a b).1, .mk 3 x d ns (ks.set (plc ns nm) (chgE e r (dep + 1) (ks.getD (plc ns nm) default) a b).2.1), (chgE e r (dep + 1) (ks.getD (plc ns nm) default) a b).2.2) else (6, .mk 3 x d ns ks, a, b) := by
  rw [chgE]
  show (if ((3 : UInt8) ≠ 3) then _ else _) = _
  rw [if_neg (by decide), if_neg hr]
  rfl
theorem chg_one (e : Ed) (nm : ByteArray) (dep : Nat) (x : Bool) (d : List UInt8) (ns : List ByteArray) (ks : List T) (a b : Nat) : chgE e [nm] dep (.mk 3 x d ns ks) a b = actE e nm dep (.mk 3 x d ns ks) a b := by
  rw [chgE]
  show (if ((3 : UInt8) ≠ 3) then _ else _) = _
  rw [if_neg (by decide), if_pos rfl]
theorem chg_not (e : Ed) (nm : ByteArray) (r : List ByteArray) (dep : Nat) (k : UInt8) (hk : k ≠ 3) (x : Bool) (d : List UInt8) (ns : List ByteArray) (ks : List T) (a b : Nat) : chgE e (nm :: r) dep (.mk k x d ns ks) a b = (8, .mk k x d ns ks, a, b) := by
  rw [chgE]
  show (if (k ≠ 3) then _ else _) = _
  rw [if_pos hk]
theorem drop_one {ns : List ByteArray} {nm : ByteArray} (dep : Nat) (x : Bool) (d : List UInt8) (ks : List T) (a b : Nat) : actE .drop nm dep (.mk 3 x d ns ks) a b =
    if tkn ns nm = true then (0, .mk 3 x d (ns.take (plc ns nm) ++ ns.drop (plc ns nm + 1)) (ks.take (plc ns nm) ++ ks.drop (plc ns nm + 1)), a - sizeN (ks.getD (plc ns nm) default), b - bytesT (ks.getD (plc ns nm) default)) else (6, .mk 3 x d ns ks, a, b) := rfl

/-- What drop tells is what At tells. -/
theorem drop_find : ∀ (l : List ByteArray), l ≠ [] → ∀ (t : T) (dep a b : Nat), fmA t → findT l t = if (chgE .drop l dep t a b).1 = 0 then .inr (getE l t) else .inl ((chgE .drop l dep t a b).1 : Int)
  | [], hne, _, _, _, _, _ => absurd rfl hne
  | nm :: r, _, .mk k x d ns ks, dep, a, b, hf => by
    by_cases hk : k = 3
    · subst hk
      have hp := dir_pw hf
      rw [find_dir hf]
      by_cases hr : r = []
      · subst hr
        rw [chg_one, drop_one]
        by_cases ht : tkn ns nm = true
        · simp only [if_pos ht]; rfl
        · simp only [if_neg ht]; rfl
      · rw [chg_dir _ _ _ hr]
        by_cases ht : tkn ns nm = true
        · simp only [if_pos ht]
          have hi : plc ns nm < ks.length := by rw [← hp.1]; exact (tkn_spec ht).1
          rw [fmA_mk] at hf
          exact drop_find r hr _ (dep + 1) a b (fmL_getD hf.2 hi)
        · simp only [if_neg ht]; rfl
    · rw [chg_not _ _ _ _ _ hk, findT, if_pos hk]; rfl

theorem set_take {ks : List T} {i : Nat} {k : T} : (ks.set i k).take i = ks.take i := by rw [List.take_set_of_le (Nat.le_refl _)]
theorem set_drop {ks : List T} {i : Nat} {k : T} : (ks.set i k).drop (i + 1) = ks.drop (i + 1) := by rw [List.drop_set_of_lt (by omega)]
theorem set_get {ks : List T} {i : Nat} (hi : i < ks.length) (k : T) : (ks.set i k).getD i default = k := by rw [getD_set hi, if_pos rfl]
theorem set_self {ks : List T} {i : Nat} (hi : i < ks.length) : ks.set i (ks.getD i default) = ks := by
  rw [set_at hi]; exact (split_at hi).symm

/-- Where a name that was not there stands, behind its insertion. -/
theorem ins_plc {ns : List ByteArray} (h : risingT ns = true) {nm : ByteArray} (hn : tName nm.data.toList = true) (ht : tkn ns nm = false) : plc (ns.take (plc ns nm) ++ nm :: ns.drop (plc ns nm)) nm = plc ns nm ∧ tkn (ns.take (plc ns nm) ++ nm :: ns.drop (plc ns nm)) nm = true := by
  have hr := ((risingT_iff _).1 (rising_ins h hn ht)).2
  have hpl := plc_le ns nm
  have hj : plc ns nm < (ns.take (plc ns nm) ++ nm :: ns.drop (plc ns nm)).length := by simp; omega
  have hg : (ns.take (plc ns nm) ++ nm :: ns.drop (plc ns nm))[plc ns nm] = nm := by
    rw [← getD_ns hj, getD_ins hpl, if_neg (by omega), if_pos rfl]
  have := plc_mem hr hj
  rw [hg] at this
  exact this
theorem ins_del {α : Type} {l : List α} {i : Nat} (hi : i ≤ l.length) (k : α) : (l.take i ++ k :: l.drop i).take i ++ (l.take i ++ k :: l.drop i).drop (i + 1) = l := by
  have h1 : (l.take i).length = i := by rw [List.length_take]; omega
  rw [List.take_left' h1, show l.take i ++ k :: l.drop i = (l.take i ++ [k]) ++ l.drop i by simp, List.drop_left' (by simp; omega), List.take_append_drop]

/-- Behind a put: what is there; what a drop there leaves. -/
theorem put_drop (k : T) (hk : fmA k) : ∀ (m : List ByteArray), m ≠ [] → (∀ x ∈ m, tName x.data.toList = true) → ∀ (t : T) (dep a b a' b' a2 b2 : Nat), Lim t dep a b → (chgE (.put k) m dep t a b).1 = 0 →
    findT m (chgE (.put k) m dep t a b).2.1 = .inr k ∧ (chgE .drop m dep (chgE (.put k) m dep t a b).2.1 a' b').1 = 0 ∧
      ((chgE .drop m dep t a2 b2).1 = 0 ∧ (chgE .drop m dep (chgE (.put k) m dep t a b).2.1 a' b').2.1 = (chgE .drop m dep t a2 b2).2.1 ∨
        (chgE .drop m dep t a2 b2).1 = 6 ∧ (chgE .drop m dep (chgE (.put k) m dep t a b).2.1 a' b').2.1 = t)
  | [], hne, _, _, _, _, _, _, _, _, _, _, _ => absurd rfl hne
  | nm :: r, _, hn, .mk kd x d ns ks, dep, a, b, a', b', a2, b2, hl, h0 => by
    by_cases hk3 : kd = 3
    · subst hk3
      have hf := hl.1
      obtain ⟨hlen, hp, hris⟩ := dir_pw hf
      by_cases hr : r = []
      · subst hr
        have hd := act_done (.put k) (fun q hq => by cases hq; exact hk) (hn nm (by simp)) hl (by rw [chg_one] at h0; exact h0)
        rw [chg_one] at h0 ⊢
        have hfu := hd.fm
        have hpl := plc_le ns nm
        rcases ht : tkn ns nm with _ | _
        · have hu : (actE (.put k) nm dep (.mk 3 x d ns ks) a b).2.1 = .mk 3 x d (ns.take (plc ns nm) ++ nm :: ns.drop (plc ns nm)) (ks.take (plc ns nm) ++ k :: ks.drop (plc ns nm)) := by
            show (if tkn ns nm = true then _ else layE nm (plc ns nm) dep (.mk 3 x d ns ks) k a b).2.1 = _
            rw [ht]; rfl
          obtain ⟨p1, p2⟩ := ins_plc hris (hn nm (by simp)) ht
          rw [hu] at hfu ⊢
          rw [find_dir hfu, if_pos p2, p1, getD_ins (by omega), if_neg (by omega), if_pos rfl, chg_one, chg_one, drop_one, drop_one, if_pos p2, p1, ht]
          refine ⟨by rw [findT], rfl, .inr ⟨rfl, ?_⟩⟩
          simp only
          rw [ins_del hpl, ins_del (by omega)]
        · have hu : (actE (.put k) nm dep (.mk 3 x d ns ks) a b).2.1 = .mk 3 x d ns (ks.set (plc ns nm) k) := by
            rw [← put_there (k := 3) (x := x) (d := d) hlen ht k]
            show (if tkn ns nm = true then _ else _ : ER).2.1 = _
            rw [ht]; rfl
          have hi : plc ns nm < ks.length := by rw [← hlen]; exact (tkn_spec ht).1
          rw [hu] at hfu ⊢
          rw [find_dir hfu, if_pos ht, set_get hi, chg_one, chg_one, drop_one, drop_one, if_pos ht, if_pos ht]
          refine ⟨by rw [findT], rfl, .inl ⟨rfl, ?_⟩⟩
          simp only
          rw [set_take, set_drop]
      · rw [chg_dir _ _ _ hr] at h0 ⊢
        rcases ht : tkn ns nm with _ | _
        · rw [ht] at h0; simp at h0
        · rw [ht] at h0
          simp only [if_true] at h0 ⊢
          have hi : plc ns nm < ks.length := by rw [← hlen]; exact (tkn_spec ht).1
          have ih := put_drop k hk r hr (fun y hy => hn y (List.mem_cons_of_mem _ hy)) (ks.getD (plc ns nm) default) (dep + 1) a b a' b' a2 b2 (hl.kid hi) h0
          have hq := chg_done (.put k) (fun q hq => by cases hq; exact hk) r (fun y hy => hn y (List.mem_cons_of_mem _ hy)) (ks.getD (plc ns nm) default) (dep + 1) a b (hl.kid hi) h0
          rw [fmA_mk] at hf
          have hfu : fmA (.mk 3 x d ns (ks.set (plc ns nm) (chgE (.put k) r (dep + 1) (ks.getD (plc ns nm) default) a b).2.1)) := by
            rw [fmA_mk]
            exact ⟨(dir_form hf.1).2.2 _ _ (by rw [List.length_set]; exact hlen) hris, set_fm hi hf.2 hq.fm⟩
          rw [find_dir hfu, if_pos ht, set_get hi, chg_dir _ _ _ hr, chg_dir _ _ _ hr, if_pos ht, if_pos ht, set_get hi]
          refine ⟨ih.1, ih.2.1, ?_⟩
          rcases ih.2.2 with ⟨q1, q2⟩ | ⟨q1, q2⟩
          · exact .inl ⟨q1, by simp only; rw [q2, List.set_set]⟩
          · exact .inr ⟨q1, by simp only; rw [q2, List.set_set, set_self hi]⟩
    · rw [chg_not _ _ _ _ _ hk3] at h0; simp at h0

/-- What is dropped and put again is where it was. -/
theorem drop_put : ∀ (l : List ByteArray), l ≠ [] → (∀ x ∈ l, tName x.data.toList = true) → ∀ (t : T) (dep a b : Nat), Lim t dep a b → (chgE .drop l dep t a b).1 = 0 →
    chgE (.put (getE l t)) l dep (chgE .drop l dep t a b).2.1 (chgE .drop l dep t a b).2.2.1 (chgE .drop l dep t a b).2.2.2 = (0, t, a, b)
  | [], hne, _, _, _, _, _, _, _ => absurd rfl hne
  | nm :: r, _, hn, .mk kd x d ns ks, dep, a, b, hl, h0 => by
    by_cases hk3 : kd = 3
    · subst hk3
      have hf := hl.1
      obtain ⟨hlen, hp, hris⟩ := dir_pw hf
      by_cases hr : r = []
      · subst hr
        rw [chg_one, drop_one] at h0 ⊢
        rcases ht : tkn ns nm with _ | _
        · rw [ht] at h0; simp at h0
        · obtain ⟨h1, h2⟩ := tkn_spec ht
          have hi : plc ns nm < ks.length := by rw [← hlen]; exact h1
          simp only [if_true]
          rw [chg_one]
          have hg : getE [nm] (.mk 3 x d ns ks) = ks.getD (plc ns nm) default := rfl
          rw [hg]
          -- the name is gone, and its place is the same
          have hrd := rising_del hris (plc ns nm)
          have hnl : ∀ y ∈ ns.take (plc ns nm), nLt y nm := (plc_spec hp nm).1
          have hng : ∀ y ∈ ns.drop (plc ns nm + 1), nLt nm y := fun y hy => by
            obtain ⟨j, hj, rfl⟩ := List.mem_drop_iff_getElem.1 hy
            have e : ns[plc ns nm] = nm := by rw [← getD_ns h1]; exact h2
            have := List.pairwise_iff_getElem.1 hp (plc ns nm) (plc ns nm + 1 + j) h1 (by omega) (by omega)
            rw [e] at this
            exact this
          have t1 : (ns.take (plc ns nm)).length = plc ns nm := by rw [List.length_take]; omega
          have hp1 : plc (ns.take (plc ns nm) ++ ns.drop (plc ns nm + 1)) nm = plc ns nm := plc_of (by simp; omega) (fun y hy => by rw [List.take_left' t1] at hy; exact hnl y hy) (fun y hy => by
            rw [List.drop_left' t1] at hy
            exact fun h => nLt_irr _ (nLt_trans (hng y hy) h))
          have hp2 : tkn (ns.take (plc ns nm) ++ ns.drop (plc ns nm + 1)) nm = false := by
            cases hq : tkn (ns.take (plc ns nm) ++ ns.drop (plc ns nm + 1)) nm with
            | false => rfl
            | true =>
              have hm := (tkn_mem ((risingT_iff _).1 hrd).2).1 hq
              rcases List.mem_append.1 hm with h | h
              · exact absurd (hnl _ h) (nLt_irr _)
              · exact absurd (hng _ h) (nLt_irr _)
          show (if tkn (ns.take (plc ns nm) ++ ns.drop (plc ns nm + 1)) nm = true then _ else layE nm (plc (ns.take (plc ns nm) ++ ns.drop (plc ns nm + 1)) nm) dep (.mk 3 x d (ns.take (plc ns nm) ++ ns.drop (plc ns nm + 1)) (ks.take (plc ns nm) ++ ks.drop (plc ns nm + 1))) (ks.getD (plc ns nm) default) (a - sizeN (ks.getD (plc ns nm) default)) (b - bytesT (ks.getD (plc ns nm) default)) : ER) = _
          rw [hp2, hp1]
          have hself := put_there (k := 3) (x := x) (d := d) hlen ht (ks.getD (plc ns nm) default)
          rw [set_self hi] at hself
          have hs := sizeNL_get hi
          have hb := bytesL_kid hi
          have hh := height_get hi
          obtain ⟨l1, l2, l3, l4, l5, l6, l7⟩ := hl
          rw [sizeN_mk] at l4
          rw [bytesT_mk] at l6
          rw [heightT_mk] at l3
          simp only [Bool.false_eq_true, if_false]
          unfold layE
          rw [if_neg (by omega)]
          have e1 : a - sizeN (ks.getD (plc ns nm) default) + sizeN (ks.getD (plc ns nm) default) = a := by omega
          have e2 : b - bytesT (ks.getD (plc ns nm) default) + bytesT (ks.getD (plc ns nm) default) = b := by omega
          rw [e1, e2]
          exact congrArg (fun z => ((0, z, a, b) : ER)) hself
      · rw [chg_dir _ _ _ hr] at h0 ⊢
        rcases ht : tkn ns nm with _ | _
        · rw [ht] at h0; simp at h0
        · rw [ht] at h0
          simp only [if_true] at h0 ⊢
          have hi : plc ns nm < ks.length := by rw [← hlen]; exact (tkn_spec ht).1
          have ih := drop_put r hr (fun y hy => hn y (List.mem_cons_of_mem _ hy)) (ks.getD (plc ns nm) default) (dep + 1) a b (hl.kid hi) h0
          have hg : getE (nm :: r) (.mk 3 x d ns ks) = getE r (ks.getD (plc ns nm) default) := rfl
          rw [hg, chg_dir _ _ _ hr, if_pos ht, set_get hi, ih]
          simp only
          rw [List.set_set, set_self hi]
    · rw [chg_not _ _ _ _ _ hk3] at h0; simp at h0

theorem ld_rowG {P : Program} {ops : Array Oper} {rest : List Oper} {o : Oper} {a : Act} {w : World} {Q : Exit → Act → World → Prop} (hw : Region.wanted o (yielded ops a.tmps) = true) (ty : TypeId) (x : Operand) (ho : o.op = .load ty x)
    (g : Nat) (hx : a.eval x = .pointer (some ⟨g, 0, none⟩)) (t : TypeId) (cs : Array Value) (fr : Nat × Nat) (d : TypeDesc) (hg : w.heap[g]? = some (.cells cs t fr))
    (hu : P.underlying ty = some d) (hd : (match d with | .struct _ | .array _ _ => true | _ => false) = true) (hi : (P.info? ty).map (·.size) = some cs.size)
    (h : wpList P ops Q rest (a.put o.dst (.agg cs)) w) : wpList P ops Q (o :: rest) a w :=
  BigFrame.wpList_want hw fun _ hK => wp_load_row ty x ho g hx t cs fr d hg hu hd hi (hK _ _ h)

theorem run_small {t : T} {l : List EdD} (h : (runE t l).1 = 0) : Small (runE t l).2.1 ∧ (sizeT (runE t l).2.1).isSome = true := by
  rcases hs : (sizeT t).isSome with _ | _
  · rw [run_bad hs] at h; cases h
  · rw [run_good hs] at h ⊢
    have hx := foldE_ok l (exact_of hs) h
    exact ⟨hx.1.small.1, hx.size⟩
theorem run_one {t : T} (hs : (sizeT t).isSome = true) (x : EdD) : runE t [x] = applyE x t (sizeN t) (bytesT t) := by
  rw [run_good hs, foldE]
  by_cases h : (applyE x t (sizeN t) (bytesT t)).1 ≠ 0
  · rw [if_pos h]
  · rw [if_neg h, foldE]
    have h0 : (applyE x t (sizeN t) (bytesT t)).1 = 0 := by simpa using h
    exact Prod.ext h0.symm rfl
theorem bel_split {s : List UInt8} (h : belN s = 0) : splitT s = (pieces s, 0) := by
  unfold belN at h
  unfold splitT
  by_cases h1 : 400 < s.length
  · rw [if_pos h1] at h; cases h
  · rw [if_neg h1] at h ⊢
    by_cases h2 : s = []
    · rw [if_pos h2] at h; cases h
    · rw [if_neg h2] at h ⊢
      by_cases h3 : (pieces s).all tName = true
      · rw [if_pos h3]
      · rw [if_neg h3] at h; cases h
theorem at_names {s : List UInt8} (h : belN s = 0) (t : T) : atT s t = findT (nmE s) t := by
  unfold atT
  rw [bel_split h, if_pos rfl]
  rfl
theorem app_put (p src : ByteArray) (k t : T) (a b : Nat) (hb : belN p.data.toList = 0) (hk : (sizeT k).isSome = true) : applyE ⟨2, p, src, k⟩ t a b = chgE (.put k) (nmE p.data.toList) 1 t a b := by
  unfold applyE
  rw [if_neg (by simp [hb]), if_neg (show ¬ ((2 : UInt8) = 1) by decide), if_pos rfl, if_pos hk]
theorem app_drop (p src : ByteArray) (k t : T) (a b : Nat) (hb : belN p.data.toList = 0) : applyE ⟨4, p, src, k⟩ t a b = chgE .drop (nmE p.data.toList) 1 t a b := by
  unfold applyE
  rw [if_neg (by simp [hb]), if_neg (show ¬ ((4 : UInt8) = 1) by decide), if_neg (show ¬ ((4 : UInt8) = 2) by decide), if_neg (show ¬ ((4 : UInt8) = 3) by decide), if_pos rfl]
theorem app_bel (x : EdD) (t : T) (a b : Nat) (h : (applyE x t a b).1 = 0) : belN x.path.data.toList = 0 := by
  unfold applyE at h
  by_cases hb : belN x.path.data.toList ≠ 0
  · simp only [if_pos hb] at h; exact absurd h hb
  · simpa using hb

/-- What is put and dropped again. -/
theorem undone (p : ByteArray) (t k : T) (ht : (sizeT t).isSome = true) (hk : (sizeT k).isSome = true) (h : (runE t [⟨2, p, ⟨#[]⟩, k⟩]).1 = 0) :
    atT p.data.toList (runE t [⟨2, p, ⟨#[]⟩, k⟩]).2.1 = .inr k ∧ (runE (runE t [⟨2, p, ⟨#[]⟩, k⟩]).2.1 [⟨4, p, ⟨#[]⟩, zeroT⟩]).1 = 0 ∧
      (((runE t [⟨4, p, ⟨#[]⟩, zeroT⟩]).1 = 0 ∧ (runE (runE t [⟨2, p, ⟨#[]⟩, k⟩]).2.1 [⟨4, p, ⟨#[]⟩, zeroT⟩]).2.1 = (runE t [⟨4, p, ⟨#[]⟩, zeroT⟩]).2.1) ∨
        ((runE t [⟨4, p, ⟨#[]⟩, zeroT⟩]).1 = 6 ∧ (runE (runE t [⟨2, p, ⟨#[]⟩, k⟩]).2.1 [⟨4, p, ⟨#[]⟩, zeroT⟩]).2.1 = t)) := by
  have hu := (run_small h).2
  rw [run_one hu, run_one ht (⟨4, p, ⟨#[]⟩, zeroT⟩ : EdD)]
  rw [run_one ht] at h ⊢
  have hb : belN p.data.toList = 0 := app_bel ⟨2, p, ⟨#[]⟩, k⟩ t _ _ h
  rw [app_put _ _ _ _ _ _ hb hk] at h ⊢
  rw [at_names hb, app_drop _ _ _ _ _ _ hb, app_drop _ _ _ _ _ _ hb]
  exact put_drop k (sizeT_get hk).2.1 (nmE p.data.toList) (nmE_ne _) (nmE_names hb) t 1 (sizeN t) (bytesT t) _ _ _ _ (exact_of ht).1 h

theorem one_edit {w : World} {g m : Nat} {cs : List Value} {x : EdD} (h : Has w g cs 41) (hx : IsX w m cs x) : IsXs w m (some ⟨g, 0, none⟩) 1 1 [x] :=
  ⟨rfl, .inr ⟨g, 0, rfl, h.lt, fun i hi => ⟨cs, by
    obtain rfl : i = 0 := by omega
    exact hx, fun j v hv => by
    obtain rfl : i = 0 := by omega
    have := h.cellAt hv
    simpa using this⟩⟩, (fun e => by cases e), Nat.le_refl _, by decide⟩

end Go.Proofs.YtnfhmndepfmmoaaDoor

namespace Go.Proofs.YtnfhmndepfmmoaaDoor
open Go.RowKit
set_option linter.unusedVariables false

/-! A path is its names. -/
def unp : List (List UInt8) → List UInt8
  | [] => []
  | [p] => p
  | p :: q :: r => p ++ 47 :: unp (q :: r)
theorem unp_pieces : ∀ s : List UInt8, unp (pieces s) = s
  | [] => rfl
  | c :: t => by
    have ih := unp_pieces t
    cases hp : pieces t with
    | nil =>
      exfalso
      cases t with
      | nil => simp [pieces] at hp
      | cons a b =>
        unfold pieces at hp
        split at hp
        · cases hp
        · split at hp <;> cases hp
    | cons p r =>
      rw [hp] at ih
      unfold pieces
      by_cases hc : c = 47
      · rw [if_pos hc, hp, unp, ih, hc]; rfl
      · rw [if_neg hc, hp]
        cases r with
        | nil =>
          rw [unp] at ih
          show unp [c :: p] = c :: t
          rw [unp, ih]
        | cons q r =>
          rw [unp] at ih
          show unp ((c :: p) :: q :: r) = c :: t
          rw [unp, List.cons_append, ih]
theorem nmE_inj {a b : ByteArray} (h : nmE a.data.toList = nmE b.data.toList) : a = b := by
  have hp : pieces a.data.toList = pieces b.data.toList := by
    have e : ∀ l : List (List UInt8), (l.map fun p => (⟨p.toArray⟩ : ByteArray)).map (·.data.toList) = l := fun l => by
      rw [List.map_map]
      conv => rhs; rw [← List.map_id l]
      exact List.map_congr_left fun x _ => by simp
    have := congrArg (List.map (·.data.toList)) h
    unfold nmE at this
    rwa [e, e] at this
  have := congrArg unp hp
  rw [unp_pieces, unp_pieces] at this
  exact bytes_ext this

/-! What a name leads to, in a directory that was changed elsewhere. -/
theorem look_at {ns : List ByteArray} {ks : List T} (hp : ns.Pairwise nLt) {j : Nat} {nm : ByteArray} (hj : j < ns.length) (hn : ns.getD j ⟨#[]⟩ = nm) : tkn ns nm = true ∧ plc ns nm = j := by
  rw [getD_ns hj] at hn
  subst hn
  exact ⟨(plc_mem hp hj).2, (plc_mem hp hj).1⟩
theorem not_at {ns : List ByteArray} (hp : ns.Pairwise nLt) {nm : ByteArray} (h : nm ∉ ns) : tkn ns nm = false := by
  cases ht : tkn ns nm with
  | false => rfl
  | true => exact absurd ((tkn_mem hp).1 ht) h

/-- Dropping only takes away. -/
theorem drop_less : ∀ (l : List ByteArray), l ≠ [] → ∀ (m : List ByteArray), m ≠ [] → ∀ (t : T) (dep a b : Nat) (y : T), Lim t dep a b → (∀ x ∈ l, tName x.data.toList = true) → (chgE .drop l dep t a b).1 = 0 → findT m (chgE .drop l dep t a b).2.1 = .inr y → ∃ z, findT m t = .inr z
  | [], hne, _, _, _, _, _, _, _, _, _, _, _ => absurd rfl hne
  | nm :: r, _, [], hne, _, _, _, _, _, _, _, _, _ => absurd rfl hne
  | nm :: r, hl0, n2 :: r2, _, .mk kd x d ns ks, dep, a, b, y, hl, hn, h0, hy => by
    by_cases hk3 : kd = 3
    · subst hk3
      have hf := hl.1
      obtain ⟨hlen, hp, hris⟩ := dir_pw hf
      have hfs := (chg_done .drop (fun k hk => by cases hk) (nm :: r) hn _ dep a b hl h0).fm
      rcases ht : tkn ns nm with _ | _
      · by_cases hr : r = []
        · subst hr; rw [chg_one, drop_one, ht] at h0; simp at h0
        · rw [chg_dir _ _ _ hr, ht] at h0; simp at h0
      have hi : plc ns nm < ks.length := by rw [← hlen]; exact (tkn_spec ht).1
      by_cases hr : r = []
      · subst hr
        rw [chg_one, drop_one, if_pos ht] at hfs hy
        simp only at hfs hy
        obtain ⟨hlen', hp', _⟩ := dir_pw hfs
        rw [find_dir hfs] at hy
        rcases ht2 : tkn (ns.take (plc ns nm) ++ ns.drop (plc ns nm + 1)) n2 with _ | _
        · rw [ht2] at hy; simp at hy
        rw [ht2, if_pos rfl] at hy
        obtain ⟨q1, q2⟩ := tkn_spec ht2
        obtain ⟨j, hj⟩ : ∃ j, j = plc (ns.take (plc ns nm) ++ ns.drop (plc ns nm + 1)) n2 := ⟨_, rfl⟩
        rw [← hj] at q1 q2 hy
        rw [getD_del (by omega)] at q2
        rw [getD_del hi] at hy
        have hlj : (ns.take (plc ns nm) ++ ns.drop (plc ns nm + 1)).length = ns.length - 1 := by simp; omega
        rw [find_dir hf]
        by_cases hlt : j < plc ns nm
        · rw [if_pos hlt] at q2 hy
          obtain ⟨p1, p2⟩ := look_at (ks := ks) hp (show j < ns.length by omega) q2
          rw [if_pos p1, p2]; exact ⟨y, hy⟩
        · rw [if_neg hlt] at q2 hy
          obtain ⟨p1, p2⟩ := look_at (ks := ks) hp (show j + 1 < ns.length by omega) q2
          rw [if_pos p1, p2]; exact ⟨y, hy⟩
      · rw [chg_dir _ _ _ hr, if_pos ht] at hfs hy h0
        simp only at hfs hy h0
        rw [find_dir hfs] at hy
        rw [find_dir hf]
        rcases ht2 : tkn ns n2 with _ | _
        · rw [ht2] at hy; simp at hy
        rw [ht2, if_pos rfl, getD_set hi] at hy
        rw [if_pos rfl]
        by_cases he : plc ns n2 = plc ns nm
        · rw [if_pos he] at hy
          by_cases hr2 : r2 = []
          · subst hr2; exact ⟨_, by rw [findT]⟩
          · rw [he]
            exact drop_less r hr r2 hr2 _ (dep + 1) a b y (hl.kid hi) (fun z hz => hn z (List.mem_cons_of_mem _ hz)) h0 hy
        · rw [if_neg he] at hy
          exact ⟨y, hy⟩
    · rw [chg_not _ _ _ _ _ hk3] at h0; simp at h0

/-- What is dropped is gone. -/
theorem drop_gone : ∀ (l : List ByteArray), l ≠ [] → ∀ (t : T) (dep a b : Nat), Lim t dep a b → (∀ x ∈ l, tName x.data.toList = true) → (chgE .drop l dep t a b).1 = 0 → ∃ c, findT l (chgE .drop l dep t a b).2.1 = .inl c
  | [], hne, _, _, _, _, _, _, _ => absurd rfl hne
  | nm :: r, _, .mk kd x d ns ks, dep, a, b, hl, hn, h0 => by
    by_cases hk3 : kd = 3
    · subst hk3
      have hf := hl.1
      obtain ⟨hlen, hp, hris⟩ := dir_pw hf
      have hfs := (chg_done .drop (fun k hk => by cases hk) (nm :: r) hn _ dep a b hl h0).fm
      rcases ht : tkn ns nm with _ | _
      · by_cases hr : r = []
        · subst hr; rw [chg_one, drop_one, ht] at h0; simp at h0
        · rw [chg_dir _ _ _ hr, ht] at h0; simp at h0
      have hi : plc ns nm < ks.length := by rw [← hlen]; exact (tkn_spec ht).1
      by_cases hr : r = []
      · subst hr
        rw [chg_one, drop_one, if_pos ht] at hfs ⊢
        simp only at hfs ⊢
        obtain ⟨hlen', hp', _⟩ := dir_pw hfs
        obtain ⟨h1, h2⟩ := tkn_spec ht
        have e : ns[plc ns nm] = nm := by rw [← getD_ns h1]; exact h2
        have hnot : nm ∉ ns.take (plc ns nm) ++ ns.drop (plc ns nm + 1) := fun hm => by
          rcases List.mem_append.1 hm with h | h
          · exact nLt_irr _ ((plc_spec hp nm).1 nm h)
          · obtain ⟨j, hj, e'⟩ := List.mem_drop_iff_getElem.1 h
            have := List.pairwise_iff_getElem.1 hp (plc ns nm) (plc ns nm + 1 + j) h1 (by omega) (by omega)
            rw [e, e'] at this
            exact nLt_irr _ this
        rw [find_dir hfs, not_at hp' hnot]
        exact ⟨6, rfl⟩
      · rw [chg_dir _ _ _ hr, if_pos ht] at hfs h0 ⊢
        simp only at hfs h0 ⊢
        rw [find_dir hfs, if_pos ht, set_get hi]
        exact drop_gone r hr _ (dep + 1) a b (hl.kid hi) (fun z hz => hn z (List.mem_cons_of_mem _ hz)) h0
    · rw [chg_not _ _ _ _ _ hk3] at h0; simp at h0

/-- A put elsewhere. -/
theorem put_other (k : T) (hk : fmA k) {nm n2 : ByteArray} (hne : nm ≠ n2) (r r2 : List ByteArray) (s : T) (dep a b : Nat) (hl : Lim s dep a b) (hn : ∀ x ∈ n2 :: r2, tName x.data.toList = true) (h0 : (chgE (.put k) (n2 :: r2) dep s a b).1 = 0) :
    findT (nm :: r) (chgE (.put k) (n2 :: r2) dep s a b).2.1 = findT (nm :: r) s := by
  obtain ⟨kd, x, d, ns, ks⟩ := s
  by_cases hk3 : kd = 3
  · subst hk3
    have hf := hl.1
    obtain ⟨hlen, hp, hris⟩ := dir_pw hf
    have hfu := (chg_done (.put k) (fun q hq => by cases hq; exact hk) (n2 :: r2) hn _ dep a b hl h0).fm
    have hset : ∀ q, tkn ns n2 = true → fmA (.mk 3 x d ns (ks.set (plc ns n2) q)) → findT (nm :: r) (.mk 3 x d ns (ks.set (plc ns n2) q)) = findT (nm :: r) (.mk 3 x d ns ks) := fun q ht2 hfq => by
      have hi : plc ns n2 < ks.length := by rw [← hlen]; exact (tkn_spec ht2).1
      rw [find_dir hfq, find_dir hf]
      rcases ht : tkn ns nm with _ | _
      · rfl
      · rw [if_pos rfl, if_pos rfl, getD_set hi, if_neg (fun e => hne (by rw [← (tkn_spec ht).2, e, (tkn_spec ht2).2]))]
    by_cases hr : r2 = []
    · subst hr
      rw [chg_one] at h0 hfu ⊢
      rcases ht2 : tkn ns n2 with _ | _
      · have hu : (actE (.put k) n2 dep (.mk 3 x d ns ks) a b).2.1 = .mk 3 x d (ns.take (plc ns n2) ++ n2 :: ns.drop (plc ns n2)) (ks.take (plc ns n2) ++ k :: ks.drop (plc ns n2)) := by
          show (if tkn ns n2 = true then _ else layE n2 (plc ns n2) dep (.mk 3 x d ns ks) k a b).2.1 = _
          rw [ht2]; rfl
        rw [hu] at hfu ⊢
        obtain ⟨hlen', hp', _⟩ := dir_pw hfu
        have hpl := plc_le ns n2
        rw [find_dir hfu, find_dir hf]
        rcases ht : tkn ns nm with _ | _
        · have hnot : nm ∉ ns.take (plc ns n2) ++ n2 :: ns.drop (plc ns n2) := fun hm => by
            have hin : nm ∈ ns := by
              rcases List.mem_append.1 hm with h | h
              · exact List.mem_of_mem_take h
              · rcases List.mem_cons.1 h with h | h
                · exact absurd h hne
                · exact List.mem_of_mem_drop h
            rw [(tkn_mem hp).2 hin] at ht; cases ht
          rw [not_at hp' hnot]; rfl
        · obtain ⟨h1, h2⟩ := tkn_spec ht
          rw [if_pos rfl]
          have hll : (ns.take (plc ns n2) ++ n2 :: ns.drop (plc ns n2)).length = ns.length + 1 := by simp; omega
          by_cases hlt : plc ns nm < plc ns n2
          · obtain ⟨p1, p2⟩ := look_at (ks := ks) (nm := nm) hp' (show plc ns nm < _ by rw [hll]; omega) (by rw [getD_ins hpl, if_pos hlt]; exact h2)
            rw [if_pos p1, p2, getD_ins (by omega), if_pos hlt]
          · obtain ⟨p1, p2⟩ := look_at (ks := ks) (nm := nm) hp' (show plc ns nm + 1 < _ by rw [hll]; omega) (by rw [getD_ins hpl, if_neg (by omega), if_neg (by omega)]; exact h2)
            rw [if_pos p1, p2, getD_ins (by omega), if_neg (by omega), if_neg (by omega)]
            rfl
      · have hu : (actE (.put k) n2 dep (.mk 3 x d ns ks) a b).2.1 = .mk 3 x d ns (ks.set (plc ns n2) k) := by
          rw [← put_there (k := 3) (x := x) (d := d) hlen ht2 k]
          show (if tkn ns n2 = true then _ else _ : ER).2.1 = _
          rw [ht2]; rfl
        rw [hu] at hfu ⊢
        exact hset k ht2 hfu
    · rw [chg_dir _ _ _ hr] at h0 hfu ⊢
      rcases ht2 : tkn ns n2 with _ | _
      · rw [ht2] at h0; simp at h0
      · rw [ht2] at hfu
        simp only [if_true] at hfu ⊢
        exact hset _ ht2 hfu
  · rw [chg_not _ _ _ _ _ hk3] at h0; simp at h0

/-- What was moved away is not there, if it is not on the way. -/
theorem moved_gone (k : T) (hk : fmA k) : ∀ (l : List ByteArray), l ≠ [] → ∀ (m : List ByteArray), m ≠ [] → ∀ (t : T) (dep a b a1 b1 : Nat), Lim t dep a b → (∀ x ∈ l, tName x.data.toList = true) → (∀ x ∈ m, tName x.data.toList = true) → (chgE .drop l dep t a b).1 = 0 → Lim (chgE .drop l dep t a b).2.1 dep a1 b1 →
    (chgE (.put k) m dep (chgE .drop l dep t a b).2.1 a1 b1).1 = 0 → l ≠ m → withB l m = false → withB m l = false → ∃ c, findT l (chgE (.put k) m dep (chgE .drop l dep t a b).2.1 a1 b1).2.1 = .inl c
  | [], hne, _, _, _, _, _, _, _, _, _, _, _, _, _, _, _, _, _ => absurd rfl hne
  | nm :: r, _, [], hne, _, _, _, _, _, _, _, _, _, _, _, _, _, _, _ => absurd rfl hne
  | nm :: r, hlne, n2 :: r2, hmne, t, dep, a, b, a1, b1, hl, hn, hn2, h0, hls, hp0, hne, hw1, hw2 => by
    by_cases he : nm = n2
    · subst he
      obtain ⟨kd, x, d, ns, ks⟩ := t
      by_cases hk3 : kd = 3
      · subst hk3
        have hf := hl.1
        obtain ⟨hlen, hp, hris⟩ := dir_pw hf
        by_cases hr : r = []
        · exfalso
          subst hr
          by_cases hr2 : r2 = []
          · subst hr2; exact hne rfl
          · have hlen2 : 0 < r2.length := List.length_pos_iff.2 hr2
            have hh : withB (nm :: r2) [nm] = true := by unfold withB; simp; exact hlen2
            rw [hh] at hw2; cases hw2
        · by_cases hr2 : r2 = []
          · exfalso
            subst hr2
            have hlen2 : 0 < r.length := List.length_pos_iff.2 hr
            have hh : withB (nm :: r) [nm] = true := by unfold withB; simp; exact hlen2
            rw [hh] at hw1; cases hw1
          · rcases ht : tkn ns nm with _ | _
            · rw [chg_dir _ _ _ hr, ht] at h0; simp at h0
            have hi : plc ns nm < ks.length := by rw [← hlen]; exact (tkn_spec ht).1
            have hfu := (chg_done (.put k) (fun q hq => by cases hq; exact hk) (nm :: r2) hn2 _ dep a1 b1 hls hp0).fm
            rw [chg_dir _ _ _ hr, if_pos ht] at h0 hls hp0 hfu ⊢
            simp only at h0 hls hp0 hfu ⊢
            have hlk := hls.kid (i := plc ns nm) (by rw [List.length_set]; exact hi)
            rw [set_get hi] at hlk
            rw [chg_dir _ _ _ hr2, if_pos ht, set_get hi] at hp0 hfu ⊢
            simp only at hp0 hfu ⊢
            rw [find_dir hfu, if_pos ht, set_get (by rw [List.length_set]; exact hi)]
            refine moved_gone k hk r hr r2 hr2 _ (dep + 1) a b a1 b1 (hl.kid hi) (fun z hz => hn z (List.mem_cons_of_mem _ hz)) (fun z hz => hn2 z (List.mem_cons_of_mem _ hz)) h0 hlk hp0 (fun e => hne (by rw [e])) ?_ ?_
            · unfold withB at hw1 ⊢
              simpa using hw1
            · unfold withB at hw2 ⊢
              simpa using hw2
      · rw [chg_not _ _ _ _ _ hk3] at h0; simp at h0
    · rw [put_other k hk he r r2 _ dep a1 b1 hls hn2 hp0]
      exact drop_gone (nm :: r) hlne t dep a b hl hn h0

/-- What is moved to where nothing is, and back. -/
theorem moves (pf pt : ByteArray) (t : T) (ht : (sizeT t).isSome = true) (h : (runE t [⟨3, pt, pf, zeroT⟩]).1 = 0) (hne : pf ≠ pt) {c : Int} (hth : atT pt.data.toList t = .inl c) :
    ∃ k c', atT pf.data.toList t = .inr k ∧ atT pt.data.toList (runE t [⟨3, pt, pf, zeroT⟩]).2.1 = .inr k ∧ atT pf.data.toList (runE t [⟨3, pt, pf, zeroT⟩]).2.1 = .inl c' ∧ c' ≠ 0 ∧
      (runE (runE t [⟨3, pt, pf, zeroT⟩]).2.1 [⟨3, pf, pt, zeroT⟩]).1 = 0 ∧ (runE (runE t [⟨3, pt, pf, zeroT⟩]).2.1 [⟨3, pf, pt, zeroT⟩]).2.1 = t := by
  have hu := (run_small h).2
  have hex := exact_of ht
  rw [run_one hu]
  rw [run_one ht] at h hu ⊢
  have hxu := applyE_ok hex h
  have hbt : belN pt.data.toList = 0 := app_bel ⟨3, pt, pf, zeroT⟩ t _ _ h
  have hbf : belN pf.data.toList = 0 := by
    unfold applyE at h
    rw [if_neg (by simp [hbt]), if_neg (show ¬ ((3 : UInt8) = 1) by decide), if_neg (show ¬ ((3 : UInt8) = 2) by decide), if_pos rfl] at h
    by_cases hb : belN pf.data.toList ≠ 0
    · simp only [if_pos hb] at h; exact absurd h hb
    · simpa using hb
  have hmv : ∀ (p q : ByteArray) (s : T) (a b : Nat), belN p.data.toList = 0 → belN q.data.toList = 0 → applyE ⟨3, p, q, zeroT⟩ s a b = moveE (nmE q.data.toList) (nmE p.data.toList) s a b := fun p q s a b h1 h2 => by
    unfold applyE
    rw [if_neg (by simp [h1]), if_neg (show ¬ ((3 : UInt8) = 1) by decide), if_neg (show ¬ ((3 : UInt8) = 2) by decide), if_pos rfl, if_neg (by simp [h2])]
  rw [hmv _ _ _ _ _ hbt hbf] at h hxu hu ⊢
  rw [hmv _ _ _ _ _ hbf hbt]
  rw [at_names hbf, at_names hbf, at_names hbt]
  rw [at_names hbt] at hth
  have hnl := nmE_names hbf
  have hnm := nmE_names hbt
  have hl0 := nmE_ne pf.data.toList
  have hm0 := nmE_ne pt.data.toList
  have hlm : nmE pf.data.toList ≠ nmE pt.data.toList := fun e => hne (nmE_inj e)
  clear hmv
  generalize nmE pf.data.toList = l at *
  generalize nmE pt.data.toList = m at *
  generalize sizeN t = a at *
  generalize bytesT t = b at *
  have hD : (chgE .drop l 1 t a b).1 = 0 := by
    unfold moveE at h
    by_cases hd : (chgE .drop l 1 t a b).1 ≠ 0
    · simp only [if_pos hd] at h; exact absurd h hd
    · simpa using hd
  have hW : (withB l m || withB m l) = false := by
    unfold moveE at h
    rw [if_neg (by simp [hD])] at h
    cases hq : (withB l m || withB m l) with
    | false => rfl
    | true => rw [hq] at h; simp at h
  obtain ⟨hw1, hw2⟩ := Bool.or_eq_false_iff.1 hW
  have hM : moveE l m t a b = chgE (.put (getE l t)) m 1 (chgE .drop l 1 t a b).2.1 (chgE .drop l 1 t a b).2.2.1 (chgE .drop l 1 t a b).2.2.2 := by
    unfold moveE
    rw [if_neg (by simp [hD]), if_neg (by simp [hW])]
  rw [hM] at h hxu hu ⊢
  obtain ⟨dep', hgl⟩ := get_lim l t 1 a b hex.1 hD
  have hxs := hex.done (chg_done .drop (fun k hk => by cases hk) l hnl t 1 a b hex.1 hD)
  have hfl := drop_find l hl0 t 1 a b hex.1.1
  rw [if_pos hD] at hfl
  obtain ⟨q1, q2, q3⟩ := put_drop (getE l t) hgl.1 m hm0 hnm _ 1 _ _ (sizeN (chgE (.put (getE l t)) m 1 (chgE .drop l 1 t a b).2.1 (chgE .drop l 1 t a b).2.2.1 (chgE .drop l 1 t a b).2.2.2).2.1) (bytesT (chgE (.put (getE l t)) m 1 (chgE .drop l 1 t a b).2.1 (chgE .drop l 1 t a b).2.2.1 (chgE .drop l 1 t a b).2.2.2).2.1) 0 0 hxs.1 h
  obtain ⟨c', hc'⟩ := moved_gone (getE l t) hgl.1 l hl0 m hm0 t 1 a b _ _ hex.1 hnl hnm hD hxs.1 h hlm hw1 hw2
  have hcn : c' ≠ 0 := by
    have := findT_code _ _ _ hc'
    omega
  refine ⟨getE l t, c', hfl, q1, hc', hcn, ?_⟩
  -- back
  obtain ⟨U, hU⟩ : ∃ U, U = (chgE (.put (getE l t)) m 1 (chgE .drop l 1 t a b).2.1 (chgE .drop l 1 t a b).2.2.1 (chgE .drop l 1 t a b).2.2.2).2.1 := ⟨_, rfl⟩
  rw [← hU] at q1 q2 q3 hu ⊢
  have hexU := exact_of hu
  have hback : (chgE .drop m 1 U (sizeN U) (bytesT U)).2.1 = (chgE .drop l 1 t a b).2.1 := by
    rcases q3 with ⟨r1, r2⟩ | ⟨r1, r2⟩
    · exfalso
      have hfm := drop_find m hm0 (chgE .drop l 1 t a b).2.1 1 0 0 hxs.1.1
      rw [if_pos r1] at hfm
      obtain ⟨z, hz⟩ := drop_less l hl0 m hm0 t 1 a b _ hex.1 hnl hD hfm
      rw [hz] at hth
      cases hth
    · exact r2
  have hxd := hexU.done (chg_done .drop (fun k hk => by cases hk) m hnm U 1 _ _ hexU.1 q2)
  have hfu := drop_find m hm0 U 1 (sizeN U) (bytesT U) hexU.1.1
  rw [if_pos q2, q1] at hfu
  have hgk : getE m U = getE l t := (Sum.inr.inj hfu).symm
  have e1 : (chgE .drop m 1 U (sizeN U) (bytesT U)).2.2.1 = (chgE .drop l 1 t a b).2.2.1 := by rw [hxd.2.1, hback, hxs.2.1]
  have e2 : (chgE .drop m 1 U (sizeN U) (bytesT U)).2.2.2 = (chgE .drop l 1 t a b).2.2.2 := by rw [hxd.2.2, hback, hxs.2.2]
  have hfin : moveE m l U (sizeN U) (bytesT U) = (0, t, a, b) := by
    unfold moveE
    rw [if_neg (by simp [q2]), if_neg (by simp [hw1, hw2]), hback, e1, e2, hgk]
    exact drop_put l hl0 hnl t 1 a b hex.1 hD
  rw [hfin]
  exact ⟨rfl, rfl⟩

end Go.Proofs.YtnfhmndepfmmoaaDoor

namespace Go.Proofs.YtnfhmndepfmmoaaDoor
open Go.RowKit
set_option linter.unusedVariables false

set_option maxRecDepth 100000 in
set_option maxHeartbeats 20000000 in
theorem walk_EditMoves (w : World) (n : Nat) (cs : List Value) (t : T) (ht : IsT w n cs t) (hs : Small t) (pf pt : ByteArray) (hm : MaxW w) (hmx : 0 < w.heap.size) :
    Calls Tryd.prog 6 #[.agg cs.toArray, .string pf, .string pt] w fun e w' => e = .returned (.bool true) ∧ Below w.heap.size w w' := by
  obtain ⟨w1, hw1⟩ : ∃ w1, w1 = w.alloc (.cells cs.toArray 26) := ⟨_, rfl⟩
  have b1 : Below w.heap.size w w1 := by rw [hw1]; exact (Below.refl _ _).alloc (Nat.le_refl _) _
  have Vt : Hid (w1.heap[w.heap.size]? = some (.cells cs.toArray 26 (0, 0))) := Lib.hid (by rw [hw1]; exact Has.new w cs _)
  have It := Lib.hid (infoL (isT_five ht))
  have Tt := Lib.hid (IsT.later b1 _ _ _ ht)
  have HAW := Lib.hid (fun (W : World) (hW : Below w.heap.size w W) => awake_any W (hm.below hW hmx) (Nat.lt_of_lt_of_le hmx hW.size))
  have HS := Lib.hid hs
  have HM := Lib.hid hm
  have HMX := Lib.hid hmx
  have HW1 := Lib.hid hw1
  have BW := Lib.hid b1
  clear ht hs hm hmx hw1 b1
  go_enter Tryd.func6, Tryd.ntmps6
  go_upto_region 1 with fail
  rw [← HW1.out]
  go_wp2_with (refine wpList_load_row rfl 26 _ rfl (w.heap.size) rfl 26 cs.toArray (0, 0) _ Vt.out Tryd.underlying26 rfl It.out ?_)
  refine (great_any _ _ _ _ Tt.out 500 (by omega) (by omega)).mono ?_
  rintro e w2 ⟨⟨g, rfl⟩, hb⟩
  have BN := Lib.hid hb
  have BW := Lib.hid (BW.out.trans (BN.out.mono BW.out.size))
  have Vt : Hid (w2.heap[w.heap.size]? = some (.cells cs.toArray 26 (0, 0))) := Lib.hid ((BN.out.block _ (Array.getElem?_eq_some_iff.1 Vt.out).1).trans Vt.out)
  have Tt := Lib.hid (IsT.later BN.out _ _ _ Tt.out)
  clear hb
  rcases Bool.eq_false_or_eq_true g with rfl | rfl
  · go_wp2_with fail
    refine (HAW.out w2 BW.out).mono ?_
    rintro e wz ⟨rfl, hb⟩
    have BZ := Lib.hid (BW.out.trans (hb.mono BW.out.size))
    clear hb
    go_wp2_with fail
    go_ret
    exact ⟨rfl, BZ.out⟩
  go_wp2_with fail
  refine (HAW.out w2 BW.out).mono ?_
  rintro e w4 ⟨rfl, hb⟩
  have BN := Lib.hid hb
  have BW := Lib.hid (BW.out.trans (BN.out.mono BW.out.size))
  have Vt : Hid (w4.heap[w.heap.size]? = some (.cells cs.toArray 26 (0, 0))) := Lib.hid ((BN.out.block _ (Array.getElem?_eq_some_iff.1 Vt.out).1).trans Vt.out)
  have Tt := Lib.hid (IsT.later BN.out _ _ _ Tt.out)
  clear hb
  go_wp2_with (refine ld_rowG (by rfl) 26 _ rfl (w.heap.size) rfl 26 cs.toArray (0, 0) _ Vt.out Tryd.underlying26 rfl It.out ?_)
  obtain ⟨f1, hf1⟩ : ∃ f1, f1 = (sizeT t).isSome := ⟨_, rfl⟩
  have HR := Lib.hid (rform_any _ _ _ _ Tt.out HS.out)
  rw [← hf1] at HR
  have HF1 := Lib.hid hf1
  clear hf1
  refine (HR.out).mono ?_
  rintro e w5 ⟨rfl, hb⟩
  have BN := Lib.hid hb
  have BW := Lib.hid (BW.out.trans (BN.out.mono BW.out.size))
  have Vt : Hid (w5.heap[w.heap.size]? = some (.cells cs.toArray 26 (0, 0))) := Lib.hid ((BN.out.block _ (Array.getElem?_eq_some_iff.1 Vt.out).1).trans Vt.out)
  have Tt := Lib.hid (IsT.later BN.out _ _ _ Tt.out)
  clear hb
  rcases Bool.eq_false_or_eq_true f1 with rfl | rfl
  rotate_left
  · go_wp2_with fail
    refine (HAW.out w5 BW.out).mono ?_
    rintro e wz ⟨rfl, hb⟩
    have BZ := Lib.hid (BW.out.trans (hb.mono BW.out.size))
    clear hb
    go_wp2_with fail
    go_ret
    exact ⟨rfl, BZ.out⟩
  have HGT : Hid (Good t) := Lib.hid (Good.of (sizeT_get HF1.out.symm).1)
  obtain ⟨r0, hr0⟩ : ∃ r0, r0 = atT pt.data.toList t := ⟨_, rfl⟩
  have HR0 := Lib.hid hr0
  clear hr0
  rcases r0 with c0 | z0
  · have HRA := Lib.hid (rat_any _ cs _ pt w5 Tt.out HGT.out)
    rw [← HR0.out] at HRA
    go_wp2_with (refine wpList_load_row rfl 26 _ rfl (w.heap.size) rfl 26 cs.toArray (0, 0) _ Vt.out Tryd.underlying26 rfl It.out ?_)
    refine HRA.out.mono ?_
    rintro e b1 ⟨nx, o0, rfl, hTx, hb⟩
    rw [show codeR (Sum.inl c0) = c0 from rfl]
    have hTx' := IsT.later hb _ _ _ hTx
    have Tz : Hid (IsT b1 nx o0 zeroT) := Lib.hid hTx'
    have BN := Lib.hid hb
    have BW := Lib.hid (BW.out.trans (BN.out.mono BW.out.size))
    have Vt : Hid (b1.heap[w.heap.size]? = some (.cells cs.toArray 26 (0, 0))) := Lib.hid ((BN.out.block _ (Array.getElem?_eq_some_iff.1 Vt.out).1).trans Vt.out)
    have Tt := Lib.hid (IsT.later BN.out _ _ _ Tt.out)
    clear hb hTx hTx' HRA
    have OI := Lib.hid (infoL (isT_five Tz.out))
    have OO : Hid (o0.toArray.all (·.oneCell') = true) := Lib.hid (isT_one Tz.out)
    have OS : Hid ((#[.int .u8 0, .bool false, .slice none 0 0, .slice none 0 0, .slice none 0 0] : Array Value).size = o0.toArray.size) := Lib.hid (by have := isT_five Tz.out; simp [this])
    obtain ⟨b1s1, hw⟩ : ∃ X, X = (b1.alloc (.cells #[.int .u8 0, .bool false, .slice none 0 0, .slice none 0 0, .slice none 0 0] 26)).setRow b1.heap.size o0.toArray := ⟨_, rfl⟩
    have hb : Below b1.heap.size b1 b1s1 := by rw [hw]; exact below_setRow ((Below.refl _ _).alloc (Nat.le_refl _) _) (Nat.le_refl _) _
    have hv : b1s1.heap[b1.heap.size]? = some (.cells o0.toArray 26 (0, 0)) := by rw [hw]; exact setRow_heap _ _ _ _ _ _ (heap_alloc_new b1 _)
    have HW := Lib.hid hw
    have BN := Lib.hid hb
    have BW := Lib.hid (BW.out.trans (BN.out.mono BW.out.size))
    have Vt : Hid (b1s1.heap[w.heap.size]? = some (.cells cs.toArray 26 (0, 0))) := Lib.hid ((BN.out.block _ (Array.getElem?_eq_some_iff.1 Vt.out).1).trans Vt.out)
    have Tt := Lib.hid (IsT.later BN.out _ _ _ Tt.out)
    have Tz := Lib.hid (IsT.later BN.out _ _ _ Tz.out)
    have Vo0 := Lib.hid hv
    have Io0 := OI
    clear hb hv hw
    go_upto_region 6 with (refine wpList_store_row rfl 26 _ _ rfl b1.heap.size o0.toArray rfl rfl 26 _ (heap_alloc_new b1 _) OI.out OS.out OO.out ?_)
    rw [← HW.out]
    clear HW OO OS
    have Pt := Vt
    obtain ⟨E1, hE⟩ : ∃ E : List Value, E = [.int .u8 3, .string pt, .string pf, .int .u8 0, .bool false, .slice none 0 0, .slice none 0 0, .slice none 0 0] := ⟨_, rfl⟩
    obtain ⟨y1, hy⟩ : ∃ Y, Y = b1s1.alloc (.cells E1.toArray 41) := ⟨_, rfl⟩
    have hb : Below b1s1.heap.size b1s1 y1 := by rw [hy]; exact (Below.refl _ _).alloc (Nat.le_refl _) _
    have hg : Has y1 b1s1.heap.size E1 41 := by rw [hy]; exact Has.new b1s1 E1 _
    have HY := Lib.hid hy
    have HE := Lib.hid hE
    have HG := Lib.hid hg
    have BN := Lib.hid hb
    have BW := Lib.hid (BW.out.trans (BN.out.mono BW.out.size))
    have Vt : Hid (y1.heap[w.heap.size]? = some (.cells cs.toArray 26 (0, 0))) := Lib.hid ((BN.out.block _ (Array.getElem?_eq_some_iff.1 Vt.out).1).trans Vt.out)
    have Vo0 : Hid (y1.heap[b1.heap.size]? = some (.cells o0.toArray 26 (0, 0))) := Lib.hid ((BN.out.block _ (Array.getElem?_eq_some_iff.1 Vo0.out).1).trans Vo0.out)
    have Tt := Lib.hid (IsT.later BN.out _ _ _ Tt.out)
    have Tz := Lib.hid (IsT.later BN.out _ _ _ Tz.out)
    clear hb hy hE hg
    have HXS : Hid (IsXs y1 1 (some ⟨b1s1.heap.size, 0, none⟩) 1 1 [⟨3, pt, pf, zeroT⟩]) := Lib.hid (one_edit HG.out ⟨z5, HE.out, isT_leaf _ 0⟩)
    have HAP := Lib.hid (applyA_any _ _ _ y1 Tt.out 1 _ 1 1 _ HXS.out (HM.out.below BW.out HMX.out) (Nat.lt_of_lt_of_le HMX.out BW.out.size))
    have HYY : Hid (y1 = b1s1.alloc (.cells #[.int .u8 3, .string pt, .string pf, .int .u8 0, .bool false, .slice none 0 0, .slice none 0 0, .slice none 0 0] 41)) := Lib.hid (by rw [HY.out, HE.out])
    go_wp2_with (refine wpList_load_row rfl 26 _ rfl (w.heap.size) rfl 26 cs.toArray (0, 0) _ Pt.out Tryd.underlying26 rfl It.out ?_)
    rw [← HYY.out]
    refine HAP.out.mono ?_
    rintro e a1 ⟨ou, rfl, ho5, ho1, hb, hok, hbad⟩
    obtain ⟨D1, hD⟩ : ∃ D, D = (runE t [⟨3, pt, pf, zeroT⟩]).1 := ⟨_, rfl⟩
    rw [← hD] at hok hbad ⊢
    have HD1 := Lib.hid hD
    have BN := Lib.hid hb
    have BW := Lib.hid (BW.out.trans (BN.out.mono BW.out.size))
    have Vt : Hid (a1.heap[w.heap.size]? = some (.cells cs.toArray 26 (0, 0))) := Lib.hid ((BN.out.block _ (Array.getElem?_eq_some_iff.1 Vt.out).1).trans Vt.out)
    have Vo0 : Hid (a1.heap[b1.heap.size]? = some (.cells o0.toArray 26 (0, 0))) := Lib.hid ((BN.out.block _ (Array.getElem?_eq_some_iff.1 Vo0.out).1).trans Vo0.out)
    have Tt := Lib.hid (IsT.later BN.out _ _ _ Tt.out)
    have Tz := Lib.hid (IsT.later BN.out _ _ _ Tz.out)
    have HOK1 : Hid (D1 = 0 → IsT a1 (sizeN (runE t [⟨3, pt, pf, zeroT⟩]).2.1) ou (runE t [⟨3, pt, pf, zeroT⟩]).2.1) := Lib.hid (fun h0 => by
      obtain ⟨S, hmt⟩ := hok h0
      exact hmt.isT _ (Nat.le_refl _) (run_small (by rw [← hD]; exact h0)).1)
    have HBD1 := Lib.hid hbad
    have HO5 := Lib.hid ho5
    have HO1 := Lib.hid ho1
    clear hb hok hbad hD ho5 ho1 HAP HYY HXS HY HE HG
    have OI := Lib.hid (infoL (HO5.out))
    have OO : Hid (ou.toArray.all (·.oneCell') = true) := Lib.hid (HO1.out)
    have OS : Hid ((#[.int .u8 0, .bool false, .slice none 0 0, .slice none 0 0, .slice none 0 0] : Array Value).size = ou.toArray.size) := Lib.hid (by have := HO5.out; simp [this])
    obtain ⟨a1s2, hw⟩ : ∃ X, X = (a1.alloc (.cells #[.int .u8 0, .bool false, .slice none 0 0, .slice none 0 0, .slice none 0 0] 26)).setRow a1.heap.size ou.toArray := ⟨_, rfl⟩
    have hb : Below a1.heap.size a1 a1s2 := by rw [hw]; exact below_setRow ((Below.refl _ _).alloc (Nat.le_refl _) _) (Nat.le_refl _) _
    have hv : a1s2.heap[a1.heap.size]? = some (.cells ou.toArray 26 (0, 0)) := by rw [hw]; exact setRow_heap _ _ _ _ _ _ (heap_alloc_new a1 _)
    have HW := Lib.hid hw
    have BN := Lib.hid hb
    have BW := Lib.hid (BW.out.trans (BN.out.mono BW.out.size))
    have Vt : Hid (a1s2.heap[w.heap.size]? = some (.cells cs.toArray 26 (0, 0))) := Lib.hid ((BN.out.block _ (Array.getElem?_eq_some_iff.1 Vt.out).1).trans Vt.out)
    have Vo0 : Hid (a1s2.heap[b1.heap.size]? = some (.cells o0.toArray 26 (0, 0))) := Lib.hid ((BN.out.block _ (Array.getElem?_eq_some_iff.1 Vo0.out).1).trans Vo0.out)
    have Tt := Lib.hid (IsT.later BN.out _ _ _ Tt.out)
    have Tz := Lib.hid (IsT.later BN.out _ _ _ Tz.out)
    have Vou := Lib.hid hv
    have Iou := OI
    clear hb hv hw
    go_upto_region 7 with (refine wpList_store_row rfl 26 _ _ rfl a1.heap.size ou.toArray rfl rfl 26 _ (heap_alloc_new a1 _) OI.out OS.out OO.out ?_)
    rw [← HW.out]
    clear HW OO OS
    have HOK1 : Hid (D1 = 0 → IsT a1s2 (sizeN (runE t [⟨3, pt, pf, zeroT⟩]).2.1) ou (runE t [⟨3, pt, pf, zeroT⟩]).2.1) := Lib.hid (fun h0 => IsT.later BN.out _ _ _ (HOK1.out h0))
    by_cases h1 : D1 = 0
    · by_cases hpe : pf = pt
      · subst hpe
        subst h1
        go_wp2_with fail
        go_ret
        exact ⟨rfl, BW.out⟩
      · have hcc : c0 ≠ 0 := by
          have h := HR0.out
          have := atT_code h.symm
          omega
        obtain ⟨mk0, c1, m1, m2, m3, hc1, m5, m6⟩ := moves pf pt t HF1.out.symm (by rw [← HD1.out]; exact h1) hpe (c := c0) HR0.out.symm
        have HC1 := Lib.hid hc1
        have HM1 := Lib.hid m1
        have HM2 := Lib.hid m2
        have HM3 := Lib.hid m3
        have HM5 := Lib.hid m5
        have HM6 := Lib.hid m6
        have Tu := Lib.hid (HOK1.out h1)
        have HGU : Hid (Good (runE t [⟨3, pt, pf, zeroT⟩]).2.1) := Lib.hid (Good.of (sizeT_get (run_small (t := t) (l := [⟨3, pt, pf, zeroT⟩]) (by rw [← HD1.out]; exact h1)).2).1)
        have hpe2 : pf.toList ≠ pt.toList := fun h => hpe (ba_list h)
        subst h1
        clear hc1 m1 m2 m3 m5 m6
        go_upto_region 9 with fail
        · go_ret
          exact ⟨rfl, BW.out⟩
        have HRA := Lib.hid (rat_any _ cs _ pf a1s2 Tt.out HGT.out)
        rw [HM1.out] at HRA
        go_wp2_with (refine wpList_load_row rfl 26 _ rfl (w.heap.size) rfl 26 cs.toArray (0, 0) _ Vt.out Tryd.underlying26 rfl It.out ?_)
        refine HRA.out.mono ?_
        rintro e b2 ⟨nx, ox, rfl, hTx, hb⟩
        rw [show codeR (Sum.inr mk0) = 0 from rfl]
        have hTx' := IsT.later hb _ _ _ hTx
        have Tx : Hid (IsT b2 nx ox mk0) := Lib.hid hTx'
        have BN := Lib.hid hb
        have BW := Lib.hid (BW.out.trans (BN.out.mono BW.out.size))
        have Vt : Hid (b2.heap[w.heap.size]? = some (.cells cs.toArray 26 (0, 0))) := Lib.hid ((BN.out.block _ (Array.getElem?_eq_some_iff.1 Vt.out).1).trans Vt.out)
        have Vo0 : Hid (b2.heap[b1.heap.size]? = some (.cells o0.toArray 26 (0, 0))) := Lib.hid ((BN.out.block _ (Array.getElem?_eq_some_iff.1 Vo0.out).1).trans Vo0.out)
        have Vou : Hid (b2.heap[a1.heap.size]? = some (.cells ou.toArray 26 (0, 0))) := Lib.hid ((BN.out.block _ (Array.getElem?_eq_some_iff.1 Vou.out).1).trans Vou.out)
        have Tt := Lib.hid (IsT.later BN.out _ _ _ Tt.out)
        have Tz := Lib.hid (IsT.later BN.out _ _ _ Tz.out)
        have Tu := Lib.hid (IsT.later BN.out _ _ _ Tu.out)
        clear hb hTx hTx' HRA
        have OI := Lib.hid (infoL (isT_five Tx.out))
        have OO : Hid (ox.toArray.all (·.oneCell') = true) := Lib.hid (isT_one Tx.out)
        have OS : Hid ((#[.int .u8 0, .bool false, .slice none 0 0, .slice none 0 0, .slice none 0 0] : Array Value).size = ox.toArray.size) := Lib.hid (by have := isT_five Tx.out; simp [this])
        obtain ⟨b2s3, hw⟩ : ∃ X, X = (b2.alloc (.cells #[.int .u8 0, .bool false, .slice none 0 0, .slice none 0 0, .slice none 0 0] 26)).setRow b2.heap.size ox.toArray := ⟨_, rfl⟩
        have hb : Below b2.heap.size b2 b2s3 := by rw [hw]; exact below_setRow ((Below.refl _ _).alloc (Nat.le_refl _) _) (Nat.le_refl _) _
        have hv : b2s3.heap[b2.heap.size]? = some (.cells ox.toArray 26 (0, 0)) := by rw [hw]; exact setRow_heap _ _ _ _ _ _ (heap_alloc_new b2 _)
        have HW := Lib.hid hw
        have BN := Lib.hid hb
        have BW := Lib.hid (BW.out.trans (BN.out.mono BW.out.size))
        have Vt : Hid (b2s3.heap[w.heap.size]? = some (.cells cs.toArray 26 (0, 0))) := Lib.hid ((BN.out.block _ (Array.getElem?_eq_some_iff.1 Vt.out).1).trans Vt.out)
        have Vo0 : Hid (b2s3.heap[b1.heap.size]? = some (.cells o0.toArray 26 (0, 0))) := Lib.hid ((BN.out.block _ (Array.getElem?_eq_some_iff.1 Vo0.out).1).trans Vo0.out)
        have Vou : Hid (b2s3.heap[a1.heap.size]? = some (.cells ou.toArray 26 (0, 0))) := Lib.hid ((BN.out.block _ (Array.getElem?_eq_some_iff.1 Vou.out).1).trans Vou.out)
        have Tt := Lib.hid (IsT.later BN.out _ _ _ Tt.out)
        have Tz := Lib.hid (IsT.later BN.out _ _ _ Tz.out)
        have Tu := Lib.hid (IsT.later BN.out _ _ _ Tu.out)
        have Tx := Lib.hid (IsT.later BN.out _ _ _ Tx.out)
        have Vox := Lib.hid hv
        have Iox := OI
        clear hb hv hw
        go_upto_region 10 with (refine wpList_store_row rfl 26 _ _ rfl b2.heap.size ox.toArray rfl rfl 26 _ (heap_alloc_new b2 _) OI.out OS.out OO.out ?_)
        rw [← HW.out]
        clear HW OO OS
        have HRA := Lib.hid (rat_any _ ou _ pt b2s3 Tu.out HGU.out)
        rw [HM2.out] at HRA
        go_wp2_with (refine wpList_load_row rfl 26 _ rfl (a1.heap.size) rfl 26 ou.toArray (0, 0) _ Vou.out Tryd.underlying26 rfl Iou.out ?_)
        refine HRA.out.mono ?_
        rintro e b3 ⟨nx, oy, rfl, hTx, hb⟩
        rw [show codeR (Sum.inr mk0) = 0 from rfl]
        have hTx' := IsT.later hb _ _ _ hTx
        have Ty : Hid (IsT b3 nx oy mk0) := Lib.hid hTx'
        have BN := Lib.hid hb
        have BW := Lib.hid (BW.out.trans (BN.out.mono BW.out.size))
        have Vt : Hid (b3.heap[w.heap.size]? = some (.cells cs.toArray 26 (0, 0))) := Lib.hid ((BN.out.block _ (Array.getElem?_eq_some_iff.1 Vt.out).1).trans Vt.out)
        have Vo0 : Hid (b3.heap[b1.heap.size]? = some (.cells o0.toArray 26 (0, 0))) := Lib.hid ((BN.out.block _ (Array.getElem?_eq_some_iff.1 Vo0.out).1).trans Vo0.out)
        have Vou : Hid (b3.heap[a1.heap.size]? = some (.cells ou.toArray 26 (0, 0))) := Lib.hid ((BN.out.block _ (Array.getElem?_eq_some_iff.1 Vou.out).1).trans Vou.out)
        have Vox : Hid (b3.heap[b2.heap.size]? = some (.cells ox.toArray 26 (0, 0))) := Lib.hid ((BN.out.block _ (Array.getElem?_eq_some_iff.1 Vox.out).1).trans Vox.out)
        have Tt := Lib.hid (IsT.later BN.out _ _ _ Tt.out)
        have Tz := Lib.hid (IsT.later BN.out _ _ _ Tz.out)
        have Tu := Lib.hid (IsT.later BN.out _ _ _ Tu.out)
        have Tx := Lib.hid (IsT.later BN.out _ _ _ Tx.out)
        clear hb hTx hTx' HRA
        have OI := Lib.hid (infoL (isT_five Ty.out))
        have OO : Hid (oy.toArray.all (·.oneCell') = true) := Lib.hid (isT_one Ty.out)
        have OS : Hid ((#[.int .u8 0, .bool false, .slice none 0 0, .slice none 0 0, .slice none 0 0] : Array Value).size = oy.toArray.size) := Lib.hid (by have := isT_five Ty.out; simp [this])
        obtain ⟨b3s4, hw⟩ : ∃ X, X = (b3.alloc (.cells #[.int .u8 0, .bool false, .slice none 0 0, .slice none 0 0, .slice none 0 0] 26)).setRow b3.heap.size oy.toArray := ⟨_, rfl⟩
        have hb : Below b3.heap.size b3 b3s4 := by rw [hw]; exact below_setRow ((Below.refl _ _).alloc (Nat.le_refl _) _) (Nat.le_refl _) _
        have hv : b3s4.heap[b3.heap.size]? = some (.cells oy.toArray 26 (0, 0)) := by rw [hw]; exact setRow_heap _ _ _ _ _ _ (heap_alloc_new b3 _)
        have HW := Lib.hid hw
        have BN := Lib.hid hb
        have BW := Lib.hid (BW.out.trans (BN.out.mono BW.out.size))
        have Vt : Hid (b3s4.heap[w.heap.size]? = some (.cells cs.toArray 26 (0, 0))) := Lib.hid ((BN.out.block _ (Array.getElem?_eq_some_iff.1 Vt.out).1).trans Vt.out)
        have Vo0 : Hid (b3s4.heap[b1.heap.size]? = some (.cells o0.toArray 26 (0, 0))) := Lib.hid ((BN.out.block _ (Array.getElem?_eq_some_iff.1 Vo0.out).1).trans Vo0.out)
        have Vou : Hid (b3s4.heap[a1.heap.size]? = some (.cells ou.toArray 26 (0, 0))) := Lib.hid ((BN.out.block _ (Array.getElem?_eq_some_iff.1 Vou.out).1).trans Vou.out)
        have Vox : Hid (b3s4.heap[b2.heap.size]? = some (.cells ox.toArray 26 (0, 0))) := Lib.hid ((BN.out.block _ (Array.getElem?_eq_some_iff.1 Vox.out).1).trans Vox.out)
        have Tt := Lib.hid (IsT.later BN.out _ _ _ Tt.out)
        have Tz := Lib.hid (IsT.later BN.out _ _ _ Tz.out)
        have Tu := Lib.hid (IsT.later BN.out _ _ _ Tu.out)
        have Tx := Lib.hid (IsT.later BN.out _ _ _ Tx.out)
        have Ty := Lib.hid (IsT.later BN.out _ _ _ Ty.out)
        have Voy := Lib.hid hv
        have Ioy := OI
        clear hb hv hw
        go_upto_region 11 with (refine wpList_store_row rfl 26 _ _ rfl b3.heap.size oy.toArray rfl rfl 26 _ (heap_alloc_new b3 _) OI.out OS.out OO.out ?_)
        rw [← HW.out]
        clear HW OO OS
        have HRA := Lib.hid (rat_any _ ou _ pf b3s4 Tu.out HGU.out)
        rw [HM3.out] at HRA
        go_wp2_with (refine wpList_load_row rfl 26 _ rfl (a1.heap.size) rfl 26 ou.toArray (0, 0) _ Vou.out Tryd.underlying26 rfl Iou.out ?_)
        refine HRA.out.mono ?_
        rintro e b4 ⟨nx, oz, rfl, hTx, hb⟩
        rw [show codeR (Sum.inl c1) = c1 from rfl]
        have hTx' := IsT.later hb _ _ _ hTx
        have Tq : Hid (IsT b4 nx oz zeroT) := Lib.hid hTx'
        have BN := Lib.hid hb
        have BW := Lib.hid (BW.out.trans (BN.out.mono BW.out.size))
        have Vt : Hid (b4.heap[w.heap.size]? = some (.cells cs.toArray 26 (0, 0))) := Lib.hid ((BN.out.block _ (Array.getElem?_eq_some_iff.1 Vt.out).1).trans Vt.out)
        have Vo0 : Hid (b4.heap[b1.heap.size]? = some (.cells o0.toArray 26 (0, 0))) := Lib.hid ((BN.out.block _ (Array.getElem?_eq_some_iff.1 Vo0.out).1).trans Vo0.out)
        have Vou : Hid (b4.heap[a1.heap.size]? = some (.cells ou.toArray 26 (0, 0))) := Lib.hid ((BN.out.block _ (Array.getElem?_eq_some_iff.1 Vou.out).1).trans Vou.out)
        have Vox : Hid (b4.heap[b2.heap.size]? = some (.cells ox.toArray 26 (0, 0))) := Lib.hid ((BN.out.block _ (Array.getElem?_eq_some_iff.1 Vox.out).1).trans Vox.out)
        have Voy : Hid (b4.heap[b3.heap.size]? = some (.cells oy.toArray 26 (0, 0))) := Lib.hid ((BN.out.block _ (Array.getElem?_eq_some_iff.1 Voy.out).1).trans Voy.out)
        have Tt := Lib.hid (IsT.later BN.out _ _ _ Tt.out)
        have Tz := Lib.hid (IsT.later BN.out _ _ _ Tz.out)
        have Tu := Lib.hid (IsT.later BN.out _ _ _ Tu.out)
        have Tx := Lib.hid (IsT.later BN.out _ _ _ Tx.out)
        have Ty := Lib.hid (IsT.later BN.out _ _ _ Ty.out)
        clear hb hTx hTx' HRA
        have OI := Lib.hid (infoL (isT_five Tq.out))
        have OO : Hid (oz.toArray.all (·.oneCell') = true) := Lib.hid (isT_one Tq.out)
        have OS : Hid ((#[.int .u8 0, .bool false, .slice none 0 0, .slice none 0 0, .slice none 0 0] : Array Value).size = oz.toArray.size) := Lib.hid (by have := isT_five Tq.out; simp [this])
        obtain ⟨b4s5, hw⟩ : ∃ X, X = (b4.alloc (.cells #[.int .u8 0, .bool false, .slice none 0 0, .slice none 0 0, .slice none 0 0] 26)).setRow b4.heap.size oz.toArray := ⟨_, rfl⟩
        have hb : Below b4.heap.size b4 b4s5 := by rw [hw]; exact below_setRow ((Below.refl _ _).alloc (Nat.le_refl _) _) (Nat.le_refl _) _
        have hv : b4s5.heap[b4.heap.size]? = some (.cells oz.toArray 26 (0, 0)) := by rw [hw]; exact setRow_heap _ _ _ _ _ _ (heap_alloc_new b4 _)
        have HW := Lib.hid hw
        have BN := Lib.hid hb
        have BW := Lib.hid (BW.out.trans (BN.out.mono BW.out.size))
        have Vt : Hid (b4s5.heap[w.heap.size]? = some (.cells cs.toArray 26 (0, 0))) := Lib.hid ((BN.out.block _ (Array.getElem?_eq_some_iff.1 Vt.out).1).trans Vt.out)
        have Vo0 : Hid (b4s5.heap[b1.heap.size]? = some (.cells o0.toArray 26 (0, 0))) := Lib.hid ((BN.out.block _ (Array.getElem?_eq_some_iff.1 Vo0.out).1).trans Vo0.out)
        have Vou : Hid (b4s5.heap[a1.heap.size]? = some (.cells ou.toArray 26 (0, 0))) := Lib.hid ((BN.out.block _ (Array.getElem?_eq_some_iff.1 Vou.out).1).trans Vou.out)
        have Vox : Hid (b4s5.heap[b2.heap.size]? = some (.cells ox.toArray 26 (0, 0))) := Lib.hid ((BN.out.block _ (Array.getElem?_eq_some_iff.1 Vox.out).1).trans Vox.out)
        have Voy : Hid (b4s5.heap[b3.heap.size]? = some (.cells oy.toArray 26 (0, 0))) := Lib.hid ((BN.out.block _ (Array.getElem?_eq_some_iff.1 Voy.out).1).trans Voy.out)
        have Tt := Lib.hid (IsT.later BN.out _ _ _ Tt.out)
        have Tz := Lib.hid (IsT.later BN.out _ _ _ Tz.out)
        have Tu := Lib.hid (IsT.later BN.out _ _ _ Tu.out)
        have Tx := Lib.hid (IsT.later BN.out _ _ _ Tx.out)
        have Ty := Lib.hid (IsT.later BN.out _ _ _ Ty.out)
        have Tq := Lib.hid (IsT.later BN.out _ _ _ Tq.out)
        have Voz := Lib.hid hv
        have Ioz := OI
        clear hb hv hw
        go_upto_region 12 with (refine wpList_store_row rfl 26 _ _ rfl b4.heap.size oz.toArray rfl rfl 26 _ (heap_alloc_new b4 _) OI.out OS.out OO.out ?_)
        rw [← HW.out]
        clear HW OO OS
        have Pou := Vou
        obtain ⟨E2, hE⟩ : ∃ E : List Value, E = [.int .u8 3, .string pf, .string pt, .int .u8 0, .bool false, .slice none 0 0, .slice none 0 0, .slice none 0 0] := ⟨_, rfl⟩
        obtain ⟨y2, hy⟩ : ∃ Y, Y = b4s5.alloc (.cells E2.toArray 41) := ⟨_, rfl⟩
        have hb : Below b4s5.heap.size b4s5 y2 := by rw [hy]; exact (Below.refl _ _).alloc (Nat.le_refl _) _
        have hg : Has y2 b4s5.heap.size E2 41 := by rw [hy]; exact Has.new b4s5 E2 _
        have HY := Lib.hid hy
        have HE := Lib.hid hE
        have HG := Lib.hid hg
        have BN := Lib.hid hb
        have BW := Lib.hid (BW.out.trans (BN.out.mono BW.out.size))
        have Vt : Hid (y2.heap[w.heap.size]? = some (.cells cs.toArray 26 (0, 0))) := Lib.hid ((BN.out.block _ (Array.getElem?_eq_some_iff.1 Vt.out).1).trans Vt.out)
        have Vo0 : Hid (y2.heap[b1.heap.size]? = some (.cells o0.toArray 26 (0, 0))) := Lib.hid ((BN.out.block _ (Array.getElem?_eq_some_iff.1 Vo0.out).1).trans Vo0.out)
        have Vou : Hid (y2.heap[a1.heap.size]? = some (.cells ou.toArray 26 (0, 0))) := Lib.hid ((BN.out.block _ (Array.getElem?_eq_some_iff.1 Vou.out).1).trans Vou.out)
        have Vox : Hid (y2.heap[b2.heap.size]? = some (.cells ox.toArray 26 (0, 0))) := Lib.hid ((BN.out.block _ (Array.getElem?_eq_some_iff.1 Vox.out).1).trans Vox.out)
        have Voy : Hid (y2.heap[b3.heap.size]? = some (.cells oy.toArray 26 (0, 0))) := Lib.hid ((BN.out.block _ (Array.getElem?_eq_some_iff.1 Voy.out).1).trans Voy.out)
        have Voz : Hid (y2.heap[b4.heap.size]? = some (.cells oz.toArray 26 (0, 0))) := Lib.hid ((BN.out.block _ (Array.getElem?_eq_some_iff.1 Voz.out).1).trans Voz.out)
        have Tt := Lib.hid (IsT.later BN.out _ _ _ Tt.out)
        have Tz := Lib.hid (IsT.later BN.out _ _ _ Tz.out)
        have Tu := Lib.hid (IsT.later BN.out _ _ _ Tu.out)
        have Tx := Lib.hid (IsT.later BN.out _ _ _ Tx.out)
        have Ty := Lib.hid (IsT.later BN.out _ _ _ Ty.out)
        have Tq := Lib.hid (IsT.later BN.out _ _ _ Tq.out)
        clear hb hy hE hg
        have HXS : Hid (IsXs y2 1 (some ⟨b4s5.heap.size, 0, none⟩) 1 1 [⟨3, pf, pt, zeroT⟩]) := Lib.hid (one_edit HG.out ⟨z5, HE.out, isT_leaf _ 0⟩)
        have HAP := Lib.hid (applyA_any _ _ _ y2 Tu.out 1 _ 1 1 _ HXS.out (HM.out.below BW.out HMX.out) (Nat.lt_of_lt_of_le HMX.out BW.out.size))
        have HYY : Hid (y2 = b4s5.alloc (.cells #[.int .u8 3, .string pf, .string pt, .int .u8 0, .bool false, .slice none 0 0, .slice none 0 0, .slice none 0 0] 41)) := Lib.hid (by rw [HY.out, HE.out])
        go_wp2_with (refine wpList_load_row rfl 26 _ rfl (a1.heap.size) rfl 26 ou.toArray (0, 0) _ Pou.out Tryd.underlying26 rfl Iou.out ?_)
        rw [← HYY.out]
        refine HAP.out.mono ?_
        rintro e a2 ⟨ov, rfl, ho5, ho1, hb, hok, hbad⟩
        obtain ⟨D2, hD⟩ : ∃ D, D = (runE (runE t [⟨3, pt, pf, zeroT⟩]).2.1 [⟨3, pf, pt, zeroT⟩]).1 := ⟨_, rfl⟩
        rw [← hD] at hok hbad ⊢
        have HD2 := Lib.hid hD
        have BN := Lib.hid hb
        have BW := Lib.hid (BW.out.trans (BN.out.mono BW.out.size))
        have Vt : Hid (a2.heap[w.heap.size]? = some (.cells cs.toArray 26 (0, 0))) := Lib.hid ((BN.out.block _ (Array.getElem?_eq_some_iff.1 Vt.out).1).trans Vt.out)
        have Vo0 : Hid (a2.heap[b1.heap.size]? = some (.cells o0.toArray 26 (0, 0))) := Lib.hid ((BN.out.block _ (Array.getElem?_eq_some_iff.1 Vo0.out).1).trans Vo0.out)
        have Vou : Hid (a2.heap[a1.heap.size]? = some (.cells ou.toArray 26 (0, 0))) := Lib.hid ((BN.out.block _ (Array.getElem?_eq_some_iff.1 Vou.out).1).trans Vou.out)
        have Vox : Hid (a2.heap[b2.heap.size]? = some (.cells ox.toArray 26 (0, 0))) := Lib.hid ((BN.out.block _ (Array.getElem?_eq_some_iff.1 Vox.out).1).trans Vox.out)
        have Voy : Hid (a2.heap[b3.heap.size]? = some (.cells oy.toArray 26 (0, 0))) := Lib.hid ((BN.out.block _ (Array.getElem?_eq_some_iff.1 Voy.out).1).trans Voy.out)
        have Voz : Hid (a2.heap[b4.heap.size]? = some (.cells oz.toArray 26 (0, 0))) := Lib.hid ((BN.out.block _ (Array.getElem?_eq_some_iff.1 Voz.out).1).trans Voz.out)
        have Tt := Lib.hid (IsT.later BN.out _ _ _ Tt.out)
        have Tz := Lib.hid (IsT.later BN.out _ _ _ Tz.out)
        have Tu := Lib.hid (IsT.later BN.out _ _ _ Tu.out)
        have Tx := Lib.hid (IsT.later BN.out _ _ _ Tx.out)
        have Ty := Lib.hid (IsT.later BN.out _ _ _ Ty.out)
        have Tq := Lib.hid (IsT.later BN.out _ _ _ Tq.out)
        have HOK2 : Hid (D2 = 0 → IsT a2 (sizeN (runE (runE t [⟨3, pt, pf, zeroT⟩]).2.1 [⟨3, pf, pt, zeroT⟩]).2.1) ov (runE (runE t [⟨3, pt, pf, zeroT⟩]).2.1 [⟨3, pf, pt, zeroT⟩]).2.1) := Lib.hid (fun h0 => by
          obtain ⟨S, hmt⟩ := hok h0
          exact hmt.isT _ (Nat.le_refl _) (run_small (by rw [← hD]; exact h0)).1)
        have HBD2 := Lib.hid hbad
        have HO5 := Lib.hid ho5
        have HO1 := Lib.hid ho1
        clear hb hok hbad hD ho5 ho1 HAP HYY HXS HY HE HG
        have OI := Lib.hid (infoL (HO5.out))
        have OO : Hid (ov.toArray.all (·.oneCell') = true) := Lib.hid (HO1.out)
        have OS : Hid ((#[.int .u8 0, .bool false, .slice none 0 0, .slice none 0 0, .slice none 0 0] : Array Value).size = ov.toArray.size) := Lib.hid (by have := HO5.out; simp [this])
        obtain ⟨a2s6, hw⟩ : ∃ X, X = (a2.alloc (.cells #[.int .u8 0, .bool false, .slice none 0 0, .slice none 0 0, .slice none 0 0] 26)).setRow a2.heap.size ov.toArray := ⟨_, rfl⟩
        have hb : Below a2.heap.size a2 a2s6 := by rw [hw]; exact below_setRow ((Below.refl _ _).alloc (Nat.le_refl _) _) (Nat.le_refl _) _
        have hv : a2s6.heap[a2.heap.size]? = some (.cells ov.toArray 26 (0, 0)) := by rw [hw]; exact setRow_heap _ _ _ _ _ _ (heap_alloc_new a2 _)
        have HW := Lib.hid hw
        have BN := Lib.hid hb
        have BW := Lib.hid (BW.out.trans (BN.out.mono BW.out.size))
        have Vt : Hid (a2s6.heap[w.heap.size]? = some (.cells cs.toArray 26 (0, 0))) := Lib.hid ((BN.out.block _ (Array.getElem?_eq_some_iff.1 Vt.out).1).trans Vt.out)
        have Vo0 : Hid (a2s6.heap[b1.heap.size]? = some (.cells o0.toArray 26 (0, 0))) := Lib.hid ((BN.out.block _ (Array.getElem?_eq_some_iff.1 Vo0.out).1).trans Vo0.out)
        have Vou : Hid (a2s6.heap[a1.heap.size]? = some (.cells ou.toArray 26 (0, 0))) := Lib.hid ((BN.out.block _ (Array.getElem?_eq_some_iff.1 Vou.out).1).trans Vou.out)
        have Vox : Hid (a2s6.heap[b2.heap.size]? = some (.cells ox.toArray 26 (0, 0))) := Lib.hid ((BN.out.block _ (Array.getElem?_eq_some_iff.1 Vox.out).1).trans Vox.out)
        have Voy : Hid (a2s6.heap[b3.heap.size]? = some (.cells oy.toArray 26 (0, 0))) := Lib.hid ((BN.out.block _ (Array.getElem?_eq_some_iff.1 Voy.out).1).trans Voy.out)
        have Voz : Hid (a2s6.heap[b4.heap.size]? = some (.cells oz.toArray 26 (0, 0))) := Lib.hid ((BN.out.block _ (Array.getElem?_eq_some_iff.1 Voz.out).1).trans Voz.out)
        have Tt := Lib.hid (IsT.later BN.out _ _ _ Tt.out)
        have Tz := Lib.hid (IsT.later BN.out _ _ _ Tz.out)
        have Tu := Lib.hid (IsT.later BN.out _ _ _ Tu.out)
        have Tx := Lib.hid (IsT.later BN.out _ _ _ Tx.out)
        have Ty := Lib.hid (IsT.later BN.out _ _ _ Ty.out)
        have Tq := Lib.hid (IsT.later BN.out _ _ _ Tq.out)
        have Vov := Lib.hid hv
        have Iov := OI
        clear hb hv hw
        go_upto_region 13 with (refine wpList_store_row rfl 26 _ _ rfl a2.heap.size ov.toArray rfl rfl 26 _ (heap_alloc_new a2 _) OI.out OS.out OO.out ?_)
        rw [← HW.out]
        clear HW OO OS
        have HOK2 : Hid (D2 = 0 → IsT a2s6 (sizeN (runE (runE t [⟨3, pt, pf, zeroT⟩]).2.1 [⟨3, pf, pt, zeroT⟩]).2.1) ov (runE (runE t [⟨3, pt, pf, zeroT⟩]).2.1 [⟨3, pf, pt, zeroT⟩]).2.1) := Lib.hid (fun h0 => IsT.later BN.out _ _ _ (HOK2.out h0))
        have hz2 : D2 = 0 := by rw [HD2.out]; exact HM5.out
        have Tv := Lib.hid (HOK2.out hz2)
        subst hz2
        have hc1 : (c1 != 0) = true := by have := HC1.out; simpa using this
        have HSM := Lib.hid (rsame_any _ _ _ _ _ _ a2s6 Tx.out Ty.out)
        go_wp2_with (first
          | ((try rw [hc1]); refine ld_rowG (by rfl) 26 _ rfl (b2.heap.size) rfl 26 ox.toArray (0, 0) _ Vox.out Tryd.underlying26 rfl Iox.out ?_)
          | ((try rw [hc1]); refine ld_rowG (by rfl) 26 _ rfl (b3.heap.size) rfl 26 oy.toArray (0, 0) _ Voy.out Tryd.underlying26 rfl Ioy.out ?_))
        refine HSM.out.mono ?_
        rintro e b5 ⟨⟨r, rfl, hr⟩, hb⟩
        have hrt : r = true := hr.2 (rfl)
        subst hrt
        have BN := Lib.hid hb
        have BW := Lib.hid (BW.out.trans (BN.out.mono BW.out.size))
        have Vt : Hid (b5.heap[w.heap.size]? = some (.cells cs.toArray 26 (0, 0))) := Lib.hid ((BN.out.block _ (Array.getElem?_eq_some_iff.1 Vt.out).1).trans Vt.out)
        have Vo0 : Hid (b5.heap[b1.heap.size]? = some (.cells o0.toArray 26 (0, 0))) := Lib.hid ((BN.out.block _ (Array.getElem?_eq_some_iff.1 Vo0.out).1).trans Vo0.out)
        have Vou : Hid (b5.heap[a1.heap.size]? = some (.cells ou.toArray 26 (0, 0))) := Lib.hid ((BN.out.block _ (Array.getElem?_eq_some_iff.1 Vou.out).1).trans Vou.out)
        have Vox : Hid (b5.heap[b2.heap.size]? = some (.cells ox.toArray 26 (0, 0))) := Lib.hid ((BN.out.block _ (Array.getElem?_eq_some_iff.1 Vox.out).1).trans Vox.out)
        have Voy : Hid (b5.heap[b3.heap.size]? = some (.cells oy.toArray 26 (0, 0))) := Lib.hid ((BN.out.block _ (Array.getElem?_eq_some_iff.1 Voy.out).1).trans Voy.out)
        have Voz : Hid (b5.heap[b4.heap.size]? = some (.cells oz.toArray 26 (0, 0))) := Lib.hid ((BN.out.block _ (Array.getElem?_eq_some_iff.1 Voz.out).1).trans Voz.out)
        have Vov : Hid (b5.heap[a2.heap.size]? = some (.cells ov.toArray 26 (0, 0))) := Lib.hid ((BN.out.block _ (Array.getElem?_eq_some_iff.1 Vov.out).1).trans Vov.out)
        have Tt := Lib.hid (IsT.later BN.out _ _ _ Tt.out)
        have Tz := Lib.hid (IsT.later BN.out _ _ _ Tz.out)
        have Tu := Lib.hid (IsT.later BN.out _ _ _ Tu.out)
        have Tx := Lib.hid (IsT.later BN.out _ _ _ Tx.out)
        have Ty := Lib.hid (IsT.later BN.out _ _ _ Ty.out)
        have Tq := Lib.hid (IsT.later BN.out _ _ _ Tq.out)
        have Tv := Lib.hid (IsT.later BN.out _ _ _ Tv.out)
        clear hr hb HSM
        have HSM := Lib.hid (rsame_any _ _ _ _ _ _ b5 Tv.out Tt.out)
        go_wp2_with (first
          | (refine ld_rowG (by rfl) 26 _ rfl (a2.heap.size) rfl 26 ov.toArray (0, 0) _ Vov.out Tryd.underlying26 rfl Iov.out ?_)
          | (refine ld_rowG (by rfl) 26 _ rfl (w.heap.size) rfl 26 cs.toArray (0, 0) _ Vt.out Tryd.underlying26 rfl It.out ?_))
        refine HSM.out.mono ?_
        rintro e b6 ⟨⟨r, rfl, hr⟩, hb⟩
        have hrt : r = true := hr.2 (HM6.out)
        subst hrt
        have BN := Lib.hid hb
        have BW := Lib.hid (BW.out.trans (BN.out.mono BW.out.size))
        have Vt : Hid (b6.heap[w.heap.size]? = some (.cells cs.toArray 26 (0, 0))) := Lib.hid ((BN.out.block _ (Array.getElem?_eq_some_iff.1 Vt.out).1).trans Vt.out)
        have Vo0 : Hid (b6.heap[b1.heap.size]? = some (.cells o0.toArray 26 (0, 0))) := Lib.hid ((BN.out.block _ (Array.getElem?_eq_some_iff.1 Vo0.out).1).trans Vo0.out)
        have Vou : Hid (b6.heap[a1.heap.size]? = some (.cells ou.toArray 26 (0, 0))) := Lib.hid ((BN.out.block _ (Array.getElem?_eq_some_iff.1 Vou.out).1).trans Vou.out)
        have Vox : Hid (b6.heap[b2.heap.size]? = some (.cells ox.toArray 26 (0, 0))) := Lib.hid ((BN.out.block _ (Array.getElem?_eq_some_iff.1 Vox.out).1).trans Vox.out)
        have Voy : Hid (b6.heap[b3.heap.size]? = some (.cells oy.toArray 26 (0, 0))) := Lib.hid ((BN.out.block _ (Array.getElem?_eq_some_iff.1 Voy.out).1).trans Voy.out)
        have Voz : Hid (b6.heap[b4.heap.size]? = some (.cells oz.toArray 26 (0, 0))) := Lib.hid ((BN.out.block _ (Array.getElem?_eq_some_iff.1 Voz.out).1).trans Voz.out)
        have Vov : Hid (b6.heap[a2.heap.size]? = some (.cells ov.toArray 26 (0, 0))) := Lib.hid ((BN.out.block _ (Array.getElem?_eq_some_iff.1 Vov.out).1).trans Vov.out)
        have Tt := Lib.hid (IsT.later BN.out _ _ _ Tt.out)
        have Tz := Lib.hid (IsT.later BN.out _ _ _ Tz.out)
        have Tu := Lib.hid (IsT.later BN.out _ _ _ Tu.out)
        have Tx := Lib.hid (IsT.later BN.out _ _ _ Tx.out)
        have Ty := Lib.hid (IsT.later BN.out _ _ _ Ty.out)
        have Tq := Lib.hid (IsT.later BN.out _ _ _ Tq.out)
        have Tv := Lib.hid (IsT.later BN.out _ _ _ Tv.out)
        clear hr hb HSM
        go_wp2_with fail
        go_ret
        exact ⟨rfl, BW.out⟩
    · have h1i : ¬ ((D1 : Int) = 0) := by omega
      clear h1
      go_wp2_with fail
      go_ret
      exact ⟨rfl, BW.out⟩
  · have HRA := Lib.hid (rat_any _ cs _ pt w5 Tt.out HGT.out)
    rw [← HR0.out] at HRA
    go_wp2_with (refine wpList_load_row rfl 26 _ rfl (w.heap.size) rfl 26 cs.toArray (0, 0) _ Vt.out Tryd.underlying26 rfl It.out ?_)
    refine HRA.out.mono ?_
    rintro e b1 ⟨nx, o0, rfl, hTx, hb⟩
    rw [show codeR (Sum.inr z0) = 0 from rfl]
    have hTx' := IsT.later hb _ _ _ hTx
    have Tz : Hid (IsT b1 nx o0 z0) := Lib.hid hTx'
    have BN := Lib.hid hb
    have BW := Lib.hid (BW.out.trans (BN.out.mono BW.out.size))
    have Vt : Hid (b1.heap[w.heap.size]? = some (.cells cs.toArray 26 (0, 0))) := Lib.hid ((BN.out.block _ (Array.getElem?_eq_some_iff.1 Vt.out).1).trans Vt.out)
    have Tt := Lib.hid (IsT.later BN.out _ _ _ Tt.out)
    clear hb hTx hTx' HRA
    have OI := Lib.hid (infoL (isT_five Tz.out))
    have OO : Hid (o0.toArray.all (·.oneCell') = true) := Lib.hid (isT_one Tz.out)
    have OS : Hid ((#[.int .u8 0, .bool false, .slice none 0 0, .slice none 0 0, .slice none 0 0] : Array Value).size = o0.toArray.size) := Lib.hid (by have := isT_five Tz.out; simp [this])
    obtain ⟨b1s1, hw⟩ : ∃ X, X = (b1.alloc (.cells #[.int .u8 0, .bool false, .slice none 0 0, .slice none 0 0, .slice none 0 0] 26)).setRow b1.heap.size o0.toArray := ⟨_, rfl⟩
    have hb : Below b1.heap.size b1 b1s1 := by rw [hw]; exact below_setRow ((Below.refl _ _).alloc (Nat.le_refl _) _) (Nat.le_refl _) _
    have hv : b1s1.heap[b1.heap.size]? = some (.cells o0.toArray 26 (0, 0)) := by rw [hw]; exact setRow_heap _ _ _ _ _ _ (heap_alloc_new b1 _)
    have HW := Lib.hid hw
    have BN := Lib.hid hb
    have BW := Lib.hid (BW.out.trans (BN.out.mono BW.out.size))
    have Vt : Hid (b1s1.heap[w.heap.size]? = some (.cells cs.toArray 26 (0, 0))) := Lib.hid ((BN.out.block _ (Array.getElem?_eq_some_iff.1 Vt.out).1).trans Vt.out)
    have Tt := Lib.hid (IsT.later BN.out _ _ _ Tt.out)
    have Tz := Lib.hid (IsT.later BN.out _ _ _ Tz.out)
    have Vo0 := Lib.hid hv
    have Io0 := OI
    clear hb hv hw
    go_upto_region 6 with (refine wpList_store_row rfl 26 _ _ rfl b1.heap.size o0.toArray rfl rfl 26 _ (heap_alloc_new b1 _) OI.out OS.out OO.out ?_)
    rw [← HW.out]
    clear HW OO OS
    have Pt := Vt
    obtain ⟨E1, hE⟩ : ∃ E : List Value, E = [.int .u8 3, .string pt, .string pf, .int .u8 0, .bool false, .slice none 0 0, .slice none 0 0, .slice none 0 0] := ⟨_, rfl⟩
    obtain ⟨y1, hy⟩ : ∃ Y, Y = b1s1.alloc (.cells E1.toArray 41) := ⟨_, rfl⟩
    have hb : Below b1s1.heap.size b1s1 y1 := by rw [hy]; exact (Below.refl _ _).alloc (Nat.le_refl _) _
    have hg : Has y1 b1s1.heap.size E1 41 := by rw [hy]; exact Has.new b1s1 E1 _
    have HY := Lib.hid hy
    have HE := Lib.hid hE
    have HG := Lib.hid hg
    have BN := Lib.hid hb
    have BW := Lib.hid (BW.out.trans (BN.out.mono BW.out.size))
    have Vt : Hid (y1.heap[w.heap.size]? = some (.cells cs.toArray 26 (0, 0))) := Lib.hid ((BN.out.block _ (Array.getElem?_eq_some_iff.1 Vt.out).1).trans Vt.out)
    have Vo0 : Hid (y1.heap[b1.heap.size]? = some (.cells o0.toArray 26 (0, 0))) := Lib.hid ((BN.out.block _ (Array.getElem?_eq_some_iff.1 Vo0.out).1).trans Vo0.out)
    have Tt := Lib.hid (IsT.later BN.out _ _ _ Tt.out)
    have Tz := Lib.hid (IsT.later BN.out _ _ _ Tz.out)
    clear hb hy hE hg
    have HXS : Hid (IsXs y1 1 (some ⟨b1s1.heap.size, 0, none⟩) 1 1 [⟨3, pt, pf, zeroT⟩]) := Lib.hid (one_edit HG.out ⟨z5, HE.out, isT_leaf _ 0⟩)
    have HAP := Lib.hid (applyA_any _ _ _ y1 Tt.out 1 _ 1 1 _ HXS.out (HM.out.below BW.out HMX.out) (Nat.lt_of_lt_of_le HMX.out BW.out.size))
    have HYY : Hid (y1 = b1s1.alloc (.cells #[.int .u8 3, .string pt, .string pf, .int .u8 0, .bool false, .slice none 0 0, .slice none 0 0, .slice none 0 0] 41)) := Lib.hid (by rw [HY.out, HE.out])
    go_wp2_with (refine wpList_load_row rfl 26 _ rfl (w.heap.size) rfl 26 cs.toArray (0, 0) _ Pt.out Tryd.underlying26 rfl It.out ?_)
    rw [← HYY.out]
    refine HAP.out.mono ?_
    rintro e a1 ⟨ou, rfl, ho5, ho1, hb, hok, hbad⟩
    obtain ⟨D1, hD⟩ : ∃ D, D = (runE t [⟨3, pt, pf, zeroT⟩]).1 := ⟨_, rfl⟩
    rw [← hD] at hok hbad ⊢
    have HD1 := Lib.hid hD
    have BN := Lib.hid hb
    have BW := Lib.hid (BW.out.trans (BN.out.mono BW.out.size))
    have Vt : Hid (a1.heap[w.heap.size]? = some (.cells cs.toArray 26 (0, 0))) := Lib.hid ((BN.out.block _ (Array.getElem?_eq_some_iff.1 Vt.out).1).trans Vt.out)
    have Vo0 : Hid (a1.heap[b1.heap.size]? = some (.cells o0.toArray 26 (0, 0))) := Lib.hid ((BN.out.block _ (Array.getElem?_eq_some_iff.1 Vo0.out).1).trans Vo0.out)
    have Tt := Lib.hid (IsT.later BN.out _ _ _ Tt.out)
    have Tz := Lib.hid (IsT.later BN.out _ _ _ Tz.out)
    have HOK1 : Hid (D1 = 0 → IsT a1 (sizeN (runE t [⟨3, pt, pf, zeroT⟩]).2.1) ou (runE t [⟨3, pt, pf, zeroT⟩]).2.1) := Lib.hid (fun h0 => by
      obtain ⟨S, hmt⟩ := hok h0
      exact hmt.isT _ (Nat.le_refl _) (run_small (by rw [← hD]; exact h0)).1)
    have HBD1 := Lib.hid hbad
    have HO5 := Lib.hid ho5
    have HO1 := Lib.hid ho1
    clear hb hok hbad hD ho5 ho1 HAP HYY HXS HY HE HG
    have OI := Lib.hid (infoL (HO5.out))
    have OO : Hid (ou.toArray.all (·.oneCell') = true) := Lib.hid (HO1.out)
    have OS : Hid ((#[.int .u8 0, .bool false, .slice none 0 0, .slice none 0 0, .slice none 0 0] : Array Value).size = ou.toArray.size) := Lib.hid (by have := HO5.out; simp [this])
    obtain ⟨a1s2, hw⟩ : ∃ X, X = (a1.alloc (.cells #[.int .u8 0, .bool false, .slice none 0 0, .slice none 0 0, .slice none 0 0] 26)).setRow a1.heap.size ou.toArray := ⟨_, rfl⟩
    have hb : Below a1.heap.size a1 a1s2 := by rw [hw]; exact below_setRow ((Below.refl _ _).alloc (Nat.le_refl _) _) (Nat.le_refl _) _
    have hv : a1s2.heap[a1.heap.size]? = some (.cells ou.toArray 26 (0, 0)) := by rw [hw]; exact setRow_heap _ _ _ _ _ _ (heap_alloc_new a1 _)
    have HW := Lib.hid hw
    have BN := Lib.hid hb
    have BW := Lib.hid (BW.out.trans (BN.out.mono BW.out.size))
    have Vt : Hid (a1s2.heap[w.heap.size]? = some (.cells cs.toArray 26 (0, 0))) := Lib.hid ((BN.out.block _ (Array.getElem?_eq_some_iff.1 Vt.out).1).trans Vt.out)
    have Vo0 : Hid (a1s2.heap[b1.heap.size]? = some (.cells o0.toArray 26 (0, 0))) := Lib.hid ((BN.out.block _ (Array.getElem?_eq_some_iff.1 Vo0.out).1).trans Vo0.out)
    have Tt := Lib.hid (IsT.later BN.out _ _ _ Tt.out)
    have Tz := Lib.hid (IsT.later BN.out _ _ _ Tz.out)
    have Vou := Lib.hid hv
    have Iou := OI
    clear hb hv hw
    go_upto_region 7 with (refine wpList_store_row rfl 26 _ _ rfl a1.heap.size ou.toArray rfl rfl 26 _ (heap_alloc_new a1 _) OI.out OS.out OO.out ?_)
    rw [← HW.out]
    clear HW OO OS
    have HOK1 : Hid (D1 = 0 → IsT a1s2 (sizeN (runE t [⟨3, pt, pf, zeroT⟩]).2.1) ou (runE t [⟨3, pt, pf, zeroT⟩]).2.1) := Lib.hid (fun h0 => IsT.later BN.out _ _ _ (HOK1.out h0))
    by_cases h1 : D1 = 0
    · subst h1
      by_cases hpe : pf = pt
      · subst hpe
        go_wp2_with fail
        go_ret
        exact ⟨rfl, BW.out⟩
      · have hpe2 : pf.toList ≠ pt.toList := fun h => hpe (ba_list h)
        go_wp2_with fail
        go_ret
        exact ⟨rfl, BW.out⟩
    · have h1i : ¬ ((D1 : Int) = 0) := by omega
      clear h1
      go_wp2_with fail
      go_ret
      exact ⟨rfl, BW.out⟩

end Go.Proofs.YtnfhmndepfmmoaaDoor

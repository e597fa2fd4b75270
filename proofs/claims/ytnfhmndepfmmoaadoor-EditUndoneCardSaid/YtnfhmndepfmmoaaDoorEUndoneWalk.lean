/-
  What is put and dropped again, what is moved there and back: as functions on trees. No program text.
-/
import Derived.Test.YtnfhmndepfmmoaaDoorEMath2
import Derived.Test.YtnfhmndepfmmoaaDoorEAtMath
import Derived.Test.YtnfhmndepfmmoaaDoorEApp
import Derived.Test.YtnfhmndepfmmoaaDoorERunA
import Derived.Test.YtnfhmndepfmmoaaDoorEArg
import Derived.BigFrame
import Derived.Test.YtnfhmndepfmmoaaDoorEAwake
import Derived.Test.YtnfhmndepfmmoaaDoorTRSame
import Derived.Test.YtnfhmndepfmmoaaDoorTRForm
import Derived.Test.YtnfhmndepfmmoaaDoorTGreat
namespace Go.Proofs.YtnfhmndepfmmoaaDoor
open Go.RowKit
set_option linter.unusedVariables false

/-! Names and places. -/
theorem plc_of {ns : List ByteArray} {x : ByteArray} {k : Nat} (hkl : k ≤ ns.length) (h1 : ∀ y ∈ ns.take k, nLt y x) (h2 : ∀ y ∈ ns.drop k, ¬ nLt y x) : plc ns x = k := by
  unfold plc
  rw [bsGo_congr (less' := fun t => Op.bytesLess (ns.getD t ⟨#[]⟩).toList x.toList && decide (t < ns.length)) _ _ _ (fun t _ ht => by simp [ht])]
  refine Lib.bsGo_spec _ k (fun t ht => ?_) (fun t ht => ?_) _ _ _ (by omega) (Nat.zero_le _) hkl
  · have hm : ns[t]'(by omega) ∈ ns.take k := List.mem_take_iff_getElem.2 ⟨t, by omega, rfl⟩
    have := h1 _ hm
    rw [List.getD_eq_getElem?_getD, List.getElem?_eq_getElem (by omega)]
    simp only [Option.getD_some, Bool.and_eq_true, decide_eq_true_eq]
    exact ⟨this, by omega⟩
  · by_cases hl : t < ns.length
    · have hm : ns[t] ∈ ns.drop k := List.mem_drop_iff_getElem.2 ⟨t - k, by omega, by congr 1; omega⟩
      have := h2 _ hm
      rw [List.getD_eq_getElem?_getD, List.getElem?_eq_getElem hl]
      simp only [Option.getD_some, Bool.and_eq_false_iff]
      exact .inl (by simpa [nLt] using this)
    · simp [hl]
theorem getD_ns {ns : List ByteArray} {j : Nat} (hj : j < ns.length) : ns.getD j ⟨#[]⟩ = ns[j] := by rw [List.getD_eq_getElem?_getD, List.getElem?_eq_getElem hj]; rfl
theorem plc_mem {ns : List ByteArray} (hp : ns.Pairwise nLt) {j : Nat} (hj : j < ns.length) : plc ns ns[j] = j ∧ tkn ns ns[j] = true := by
  have h1 : plc ns ns[j] = j := plc_of (Nat.le_of_lt hj) (fun y hy => by
    obtain ⟨m, hm, rfl⟩ := List.mem_take_iff_getElem.1 hy
    exact List.pairwise_iff_getElem.1 hp m j (by omega) hj (by omega)) (fun y hy => by
    obtain ⟨m, hm, rfl⟩ := List.mem_drop_iff_getElem.1 hy
    rcases Nat.eq_zero_or_pos m with rfl | h0
    · exact nLt_irr _
    · exact fun h => nLt_irr _ (nLt_trans (List.pairwise_iff_getElem.1 hp j (j + m) hj (by omega) (by omega)) h))
  refine ⟨h1, ?_⟩
  unfold tkn
  rw [h1]
  simp only [decide_eq_true_eq]
  exact ⟨hj, getD_ns hj⟩
theorem tkn_mem {ns : List ByteArray} (hp : ns.Pairwise nLt) {x : ByteArray} : tkn ns x = true ↔ x ∈ ns := by
  constructor
  · intro h
    obtain ⟨h1, h2⟩ := tkn_spec h
    rw [← h2, getD_ns h1]
    exact List.getElem_mem h1
  · intro h
    obtain ⟨j, hj, rfl⟩ := List.mem_iff_getElem.1 h
    exact (plc_mem hp hj).2
theorem idx_tkn {ns : List ByteArray} (hp : ns.Pairwise nLt) {x : ByteArray} : Lib.idxOfS ns x = if tkn ns x = true then (plc ns x : Int) else -1 := by
  have e0 : Lib.idxOfS (ns.take ns.length) x = Lib.idxOfS ns x := by rw [List.take_length]
  by_cases h : tkn ns x = true
  · rw [if_pos h, ← e0]
    obtain ⟨h1, h2⟩ := tkn_spec h
    refine Lib.idxOfS_hit ns ns.length (plc ns x) x h1 (Nat.le_refl _) h2 (fun j hj e => ?_)
    have e' : ns.getD j ⟨#[]⟩ = x := e
    rw [getD_ns (by omega)] at e'
    have := (plc_mem hp (show j < ns.length by omega)).1
    rw [e'] at this
    omega
  · rw [if_neg h, ← e0]
    refine Lib.idxOfS_miss ns ns.length x (fun j hj e => h ((tkn_mem hp).2 ?_))
    have e' : ns.getD j ⟨#[]⟩ = x := e
    rw [getD_ns hj] at e'
    rw [← e']
    exact List.getElem_mem hj

/-- What a directory has by a name. -/
theorem dir_pw {x : Bool} {d : List UInt8} {ns : List ByteArray} {ks : List T} (h : fmA (.mk 3 x d ns ks)) : ns.length = ks.length ∧ ns.Pairwise nLt ∧ risingT ns = true := by
  rw [fmA_mk] at h
  obtain ⟨h1, h2, _⟩ := dir_form h.1
  exact ⟨h1, ((risingT_iff ns).1 h2).2, h2⟩
theorem find_dir {x : Bool} {d : List UInt8} {ns : List ByteArray} {ks : List T} (h : fmA (.mk 3 x d ns ks)) (nm : ByteArray) (r : List ByteArray) : findT (nm :: r) (.mk 3 x d ns ks) = if tkn ns nm = true then findT r (ks.getD (plc ns nm) default) else .inl 6 := by
  obtain ⟨hl, hp, _⟩ := dir_pw h
  rw [findT, if_neg (by simp), idx_tkn hp]
  by_cases ht : tkn ns nm = true
  · have := (tkn_spec ht).1
    rw [if_pos ht, if_pos ht, if_neg (by omega)]
    rfl
  · rw [if_neg ht, if_neg ht, if_pos (.inl (by omega))]

theorem chg_dir (e : Ed) (nm : ByteArray) (r : List ByteArray) (hr : r ≠ []) (dep : Nat) (x : Bool) (d : List UInt8) (ns : List ByteArray) (ks : List T) (a b : Nat) : chgE e (nm :: r) dep (.mk 3 x d ns ks) a b =
    if tkn ns nm = true then ((chgE e r (dep + 1) (ks.getD (plc ns nm) default) a b).1, .mk 3 x d ns (ks.set (plc ns nm) (chgE e r (dep + 1) (ks.getD (plc ns nm) default) a b).2.1), (chgE e r (dep + 1) (ks.getD (plc ns nm) default) a b).2.2) else (6, .mk 3 x d ns ks, a, b) := by
  rw [chgE]
  show (if ((3 : UInt8) ≠ 3) then _ else _) = _
  rw [if_neg (by decide), if_neg hr]
  rfl
theorem chg_one (e : Ed) (nm : ByteArray) (dep : Nat) (x : Bool) (d : List UInt8) (ns : List ByteArray) (ks : List T) (a b : Nat) : chgE e [nm] dep (.mk 3 x d ns ks) a b = actE e nm dep (.mk 3 x d ns ks) a b := by
  rw [chgE]
  show (if ((3 : UInt8) ≠ 3) then _ else _) = _
  rw [if_neg (by decide), if_pos rfl]
theorem chg_not (e : Ed) (nm : ByteArray) (r : List ByteArray) (dep : Nat) (k : UInt8) (hk : k ≠ 3) (x : Bool) (d : List UInt8) (ns : List ByteArray) (ks : List T) (a b : Nat) : chgE e (nm :: r) dep (.mk k x d ns ks) a b = (8, .mk k x d ns ks, a, b) := by
  rw [chgE]
  show (if (k ≠ 3) then _ else _) = _
  rw [if_pos hk]
theorem drop_one {ns : List ByteArray} {nm : ByteArray} (dep : Nat) (x : Bool) (d : List UInt8) (ks : List T) (a b : Nat) : actE .drop nm dep (.mk 3 x d ns ks) a b =
    if tkn ns nm = true then (0, .mk 3 x d (ns.take (plc ns nm) ++ ns.drop (plc ns nm + 1)) (ks.take (plc ns nm) ++ ks.drop (plc ns nm + 1)), a - sizeN (ks.getD (plc ns nm) default), b - bytesT (ks.getD (plc ns nm) default)) else (6, .mk 3 x d ns ks, a, b) := rfl

/-- What drop tells is what At tells. -/
theorem drop_find : ∀ (l : List ByteArray), l ≠ [] → ∀ (t : T) (dep a b : Nat), fmA t → findT l t = if (chgE .drop l dep t a b).1 = 0 then .inr (getE l t) else .inl ((chgE .drop l dep t a b).1 : Int)
  | [], hne, _, _, _, _, _ => absurd rfl hne
  | nm :: r, _, .mk k x d ns ks, dep, a, b, hf => by
    by_cases hk : k = 3
    · subst hk
      have hp := dir_pw hf
      rw [find_dir hf]
      by_cases hr : r = []
      · subst hr
        rw [chg_one, drop_one]
        by_cases ht : tkn ns nm = true
        · simp only [if_pos ht]; rfl
        · simp only [if_neg ht]; rfl
      · rw [chg_dir _ _ _ hr]
        by_cases ht : tkn ns nm = true
        · simp only [if_pos ht]
          have hi : plc ns nm < ks.length := by rw [← hp.1]; exact (tkn_spec ht).1
          rw [fmA_mk] at hf
          exact drop_find r hr _ (dep + 1) a b (fmL_getD hf.2 hi)
        · simp only [if_neg ht]; rfl
    · rw [chg_not _ _ _ _ _ hk, findT, if_pos hk]; rfl

theorem set_take {ks : List T} {i : Nat} {k : T} : (ks.set i k).take i = ks.take i := by rw [List.take_set_of_le (Nat.le_refl _)]
theorem set_drop {ks : List T} {i : Nat} {k : T} : (ks.set i k).drop (i + 1) = ks.drop (i + 1) := by rw [List.drop_set_of_lt (by omega)]
theorem set_get {ks : List T} {i : Nat} (hi : i < ks.length) (k : T) : (ks.set i k).getD i default = k := by rw [getD_set hi, if_pos rfl]
theorem set_self {ks : List T} {i : Nat} (hi : i < ks.length) : ks.set i (ks.getD i default) = ks := by
  rw [set_at hi]; exact (split_at hi).symm

/-- Where a name that was not there stands, behind its insertion. -/
theorem ins_plc {ns : List ByteArray} (h : risingT ns = true) {nm : ByteArray} (hn : tName nm.data.toList = true) (ht : tkn ns nm = false) : plc (ns.take (plc ns nm) ++ nm :: ns.drop (plc ns nm)) nm = plc ns nm ∧ tkn (ns.take (plc ns nm) ++ nm :: ns.drop (plc ns nm)) nm = true := by
  have hr := ((risingT_iff _).1 (rising_ins h hn ht)).2
  have hpl := plc_le ns nm
  have hj : plc ns nm < (ns.take (plc ns nm) ++ nm :: ns.drop (plc ns nm)).length := by simp; omega
  have hg : (ns.take (plc ns nm) ++ nm :: ns.drop (plc ns nm))[plc ns nm] = nm := by
    rw [← getD_ns hj, getD_ins hpl, if_neg (by omega), if_pos rfl]
  have := plc_mem hr hj
  rw [hg] at this
  exact this
theorem ins_del {α : Type} {l : List α} {i : Nat} (hi : i ≤ l.length) (k : α) : (l.take i ++ k :: l.drop i).take i ++ (l.take i ++ k :: l.drop i).drop (i + 1) = l := by
  have h1 : (l.take i).length = i := by rw [List.length_take]; omega
  rw [List.take_left' h1, show l.take i ++ k :: l.drop i = (l.take i ++ [k]) ++ l.drop i by simp, List.drop_left' (by simp; omega), List.take_append_drop]

/-- Behind a put: what is there; what a drop there leaves. -/
theorem put_drop (k : T) (hk : fmA k) : ∀ (m : List ByteArray), m ≠ [] → (∀ x ∈ m, tName x.data.toList = true) → ∀ (t : T) (dep a b a' b' a2 b2 : Nat), Lim t dep a b → (chgE (.put k) m dep t a b).1 = 0 →
    findT m (chgE (.put k) m dep t a b).2.1 = .inr k ∧ (chgE .drop m dep (chgE (.put k) m dep t a b).2.1 a' b').1 = 0 ∧
      ((chgE .drop m dep t a2 b2).1 = 0 ∧ (chgE .drop m dep (chgE (.put k) m dep t a b).2.1 a' b').2.1 = (chgE .drop m dep t a2 b2).2.1 ∨
        (chgE .drop m dep t a2 b2).1 = 6 ∧ (chgE .drop m dep (chgE (.put k) m dep t a b).2.1 a' b').2.1 = t)
  | [], hne, _, _, _, _, _, _, _, _, _, _, _ => absurd rfl hne
  | nm :: r, _, hn, .mk kd x d ns ks, dep, a, b, a', b', a2, b2, hl, h0 => by
    by_cases hk3 : kd = 3
    · subst hk3
      have hf := hl.1
      obtain ⟨hlen, hp, hris⟩ := dir_pw hf
      by_cases hr : r = []
      · subst hr
        have hd := act_done (.put k) (fun q hq => by cases hq; exact hk) (hn nm (by simp)) hl (by rw [chg_one] at h0; exact h0)
        rw [chg_one] at h0 ⊢
        have hfu := hd.fm
        have hpl := plc_le ns nm
        rcases ht : tkn ns nm with _ | _
        · have hu : (actE (.put k) nm dep (.mk 3 x d ns ks) a b).2.1 = .mk 3 x d (ns.take (plc ns nm) ++ nm :: ns.drop (plc ns nm)) (ks.take (plc ns nm) ++ k :: ks.drop (plc ns nm)) := by
            show (if tkn ns nm = true then _ else layE nm (plc ns nm) dep (.mk 3 x d ns ks) k a b).2.1 = _
            rw [ht]; rfl
          obtain ⟨p1, p2⟩ := ins_plc hris (hn nm (by simp)) ht
          rw [hu] at hfu ⊢
          rw [find_dir hfu, if_pos p2, p1, getD_ins (by omega), if_neg (by omega), if_pos rfl, chg_one, chg_one, drop_one, drop_one, if_pos p2, p1, ht]
          refine ⟨by rw [findT], rfl, .inr ⟨rfl, ?_⟩⟩
          simp only
          rw [ins_del hpl, ins_del (by omega)]
        · have hu : (actE (.put k) nm dep (.mk 3 x d ns ks) a b).2.1 = .mk 3 x d ns (ks.set (plc ns nm) k) := by
            rw [← put_there (k := 3) (x := x) (d := d) hlen ht k]
            show (if tkn ns nm = true then _ else _ : ER).2.1 = _
            rw [ht]; rfl
          have hi : plc ns nm < ks.length := by rw [← hlen]; exact (tkn_spec ht).1
          rw [hu] at hfu ⊢
          rw [find_dir hfu, if_pos ht, set_get hi, chg_one, chg_one, drop_one, drop_one, if_pos ht, if_pos ht]
          refine ⟨by rw [findT], rfl, .inl ⟨rfl, ?_⟩⟩
          simp only
          rw [set_take, set_drop]
      · rw [chg_dir _ _ _ hr] at h0 ⊢
        rcases ht : tkn ns nm with _ | _
        · rw [ht] at h0; simp at h0
        · rw [ht] at h0
          simp only [if_true] at h0 ⊢
          have hi : plc ns nm < ks.length := by rw [← hlen]; exact (tkn_spec ht).1
          have ih := put_drop k hk r hr (fun y hy => hn y (List.mem_cons_of_mem _ hy)) (ks.getD (plc ns nm) default) (dep + 1) a b a' b' a2 b2 (hl.kid hi) h0
          have hq := chg_done (.put k) (fun q hq => by cases hq; exact hk) r (fun y hy => hn y (List.mem_cons_of_mem _ hy)) (ks.getD (plc ns nm) default) (dep + 1) a b (hl.kid hi) h0
          rw [fmA_mk] at hf
          have hfu : fmA (.mk 3 x d ns (ks.set (plc ns nm) (chgE (.put k) r (dep + 1) (ks.getD (plc ns nm) default) a b).2.1)) := by
            rw [fmA_mk]
            exact ⟨(dir_form hf.1).2.2 _ _ (by rw [List.length_set]; exact hlen) hris, set_fm hi hf.2 hq.fm⟩
          rw [find_dir hfu, if_pos ht, set_get hi, chg_dir _ _ _ hr, chg_dir _ _ _ hr, if_pos ht, if_pos ht, set_get hi]
          refine ⟨ih.1, ih.2.1, ?_⟩
          rcases ih.2.2 with ⟨q1, q2⟩ | ⟨q1, q2⟩
          · exact .inl ⟨q1, by simp only; rw [q2, List.set_set]⟩
          · exact .inr ⟨q1, by simp only; rw [q2, List.set_set, set_self hi]⟩
    · rw [chg_not _ _ _ _ _ hk3] at h0; simp at h0

/-- What is dropped and put again is where it was. -/
theorem drop_put : ∀ (l : List ByteArray), l ≠ [] → (∀ x ∈ l, tName x.data.toList = true) → ∀ (t : T) (dep a b : Nat), Lim t dep a b → (chgE .drop l dep t a b).1 = 0 →
    chgE (.put (getE l t)) l dep (chgE .drop l dep t a b).2.1 (chgE .drop l dep t a b).2.2.1 (chgE .drop l dep t a b).2.2.2 = (0, t, a, b)
  | [], hne, _, _, _, _, _, _, _ => absurd rfl hne
  | nm :: r, _, hn, .mk kd x d ns ks, dep, a, b, hl, h0 => by
    by_cases hk3 : kd = 3
    · subst hk3
      have hf := hl.1
      obtain ⟨hlen, hp, hris⟩ := dir_pw hf
      by_cases hr : r = []
      · subst hr
        rw [chg_one, drop_one] at h0 ⊢
        rcases ht : tkn ns nm with _ | _
        · rw [ht] at h0; simp at h0
        · obtain ⟨h1, h2⟩ := tkn_spec ht
          have hi : plc ns nm < ks.length := by rw [← hlen]; exact h1
          simp only [if_true]
          rw [chg_one]
          have hg : getE [nm] (.mk 3 x d ns ks) = ks.getD (plc ns nm) default := rfl
          rw [hg]
          -- the name is gone, and its place is the same
          have hrd := rising_del hris (plc ns nm)
          have hnl : ∀ y ∈ ns.take (plc ns nm), nLt y nm := (plc_spec hp nm).1
          have hng : ∀ y ∈ ns.drop (plc ns nm + 1), nLt nm y := fun y hy => by
            obtain ⟨j, hj, rfl⟩ := List.mem_drop_iff_getElem.1 hy
            have e : ns[plc ns nm] = nm := by rw [← getD_ns h1]; exact h2
            have := List.pairwise_iff_getElem.1 hp (plc ns nm) (plc ns nm + 1 + j) h1 (by omega) (by omega)
            rw [e] at this
            exact this
          have t1 : (ns.take (plc ns nm)).length = plc ns nm := by rw [List.length_take]; omega
          have hp1 : plc (ns.take (plc ns nm) ++ ns.drop (plc ns nm + 1)) nm = plc ns nm := plc_of (by simp; omega) (fun y hy => by rw [List.take_left' t1] at hy; exact hnl y hy) (fun y hy => by
            rw [List.drop_left' t1] at hy
            exact fun h => nLt_irr _ (nLt_trans (hng y hy) h))
          have hp2 : tkn (ns.take (plc ns nm) ++ ns.drop (plc ns nm + 1)) nm = false := by
            cases hq : tkn (ns.take (plc ns nm) ++ ns.drop (plc ns nm + 1)) nm with
            | false => rfl
            | true =>
              have hm := (tkn_mem ((risingT_iff _).1 hrd).2).1 hq
              rcases List.mem_append.1 hm with h | h
              · exact absurd (hnl _ h) (nLt_irr _)
              · exact absurd (hng _ h) (nLt_irr _)
          show (if tkn (ns.take (plc ns nm) ++ ns.drop (plc ns nm + 1)) nm = true then _ else layE nm (plc (ns.take (plc ns nm) ++ ns.drop (plc ns nm + 1)) nm) dep (.mk 3 x d (ns.take (plc ns nm) ++ ns.drop (plc ns nm + 1)) (ks.take (plc ns nm) ++ ks.drop (plc ns nm + 1))) (ks.getD (plc ns nm) default) (a - sizeN (ks.getD (plc ns nm) default)) (b - bytesT (ks.getD (plc ns nm) default)) : ER) = _
          rw [hp2, hp1]
          have hself := put_there (k := 3) (x := x) (d := d) hlen ht (ks.getD (plc ns nm) default)
          rw [set_self hi] at hself
          have hs := sizeNL_get hi
          have hb := bytesL_kid hi
          have hh := height_get hi
          obtain ⟨l1, l2, l3, l4, l5, l6, l7⟩ := hl
          rw [sizeN_mk] at l4
          rw [bytesT_mk] at l6
          rw [heightT_mk] at l3
          simp only [Bool.false_eq_true, if_false]
          unfold layE
          rw [if_neg (by omega)]
          have e1 : a - sizeN (ks.getD (plc ns nm) default) + sizeN (ks.getD (plc ns nm) default) = a := by omega
          have e2 : b - bytesT (ks.getD (plc ns nm) default) + bytesT (ks.getD (plc ns nm) default) = b := by omega
          rw [e1, e2]
          exact congrArg (fun z => ((0, z, a, b) : ER)) hself
      · rw [chg_dir _ _ _ hr] at h0 ⊢
        rcases ht : tkn ns nm with _ | _
        · rw [ht] at h0; simp at h0
        · rw [ht] at h0
          simp only [if_true] at h0 ⊢
          have hi : plc ns nm < ks.length := by rw [← hlen]; exact (tkn_spec ht).1
          have ih := drop_put r hr (fun y hy => hn y (List.mem_cons_of_mem _ hy)) (ks.getD (plc ns nm) default) (dep + 1) a b (hl.kid hi) h0
          have hg : getE (nm :: r) (.mk 3 x d ns ks) = getE r (ks.getD (plc ns nm) default) := rfl
          rw [hg, chg_dir _ _ _ hr, if_pos ht, set_get hi, ih]
          simp only
          rw [List.set_set, set_self hi]
    · rw [chg_not _ _ _ _ _ hk3] at h0; simp at h0

theorem ld_rowG {P : Program} {ops : Array Oper} {rest : List Oper} {o : Oper} {a : Act} {w : World} {Q : Exit → Act → World → Prop} (hw : Region.wanted o (yielded ops a.tmps) = true) (ty : TypeId) (x : Operand) (ho : o.op = .load ty x)
    (g : Nat) (hx : a.eval x = .pointer (some ⟨g, 0, none⟩)) (t : TypeId) (cs : Array Value) (fr : Nat × Nat) (d : TypeDesc) (hg : w.heap[g]? = some (.cells cs t fr))
    (hu : P.underlying ty = some d) (hd : (match d with | .struct _ | .array _ _ => true | _ => false) = true) (hi : (P.info? ty).map (·.size) = some cs.size)
    (h : wpList P ops Q rest (a.put o.dst (.agg cs)) w) : wpList P ops Q (o :: rest) a w :=
  BigFrame.wpList_want hw fun _ hK => wp_load_row ty x ho g hx t cs fr d hg hu hd hi (hK _ _ h)

theorem run_small {t : T} {l : List EdD} (h : (runE t l).1 = 0) : Small (runE t l).2.1 ∧ (sizeT (runE t l).2.1).isSome = true := by
  rcases hs : (sizeT t).isSome with _ | _
  · rw [run_bad hs] at h; cases h
  · rw [run_good hs] at h ⊢
    have hx := foldE_ok l (exact_of hs) h
    exact ⟨hx.1.small.1, hx.size⟩
theorem run_one {t : T} (hs : (sizeT t).isSome = true) (x : EdD) : runE t [x] = applyE x t (sizeN t) (bytesT t) := by
  rw [run_good hs, foldE]
  by_cases h : (applyE x t (sizeN t) (bytesT t)).1 ≠ 0
  · rw [if_pos h]
  · rw [if_neg h, foldE]
    have h0 : (applyE x t (sizeN t) (bytesT t)).1 = 0 := by simpa using h
    exact Prod.ext h0.symm rfl
theorem bel_split {s : List UInt8} (h : belN s = 0) : splitT s = (pieces s, 0) := by
  unfold belN at h
  unfold splitT
  by_cases h1 : 400 < s.length
  · rw [if_pos h1] at h; cases h
  · rw [if_neg h1] at h ⊢
    by_cases h2 : s = []
    · rw [if_pos h2] at h; cases h
    · rw [if_neg h2] at h ⊢
      by_cases h3 : (pieces s).all tName = true
      · rw [if_pos h3]
      · rw [if_neg h3] at h; cases h
theorem at_names {s : List UInt8} (h : belN s = 0) (t : T) : atT s t = findT (nmE s) t := by
  unfold atT
  rw [bel_split h, if_pos rfl]
  rfl
theorem app_put (p src : ByteArray) (k t : T) (a b : Nat) (hb : belN p.data.toList = 0) (hk : (sizeT k).isSome = true) : applyE ⟨2, p, src, k⟩ t a b = chgE (.put k) (nmE p.data.toList) 1 t a b := by
  unfold applyE
  rw [if_neg (by simp [hb]), if_neg (show ¬ ((2 : UInt8) = 1) by decide), if_pos rfl, if_pos hk]
theorem app_drop (p src : ByteArray) (k t : T) (a b : Nat) (hb : belN p.data.toList = 0) : applyE ⟨4, p, src, k⟩ t a b = chgE .drop (nmE p.data.toList) 1 t a b := by
  unfold applyE
  rw [if_neg (by simp [hb]), if_neg (show ¬ ((4 : UInt8) = 1) by decide), if_neg (show ¬ ((4 : UInt8) = 2) by decide), if_neg (show ¬ ((4 : UInt8) = 3) by decide), if_pos rfl]
theorem app_bel (x : EdD) (t : T) (a b : Nat) (h : (applyE x t a b).1 = 0) : belN x.path.data.toList = 0 := by
  unfold applyE at h
  by_cases hb : belN x.path.data.toList ≠ 0
  · simp only [if_pos hb] at h; exact absurd h hb
  · simpa using hb

/-- What is put and dropped again. -/
theorem undone (p : ByteArray) (t k : T) (ht : (sizeT t).isSome = true) (hk : (sizeT k).isSome = true) (h : (runE t [⟨2, p, ⟨#[]⟩, k⟩]).1 = 0) :
    atT p.data.toList (runE t [⟨2, p, ⟨#[]⟩, k⟩]).2.1 = .inr k ∧ (runE (runE t [⟨2, p, ⟨#[]⟩, k⟩]).2.1 [⟨4, p, ⟨#[]⟩, zeroT⟩]).1 = 0 ∧
      (((runE t [⟨4, p, ⟨#[]⟩, zeroT⟩]).1 = 0 ∧ (runE (runE t [⟨2, p, ⟨#[]⟩, k⟩]).2.1 [⟨4, p, ⟨#[]⟩, zeroT⟩]).2.1 = (runE t [⟨4, p, ⟨#[]⟩, zeroT⟩]).2.1) ∨
        ((runE t [⟨4, p, ⟨#[]⟩, zeroT⟩]).1 = 6 ∧ (runE (runE t [⟨2, p, ⟨#[]⟩, k⟩]).2.1 [⟨4, p, ⟨#[]⟩, zeroT⟩]).2.1 = t)) := by
  have hu := (run_small h).2
  rw [run_one hu, run_one ht (⟨4, p, ⟨#[]⟩, zeroT⟩ : EdD)]
  rw [run_one ht] at h ⊢
  have hb : belN p.data.toList = 0 := app_bel ⟨2, p, ⟨#[]⟩, k⟩ t _ _ h
  rw [app_put _ _ _ _ _ _ hb hk] at h ⊢
  rw [at_names hb, app_drop _ _ _ _ _ _ hb, app_drop _ _ _ _ _ _ hb]
  exact put_drop k (sizeT_get hk).2.1 (nmE p.data.toList) (nmE_ne _) (nmE_names hb) t 1 (sizeN t) (bytesT t) _ _ _ _ (exact_of ht).1 h

theorem one_edit {w : World} {g m : Nat} {cs : List Value} {x : EdD} (h : Has w g cs 41) (hx : IsX w m cs x) : IsXs w m (some ⟨g, 0, none⟩) 1 1 [x] :=
  ⟨rfl, .inr ⟨g, 0, rfl, h.lt, fun i hi => ⟨cs, by
    obtain rfl : i = 0 := by omega
    exact hx, fun j v hv => by
    obtain rfl : i = 0 := by omega
    have := h.cellAt hv
    simpa using this⟩⟩, (fun e => by cases e), Nat.le_refl _, by decide⟩

end Go.Proofs.YtnfhmndepfmmoaaDoor

namespace Go.Proofs.YtnfhmndepfmmoaaDoor
open Go.RowKit
set_option linter.unusedVariables false

set_option maxRecDepth 100000 in
set_option maxHeartbeats 20000000 in
theorem walk_EditUndone (w : World) (n : Nat) (cs : List Value) (t : T) (ht : IsT w n cs t) (hs : Small t) (p : ByteArray) (nk : Nat) (ck : List Value) (tk : T) (hk : IsT w nk ck tk) (hsk : Small tk) (hm : MaxW w) (hmx : 0 < w.heap.size) :
    Calls Tryd.prog 5 #[.agg cs.toArray, .string p, .agg ck.toArray] w fun e w' => e = .returned (.bool true) ∧ Below w.heap.size w w' := by
  obtain ⟨k0, k1, k2, k3, k4, rfl⟩ := five_list (isT_five hk)
  obtain ⟨K, hK⟩ : ∃ K, K = [k0, k1, k2, k3, k4] := ⟨_, rfl⟩
  rw [← hK] at hk ⊢
  have HKE := Lib.hid hK
  obtain ⟨w0, hw0⟩ : ∃ w0, w0 = w.alloc (.cells cs.toArray 26) := ⟨_, rfl⟩
  have s0 : w0.heap.size = w.heap.size + 1 := by rw [hw0]; simp
  obtain ⟨w1, hw1⟩ : ∃ w1, w1 = w0.alloc (.cells K.toArray 26) := ⟨_, rfl⟩
  have b1 : Below w.heap.size w w1 := by rw [hw1, hw0]; exact ((Below.refl _ _).alloc (Nat.le_refl _) _).alloc (by simp) _
  have Vt : Hid (w1.heap[w.heap.size]? = some (.cells cs.toArray 26 (0, 0))) := Lib.hid (by rw [hw1, hw0]; exact (Has.new w cs _).alloc _)
  have Vk : Hid (w1.heap[w.heap.size + 1]? = some (.cells K.toArray 26 (0, 0))) := Lib.hid (by rw [hw1, ← s0]; exact Has.new w0 K _)
  have It := Lib.hid (infoL (isT_five ht))
  have Ik := Lib.hid (infoL (isT_five hk))
  have Tt := Lib.hid (IsT.later b1 _ _ _ ht)
  have Tk := Lib.hid (IsT.later b1 _ _ _ hk)
  have HAW := Lib.hid (fun (W : World) (hW : Below w.heap.size w W) => awake_any W (hm.below hW hmx) (Nat.lt_of_lt_of_le hmx hW.size))
  have HS := Lib.hid hs
  have HSK := Lib.hid hsk
  have HM := Lib.hid hm
  have HMX := Lib.hid hmx
  have HW1 : Hid (w1 = (w.alloc (.cells cs.toArray 26)).alloc (.cells K.toArray 26)) := Lib.hid (by rw [hw1, hw0])
  have BW := Lib.hid b1
  clear ht hs hk hsk hm hmx hw0 hw1 s0 b1 hK
  go_enter Tryd.func5, Tryd.ntmps5
  go_upto_region 1 with fail
  rw [← HW1.out]
  go_wp2_with (refine wpList_load_row rfl 26 _ rfl (w.heap.size) rfl 26 cs.toArray (0, 0) _ Vt.out Tryd.underlying26 rfl It.out ?_)
  refine (great_any _ _ _ _ Tt.out 500 (by omega) (by omega)).mono ?_
  rintro e w2 ⟨⟨g, rfl⟩, hb⟩
  have BN := Lib.hid hb
  have BW := Lib.hid (BW.out.trans (BN.out.mono BW.out.size))
  have Vt : Hid (w2.heap[w.heap.size]? = some (.cells cs.toArray 26 (0, 0))) := Lib.hid ((BN.out.block _ (Array.getElem?_eq_some_iff.1 Vt.out).1).trans Vt.out)
  have Vk : Hid (w2.heap[w.heap.size + 1]? = some (.cells K.toArray 26 (0, 0))) := Lib.hid ((BN.out.block _ (Array.getElem?_eq_some_iff.1 Vk.out).1).trans Vk.out)
  have Tt := Lib.hid (IsT.later BN.out _ _ _ Tt.out)
  have Tk := Lib.hid (IsT.later BN.out _ _ _ Tk.out)
  clear hb
  rcases Bool.eq_false_or_eq_true g with rfl | rfl
  · go_wp2_with fail
    refine (HAW.out w2 BW.out).mono ?_
    rintro e wz ⟨rfl, hb⟩
    have BZ := Lib.hid (BW.out.trans (hb.mono BW.out.size))
    clear hb
    go_wp2_with fail
    go_ret
    exact ⟨rfl, BZ.out⟩
  go_wp2_with (refine ld_rowG (by rfl) 26 _ rfl (w.heap.size + 1) rfl 26 K.toArray (0, 0) _ Vk.out Tryd.underlying26 rfl Ik.out ?_)
  refine (great_any _ _ _ _ Tk.out 200 (by omega) (by omega)).mono ?_
  rintro e w3 ⟨⟨g, rfl⟩, hb⟩
  have BN := Lib.hid hb
  have BW := Lib.hid (BW.out.trans (BN.out.mono BW.out.size))
  have Vt : Hid (w3.heap[w.heap.size]? = some (.cells cs.toArray 26 (0, 0))) := Lib.hid ((BN.out.block _ (Array.getElem?_eq_some_iff.1 Vt.out).1).trans Vt.out)
  have Vk : Hid (w3.heap[w.heap.size + 1]? = some (.cells K.toArray 26 (0, 0))) := Lib.hid ((BN.out.block _ (Array.getElem?_eq_some_iff.1 Vk.out).1).trans Vk.out)
  have Tt := Lib.hid (IsT.later BN.out _ _ _ Tt.out)
  have Tk := Lib.hid (IsT.later BN.out _ _ _ Tk.out)
  clear hb
  rcases Bool.eq_false_or_eq_true g with rfl | rfl
  · go_wp2_with fail
    refine (HAW.out w3 BW.out).mono ?_
    rintro e wz ⟨rfl, hb⟩
    have BZ := Lib.hid (BW.out.trans (hb.mono BW.out.size))
    clear hb
    go_wp2_with fail
    go_ret
    exact ⟨rfl, BZ.out⟩
  go_wp2_with fail
  refine (HAW.out w3 BW.out).mono ?_
  rintro e w4 ⟨rfl, hb⟩
  have BN := Lib.hid hb
  have BW := Lib.hid (BW.out.trans (BN.out.mono BW.out.size))
  have Vt : Hid (w4.heap[w.heap.size]? = some (.cells cs.toArray 26 (0, 0))) := Lib.hid ((BN.out.block _ (Array.getElem?_eq_some_iff.1 Vt.out).1).trans Vt.out)
  have Vk : Hid (w4.heap[w.heap.size + 1]? = some (.cells K.toArray 26 (0, 0))) := Lib.hid ((BN.out.block _ (Array.getElem?_eq_some_iff.1 Vk.out).1).trans Vk.out)
  have Tt := Lib.hid (IsT.later BN.out _ _ _ Tt.out)
  have Tk := Lib.hid (IsT.later BN.out _ _ _ Tk.out)
  clear hb
  go_wp2_with (refine ld_rowG (by rfl) 26 _ rfl (w.heap.size) rfl 26 cs.toArray (0, 0) _ Vt.out Tryd.underlying26 rfl It.out ?_)
  obtain ⟨f1, hf1⟩ : ∃ f1, f1 = (sizeT t).isSome := ⟨_, rfl⟩
  have HR := Lib.hid (rform_any _ _ _ _ Tt.out HS.out)
  rw [← hf1] at HR
  have HF1 := Lib.hid hf1
  clear hf1
  refine (HR.out).mono ?_
  rintro e w5 ⟨rfl, hb⟩
  have BN := Lib.hid hb
  have BW := Lib.hid (BW.out.trans (BN.out.mono BW.out.size))
  have Vt : Hid (w5.heap[w.heap.size]? = some (.cells cs.toArray 26 (0, 0))) := Lib.hid ((BN.out.block _ (Array.getElem?_eq_some_iff.1 Vt.out).1).trans Vt.out)
  have Vk : Hid (w5.heap[w.heap.size + 1]? = some (.cells K.toArray 26 (0, 0))) := Lib.hid ((BN.out.block _ (Array.getElem?_eq_some_iff.1 Vk.out).1).trans Vk.out)
  have Tt := Lib.hid (IsT.later BN.out _ _ _ Tt.out)
  have Tk := Lib.hid (IsT.later BN.out _ _ _ Tk.out)
  clear hb
  rcases Bool.eq_false_or_eq_true f1 with rfl | rfl
  rotate_left
  · go_wp2_with fail
    refine (HAW.out w5 BW.out).mono ?_
    rintro e wz ⟨rfl, hb⟩
    have BZ := Lib.hid (BW.out.trans (hb.mono BW.out.size))
    clear hb
    go_wp2_with fail
    go_ret
    exact ⟨rfl, BZ.out⟩
  go_wp2_with (refine ld_rowG (by rfl) 26 _ rfl (w.heap.size + 1) rfl 26 K.toArray (0, 0) _ Vk.out Tryd.underlying26 rfl Ik.out ?_)
  obtain ⟨f2, hf2⟩ : ∃ f2, f2 = (sizeT tk).isSome := ⟨_, rfl⟩
  have HR := Lib.hid (rform_any _ _ _ _ Tk.out HSK.out)
  rw [← hf2] at HR
  have HF2 := Lib.hid hf2
  clear hf2
  refine (HR.out).mono ?_
  rintro e w6 ⟨rfl, hb⟩
  have BN := Lib.hid hb
  have BW := Lib.hid (BW.out.trans (BN.out.mono BW.out.size))
  have Vt : Hid (w6.heap[w.heap.size]? = some (.cells cs.toArray 26 (0, 0))) := Lib.hid ((BN.out.block _ (Array.getElem?_eq_some_iff.1 Vt.out).1).trans Vt.out)
  have Vk : Hid (w6.heap[w.heap.size + 1]? = some (.cells K.toArray 26 (0, 0))) := Lib.hid ((BN.out.block _ (Array.getElem?_eq_some_iff.1 Vk.out).1).trans Vk.out)
  have Tt := Lib.hid (IsT.later BN.out _ _ _ Tt.out)
  have Tk := Lib.hid (IsT.later BN.out _ _ _ Tk.out)
  clear hb
  rcases Bool.eq_false_or_eq_true f2 with rfl | rfl
  rotate_left
  · go_wp2_with fail
    refine (HAW.out w6 BW.out).mono ?_
    rintro e wz ⟨rfl, hb⟩
    have BZ := Lib.hid (BW.out.trans (hb.mono BW.out.size))
    clear hb
    go_wp2_with fail
    go_ret
    exact ⟨rfl, BZ.out⟩
  have VkL : Hid (w6.heap[w.heap.size + 1]? = some (.cells [k0, k1, k2, k3, k4].toArray 26 (0, 0))) := Lib.hid (by rw [← HKE.out]; exact Vk.out)
  have IkL : Hid ((Tryd.prog.info? 26).map (·.size) = some [k0, k1, k2, k3, k4].toArray.size) := Lib.hid (by kernel_rfl)
  have Pt := Vt
  have PkL := VkL
  obtain ⟨E1, hE⟩ : ∃ E : List Value, E = [.int .u8 2, .string p, .string ⟨#[]⟩, k0, k1, k2, k3, k4] := ⟨_, rfl⟩
  obtain ⟨y1, hy⟩ : ∃ Y, Y = w6.alloc (.cells E1.toArray 41) := ⟨_, rfl⟩
  have hb : Below w6.heap.size w6 y1 := by rw [hy]; exact (Below.refl _ _).alloc (Nat.le_refl _) _
  have hg : Has y1 w6.heap.size E1 41 := by rw [hy]; exact Has.new w6 E1 _
  have HY := Lib.hid hy
  have HE := Lib.hid hE
  have HG := Lib.hid hg
  have BN := Lib.hid hb
  have BW := Lib.hid (BW.out.trans (BN.out.mono BW.out.size))
  have Vt : Hid (y1.heap[w.heap.size]? = some (.cells cs.toArray 26 (0, 0))) := Lib.hid ((BN.out.block _ (Array.getElem?_eq_some_iff.1 Vt.out).1).trans Vt.out)
  have Vk : Hid (y1.heap[w.heap.size + 1]? = some (.cells K.toArray 26 (0, 0))) := Lib.hid ((BN.out.block _ (Array.getElem?_eq_some_iff.1 Vk.out).1).trans Vk.out)
  have VkL : Hid (y1.heap[w.heap.size + 1]? = some (.cells [k0, k1, k2, k3, k4].toArray 26 (0, 0))) := Lib.hid ((BN.out.block _ (Array.getElem?_eq_some_iff.1 VkL.out).1).trans VkL.out)
  have Tt := Lib.hid (IsT.later BN.out _ _ _ Tt.out)
  have Tk := Lib.hid (IsT.later BN.out _ _ _ Tk.out)
  clear hb hy hE hg
  have HXS : Hid (IsXs y1 nk (some ⟨w6.heap.size, 0, none⟩) 1 1 [⟨2, p, ⟨#[]⟩, tk⟩]) := Lib.hid (one_edit HG.out ⟨[k0, k1, k2, k3, k4], HE.out, by rw [← HKE.out]; exact Tk.out⟩)
  have HAP := Lib.hid (applyA_any _ _ _ y1 Tt.out nk _ 1 1 _ HXS.out (HM.out.below BW.out HMX.out) (Nat.lt_of_lt_of_le HMX.out BW.out.size))
  have HYY : Hid (y1 = w6.alloc (.cells #[.int .u8 2, .string p, .string ⟨#[]⟩, k0, k1, k2, k3, k4] 41)) := Lib.hid (by rw [HY.out, HE.out])
  go_wp2_with (first
    | (refine wpList_load_row rfl 26 _ rfl (w.heap.size) rfl 26 cs.toArray (0, 0) _ Pt.out Tryd.underlying26 rfl It.out ?_)
    | (refine wpList_load_row rfl 26 _ rfl (w.heap.size + 1) rfl 26 [k0, k1, k2, k3, k4].toArray (0, 0) _ PkL.out Tryd.underlying26 rfl IkL.out ?_))
  rw [← HYY.out]
  refine HAP.out.mono ?_
  rintro e a1 ⟨ou, rfl, ho5, ho1, hb, hok, hbad⟩
  obtain ⟨D1, hD⟩ : ∃ D, D = (runE t [⟨2, p, ⟨#[]⟩, tk⟩]).1 := ⟨_, rfl⟩
  rw [← hD] at hok hbad ⊢
  have HD1 := Lib.hid hD
  have BN := Lib.hid hb
  have BW := Lib.hid (BW.out.trans (BN.out.mono BW.out.size))
  have Vt : Hid (a1.heap[w.heap.size]? = some (.cells cs.toArray 26 (0, 0))) := Lib.hid ((BN.out.block _ (Array.getElem?_eq_some_iff.1 Vt.out).1).trans Vt.out)
  have Vk : Hid (a1.heap[w.heap.size + 1]? = some (.cells K.toArray 26 (0, 0))) := Lib.hid ((BN.out.block _ (Array.getElem?_eq_some_iff.1 Vk.out).1).trans Vk.out)
  have VkL : Hid (a1.heap[w.heap.size + 1]? = some (.cells [k0, k1, k2, k3, k4].toArray 26 (0, 0))) := Lib.hid ((BN.out.block _ (Array.getElem?_eq_some_iff.1 VkL.out).1).trans VkL.out)
  have Tt := Lib.hid (IsT.later BN.out _ _ _ Tt.out)
  have Tk := Lib.hid (IsT.later BN.out _ _ _ Tk.out)
  have HOK1 : Hid (D1 = 0 → IsT a1 (sizeN (runE t [⟨2, p, ⟨#[]⟩, tk⟩]).2.1) ou (runE t [⟨2, p, ⟨#[]⟩, tk⟩]).2.1) := Lib.hid (fun h0 => by
    obtain ⟨S, hmt⟩ := hok h0
    exact hmt.isT _ (Nat.le_refl _) (run_small (by rw [← hD]; exact h0)).1)
  have HBD1 := Lib.hid hbad
  have HO5 := Lib.hid ho5
  have HO1 := Lib.hid ho1
  clear hb hok hbad hD ho5 ho1 HAP HYY HXS HY HE HG
  have OI := Lib.hid (infoL (HO5.out))
  have OO : Hid (ou.toArray.all (·.oneCell') = true) := Lib.hid (HO1.out)
  have OS : Hid ((#[.int .u8 0, .bool false, .slice none 0 0, .slice none 0 0, .slice none 0 0] : Array Value).size = ou.toArray.size) := Lib.hid (by have := HO5.out; simp [this])
  obtain ⟨a1s1, hw⟩ : ∃ X, X = (a1.alloc (.cells #[.int .u8 0, .bool false, .slice none 0 0, .slice none 0 0, .slice none 0 0] 26)).setRow a1.heap.size ou.toArray := ⟨_, rfl⟩
  have hb : Below a1.heap.size a1 a1s1 := by rw [hw]; exact below_setRow ((Below.refl _ _).alloc (Nat.le_refl _) _) (Nat.le_refl _) _
  have hv : a1s1.heap[a1.heap.size]? = some (.cells ou.toArray 26 (0, 0)) := by rw [hw]; exact setRow_heap _ _ _ _ _ _ (heap_alloc_new a1 _)
  have HW := Lib.hid hw
  have BN := Lib.hid hb
  have BW := Lib.hid (BW.out.trans (BN.out.mono BW.out.size))
  have Vt : Hid (a1s1.heap[w.heap.size]? = some (.cells cs.toArray 26 (0, 0))) := Lib.hid ((BN.out.block _ (Array.getElem?_eq_some_iff.1 Vt.out).1).trans Vt.out)
  have Vk : Hid (a1s1.heap[w.heap.size + 1]? = some (.cells K.toArray 26 (0, 0))) := Lib.hid ((BN.out.block _ (Array.getElem?_eq_some_iff.1 Vk.out).1).trans Vk.out)
  have VkL : Hid (a1s1.heap[w.heap.size + 1]? = some (.cells [k0, k1, k2, k3, k4].toArray 26 (0, 0))) := Lib.hid ((BN.out.block _ (Array.getElem?_eq_some_iff.1 VkL.out).1).trans VkL.out)
  have Tt := Lib.hid (IsT.later BN.out _ _ _ Tt.out)
  have Tk := Lib.hid (IsT.later BN.out _ _ _ Tk.out)
  have Vou := Lib.hid hv
  have Iou := OI
  clear hb hv hw
  go_upto_region 6 with (refine wpList_store_row rfl 26 _ _ rfl a1.heap.size ou.toArray rfl rfl 26 _ (heap_alloc_new a1 _) OI.out OS.out OO.out ?_)
  rw [← HW.out]
  clear HW OO OS
  have HOK1 : Hid (D1 = 0 → IsT a1s1 (sizeN (runE t [⟨2, p, ⟨#[]⟩, tk⟩]).2.1) ou (runE t [⟨2, p, ⟨#[]⟩, tk⟩]).2.1) := Lib.hid (fun h0 => IsT.later BN.out _ _ _ (HOK1.out h0))
  have VkK := VkL
  by_cases h1 : D1 = 0
  · have HU := Lib.hid (HOK1.out h1)
    have HMA := Lib.hid (undone p t tk HF1.out.symm HF2.out.symm (by rw [← HD1.out]; exact h1))
    have HGD : Hid (Good (runE t [⟨2, p, ⟨#[]⟩, tk⟩]).2.1) := Lib.hid (Good.of (sizeT_get (run_small (t := t) (l := [⟨2, p, ⟨#[]⟩, tk⟩]) (by rw [← HD1.out]; exact h1)).2).1)
    have Tu := HU
    subst h1
    have HRA := Lib.hid (rat_any _ ou _ p a1s1 Tu.out HGD.out)
    rw [HMA.out.1] at HRA
    go_wp2_with (refine wpList_load_row rfl 26 _ rfl (a1.heap.size) rfl 26 ou.toArray (0, 0) _ Vou.out Tryd.underlying26 rfl Iou.out ?_)
    refine HRA.out.mono ?_
    rintro e b1 ⟨nx, ox, rfl, hTx, hb⟩
    have hTx' := IsT.later hb _ _ _ hTx
    have Tx : Hid (IsT b1 nx ox tk) := Lib.hid hTx'
    have BN := Lib.hid hb
    have BW := Lib.hid (BW.out.trans (BN.out.mono BW.out.size))
    have Vt : Hid (b1.heap[w.heap.size]? = some (.cells cs.toArray 26 (0, 0))) := Lib.hid ((BN.out.block _ (Array.getElem?_eq_some_iff.1 Vt.out).1).trans Vt.out)
    have Vk : Hid (b1.heap[w.heap.size + 1]? = some (.cells K.toArray 26 (0, 0))) := Lib.hid ((BN.out.block _ (Array.getElem?_eq_some_iff.1 Vk.out).1).trans Vk.out)
    have VkL : Hid (b1.heap[w.heap.size + 1]? = some (.cells [k0, k1, k2, k3, k4].toArray 26 (0, 0))) := Lib.hid ((BN.out.block _ (Array.getElem?_eq_some_iff.1 VkL.out).1).trans VkL.out)
    have Vou : Hid (b1.heap[a1.heap.size]? = some (.cells ou.toArray 26 (0, 0))) := Lib.hid ((BN.out.block _ (Array.getElem?_eq_some_iff.1 Vou.out).1).trans Vou.out)
    have Tt := Lib.hid (IsT.later BN.out _ _ _ Tt.out)
    have Tk := Lib.hid (IsT.later BN.out _ _ _ Tk.out)
    have Tu := Lib.hid (IsT.later BN.out _ _ _ Tu.out)
    clear hb hTx hTx'
    have OI := Lib.hid (infoL (isT_five Tx.out))
    have OO : Hid (ox.toArray.all (·.oneCell') = true) := Lib.hid (isT_one Tx.out)
    have OS : Hid ((#[.int .u8 0, .bool false, .slice none 0 0, .slice none 0 0, .slice none 0 0] : Array Value).size = ox.toArray.size) := Lib.hid (by have := isT_five Tx.out; simp [this])
    obtain ⟨b1s2, hw⟩ : ∃ X, X = (b1.alloc (.cells #[.int .u8 0, .bool false, .slice none 0 0, .slice none 0 0, .slice none 0 0] 26)).setRow b1.heap.size ox.toArray := ⟨_, rfl⟩
    have hb : Below b1.heap.size b1 b1s2 := by rw [hw]; exact below_setRow ((Below.refl _ _).alloc (Nat.le_refl _) _) (Nat.le_refl _) _
    have hv : b1s2.heap[b1.heap.size]? = some (.cells ox.toArray 26 (0, 0)) := by rw [hw]; exact setRow_heap _ _ _ _ _ _ (heap_alloc_new b1 _)
    have HW := Lib.hid hw
    have BN := Lib.hid hb
    have BW := Lib.hid (BW.out.trans (BN.out.mono BW.out.size))
    have Vt : Hid (b1s2.heap[w.heap.size]? = some (.cells cs.toArray 26 (0, 0))) := Lib.hid ((BN.out.block _ (Array.getElem?_eq_some_iff.1 Vt.out).1).trans Vt.out)
    have Vk : Hid (b1s2.heap[w.heap.size + 1]? = some (.cells K.toArray 26 (0, 0))) := Lib.hid ((BN.out.block _ (Array.getElem?_eq_some_iff.1 Vk.out).1).trans Vk.out)
    have VkL : Hid (b1s2.heap[w.heap.size + 1]? = some (.cells [k0, k1, k2, k3, k4].toArray 26 (0, 0))) := Lib.hid ((BN.out.block _ (Array.getElem?_eq_some_iff.1 VkL.out).1).trans VkL.out)
    have Vou : Hid (b1s2.heap[a1.heap.size]? = some (.cells ou.toArray 26 (0, 0))) := Lib.hid ((BN.out.block _ (Array.getElem?_eq_some_iff.1 Vou.out).1).trans Vou.out)
    have Tt := Lib.hid (IsT.later BN.out _ _ _ Tt.out)
    have Tk := Lib.hid (IsT.later BN.out _ _ _ Tk.out)
    have Tu := Lib.hid (IsT.later BN.out _ _ _ Tu.out)
    have Tx := Lib.hid (IsT.later BN.out _ _ _ Tx.out)
    have Vox := Lib.hid hv
    have Iox := OI
    clear hb hv hw
    go_upto_region 9 with (refine wpList_store_row rfl 26 _ _ rfl b1.heap.size ox.toArray rfl rfl 26 _ (heap_alloc_new b1 _) OI.out OS.out OO.out ?_)
    rw [← HW.out]
    clear HW OO OS
    have Pou := Vou
    obtain ⟨E2, hE⟩ : ∃ E : List Value, E = [.int .u8 4, .string p, .string ⟨#[]⟩, .int .u8 0, .bool false, .slice none 0 0, .slice none 0 0, .slice none 0 0] := ⟨_, rfl⟩
    obtain ⟨y2, hy⟩ : ∃ Y, Y = b1s2.alloc (.cells E2.toArray 41) := ⟨_, rfl⟩
    have hb : Below b1s2.heap.size b1s2 y2 := by rw [hy]; exact (Below.refl _ _).alloc (Nat.le_refl _) _
    have hg : Has y2 b1s2.heap.size E2 41 := by rw [hy]; exact Has.new b1s2 E2 _
    have HY := Lib.hid hy
    have HE := Lib.hid hE
    have HG := Lib.hid hg
    have BN := Lib.hid hb
    have BW := Lib.hid (BW.out.trans (BN.out.mono BW.out.size))
    have Vt : Hid (y2.heap[w.heap.size]? = some (.cells cs.toArray 26 (0, 0))) := Lib.hid ((BN.out.block _ (Array.getElem?_eq_some_iff.1 Vt.out).1).trans Vt.out)
    have Vk : Hid (y2.heap[w.heap.size + 1]? = some (.cells K.toArray 26 (0, 0))) := Lib.hid ((BN.out.block _ (Array.getElem?_eq_some_iff.1 Vk.out).1).trans Vk.out)
    have VkL : Hid (y2.heap[w.heap.size + 1]? = some (.cells [k0, k1, k2, k3, k4].toArray 26 (0, 0))) := Lib.hid ((BN.out.block _ (Array.getElem?_eq_some_iff.1 VkL.out).1).trans VkL.out)
    have Vou : Hid (y2.heap[a1.heap.size]? = some (.cells ou.toArray 26 (0, 0))) := Lib.hid ((BN.out.block _ (Array.getElem?_eq_some_iff.1 Vou.out).1).trans Vou.out)
    have Vox : Hid (y2.heap[b1.heap.size]? = some (.cells ox.toArray 26 (0, 0))) := Lib.hid ((BN.out.block _ (Array.getElem?_eq_some_iff.1 Vox.out).1).trans Vox.out)
    have Tt := Lib.hid (IsT.later BN.out _ _ _ Tt.out)
    have Tk := Lib.hid (IsT.later BN.out _ _ _ Tk.out)
    have Tu := Lib.hid (IsT.later BN.out _ _ _ Tu.out)
    have Tx := Lib.hid (IsT.later BN.out _ _ _ Tx.out)
    clear hb hy hE hg
    have HXS : Hid (IsXs y2 1 (some ⟨b1s2.heap.size, 0, none⟩) 1 1 [⟨4, p, ⟨#[]⟩, zeroT⟩]) := Lib.hid (one_edit HG.out ⟨z5, HE.out, isT_leaf _ 0⟩)
    have HAP := Lib.hid (applyA_any _ _ _ y2 Tu.out 1 _ 1 1 _ HXS.out (HM.out.below BW.out HMX.out) (Nat.lt_of_lt_of_le HMX.out BW.out.size))
    have HYY : Hid (y2 = b1s2.alloc (.cells #[.int .u8 4, .string p, .string ⟨#[]⟩, .int .u8 0, .bool false, .slice none 0 0, .slice none 0 0, .slice none 0 0] 41)) := Lib.hid (by rw [HY.out, HE.out])
    go_wp2_with (refine wpList_load_row rfl 26 _ rfl (a1.heap.size) rfl 26 ou.toArray (0, 0) _ Pou.out Tryd.underlying26 rfl Iou.out ?_)
    rw [← HYY.out]
    refine HAP.out.mono ?_
    rintro e a2 ⟨ov, rfl, ho5, ho1, hb, hok, hbad⟩
    obtain ⟨D2, hD⟩ : ∃ D, D = (runE (runE t [⟨2, p, ⟨#[]⟩, tk⟩]).2.1 [⟨4, p, ⟨#[]⟩, zeroT⟩]).1 := ⟨_, rfl⟩
    rw [← hD] at hok hbad ⊢
    have HD2 := Lib.hid hD
    have BN := Lib.hid hb
    have BW := Lib.hid (BW.out.trans (BN.out.mono BW.out.size))
    have Vt : Hid (a2.heap[w.heap.size]? = some (.cells cs.toArray 26 (0, 0))) := Lib.hid ((BN.out.block _ (Array.getElem?_eq_some_iff.1 Vt.out).1).trans Vt.out)
    have Vk : Hid (a2.heap[w.heap.size + 1]? = some (.cells K.toArray 26 (0, 0))) := Lib.hid ((BN.out.block _ (Array.getElem?_eq_some_iff.1 Vk.out).1).trans Vk.out)
    have VkL : Hid (a2.heap[w.heap.size + 1]? = some (.cells [k0, k1, k2, k3, k4].toArray 26 (0, 0))) := Lib.hid ((BN.out.block _ (Array.getElem?_eq_some_iff.1 VkL.out).1).trans VkL.out)
    have Vou : Hid (a2.heap[a1.heap.size]? = some (.cells ou.toArray 26 (0, 0))) := Lib.hid ((BN.out.block _ (Array.getElem?_eq_some_iff.1 Vou.out).1).trans Vou.out)
    have Vox : Hid (a2.heap[b1.heap.size]? = some (.cells ox.toArray 26 (0, 0))) := Lib.hid ((BN.out.block _ (Array.getElem?_eq_some_iff.1 Vox.out).1).trans Vox.out)
    have Tt := Lib.hid (IsT.later BN.out _ _ _ Tt.out)
    have Tk := Lib.hid (IsT.later BN.out _ _ _ Tk.out)
    have Tu := Lib.hid (IsT.later BN.out _ _ _ Tu.out)
    have Tx := Lib.hid (IsT.later BN.out _ _ _ Tx.out)
    have HOK2 : Hid (D2 = 0 → IsT a2 (sizeN (runE (runE t [⟨2, p, ⟨#[]⟩, tk⟩]).2.1 [⟨4, p, ⟨#[]⟩, zeroT⟩]).2.1) ov (runE (runE t [⟨2, p, ⟨#[]⟩, tk⟩]).2.1 [⟨4, p, ⟨#[]⟩, zeroT⟩]).2.1) := Lib.hid (fun h0 => by
      obtain ⟨S, hmt⟩ := hok h0
      exact hmt.isT _ (Nat.le_refl _) (run_small (by rw [← hD]; exact h0)).1)
    have HBD2 := Lib.hid hbad
    have HO5 := Lib.hid ho5
    have HO1 := Lib.hid ho1
    clear hb hok hbad hD ho5 ho1 HAP HYY HXS HY HE HG
    have OI := Lib.hid (infoL (HO5.out))
    have OO : Hid (ov.toArray.all (·.oneCell') = true) := Lib.hid (HO1.out)
    have OS : Hid ((#[.int .u8 0, .bool false, .slice none 0 0, .slice none 0 0, .slice none 0 0] : Array Value).size = ov.toArray.size) := Lib.hid (by have := HO5.out; simp [this])
    obtain ⟨a2s3, hw⟩ : ∃ X, X = (a2.alloc (.cells #[.int .u8 0, .bool false, .slice none 0 0, .slice none 0 0, .slice none 0 0] 26)).setRow a2.heap.size ov.toArray := ⟨_, rfl⟩
    have hb : Below a2.heap.size a2 a2s3 := by rw [hw]; exact below_setRow ((Below.refl _ _).alloc (Nat.le_refl _) _) (Nat.le_refl _) _
    have hv : a2s3.heap[a2.heap.size]? = some (.cells ov.toArray 26 (0, 0)) := by rw [hw]; exact setRow_heap _ _ _ _ _ _ (heap_alloc_new a2 _)
    have HW := Lib.hid hw
    have BN := Lib.hid hb
    have BW := Lib.hid (BW.out.trans (BN.out.mono BW.out.size))
    have Vt : Hid (a2s3.heap[w.heap.size]? = some (.cells cs.toArray 26 (0, 0))) := Lib.hid ((BN.out.block _ (Array.getElem?_eq_some_iff.1 Vt.out).1).trans Vt.out)
    have Vk : Hid (a2s3.heap[w.heap.size + 1]? = some (.cells K.toArray 26 (0, 0))) := Lib.hid ((BN.out.block _ (Array.getElem?_eq_some_iff.1 Vk.out).1).trans Vk.out)
    have VkL : Hid (a2s3.heap[w.heap.size + 1]? = some (.cells [k0, k1, k2, k3, k4].toArray 26 (0, 0))) := Lib.hid ((BN.out.block _ (Array.getElem?_eq_some_iff.1 VkL.out).1).trans VkL.out)
    have Vou : Hid (a2s3.heap[a1.heap.size]? = some (.cells ou.toArray 26 (0, 0))) := Lib.hid ((BN.out.block _ (Array.getElem?_eq_some_iff.1 Vou.out).1).trans Vou.out)
    have Vox : Hid (a2s3.heap[b1.heap.size]? = some (.cells ox.toArray 26 (0, 0))) := Lib.hid ((BN.out.block _ (Array.getElem?_eq_some_iff.1 Vox.out).1).trans Vox.out)
    have Tt := Lib.hid (IsT.later BN.out _ _ _ Tt.out)
    have Tk := Lib.hid (IsT.later BN.out _ _ _ Tk.out)
    have Tu := Lib.hid (IsT.later BN.out _ _ _ Tu.out)
    have Tx := Lib.hid (IsT.later BN.out _ _ _ Tx.out)
    have Vov := Lib.hid hv
    have Iov := OI
    clear hb hv hw
    go_upto_region 10 with (refine wpList_store_row rfl 26 _ _ rfl a2.heap.size ov.toArray rfl rfl 26 _ (heap_alloc_new a2 _) OI.out OS.out OO.out ?_)
    rw [← HW.out]
    clear HW OO OS
    have HOK2 : Hid (D2 = 0 → IsT a2s3 (sizeN (runE (runE t [⟨2, p, ⟨#[]⟩, tk⟩]).2.1 [⟨4, p, ⟨#[]⟩, zeroT⟩]).2.1) ov (runE (runE t [⟨2, p, ⟨#[]⟩, tk⟩]).2.1 [⟨4, p, ⟨#[]⟩, zeroT⟩]).2.1) := Lib.hid (fun h0 => IsT.later BN.out _ _ _ (HOK2.out h0))
    have Tv := Lib.hid (HOK2.out (by rw [HD2.out]; exact HMA.out.2.1))
    have Pt := Vt
    obtain ⟨E3, hE⟩ : ∃ E : List Value, E = [.int .u8 4, .string p, .string ⟨#[]⟩, .int .u8 0, .bool false, .slice none 0 0, .slice none 0 0, .slice none 0 0] := ⟨_, rfl⟩
    obtain ⟨y3, hy⟩ : ∃ Y, Y = a2s3.alloc (.cells E3.toArray 41) := ⟨_, rfl⟩
    have hb : Below a2s3.heap.size a2s3 y3 := by rw [hy]; exact (Below.refl _ _).alloc (Nat.le_refl _) _
    have hg : Has y3 a2s3.heap.size E3 41 := by rw [hy]; exact Has.new a2s3 E3 _
    have HY := Lib.hid hy
    have HE := Lib.hid hE
    have HG := Lib.hid hg
    have BN := Lib.hid hb
    have BW := Lib.hid (BW.out.trans (BN.out.mono BW.out.size))
    have Vt : Hid (y3.heap[w.heap.size]? = some (.cells cs.toArray 26 (0, 0))) := Lib.hid ((BN.out.block _ (Array.getElem?_eq_some_iff.1 Vt.out).1).trans Vt.out)
    have Vk : Hid (y3.heap[w.heap.size + 1]? = some (.cells K.toArray 26 (0, 0))) := Lib.hid ((BN.out.block _ (Array.getElem?_eq_some_iff.1 Vk.out).1).trans Vk.out)
    have VkL : Hid (y3.heap[w.heap.size + 1]? = some (.cells [k0, k1, k2, k3, k4].toArray 26 (0, 0))) := Lib.hid ((BN.out.block _ (Array.getElem?_eq_some_iff.1 VkL.out).1).trans VkL.out)
    have Vou : Hid (y3.heap[a1.heap.size]? = some (.cells ou.toArray 26 (0, 0))) := Lib.hid ((BN.out.block _ (Array.getElem?_eq_some_iff.1 Vou.out).1).trans Vou.out)
    have Vox : Hid (y3.heap[b1.heap.size]? = some (.cells ox.toArray 26 (0, 0))) := Lib.hid ((BN.out.block _ (Array.getElem?_eq_some_iff.1 Vox.out).1).trans Vox.out)
    have Vov : Hid (y3.heap[a2.heap.size]? = some (.cells ov.toArray 26 (0, 0))) := Lib.hid ((BN.out.block _ (Array.getElem?_eq_some_iff.1 Vov.out).1).trans Vov.out)
    have Tt := Lib.hid (IsT.later BN.out _ _ _ Tt.out)
    have Tk := Lib.hid (IsT.later BN.out _ _ _ Tk.out)
    have Tu := Lib.hid (IsT.later BN.out _ _ _ Tu.out)
    have Tx := Lib.hid (IsT.later BN.out _ _ _ Tx.out)
    have Tv := Lib.hid (IsT.later BN.out _ _ _ Tv.out)
    clear hb hy hE hg
    have HXS : Hid (IsXs y3 1 (some ⟨a2s3.heap.size, 0, none⟩) 1 1 [⟨4, p, ⟨#[]⟩, zeroT⟩]) := Lib.hid (one_edit HG.out ⟨z5, HE.out, isT_leaf _ 0⟩)
    have HAP := Lib.hid (applyA_any _ _ _ y3 Tt.out 1 _ 1 1 _ HXS.out (HM.out.below BW.out HMX.out) (Nat.lt_of_lt_of_le HMX.out BW.out.size))
    have HYY : Hid (y3 = a2s3.alloc (.cells #[.int .u8 4, .string p, .string ⟨#[]⟩, .int .u8 0, .bool false, .slice none 0 0, .slice none 0 0, .slice none 0 0] 41)) := Lib.hid (by rw [HY.out, HE.out])
    go_wp2_with (refine wpList_load_row rfl 26 _ rfl (w.heap.size) rfl 26 cs.toArray (0, 0) _ Pt.out Tryd.underlying26 rfl It.out ?_)
    rw [← HYY.out]
    refine HAP.out.mono ?_
    rintro e a3 ⟨ow, rfl, ho5, ho1, hb, hok, hbad⟩
    obtain ⟨D3, hD⟩ : ∃ D, D = (runE t [⟨4, p, ⟨#[]⟩, zeroT⟩]).1 := ⟨_, rfl⟩
    rw [← hD] at hok hbad ⊢
    have HD3 := Lib.hid hD
    have BN := Lib.hid hb
    have BW := Lib.hid (BW.out.trans (BN.out.mono BW.out.size))
    have Vt : Hid (a3.heap[w.heap.size]? = some (.cells cs.toArray 26 (0, 0))) := Lib.hid ((BN.out.block _ (Array.getElem?_eq_some_iff.1 Vt.out).1).trans Vt.out)
    have Vk : Hid (a3.heap[w.heap.size + 1]? = some (.cells K.toArray 26 (0, 0))) := Lib.hid ((BN.out.block _ (Array.getElem?_eq_some_iff.1 Vk.out).1).trans Vk.out)
    have VkL : Hid (a3.heap[w.heap.size + 1]? = some (.cells [k0, k1, k2, k3, k4].toArray 26 (0, 0))) := Lib.hid ((BN.out.block _ (Array.getElem?_eq_some_iff.1 VkL.out).1).trans VkL.out)
    have Vou : Hid (a3.heap[a1.heap.size]? = some (.cells ou.toArray 26 (0, 0))) := Lib.hid ((BN.out.block _ (Array.getElem?_eq_some_iff.1 Vou.out).1).trans Vou.out)
    have Vox : Hid (a3.heap[b1.heap.size]? = some (.cells ox.toArray 26 (0, 0))) := Lib.hid ((BN.out.block _ (Array.getElem?_eq_some_iff.1 Vox.out).1).trans Vox.out)
    have Vov : Hid (a3.heap[a2.heap.size]? = some (.cells ov.toArray 26 (0, 0))) := Lib.hid ((BN.out.block _ (Array.getElem?_eq_some_iff.1 Vov.out).1).trans Vov.out)
    have Tt := Lib.hid (IsT.later BN.out _ _ _ Tt.out)
    have Tk := Lib.hid (IsT.later BN.out _ _ _ Tk.out)
    have Tu := Lib.hid (IsT.later BN.out _ _ _ Tu.out)
    have Tx := Lib.hid (IsT.later BN.out _ _ _ Tx.out)
    have Tv := Lib.hid (IsT.later BN.out _ _ _ Tv.out)
    have HOK3 : Hid (D3 = 0 → IsT a3 (sizeN (runE t [⟨4, p, ⟨#[]⟩, zeroT⟩]).2.1) ow (runE t [⟨4, p, ⟨#[]⟩, zeroT⟩]).2.1) := Lib.hid (fun h0 => by
      obtain ⟨S, hmt⟩ := hok h0
      exact hmt.isT _ (Nat.le_refl _) (run_small (by rw [← hD]; exact h0)).1)
    have HBD3 := Lib.hid hbad
    have HO5 := Lib.hid ho5
    have HO1 := Lib.hid ho1
    clear hb hok hbad hD ho5 ho1 HAP HYY HXS HY HE HG
    have OI := Lib.hid (infoL (HO5.out))
    have OO : Hid (ow.toArray.all (·.oneCell') = true) := Lib.hid (HO1.out)
    have OS : Hid ((#[.int .u8 0, .bool false, .slice none 0 0, .slice none 0 0, .slice none 0 0] : Array Value).size = ow.toArray.size) := Lib.hid (by have := HO5.out; simp [this])
    obtain ⟨a3s4, hw⟩ : ∃ X, X = (a3.alloc (.cells #[.int .u8 0, .bool false, .slice none 0 0, .slice none 0 0, .slice none 0 0] 26)).setRow a3.heap.size ow.toArray := ⟨_, rfl⟩
    have hb : Below a3.heap.size a3 a3s4 := by rw [hw]; exact below_setRow ((Below.refl _ _).alloc (Nat.le_refl _) _) (Nat.le_refl _) _
    have hv : a3s4.heap[a3.heap.size]? = some (.cells ow.toArray 26 (0, 0)) := by rw [hw]; exact setRow_heap _ _ _ _ _ _ (heap_alloc_new a3 _)
    have HW := Lib.hid hw
    have BN := Lib.hid hb
    have BW := Lib.hid (BW.out.trans (BN.out.mono BW.out.size))
    have Vt : Hid (a3s4.heap[w.heap.size]? = some (.cells cs.toArray 26 (0, 0))) := Lib.hid ((BN.out.block _ (Array.getElem?_eq_some_iff.1 Vt.out).1).trans Vt.out)
    have Vk : Hid (a3s4.heap[w.heap.size + 1]? = some (.cells K.toArray 26 (0, 0))) := Lib.hid ((BN.out.block _ (Array.getElem?_eq_some_iff.1 Vk.out).1).trans Vk.out)
    have VkL : Hid (a3s4.heap[w.heap.size + 1]? = some (.cells [k0, k1, k2, k3, k4].toArray 26 (0, 0))) := Lib.hid ((BN.out.block _ (Array.getElem?_eq_some_iff.1 VkL.out).1).trans VkL.out)
    have Vou : Hid (a3s4.heap[a1.heap.size]? = some (.cells ou.toArray 26 (0, 0))) := Lib.hid ((BN.out.block _ (Array.getElem?_eq_some_iff.1 Vou.out).1).trans Vou.out)
    have Vox : Hid (a3s4.heap[b1.heap.size]? = some (.cells ox.toArray 26 (0, 0))) := Lib.hid ((BN.out.block _ (Array.getElem?_eq_some_iff.1 Vox.out).1).trans Vox.out)
    have Vov : Hid (a3s4.heap[a2.heap.size]? = some (.cells ov.toArray 26 (0, 0))) := Lib.hid ((BN.out.block _ (Array.getElem?_eq_some_iff.1 Vov.out).1).trans Vov.out)
    have Tt := Lib.hid (IsT.later BN.out _ _ _ Tt.out)
    have Tk := Lib.hid (IsT.later BN.out _ _ _ Tk.out)
    have Tu := Lib.hid (IsT.later BN.out _ _ _ Tu.out)
    have Tx := Lib.hid (IsT.later BN.out _ _ _ Tx.out)
    have Tv := Lib.hid (IsT.later BN.out _ _ _ Tv.out)
    have Vow := Lib.hid hv
    have Iow := OI
    clear hb hv hw
    go_upto_region 11 with (refine wpList_store_row rfl 26 _ _ rfl a3.heap.size ow.toArray rfl rfl 26 _ (heap_alloc_new a3 _) OI.out OS.out OO.out ?_)
    rw [← HW.out]
    clear HW OO OS
    have HOK3 : Hid (D3 = 0 → IsT a3s4 (sizeN (runE t [⟨4, p, ⟨#[]⟩, zeroT⟩]).2.1) ow (runE t [⟨4, p, ⟨#[]⟩, zeroT⟩]).2.1) := Lib.hid (fun h0 => IsT.later BN.out _ _ _ (HOK3.out h0))
    have hz2 : D2 = 0 := by rw [HD2.out]; exact HMA.out.2.1
    subst hz2
    rcases HMA.out.2.2 with ⟨q1, q2⟩ | ⟨q1, q2⟩
    · have hz3 : D3 = 0 := by rw [HD3.out]; exact q1
      have Tw := Lib.hid (HOK3.out hz3)
      have HQ2 := Lib.hid q2
      subst hz3
      clear q1 q2
      have HSM := Lib.hid (rsame_any _ _ _ _ _ _ a3s4 Tx.out Tk.out)
      go_wp2_with (first
        | (refine ld_rowG (by rfl) 26 _ rfl (b1.heap.size) rfl 26 ox.toArray (0, 0) _ Vox.out Tryd.underlying26 rfl Iox.out ?_)
        | (refine ld_rowG (by rfl) 26 _ rfl (w.heap.size + 1) rfl 26 K.toArray (0, 0) _ Vk.out Tryd.underlying26 rfl Ik.out ?_))
      refine HSM.out.mono ?_
      rintro e c1 ⟨⟨r, rfl, hr⟩, hb⟩
      have hrt : r = true := hr.2 (rfl)
      subst hrt
      have BN := Lib.hid hb
      have BW := Lib.hid (BW.out.trans (BN.out.mono BW.out.size))
      have Vt : Hid (c1.heap[w.heap.size]? = some (.cells cs.toArray 26 (0, 0))) := Lib.hid ((BN.out.block _ (Array.getElem?_eq_some_iff.1 Vt.out).1).trans Vt.out)
      have Vk : Hid (c1.heap[w.heap.size + 1]? = some (.cells K.toArray 26 (0, 0))) := Lib.hid ((BN.out.block _ (Array.getElem?_eq_some_iff.1 Vk.out).1).trans Vk.out)
      have VkL : Hid (c1.heap[w.heap.size + 1]? = some (.cells [k0, k1, k2, k3, k4].toArray 26 (0, 0))) := Lib.hid ((BN.out.block _ (Array.getElem?_eq_some_iff.1 VkL.out).1).trans VkL.out)
      have Vou : Hid (c1.heap[a1.heap.size]? = some (.cells ou.toArray 26 (0, 0))) := Lib.hid ((BN.out.block _ (Array.getElem?_eq_some_iff.1 Vou.out).1).trans Vou.out)
      have Vox : Hid (c1.heap[b1.heap.size]? = some (.cells ox.toArray 26 (0, 0))) := Lib.hid ((BN.out.block _ (Array.getElem?_eq_some_iff.1 Vox.out).1).trans Vox.out)
      have Vov : Hid (c1.heap[a2.heap.size]? = some (.cells ov.toArray 26 (0, 0))) := Lib.hid ((BN.out.block _ (Array.getElem?_eq_some_iff.1 Vov.out).1).trans Vov.out)
      have Vow : Hid (c1.heap[a3.heap.size]? = some (.cells ow.toArray 26 (0, 0))) := Lib.hid ((BN.out.block _ (Array.getElem?_eq_some_iff.1 Vow.out).1).trans Vow.out)
      have Tt := Lib.hid (IsT.later BN.out _ _ _ Tt.out)
      have Tk := Lib.hid (IsT.later BN.out _ _ _ Tk.out)
      have Tu := Lib.hid (IsT.later BN.out _ _ _ Tu.out)
      have Tx := Lib.hid (IsT.later BN.out _ _ _ Tx.out)
      have Tv := Lib.hid (IsT.later BN.out _ _ _ Tv.out)
      have Tw := Lib.hid (IsT.later BN.out _ _ _ Tw.out)
      clear hr hb HSM
      have HSM := Lib.hid (rsame_any _ _ _ _ _ _ c1 Tv.out Tw.out)
      go_wp2_with (first
        | (refine ld_rowG (by rfl) 26 _ rfl (a2.heap.size) rfl 26 ov.toArray (0, 0) _ Vov.out Tryd.underlying26 rfl Iov.out ?_)
        | (refine ld_rowG (by rfl) 26 _ rfl (a3.heap.size) rfl 26 ow.toArray (0, 0) _ Vow.out Tryd.underlying26 rfl Iow.out ?_))
      refine HSM.out.mono ?_
      rintro e c2 ⟨⟨r, rfl, hr⟩, hb⟩
      have hrt : r = true := hr.2 (HQ2.out)
      subst hrt
      have BN := Lib.hid hb
      have BW := Lib.hid (BW.out.trans (BN.out.mono BW.out.size))
      have Vt : Hid (c2.heap[w.heap.size]? = some (.cells cs.toArray 26 (0, 0))) := Lib.hid ((BN.out.block _ (Array.getElem?_eq_some_iff.1 Vt.out).1).trans Vt.out)
      have Vk : Hid (c2.heap[w.heap.size + 1]? = some (.cells K.toArray 26 (0, 0))) := Lib.hid ((BN.out.block _ (Array.getElem?_eq_some_iff.1 Vk.out).1).trans Vk.out)
      have VkL : Hid (c2.heap[w.heap.size + 1]? = some (.cells [k0, k1, k2, k3, k4].toArray 26 (0, 0))) := Lib.hid ((BN.out.block _ (Array.getElem?_eq_some_iff.1 VkL.out).1).trans VkL.out)
      have Vou : Hid (c2.heap[a1.heap.size]? = some (.cells ou.toArray 26 (0, 0))) := Lib.hid ((BN.out.block _ (Array.getElem?_eq_some_iff.1 Vou.out).1).trans Vou.out)
      have Vox : Hid (c2.heap[b1.heap.size]? = some (.cells ox.toArray 26 (0, 0))) := Lib.hid ((BN.out.block _ (Array.getElem?_eq_some_iff.1 Vox.out).1).trans Vox.out)
      have Vov : Hid (c2.heap[a2.heap.size]? = some (.cells ov.toArray 26 (0, 0))) := Lib.hid ((BN.out.block _ (Array.getElem?_eq_some_iff.1 Vov.out).1).trans Vov.out)
      have Vow : Hid (c2.heap[a3.heap.size]? = some (.cells ow.toArray 26 (0, 0))) := Lib.hid ((BN.out.block _ (Array.getElem?_eq_some_iff.1 Vow.out).1).trans Vow.out)
      have Tt := Lib.hid (IsT.later BN.out _ _ _ Tt.out)
      have Tk := Lib.hid (IsT.later BN.out _ _ _ Tk.out)
      have Tu := Lib.hid (IsT.later BN.out _ _ _ Tu.out)
      have Tx := Lib.hid (IsT.later BN.out _ _ _ Tx.out)
      have Tv := Lib.hid (IsT.later BN.out _ _ _ Tv.out)
      have Tw := Lib.hid (IsT.later BN.out _ _ _ Tw.out)
      clear hr hb HSM
      go_wp2_with fail
      go_ret
      exact ⟨rfl, BW.out⟩
    · have hz3 : D3 = 6 := by rw [HD3.out]; exact q1
      have HQ2 := Lib.hid q2
      subst hz3
      clear q1 q2
      have HSM := Lib.hid (rsame_any _ _ _ _ _ _ a3s4 Tx.out Tk.out)
      go_wp2_with (first
        | (refine ld_rowG (by rfl) 26 _ rfl (b1.heap.size) rfl 26 ox.toArray (0, 0) _ Vox.out Tryd.underlying26 rfl Iox.out ?_)
        | (refine ld_rowG (by rfl) 26 _ rfl (w.heap.size + 1) rfl 26 K.toArray (0, 0) _ Vk.out Tryd.underlying26 rfl Ik.out ?_))
      refine HSM.out.mono ?_
      rintro e c1 ⟨⟨r, rfl, hr⟩, hb⟩
      have hrt : r = true := hr.2 (rfl)
      subst hrt
      have BN := Lib.hid hb
      have BW := Lib.hid (BW.out.trans (BN.out.mono BW.out.size))
      have Vt : Hid (c1.heap[w.heap.size]? = some (.cells cs.toArray 26 (0, 0))) := Lib.hid ((BN.out.block _ (Array.getElem?_eq_some_iff.1 Vt.out).1).trans Vt.out)
      have Vk : Hid (c1.heap[w.heap.size + 1]? = some (.cells K.toArray 26 (0, 0))) := Lib.hid ((BN.out.block _ (Array.getElem?_eq_some_iff.1 Vk.out).1).trans Vk.out)
      have VkL : Hid (c1.heap[w.heap.size + 1]? = some (.cells [k0, k1, k2, k3, k4].toArray 26 (0, 0))) := Lib.hid ((BN.out.block _ (Array.getElem?_eq_some_iff.1 VkL.out).1).trans VkL.out)
      have Vou : Hid (c1.heap[a1.heap.size]? = some (.cells ou.toArray 26 (0, 0))) := Lib.hid ((BN.out.block _ (Array.getElem?_eq_some_iff.1 Vou.out).1).trans Vou.out)
      have Vox : Hid (c1.heap[b1.heap.size]? = some (.cells ox.toArray 26 (0, 0))) := Lib.hid ((BN.out.block _ (Array.getElem?_eq_some_iff.1 Vox.out).1).trans Vox.out)
      have Vov : Hid (c1.heap[a2.heap.size]? = some (.cells ov.toArray 26 (0, 0))) := Lib.hid ((BN.out.block _ (Array.getElem?_eq_some_iff.1 Vov.out).1).trans Vov.out)
      have Vow : Hid (c1.heap[a3.heap.size]? = some (.cells ow.toArray 26 (0, 0))) := Lib.hid ((BN.out.block _ (Array.getElem?_eq_some_iff.1 Vow.out).1).trans Vow.out)
      have Tt := Lib.hid (IsT.later BN.out _ _ _ Tt.out)
      have Tk := Lib.hid (IsT.later BN.out _ _ _ Tk.out)
      have Tu := Lib.hid (IsT.later BN.out _ _ _ Tu.out)
      have Tx := Lib.hid (IsT.later BN.out _ _ _ Tx.out)
      have Tv := Lib.hid (IsT.later BN.out _ _ _ Tv.out)
      clear hr hb HSM
      have HSM := Lib.hid (rsame_any _ _ _ _ _ _ c1 Tv.out Tt.out)
      go_wp2_with (first
        | (refine ld_rowG (by rfl) 26 _ rfl (a2.heap.size) rfl 26 ov.toArray (0, 0) _ Vov.out Tryd.underlying26 rfl Iov.out ?_)
        | (refine ld_rowG (by rfl) 26 _ rfl (w.heap.size) rfl 26 cs.toArray (0, 0) _ Vt.out Tryd.underlying26 rfl It.out ?_))
      refine HSM.out.mono ?_
      rintro e c2 ⟨⟨r, rfl, hr⟩, hb⟩
      have hrt : r = true := hr.2 (HQ2.out)
      subst hrt
      have BN := Lib.hid hb
      have BW := Lib.hid (BW.out.trans (BN.out.mono BW.out.size))
      have Vt : Hid (c2.heap[w.heap.size]? = some (.cells cs.toArray 26 (0, 0))) := Lib.hid ((BN.out.block _ (Array.getElem?_eq_some_iff.1 Vt.out).1).trans Vt.out)
      have Vk : Hid (c2.heap[w.heap.size + 1]? = some (.cells K.toArray 26 (0, 0))) := Lib.hid ((BN.out.block _ (Array.getElem?_eq_some_iff.1 Vk.out).1).trans Vk.out)
      have VkL : Hid (c2.heap[w.heap.size + 1]? = some (.cells [k0, k1, k2, k3, k4].toArray 26 (0, 0))) := Lib.hid ((BN.out.block _ (Array.getElem?_eq_some_iff.1 VkL.out).1).trans VkL.out)
      have Vou : Hid (c2.heap[a1.heap.size]? = some (.cells ou.toArray 26 (0, 0))) := Lib.hid ((BN.out.block _ (Array.getElem?_eq_some_iff.1 Vou.out).1).trans Vou.out)
      have Vox : Hid (c2.heap[b1.heap.size]? = some (.cells ox.toArray 26 (0, 0))) := Lib.hid ((BN.out.block _ (Array.getElem?_eq_some_iff.1 Vox.out).1).trans Vox.out)
      have Vov : Hid (c2.heap[a2.heap.size]? = some (.cells ov.toArray 26 (0, 0))) := Lib.hid ((BN.out.block _ (Array.getElem?_eq_some_iff.1 Vov.out).1).trans Vov.out)
      have Vow : Hid (c2.heap[a3.heap.size]? = some (.cells ow.toArray 26 (0, 0))) := Lib.hid ((BN.out.block _ (Array.getElem?_eq_some_iff.1 Vow.out).1).trans Vow.out)
      have Tt := Lib.hid (IsT.later BN.out _ _ _ Tt.out)
      have Tk := Lib.hid (IsT.later BN.out _ _ _ Tk.out)
      have Tu := Lib.hid (IsT.later BN.out _ _ _ Tu.out)
      have Tx := Lib.hid (IsT.later BN.out _ _ _ Tx.out)
      have Tv := Lib.hid (IsT.later BN.out _ _ _ Tv.out)
      clear hr hb HSM
      go_wp2_with fail
      go_ret
      exact ⟨rfl, BW.out⟩
  · have h1i : ¬ ((D1 : Int) = 0) := by omega
    have hz : ou = zK := HBD1.out h1
    subst hz
    clear h1
    have Tz := Lib.hid (isT_zero a1s1)
    have Ty := Lib.hid (isT_zero a1s1)
    have HSM := Lib.hid (rsame_any _ _ _ _ _ _ a1s1 Tz.out Ty.out)
    go_wp2_with (refine ld_rowG (by rfl) 26 _ rfl (a1.heap.size) rfl 26 zK.toArray (0, 0) _ Vou.out Tryd.underlying26 rfl Iou.out ?_)
    refine HSM.out.mono ?_
    rintro e c1 ⟨⟨r, rfl, hr⟩, hb⟩
    have hrt : r = true := hr.2 (rfl)
    subst hrt
    have BN := Lib.hid hb
    have BW := Lib.hid (BW.out.trans (BN.out.mono BW.out.size))
    have Vt : Hid (c1.heap[w.heap.size]? = some (.cells cs.toArray 26 (0, 0))) := Lib.hid ((BN.out.block _ (Array.getElem?_eq_some_iff.1 Vt.out).1).trans Vt.out)
    have Vk : Hid (c1.heap[w.heap.size + 1]? = some (.cells K.toArray 26 (0, 0))) := Lib.hid ((BN.out.block _ (Array.getElem?_eq_some_iff.1 Vk.out).1).trans Vk.out)
    have VkL : Hid (c1.heap[w.heap.size + 1]? = some (.cells [k0, k1, k2, k3, k4].toArray 26 (0, 0))) := Lib.hid ((BN.out.block _ (Array.getElem?_eq_some_iff.1 VkL.out).1).trans VkL.out)
    have Vou : Hid (c1.heap[a1.heap.size]? = some (.cells zK.toArray 26 (0, 0))) := Lib.hid ((BN.out.block _ (Array.getElem?_eq_some_iff.1 Vou.out).1).trans Vou.out)
    have Tt := Lib.hid (IsT.later BN.out _ _ _ Tt.out)
    have Tk := Lib.hid (IsT.later BN.out _ _ _ Tk.out)
    clear hr hb HSM
    go_wp2_with fail
    go_ret
    exact ⟨rfl, BW.out⟩

end Go.Proofs.YtnfhmndepfmmoaaDoor

/-
  What is put and dropped again, what is moved there and back: as functions on trees. No program text.
-/
import Derived.Test.YtbempgdndmchlaaDoorEApply
import Derived.Test.YtbempgdndmchlaaDoorERAt
import Derived.Test.YtbempgdndmchlaaDoorERunA
import Derived.Test.YtbempgdndmchlaaDoorEArg
import Derived.BigFrame
import Derived.Deep.RegionHeld3
import Derived.Deep.AppendLies
namespace Go.Proofs.YtbempgdndmchlaaDoor
open Go.RowKit
set_option linter.unusedVariables false

/-! Names and places. -/
theorem plc_of {ns : List ByteArray} {x : ByteArray} {k : Nat} (hkl : k ≤ ns.length) (h1 : ∀ y ∈ ns.take k, nLt y x) (h2 : ∀ y ∈ ns.drop k, ¬ nLt y x) : plc ns x = k := by
  unfold plc
  rw [bsGo_congr (less' := fun t => Op.bytesLess (ns.getD t ⟨#[]⟩).toList x.toList && decide (t < ns.length)) _ _ _ (fun t _ ht => by simp [ht])]
  refine Lib.bsGo_spec _ k (fun t ht => ?_) (fun t ht => ?_) _ _ _ (by omega) (Nat.zero_le _) hkl
  · have hm : ns[t]'(by omega) ∈ ns.take k := List.mem_take_iff_getElem.2 ⟨t, by omega, rfl⟩
    have := h1 _ hm
    rw [List.getD_eq_getElem?_getD, List.getElem?_eq_getElem (by omega)]
    simp only [Option.getD_some, Bool.and_eq_true, decide_eq_true_eq]
    exact ⟨this, by omega⟩
  · by_cases hl : t < ns.length
    · have hm : ns[t] ∈ ns.drop k := List.mem_drop_iff_getElem.2 ⟨t - k, by omega, by congr 1; omega⟩
      have := h2 _ hm
      rw [List.getD_eq_getElem?_getD, List.getElem?_eq_getElem hl]
      simp only [Option.getD_some, Bool.and_eq_false_iff]
      exact .inl (by simpa [nLt] using this)
    · simp [hl]
theorem getD_ns {ns : List ByteArray} {j : Nat} (hj : j < ns.length) : ns.getD j ⟨#[]⟩ = ns[j] := by rw [List.getD_eq_getElem?_getD, List.getElem?_eq_getElem hj]; rfl
theorem plc_mem {ns : List ByteArray} (hp : ns.Pairwise nLt) {j : Nat} (hj : j < ns.length) : plc ns ns[j] = j ∧ tkn ns ns[j] = true := by
  have h1 : plc ns ns[j] = j := plc_of (Nat.le_of_lt hj) (fun y hy => by
    obtain ⟨m, hm, rfl⟩ := List.mem_take_iff_getElem.1 hy
    exact List.pairwise_iff_getElem.1 hp m j (by omega) hj (by omega)) (fun y hy => by
    obtain ⟨m, hm, rfl⟩ := List.mem_drop_iff_getElem.1 hy
    rcases Nat.eq_zero_or_pos m with rfl | h0
    · exact nLt_irr _
    · exact fun h => nLt_irr _ (nLt_trans (List.pairwise_iff_getElem.1 hp j (j + m) hj (by omega) (by omega)) h))
  refine ⟨h1, ?_⟩
  unfold tkn
  rw [h1]
  simp only [decide_eq_true_eq]
  exact ⟨hj, getD_ns hj⟩
theorem tkn_mem {ns : List ByteArray} (hp : ns.Pairwise nLt) {x : ByteArray} : tkn ns x = true ↔ x ∈ ns := by
  constructor
  · intro h
    obtain ⟨h1, h2⟩ := tkn_spec h
    rw [← h2, getD_ns h1]
    exact List.getElem_mem h1
  · intro h
    obtain ⟨j, hj, rfl⟩ := List.mem_iff_getElem.1 h
    exact (plc_mem hp hj).2
theorem idx_tkn {ns : List ByteArray} (hp : ns.Pairwise nLt) {x : ByteArray} : Lib.idxOfS ns x = if tkn ns x = true then (plc ns x : Int) else -1 := by
  have e0 : Lib.idxOfS (ns.take ns.length) x = Lib.idxOfS ns x := by rw [List.take_length]
  by_cases h : tkn ns x = true
  · rw [if_pos h, ← e0]
    obtain ⟨h1, h2⟩ := tkn_spec h
    refine Lib.idxOfS_hit ns ns.length (plc ns x) x h1 (Nat.le_refl _) h2 (fun j hj e => ?_)
    have e' : ns.getD j ⟨#[]⟩ = x := e
    rw [getD_ns (by omega)] at e'
    have := (plc_mem hp (show j < ns.length by omega)).1
    rw [e'] at this
    omega
  · rw [if_neg h, ← e0]
    refine Lib.idxOfS_miss ns ns.length x (fun j hj e => h ((tkn_mem hp).2 ?_))
    have e' : ns.getD j ⟨#[]⟩ = x := e
    rw [getD_ns hj] at e'
    rw [← e']
    exact List.getElem_mem hj

/-- What a directory has by a name. -/
theorem dir_pw {x : Bool} {d : List UInt8} {ns : List ByteArray} {ks : List T} (h : fmA (.mk 3 x d ns ks)) : ns.length = ks.length ∧ ns.Pairwise nLt ∧ risingT ns = true := by
  rw [fmA_mk] at h
  obtain ⟨h1, h2, _⟩ := dir_form h.1
  exact ⟨h1, ((risingT_iff ns).1 h2).2, h2⟩
theorem find_dir {x : Bool} {d : List UInt8} {ns : List ByteArray} {ks : List T} (h : fmA (.mk 3 x d ns ks)) (nm : ByteArray) (r : List ByteArray) : findT (nm :: r) (.mk 3 x d ns ks) = if tkn ns nm = true then findT r (ks.getD (plc ns nm) default) else .inl 6 := by
  obtain ⟨hl, hp, _⟩ := dir_pw h
  rw [findT, if_neg (by simp), idx_tkn hp]
  by_cases ht : tkn ns nm = true
  · have := (tkn_spec ht).1
    rw [if_pos ht, if_pos ht, if_neg (by omega)]
    rfl
  · rw [if_neg ht, if_neg ht, if_pos (.inl (by omega))]

theorem chg_dir (e : Ed) (nm : ByteArray) (r : List ByteArray) (hr : r ≠ []) (dep : Nat) (x : Bool) (d : List UInt8) (ns : List ByteArray) (ks : List T) (a b : Nat) : chgE e (nm :: r) dep (.mk 3 x d ns ks) a b =
    if tkn ns nm = true then ((chgE e r (dep + 1) (ks.getD (plc ns nm) default) a b).1, .mk 3 x d ns (ks.set (plc ns nm) (chgE e r (dep + 1) (ks.getD (plc ns nm) default) a b).2.1), (chgE e r (dep + 1) (ks.getD (plc ns nm) default) a b).2.2) else (6, .mk 3 x d ns ks, a, b) := by
  rw [chgE]
  show (if ((3 : UInt8) ≠ 3) then _ else _) = _
  rw [if_neg (by decide), if_neg hr]
  rfl
theorem chg_one (e : Ed) (nm : ByteArray) (dep : Nat) (x : Bool) (d : List UInt8) (ns : List ByteArray) (ks : List T) (a b : Nat) : chgE e [nm] dep (.mk 3 x d ns ks) a b = actE e nm dep (.mk 3 x d ns ks) a b := by
  rw [chgE]
  show (if ((3 : UInt8) ≠ 3) then _ else _) = _
  rw [if_neg (by decide), if_pos rfl]
theorem chg_not (e : Ed) (nm : ByteArray) (r : List ByteArray) (dep : Nat) (k : UInt8) (hk : k ≠ 3) (x : Bool) (d : List UInt8) (ns : List ByteArray) (ks : List T) (a b : Nat) : chgE e (nm :: r) dep (.mk k x d ns ks) a b = (8, .mk k x d ns ks, a, b) := by
  rw [chgE]
  show (if (k ≠ 3) then _ else _) = _
  rw [if_pos hk]
theorem drop_one {ns : List ByteArray} {nm : ByteArray} (dep : Nat) (x : Bool) (d : List UInt8) (ks : List T) (a b : Nat) : actE .drop nm dep (.mk 3 x d ns ks) a b =
    if tkn ns nm = true then (0, .mk 3 x d (ns.take (plc ns nm) ++ ns.drop (plc ns nm + 1)) (ks.take (plc ns nm) ++ ks.drop (plc ns nm + 1)), a - sizeN (ks.getD (plc ns nm) default), b - bytesT (ks.getD (plc ns nm) default)) else (6, .mk 3 x d ns ks, a, b) := rfl

/-- What drop tells is what At tells. -/
theorem drop_find : ∀ (l : List ByteArray), l ≠ [] → ∀ (t : T) (dep a b : Nat), fmA t → findT l t = if (chgE .drop l dep t a b).1 = 0 then .inr (getE l t) else .inl ((chgE .drop l dep t a b).1 : Int)
  | [], hne, _, _, _, _, _ => absurd rfl hne
  | nm :: r, _, .mk k x d ns ks, dep, a, b, hf => by
    by_cases hk : k = 3
    · subst hk
      have hp := dir_pw hf
      rw [find_dir hf]
      by_cases hr : r = []
      · subst hr
        rw [chg_one, drop_one]
        by_cases ht : tkn ns nm = true
        · simp only [if_pos ht]; rfl
        · simp only [if_neg ht]; rfl
      · rw [chg_dir _ _ _ hr]
        by_cases ht : tkn ns nm = true
        · simp only [if_pos ht]
          have hi : plc ns nm < ks.length := by rw [← hp.1]; exact (tkn_spec ht).1
          rw [fmA_mk] at hf
          exact drop_find r hr _ (dep + 1) a b (fmL_getD hf.2 hi)
        · simp only [if_neg ht]; rfl
    · rw [chg_not _ _ _ _ _ hk, findT, if_pos hk]; rfl

theorem set_take {ks : List T} {i : Nat} {k : T} : (ks.set i k).take i = ks.take i := by rw [List.take_set_of_le (Nat.le_refl _)]
theorem set_drop {ks : List T} {i : Nat} {k : T} : (ks.set i k).drop (i + 1) = ks.drop (i + 1) := by rw [List.drop_set_of_lt (by omega)]
theorem set_get {ks : List T} {i : Nat} (hi : i < ks.length) (k : T) : (ks.set i k).getD i default = k := by rw [getD_set hi, if_pos rfl]
theorem set_self {ks : List T} {i : Nat} (hi : i < ks.length) : ks.set i (ks.getD i default) = ks := by
  rw [set_at hi]; exact (split_at hi).symm

/-- Where a name that was not there stands, behind its insertion. -/
theorem ins_plc {ns : List ByteArray} (h : risingT ns = true) {nm : ByteArray} (hn : tName nm.data.toList = true) (ht : tkn ns nm = false) : plc (ns.take (plc ns nm) ++ nm :: ns.drop (plc ns nm)) nm = plc ns nm ∧ tkn (ns.take (plc ns nm) ++ nm :: ns.drop (plc ns nm)) nm = true := by
  have hr := ((risingT_iff _).1 (rising_ins h hn ht)).2
  have hpl := plc_le ns nm
  have hj : plc ns nm < (ns.take (plc ns nm) ++ nm :: ns.drop (plc ns nm)).length := by simp; omega
  have hg : (ns.take (plc ns nm) ++ nm :: ns.drop (plc ns nm))[plc ns nm] = nm := by
    rw [← getD_ns hj, getD_ins hpl, if_neg (by omega), if_pos rfl]
  have := plc_mem hr hj
  rw [hg] at this
  exact this
theorem ins_del {α : Type} {l : List α} {i : Nat} (hi : i ≤ l.length) (k : α) : (l.take i ++ k :: l.drop i).take i ++ (l.take i ++ k :: l.drop i).drop (i + 1) = l := by
  have h1 : (l.take i).length = i := by rw [List.length_take]; omega
  rw [List.take_left' h1, show l.take i ++ k :: l.drop i = (l.take i ++ [k]) ++ l.drop i by simp, List.drop_left' (by simp; omega), List.take_append_drop]

/-- Behind a put: what is there; what a drop there leaves. -/
theorem put_drop (k : T) (hk : fmA k) : ∀ (m : List ByteArray), m ≠ [] → (∀ x ∈ m, tName x.data.toList = true) → ∀ (t : T) (dep a b a' b' a2 b2 : Nat), Lim t dep a b → (chgE (.put k) m dep t a b).1 = 0 →
    findT m (chgE (.put k) m dep t a b).2.1 = .inr k ∧ (chgE .drop m dep (chgE (.put k) m dep t a b).2.1 a' b').1 = 0 ∧
      ((chgE .drop m dep t a2 b2).1 = 0 ∧ (chgE .drop m dep (chgE (.put k) m dep t a b).2.1 a' b').2.1 = (chgE .drop m dep t a2 b2).2.1 ∨
        (chgE .drop m dep t a2 b2).1 = 6 ∧ (chgE .drop m dep (chgE (.put k) m dep t a b).2.1 a' b').2.1 = t)
  | [], hne, _, _, _, _, _, _, _, _, _, _, _ => absurd rfl hne
  | nm :: r, _, hn, .mk kd x d ns ks, dep, a, b, a', b', a2, b2, hl, h0 => by
    by_cases hk3 : kd = 3
    · subst hk3
      have hf := hl.1
      obtain ⟨hlen, hp, hris⟩ := dir_pw hf
      by_cases hr : r = []
      · subst hr
        have hd := act_done (.put k) (fun q hq => by cases hq; exact hk) (hn nm (by simp)) hl (by rw [chg_one] at h0; exact h0)
        rw [chg_one] at h0 ⊢
        have hfu := hd.fm
        have hpl := plc_le ns nm
        rcases ht : tkn ns nm with _ | _
        · have hu : (actE (.put k) nm dep (.mk 3 x d ns ks) a b).2.1 = .mk 3 x d (ns.take (plc ns nm) ++ nm :: ns.drop (plc ns nm)) (ks.take (plc ns nm) ++ k :: ks.drop (plc ns nm)) := by
            show (if tkn ns nm = true then _ else layE nm (plc ns nm) dep (.mk 3 x d ns ks) k a b).2.1 = _
            rw [ht]; rfl
          obtain ⟨p1, p2⟩ := ins_plc hris (hn nm (by simp)) ht
          rw [hu] at hfu ⊢
          rw [find_dir hfu, if_pos p2, p1, getD_ins (by omega), if_neg (by omega), if_pos rfl, chg_one, chg_one, drop_one, drop_one, if_pos p2, p1, ht]
          refine ⟨by rw [findT], rfl, .inr ⟨rfl, ?_⟩⟩
          simp only
          rw [ins_del hpl, ins_del (by omega)]
        · have hu : (actE (.put k) nm dep (.mk 3 x d ns ks) a b).2.1 = .mk 3 x d ns (ks.set (plc ns nm) k) := by
            rw [← put_there (k := 3) (x := x) (d := d) hlen ht k]
            show (if tkn ns nm = true then _ else _ : ER).2.1 = _
            rw [ht]; rfl
          have hi : plc ns nm < ks.length := by rw [← hlen]; exact (tkn_spec ht).1
          rw [hu] at hfu ⊢
          rw [find_dir hfu, if_pos ht, set_get hi, chg_one, chg_one, drop_one, drop_one, if_pos ht, if_pos ht]
          refine ⟨by rw [findT], rfl, .inl ⟨rfl, ?_⟩⟩
          simp only
          rw [set_take, set_drop]
      · rw [chg_dir _ _ _ hr] at h0 ⊢
        rcases ht : tkn ns nm with _ | _
        · rw [ht] at h0; simp at h0
        · rw [ht] at h0
          simp only [if_true] at h0 ⊢
          have hi : plc ns nm < ks.length := by rw [← hlen]; exact (tkn_spec ht).1
          have ih := put_drop k hk r hr (fun y hy => hn y (List.mem_cons_of_mem _ hy)) (ks.getD (plc ns nm) default) (dep + 1) a b a' b' a2 b2 (hl.kid hi) h0
          have hq := chg_done (.put k) (fun q hq => by cases hq; exact hk) r (fun y hy => hn y (List.mem_cons_of_mem _ hy)) (ks.getD (plc ns nm) default) (dep + 1) a b (hl.kid hi) h0
          rw [fmA_mk] at hf
          have hfu : fmA (.mk 3 x d ns (ks.set (plc ns nm) (chgE (.put k) r (dep + 1) (ks.getD (plc ns nm) default) a b).2.1)) := by
            rw [fmA_mk]
            exact ⟨(dir_form hf.1).2.2 _ _ (by rw [List.length_set]; exact hlen) hris, set_fm hi hf.2 hq.fm⟩
          rw [find_dir hfu, if_pos ht, set_get hi, chg_dir _ _ _ hr, chg_dir _ _ _ hr, if_pos ht, if_pos ht, set_get hi]
          refine ⟨ih.1, ih.2.1, ?_⟩
          rcases ih.2.2 with ⟨q1, q2⟩ | ⟨q1, q2⟩
          · exact .inl ⟨q1, by simp only; rw [q2, List.set_set]⟩
          · exact .inr ⟨q1, by simp only; rw [q2, List.set_set, set_self hi]⟩
    · rw [chg_not _ _ _ _ _ hk3] at h0; simp at h0

/-- What is dropped and put again is where it was. -/
theorem drop_put : ∀ (l : List ByteArray), l ≠ [] → (∀ x ∈ l, tName x.data.toList = true) → ∀ (t : T) (dep a b : Nat), Lim t dep a b → (chgE .drop l dep t a b).1 = 0 →
    chgE (.put (getE l t)) l dep (chgE .drop l dep t a b).2.1 (chgE .drop l dep t a b).2.2.1 (chgE .drop l dep t a b).2.2.2 = (0, t, a, b)
  | [], hne, _, _, _, _, _, _, _ => absurd rfl hne
  | nm :: r, _, hn, .mk kd x d ns ks, dep, a, b, hl, h0 => by
    by_cases hk3 : kd = 3
    · subst hk3
      have hf := hl.1
      obtain ⟨hlen, hp, hris⟩ := dir_pw hf
      by_cases hr : r = []
      · subst hr
        rw [chg_one, drop_one] at h0 ⊢
        rcases ht : tkn ns nm with _ | _
        · rw [ht] at h0; simp at h0
        · obtain ⟨h1, h2⟩ := tkn_spec ht
          have hi : plc ns nm < ks.length := by rw [← hlen]; exact h1
          simp only [if_true]
          rw [chg_one]
          have hg : getE [nm] (.mk 3 x d ns ks) = ks.getD (plc ns nm) default := rfl
          rw [hg]
          -- the name is gone, and its place is the same
          have hrd := rising_del hris (plc ns nm)
          have hnl : ∀ y ∈ ns.take (plc ns nm), nLt y nm := (plc_spec hp nm).1
          have hng : ∀ y ∈ ns.drop (plc ns nm + 1), nLt nm y := fun y hy => by
            obtain ⟨j, hj, rfl⟩ := List.mem_drop_iff_getElem.1 hy
            have e : ns[plc ns nm] = nm := by rw [← getD_ns h1]; exact h2
            have := List.pairwise_iff_getElem.1 hp (plc ns nm) (plc ns nm + 1 + j) h1 (by omega) (by omega)
            rw [e] at this
            exact this
          have t1 : (ns.take (plc ns nm)).length = plc ns nm := by rw [List.length_take]; omega
          have hp1 : plc (ns.take (plc ns nm) ++ ns.drop (plc ns nm + 1)) nm = plc ns nm := plc_of (by simp; omega) (fun y hy => by rw [List.take_left' t1] at hy; exact hnl y hy) (fun y hy => by
            rw [List.drop_left' t1] at hy
            exact fun h => nLt_irr _ (nLt_trans (hng y hy) h))
          have hp2 : tkn (ns.take (plc ns nm) ++ ns.drop (plc ns nm + 1)) nm = false := by
            cases hq : tkn (ns.take (plc ns nm) ++ ns.drop (plc ns nm + 1)) nm with
            | false => rfl
            | true =>
              have hm := (tkn_mem ((risingT_iff _).1 hrd).2).1 hq
              rcases List.mem_append.1 hm with h | h
              · exact absurd (hnl _ h) (nLt_irr _)
              · exact absurd (hng _ h) (nLt_irr _)
          show (if tkn (ns.take (plc ns nm) ++ ns.drop (plc ns nm + 1)) nm = true then _ else layE nm (plc (ns.take (plc ns nm) ++ ns.drop (plc ns nm + 1)) nm) dep (.mk 3 x d (ns.take (plc ns nm) ++ ns.drop (plc ns nm + 1)) (ks.take (plc ns nm) ++ ks.drop (plc ns nm + 1))) (ks.getD (plc ns nm) default) (a - sizeN (ks.getD (plc ns nm) default)) (b - bytesT (ks.getD (plc ns nm) default)) : ER) = _
          rw [hp2, hp1]
          have hself := put_there (k := 3) (x := x) (d := d) hlen ht (ks.getD (plc ns nm) default)
          rw [set_self hi] at hself
          have hs := sizeNL_get hi
          have hb := bytesL_kid hi
          have hh := height_get hi
          obtain ⟨l1, l2, l3, l4, l5, l6, l7⟩ := hl
          rw [sizeN_mk] at l4
          rw [bytesT_mk] at l6
          rw [heightT_mk] at l3
          simp only [Bool.false_eq_true, if_false]
          unfold layE
          rw [if_neg (by omega)]
          have e1 : a - sizeN (ks.getD (plc ns nm) default) + sizeN (ks.getD (plc ns nm) default) = a := by omega
          have e2 : b - bytesT (ks.getD (plc ns nm) default) + bytesT (ks.getD (plc ns nm) default) = b := by omega
          rw [e1, e2]
          exact congrArg (fun z => ((0, z, a, b) : ER)) hself
      · rw [chg_dir _ _ _ hr] at h0 ⊢
        rcases ht : tkn ns nm with _ | _
        · rw [ht] at h0; simp at h0
        · rw [ht] at h0
          simp only [if_true] at h0 ⊢
          have hi : plc ns nm < ks.length := by rw [← hlen]; exact (tkn_spec ht).1
          have ih := drop_put r hr (fun y hy => hn y (List.mem_cons_of_mem _ hy)) (ks.getD (plc ns nm) default) (dep + 1) a b (hl.kid hi) h0
          have hg : getE (nm :: r) (.mk 3 x d ns ks) = getE r (ks.getD (plc ns nm) default) := rfl
          rw [hg, chg_dir _ _ _ hr, if_pos ht, set_get hi, ih]
          simp only
          rw [List.set_set, set_self hi]
    · rw [chg_not _ _ _ _ _ hk3] at h0; simp at h0

theorem ld_rowG {P : Program} {ops : Array Oper} {rest : List Oper} {o : Oper} {a : Act} {w : World} {Q : Exit → Act → World → Prop} (hw : Region.wanted o (yielded ops a.tmps) = true) (ty : TypeId) (x : Operand) (ho : o.op = .load ty x)
    (g : Nat) (hx : a.eval x = .pointer (some ⟨g, 0, none⟩)) (t : TypeId) (cs : Array Value) (fr : Nat × Nat) (d : TypeDesc) (hg : w.heap[g]? = some (.cells cs t fr))
    (hu : P.underlying ty = some d) (hd : (match d with | .struct _ | .array _ _ => true | _ => false) = true) (hi : (P.info? ty).map (·.size) = some cs.size)
    (h : wpList P ops Q rest (a.put o.dst (.agg cs)) w) : wpList P ops Q (o :: rest) a w :=
  BigFrame.wpList_want hw fun _ hK => wp_load_row ty x ho g hx t cs fr d hg hu hd hi (hK _ _ h)

theorem run_small {t : T} {l : List EdD} (h : (runE t l).1 = 0) : Small (runE t l).2.1 ∧ (sizeT (runE t l).2.1).isSome = true := by
  rcases hs : (sizeT t).isSome with _ | _
  · rw [run_bad hs] at h; cases h
  · rw [run_good hs] at h ⊢
    have hx := foldE_ok l (exact_of hs) h
    exact ⟨hx.1.small.1, hx.size⟩
theorem run_one {t : T} (hs : (sizeT t).isSome = true) (x : EdD) : runE t [x] = applyE x t (sizeN t) (bytesT t) := by
  rw [run_good hs, foldE]
  by_cases h : (applyE x t (sizeN t) (bytesT t)).1 ≠ 0
  · rw [if_pos h]
  · rw [if_neg h, foldE]
    have h0 : (applyE x t (sizeN t) (bytesT t)).1 = 0 := by simpa using h
    exact Prod.ext h0.symm rfl
theorem bel_split {s : List UInt8} (h : belN s = 0) : splitT s = (pieces s, 0) := by
  unfold belN at h
  unfold splitT
  by_cases h1 : 400 < s.length
  · rw [if_pos h1] at h; cases h
  · rw [if_neg h1] at h ⊢
    by_cases h2 : s = []
    · rw [if_pos h2] at h; cases h
    · rw [if_neg h2] at h ⊢
      by_cases h3 : (pieces s).all tName = true
      · rw [if_pos h3]
      · rw [if_neg h3] at h; cases h
theorem at_names {s : List UInt8} (h : belN s = 0) (t : T) : atT s t = findT (nmE s) t := by
  unfold atT
  rw [bel_split h, if_pos rfl]
  rfl
theorem app_put (p src : ByteArray) (k t : T) (a b : Nat) (hb : belN p.data.toList = 0) (hk : (sizeT k).isSome = true) : applyE ⟨2, p, src, k⟩ t a b = chgE (.put k) (nmE p.data.toList) 1 t a b := by
  unfold applyE
  rw [if_neg (by simp [hb]), if_neg (show ¬ ((2 : UInt8) = 1) by decide), if_pos rfl, if_pos hk]
theorem app_drop (p src : ByteArray) (k t : T) (a b : Nat) (hb : belN p.data.toList = 0) : applyE ⟨4, p, src, k⟩ t a b = chgE .drop (nmE p.data.toList) 1 t a b := by
  unfold applyE
  rw [if_neg (by simp [hb]), if_neg (show ¬ ((4 : UInt8) = 1) by decide), if_neg (show ¬ ((4 : UInt8) = 2) by decide), if_neg (show ¬ ((4 : UInt8) = 3) by decide), if_pos rfl]
theorem app_bel (x : EdD) (t : T) (a b : Nat) (h : (applyE x t a b).1 = 0) : belN x.path.data.toList = 0 := by
  unfold applyE at h
  by_cases hb : belN x.path.data.toList ≠ 0
  · simp only [if_pos hb] at h; exact absurd h hb
  · simpa using hb

/-- What is put and dropped again. -/
theorem undone (p : ByteArray) (t k : T) (ht : (sizeT t).isSome = true) (hk : (sizeT k).isSome = true) (h : (runE t [⟨2, p, ⟨#[]⟩, k⟩]).1 = 0) :
    atT p.data.toList (runE t [⟨2, p, ⟨#[]⟩, k⟩]).2.1 = .inr k ∧ (runE (runE t [⟨2, p, ⟨#[]⟩, k⟩]).2.1 [⟨4, p, ⟨#[]⟩, zeroT⟩]).1 = 0 ∧
      (((runE t [⟨4, p, ⟨#[]⟩, zeroT⟩]).1 = 0 ∧ (runE (runE t [⟨2, p, ⟨#[]⟩, k⟩]).2.1 [⟨4, p, ⟨#[]⟩, zeroT⟩]).2.1 = (runE t [⟨4, p, ⟨#[]⟩, zeroT⟩]).2.1) ∨
        ((runE t [⟨4, p, ⟨#[]⟩, zeroT⟩]).1 = 6 ∧ (runE (runE t [⟨2, p, ⟨#[]⟩, k⟩]).2.1 [⟨4, p, ⟨#[]⟩, zeroT⟩]).2.1 = t)) := by
  have hu := (run_small h).2
  rw [run_one hu, run_one ht (⟨4, p, ⟨#[]⟩, zeroT⟩ : EdD)]
  rw [run_one ht] at h ⊢
  have hb : belN p.data.toList = 0 := app_bel ⟨2, p, ⟨#[]⟩, k⟩ t _ _ h
  rw [app_put _ _ _ _ _ _ hb hk] at h ⊢
  rw [at_names hb, app_drop _ _ _ _ _ _ hb, app_drop _ _ _ _ _ _ hb]
  exact put_drop k (sizeT_get hk).2.1 (nmE p.data.toList) (nmE_ne _) (nmE_names hb) t 1 (sizeN t) (bytesT t) _ _ _ _ (exact_of ht).1 h

theorem one_edit {w : World} {g m : Nat} {cs : List Value} {x : EdD} (h : Has w g cs 41) (hx : IsX w m cs x) : IsXs w m (some ⟨g, 0, none⟩) 1 1 [x] :=
  ⟨rfl, .inr ⟨g, 0, rfl, h.lt, fun i hi => ⟨cs, by
    obtain rfl : i = 0 := by omega
    exact hx, fun j v hv => by
    obtain rfl : i = 0 := by omega
    have := h.cellAt hv
    simpa using this⟩⟩, (fun e => by cases e), Nat.le_refl _, by decide⟩

end Go.Proofs.YtbempgdndmchlaaDoor

namespace Go.Proofs.YtbempgdndmchlaaDoor
open Go.RowKit
set_option linter.unusedVariables false

/-! A path is its names. -/
def unp : List (List UInt8) → List UInt8
  | [] => []
  | [p] => p
  | p :: q :: r => p ++ 47 :: unp (q :: r)
theorem unp_pieces : ∀ s : List UInt8, unp (pieces s) = s
  | [] => rfl
  | c :: t => by
    have ih := unp_pieces t
    cases hp : pieces t with
    | nil =>
      exfalso
      cases t with
      | nil => simp [pieces] at hp
      | cons a b =>
        unfold pieces at hp
        split at hp
        · cases hp
        · split at hp <;> cases hp
    | cons p r =>
      rw [hp] at ih
      unfold pieces
      by_cases hc : c = 47
      · rw [if_pos hc, hp, unp, ih, hc]; rfl
      · rw [if_neg hc, hp]
        cases r with
        | nil =>
          rw [unp] at ih
          show unp [c :: p] = c :: t
          rw [unp, ih]
        | cons q r =>
          rw [unp] at ih
          show unp ((c :: p) :: q :: r) = c :: t
          rw [unp, List.cons_append, ih]
theorem nmE_inj {a b : ByteArray} (h : nmE a.data.toList = nmE b.data.toList) : a = b := by
  have hp : pieces a.data.toList = pieces b.data.toList := by
    have e : ∀ l : List (List UInt8), (l.map fun p => (⟨p.toArray⟩ : ByteArray)).map (·.data.toList) = l := fun l => by
      rw [List.map_map]
      conv => rhs; rw [← List.map_id l]
      exact List.map_congr_left fun x _ => by simp
    have := congrArg (List.map (·.data.toList)) h
    unfold nmE at this
    rwa [e, e] at this
  have := congrArg unp hp
  rw [unp_pieces, unp_pieces] at this
  exact bytes_ext this

/-! What a name leads to, in a directory that was changed elsewhere. -/
theorem look_at {ns : List ByteArray} {ks : List T} (hp : ns.Pairwise nLt) {j : Nat} {nm : ByteArray} (hj : j < ns.length) (hn : ns.getD j ⟨#[]⟩ = nm) : tkn ns nm = true ∧ plc ns nm = j := by
  rw [getD_ns hj] at hn
  subst hn
  exact ⟨(plc_mem hp hj).2, (plc_mem hp hj).1⟩
theorem not_at {ns : List ByteArray} (hp : ns.Pairwise nLt) {nm : ByteArray} (h : nm ∉ ns) : tkn ns nm = false := by
  cases ht : tkn ns nm with
  | false => rfl
  | true => exact absurd ((tkn_mem hp).1 ht) h

/-- Dropping only takes away. -/
theorem drop_less : ∀ (l : List ByteArray), l ≠ [] → ∀ (m : List ByteArray), m ≠ [] → ∀ (t : T) (dep a b : Nat) (y : T), Lim t dep a b → (∀ x ∈ l, tName x.data.toList = true) → (chgE .drop l dep t a b).1 = 0 → findT m (chgE .drop l dep t a b).2.1 = .inr y → ∃ z, findT m t = .inr z
  | [], hne, _, _, _, _, _, _, _, _, _, _, _ => absurd rfl hne
  | nm :: r, _, [], hne, _, _, _, _, _, _, _, _, _ => absurd rfl hne
  | nm :: r, hl0, n2 :: r2, _, .mk kd x d ns ks, dep, a, b, y, hl, hn, h0, hy => by
    by_cases hk3 : kd = 3
    · subst hk3
      have hf := hl.1
      obtain ⟨hlen, hp, hris⟩ := dir_pw hf
      have hfs := (chg_done .drop (fun k hk => by cases hk) (nm :: r) hn _ dep a b hl h0).fm
      rcases ht : tkn ns nm with _ | _
      · by_cases hr : r = []
        · subst hr; rw [chg_one, drop_one, ht] at h0; simp at h0
        · rw [chg_dir _ _ _ hr, ht] at h0; simp at h0
      have hi : plc ns nm < ks.length := by rw [← hlen]; exact (tkn_spec ht).1
      by_cases hr : r = []
      · subst hr
        rw [chg_one, drop_one, if_pos ht] at hfs hy
        simp only at hfs hy
        obtain ⟨hlen', hp', _⟩ := dir_pw hfs
        rw [find_dir hfs] at hy
        rcases ht2 : tkn (ns.take (plc ns nm) ++ ns.drop (plc ns nm + 1)) n2 with _ | _
        · rw [ht2] at hy; simp at hy
        rw [ht2, if_pos rfl] at hy
        obtain ⟨q1, q2⟩ := tkn_spec ht2
        obtain ⟨j, hj⟩ : ∃ j, j = plc (ns.take (plc ns nm) ++ ns.drop (plc ns nm + 1)) n2 := ⟨_, rfl⟩
        rw [← hj] at q1 q2 hy
        rw [getD_del (by omega)] at q2
        rw [getD_del hi] at hy
        have hlj : (ns.take (plc ns nm) ++ ns.drop (plc ns nm + 1)).length = ns.length - 1 := by simp; omega
        rw [find_dir hf]
        by_cases hlt : j < plc ns nm
        · rw [if_pos hlt] at q2 hy
          obtain ⟨p1, p2⟩ := look_at (ks := ks) hp (show j < ns.length by omega) q2
          rw [if_pos p1, p2]; exact ⟨y, hy⟩
        · rw [if_neg hlt] at q2 hy
          obtain ⟨p1, p2⟩ := look_at (ks := ks) hp (show j + 1 < ns.length by omega) q2
          rw [if_pos p1, p2]; exact ⟨y, hy⟩
      · rw [chg_dir _ _ _ hr, if_pos ht] at hfs hy h0
        simp only at hfs hy h0
        rw [find_dir hfs] at hy
        rw [find_dir hf]
        rcases ht2 : tkn ns n2 with _ | _
        · rw [ht2] at hy; simp at hy
        rw [ht2, if_pos rfl, getD_set hi] at hy
        rw [if_pos rfl]
        by_cases he : plc ns n2 = plc ns nm
        · rw [if_pos he] at hy
          by_cases hr2 : r2 = []
          · subst hr2; exact ⟨_, by rw [findT]⟩
          · rw [he]
            exact drop_less r hr r2 hr2 _ (dep + 1) a b y (hl.kid hi) (fun z hz => hn z (List.mem_cons_of_mem _ hz)) h0 hy
        · rw [if_neg he] at hy
          exact ⟨y, hy⟩
    · rw [chg_not _ _ _ _ _ hk3] at h0; simp at h0

/-- What is dropped is gone. -/
theorem drop_gone : ∀ (l : List ByteArray), l ≠ [] → ∀ (t : T) (dep a b : Nat), Lim t dep a b → (∀ x ∈ l, tName x.data.toList = true) → (chgE .drop l dep t a b).1 = 0 → ∃ c, findT l (chgE .drop l dep t a b).2.1 = .inl c
  | [], hne, _, _, _, _, _, _, _ => absurd rfl hne
  | nm :: r, _, .mk kd x d ns ks, dep, a, b, hl, hn, h0 => by
    by_cases hk3 : kd = 3
    · subst hk3
      have hf := hl.1
      obtain ⟨hlen, hp, hris⟩ := dir_pw hf
      have hfs := (chg_done .drop (fun k hk => by cases hk) (nm :: r) hn _ dep a b hl h0).fm
      rcases ht : tkn ns nm with _ | _
      · by_cases hr : r = []
        · subst hr; rw [chg_one, drop_one, ht] at h0; simp at h0
        · rw [chg_dir _ _ _ hr, ht] at h0; simp at h0
      have hi : plc ns nm < ks.length := by rw [← hlen]; exact (tkn_spec ht).1
      by_cases hr : r = []
      · subst hr
        rw [chg_one, drop_one, if_pos ht] at hfs ⊢
        simp only at hfs ⊢
        obtain ⟨hlen', hp', _⟩ := dir_pw hfs
        obtain ⟨h1, h2⟩ := tkn_spec ht
        have e : ns[plc ns nm] = nm := by rw [← getD_ns h1]; exact h2
        have hnot : nm ∉ ns.take (plc ns nm) ++ ns.drop (plc ns nm + 1) := fun hm => by
          rcases List.mem_append.1 hm with h | h
          · exact nLt_irr _ ((plc_spec hp nm).1 nm h)
          · obtain ⟨j, hj, e'⟩ := List.mem_drop_iff_getElem.1 h
            have := List.pairwise_iff_getElem.1 hp (plc ns nm) (plc ns nm + 1 + j) h1 (by omega) (by omega)
            rw [e, e'] at this
            exact nLt_irr _ this
        rw [find_dir hfs, not_at hp' hnot]
        exact ⟨6, rfl⟩
      · rw [chg_dir _ _ _ hr, if_pos ht] at hfs h0 ⊢
        simp only at hfs h0 ⊢
        rw [find_dir hfs, if_pos ht, set_get hi]
        exact drop_gone r hr _ (dep + 1) a b (hl.kid hi) (fun z hz => hn z (List.mem_cons_of_mem _ hz)) h0
    · rw [chg_not _ _ _ _ _ hk3] at h0; simp at h0

/-- A put elsewhere. -/
theorem put_other (k : T) (hk : fmA k) {nm n2 : ByteArray} (hne : nm ≠ n2) (r r2 : List ByteArray) (s : T) (dep a b : Nat) (hl : Lim s dep a b) (hn : ∀ x ∈ n2 :: r2, tName x.data.toList = true) (h0 : (chgE (.put k) (n2 :: r2) dep s a b).1 = 0) :
    findT (nm :: r) (chgE (.put k) (n2 :: r2) dep s a b).2.1 = findT (nm :: r) s := by
  obtain ⟨kd, x, d, ns, ks⟩ := s
  by_cases hk3 : kd = 3
  · subst hk3
    have hf := hl.1
    obtain ⟨hlen, hp, hris⟩ := dir_pw hf
    have hfu := (chg_done (.put k) (fun q hq => by cases hq; exact hk) (n2 :: r2) hn _ dep a b hl h0).fm
    have hset : ∀ q, tkn ns n2 = true → fmA (.mk 3 x d ns (ks.set (plc ns n2) q)) → findT (nm :: r) (.mk 3 x d ns (ks.set (plc ns n2) q)) = findT (nm :: r) (.mk 3 x d ns ks) := fun q ht2 hfq => by
      have hi : plc ns n2 < ks.length := by rw [← hlen]; exact (tkn_spec ht2).1
      rw [find_dir hfq, find_dir hf]
      rcases ht : tkn ns nm with _ | _
      · rfl
      · rw [if_pos rfl, if_pos rfl, getD_set hi, if_neg (fun e => hne (by rw [← (tkn_spec ht).2, e, (tkn_spec ht2).2]))]
    by_cases hr : r2 = []
    · subst hr
      rw [chg_one] at h0 hfu ⊢
      rcases ht2 : tkn ns n2 with _ | _
      · have hu : (actE (.put k) n2 dep (.mk 3 x d ns ks) a b).2.1 = .mk 3 x d (ns.take (plc ns n2) ++ n2 :: ns.drop (plc ns n2)) (ks.take (plc ns n2) ++ k :: ks.drop (plc ns n2)) := by
          show (if tkn ns n2 = true then _ else layE n2 (plc ns n2) dep (.mk 3 x d ns ks) k a b).2.1 = _
          rw [ht2]; rfl
        rw [hu] at hfu ⊢
        obtain ⟨hlen', hp', _⟩ := dir_pw hfu
        have hpl := plc_le ns n2
        rw [find_dir hfu, find_dir hf]
        rcases ht : tkn ns nm with _ | _
        · have hnot : nm ∉ ns.take (plc ns n2) ++ n2 :: ns.drop (plc ns n2) := fun hm => by
            have hin : nm ∈ ns := by
              rcases List.mem_append.1 hm with h | h
              · exact List.mem_of_mem_take h
              · rcases List.mem_cons.1 h with h | h
                · exact absurd h hne
                · exact List.mem_of_mem_drop h
            rw [(tkn_mem hp).2 hin] at ht; cases ht
          rw [not_at hp' hnot]; rfl
        · obtain ⟨h1, h2⟩ := tkn_spec ht
          rw [if_pos rfl]
          have hll : (ns.take (plc ns n2) ++ n2 :: ns.drop (plc ns n2)).length = ns.length + 1 := by simp; omega
          by_cases hlt : plc ns nm < plc ns n2
          · obtain ⟨p1, p2⟩ := look_at (ks := ks) (nm := nm) hp' (show plc ns nm < _ by rw [hll]; omega) (by rw [getD_ins hpl, if_pos hlt]; exact h2)
            rw [if_pos p1, p2, getD_ins (by omega), if_pos hlt]
          · obtain ⟨p1, p2⟩ := look_at (ks := ks) (nm := nm) hp' (show plc ns nm + 1 < _ by rw [hll]; omega) (by rw [getD_ins hpl, if_neg (by omega), if_neg (by omega)]; exact h2)
            rw [if_pos p1, p2, getD_ins (by omega), if_neg (by omega), if_neg (by omega)]
            rfl
      · have hu : (actE (.put k) n2 dep (.mk 3 x d ns ks) a b).2.1 = .mk 3 x d ns (ks.set (plc ns n2) k) := by
          rw [← put_there (k := 3) (x := x) (d := d) hlen ht2 k]
          show (if tkn ns n2 = true then _ else _ : ER).2.1 = _
          rw [ht2]; rfl
        rw [hu] at hfu ⊢
        exact hset k ht2 hfu
    · rw [chg_dir _ _ _ hr] at h0 hfu ⊢
      rcases ht2 : tkn ns n2 with _ | _
      · rw [ht2] at h0; simp at h0
      · rw [ht2] at hfu
        simp only [if_true] at hfu ⊢
        exact hset _ ht2 hfu
  · rw [chg_not _ _ _ _ _ hk3] at h0; simp at h0

/-- What was moved away is not there, if it is not on the way. -/
theorem moved_gone (k : T) (hk : fmA k) : ∀ (l : List ByteArray), l ≠ [] → ∀ (m : List ByteArray), m ≠ [] → ∀ (t : T) (dep a b a1 b1 : Nat), Lim t dep a b → (∀ x ∈ l, tName x.data.toList = true) → (∀ x ∈ m, tName x.data.toList = true) → (chgE .drop l dep t a b).1 = 0 → Lim (chgE .drop l dep t a b).2.1 dep a1 b1 →
    (chgE (.put k) m dep (chgE .drop l dep t a b).2.1 a1 b1).1 = 0 → l ≠ m → withB l m = false → withB m l = false → ∃ c, findT l (chgE (.put k) m dep (chgE .drop l dep t a b).2.1 a1 b1).2.1 = .inl c
  | [], hne, _, _, _, _, _, _, _, _, _, _, _, _, _, _, _, _, _ => absurd rfl hne
  | nm :: r, _, [], hne, _, _, _, _, _, _, _, _, _, _, _, _, _, _, _ => absurd rfl hne
  | nm :: r, hlne, n2 :: r2, hmne, t, dep, a, b, a1, b1, hl, hn, hn2, h0, hls, hp0, hne, hw1, hw2 => by
    by_cases he : nm = n2
    · subst he
      obtain ⟨kd, x, d, ns, ks⟩ := t
      by_cases hk3 : kd = 3
      · subst hk3
        have hf := hl.1
        obtain ⟨hlen, hp, hris⟩ := dir_pw hf
        by_cases hr : r = []
        · exfalso
          subst hr
          by_cases hr2 : r2 = []
          · subst hr2; exact hne rfl
          · have hlen2 : 0 < r2.length := List.length_pos_iff.2 hr2
            have hh : withB (nm :: r2) [nm] = true := by unfold withB; simp; exact hlen2
            rw [hh] at hw2; cases hw2
        · by_cases hr2 : r2 = []
          · exfalso
            subst hr2
            have hlen2 : 0 < r.length := List.length_pos_iff.2 hr
            have hh : withB (nm :: r) [nm] = true := by unfold withB; simp; exact hlen2
            rw [hh] at hw1; cases hw1
          · rcases ht : tkn ns nm with _ | _
            · rw [chg_dir _ _ _ hr, ht] at h0; simp at h0
            have hi : plc ns nm < ks.length := by rw [← hlen]; exact (tkn_spec ht).1
            have hfu := (chg_done (.put k) (fun q hq => by cases hq; exact hk) (nm :: r2) hn2 _ dep a1 b1 hls hp0).fm
            rw [chg_dir _ _ _ hr, if_pos ht] at h0 hls hp0 hfu ⊢
            simp only at h0 hls hp0 hfu ⊢
            have hlk := hls.kid (i := plc ns nm) (by rw [List.length_set]; exact hi)
            rw [set_get hi] at hlk
            rw [chg_dir _ _ _ hr2, if_pos ht, set_get hi] at hp0 hfu ⊢
            simp only at hp0 hfu ⊢
            rw [find_dir hfu, if_pos ht, set_get (by rw [List.length_set]; exact hi)]
            refine moved_gone k hk r hr r2 hr2 _ (dep + 1) a b a1 b1 (hl.kid hi) (fun z hz => hn z (List.mem_cons_of_mem _ hz)) (fun z hz => hn2 z (List.mem_cons_of_mem _ hz)) h0 hlk hp0 (fun e => hne (by rw [e])) ?_ ?_
            · unfold withB at hw1 ⊢
              simpa using hw1
            · unfold withB at hw2 ⊢
              simpa using hw2
      · rw [chg_not _ _ _ _ _ hk3] at h0; simp at h0
    · rw [put_other k hk he r r2 _ dep a1 b1 hls hn2 hp0]
      exact drop_gone (nm :: r) hlne t dep a b hl hn h0

/-- What is moved to where nothing is, and back. -/
theorem moves (pf pt : ByteArray) (t : T) (ht : (sizeT t).isSome = true) (h : (runE t [⟨3, pt, pf, zeroT⟩]).1 = 0) (hne : pf ≠ pt) {c : Int} (hth : atT pt.data.toList t = .inl c) :
    ∃ k c', atT pf.data.toList t = .inr k ∧ atT pt.data.toList (runE t [⟨3, pt, pf, zeroT⟩]).2.1 = .inr k ∧ atT pf.data.toList (runE t [⟨3, pt, pf, zeroT⟩]).2.1 = .inl c' ∧ c' ≠ 0 ∧
      (runE (runE t [⟨3, pt, pf, zeroT⟩]).2.1 [⟨3, pf, pt, zeroT⟩]).1 = 0 ∧ (runE (runE t [⟨3, pt, pf, zeroT⟩]).2.1 [⟨3, pf, pt, zeroT⟩]).2.1 = t := by
  have hu := (run_small h).2
  have hex := exact_of ht
  rw [run_one hu]
  rw [run_one ht] at h hu ⊢
  have hxu := applyE_ok hex h
  have hbt : belN pt.data.toList = 0 := app_bel ⟨3, pt, pf, zeroT⟩ t _ _ h
  have hbf : belN pf.data.toList = 0 := by
    unfold applyE at h
    rw [if_neg (by simp [hbt]), if_neg (show ¬ ((3 : UInt8) = 1) by decide), if_neg (show ¬ ((3 : UInt8) = 2) by decide), if_pos rfl] at h
    by_cases hb : belN pf.data.toList ≠ 0
    · simp only [if_pos hb] at h; exact absurd h hb
    · simpa using hb
  have hmv : ∀ (p q : ByteArray) (s : T) (a b : Nat), belN p.data.toList = 0 → belN q.data.toList = 0 → applyE ⟨3, p, q, zeroT⟩ s a b = moveE (nmE q.data.toList) (nmE p.data.toList) s a b := fun p q s a b h1 h2 => by
    unfold applyE
    rw [if_neg (by simp [h1]), if_neg (show ¬ ((3 : UInt8) = 1) by decide), if_neg (show ¬ ((3 : UInt8) = 2) by decide), if_pos rfl, if_neg (by simp [h2])]
  rw [hmv _ _ _ _ _ hbt hbf] at h hxu hu ⊢
  rw [hmv _ _ _ _ _ hbf hbt]
  rw [at_names hbf, at_names hbf, at_names hbt]
  rw [at_names hbt] at hth
  have hnl := nmE_names hbf
  have hnm := nmE_names hbt
  have hl0 := nmE_ne pf.data.toList
  have hm0 := nmE_ne pt.data.toList
  have hlm : nmE pf.data.toList ≠ nmE pt.data.toList := fun e => hne (nmE_inj e)
  clear hmv
  generalize nmE pf.data.toList = l at *
  generalize nmE pt.data.toList = m at *
  generalize sizeN t = a at *
  generalize bytesT t = b at *
  have hD : (chgE .drop l 1 t a b).1 = 0 := by
    unfold moveE at h
    by_cases hd : (chgE .drop l 1 t a b).1 ≠ 0
    · simp only [if_pos hd] at h; exact absurd h hd
    · simpa using hd
  have hW : (withB l m || withB m l) = false := by
    unfold moveE at h
    rw [if_neg (by simp [hD])] at h
    cases hq : (withB l m || withB m l) with
    | false => rfl
    | true => rw [hq] at h; simp at h
  obtain ⟨hw1, hw2⟩ := Bool.or_eq_false_iff.1 hW
  have hM : moveE l m t a b = chgE (.put (getE l t)) m 1 (chgE .drop l 1 t a b).2.1 (chgE .drop l 1 t a b).2.2.1 (chgE .drop l 1 t a b).2.2.2 := by
    unfold moveE
    rw [if_neg (by simp [hD]), if_neg (by simp [hW])]
  rw [hM] at h hxu hu ⊢
  obtain ⟨dep', hgl⟩ := get_lim l t 1 a b hex.1 hD
  have hxs := hex.done (chg_done .drop (fun k hk => by cases hk) l hnl t 1 a b hex.1 hD)
  have hfl := drop_find l hl0 t 1 a b hex.1.1
  rw [if_pos hD] at hfl
  obtain ⟨q1, q2, q3⟩ := put_drop (getE l t) hgl.1 m hm0 hnm _ 1 _ _ (sizeN (chgE (.put (getE l t)) m 1 (chgE .drop l 1 t a b).2.1 (chgE .drop l 1 t a b).2.2.1 (chgE .drop l 1 t a b).2.2.2).2.1) (bytesT (chgE (.put (getE l t)) m 1 (chgE .drop l 1 t a b).2.1 (chgE .drop l 1 t a b).2.2.1 (chgE .drop l 1 t a b).2.2.2).2.1) 0 0 hxs.1 h
  obtain ⟨c', hc'⟩ := moved_gone (getE l t) hgl.1 l hl0 m hm0 t 1 a b _ _ hex.1 hnl hnm hD hxs.1 h hlm hw1 hw2
  have hcn : c' ≠ 0 := by
    have := findT_code _ _ _ hc'
    omega
  refine ⟨getE l t, c', hfl, q1, hc', hcn, ?_⟩
  -- back
  obtain ⟨U, hU⟩ : ∃ U, U = (chgE (.put (getE l t)) m 1 (chgE .drop l 1 t a b).2.1 (chgE .drop l 1 t a b).2.2.1 (chgE .drop l 1 t a b).2.2.2).2.1 := ⟨_, rfl⟩
  rw [← hU] at q1 q2 q3 hu ⊢
  have hexU := exact_of hu
  have hback : (chgE .drop m 1 U (sizeN U) (bytesT U)).2.1 = (chgE .drop l 1 t a b).2.1 := by
    rcases q3 with ⟨r1, r2⟩ | ⟨r1, r2⟩
    · exfalso
      have hfm := drop_find m hm0 (chgE .drop l 1 t a b).2.1 1 0 0 hxs.1.1
      rw [if_pos r1] at hfm
      obtain ⟨z, hz⟩ := drop_less l hl0 m hm0 t 1 a b _ hex.1 hnl hD hfm
      rw [hz] at hth
      cases hth
    · exact r2
  have hxd := hexU.done (chg_done .drop (fun k hk => by cases hk) m hnm U 1 _ _ hexU.1 q2)
  have hfu := drop_find m hm0 U 1 (sizeN U) (bytesT U) hexU.1.1
  rw [if_pos q2, q1] at hfu
  have hgk : getE m U = getE l t := (Sum.inr.inj hfu).symm
  have e1 : (chgE .drop m 1 U (sizeN U) (bytesT U)).2.2.1 = (chgE .drop l 1 t a b).2.2.1 := by rw [hxd.2.1, hback, hxs.2.1]
  have e2 : (chgE .drop m 1 U (sizeN U) (bytesT U)).2.2.2 = (chgE .drop l 1 t a b).2.2.2 := by rw [hxd.2.2, hback, hxs.2.2]
  have hfin : moveE m l U (sizeN U) (bytesT U) = (0, t, a, b) := by
    unfold moveE
    rw [if_neg (by simp [q2]), if_neg (by simp [hw1, hw2]), hback, e1, e2, hgk]
    exact drop_put l hl0 hnl t 1 a b hex.1 hD
  rw [hfin]
  exact ⟨rfl, rfl⟩

end Go.Proofs.YtbempgdndmchlaaDoor

namespace Go.Proofs.YtbempgdndmchlaaDoor
open Go.RowKit
set_option linter.unusedVariables false

/-! Beyond the limits, seen from a place in a tree: oa, ob: what stands beside it, dep: the depth of its kids. -/
def Over (t : T) (dep oa ob : Nat) : Prop := 4096 < oa + sizeN t ∨ 65536 < ob + bytesT t ∨ 17 < dep + heightT t
theorem set_high {ks : List T} {i : Nat} (hi : i < ks.length) (k : T) : 1 + heightT k ≤ heightL (ks.set i k) := by
  rw [set_at hi, heightL_append, heightL_cons]
  exact Nat.le_trans (le_max1 _ _) (le_max2 _ _)
theorem lay_over {nm : ByteArray} {i dep : Nat} {x : Bool} {d : List UInt8} {ns : List ByteArray} {ks : List T} {k : T} {a b oa ob : Nat} (ha : a = oa + sizeN (.mk 3 x d ns ks)) (hb : b = ob + bytesT (.mk 3 x d ns ks)) (h : (layE nm i dep (.mk 3 x d ns ks) k a b).1 = 2) :
    Over (layE nm i dep (.mk 3 x d ns ks) k a b).2.1 dep oa ob := by
  show Over (.mk 3 x d (ns.take i ++ nm :: ns.drop i) (ks.take i ++ k :: ks.drop i)) dep oa ob
  unfold layE at h
  by_cases hc : 4096 < a + sizeN k ∨ 65536 < b + bytesT k ∨ 16 < dep + heightT k
  · unfold Over
    rw [sizeN_mk, bytesT_mk, heightT_mk, ins_size, ins_bytes, ins_height]
    rw [sizeN_mk] at ha
    rw [bytesT_mk] at hb
    have hm := le_max2 (heightL ks) (1 + heightT k)
    omega
  · simp only [if_neg hc] at h; cases h
theorem act_over (e : Ed) {nm : ByteArray} {dep : Nat} {x : Bool} {d : List UInt8} {ns : List ByteArray} {ks : List T} {a b oa ob : Nat} (hf : fmA (.mk 3 x d ns ks)) (ha : a = oa + sizeN (.mk 3 x d ns ks)) (hb : b = ob + bytesT (.mk 3 x d ns ks)) (h : (actE e nm dep (.mk 3 x d ns ks) a b).1 = 2) :
    Over (actE e nm dep (.mk 3 x d ns ks) a b).2.1 dep oa ob := by
  obtain ⟨hlen, hp, hris⟩ := dir_pw hf
  cases e with
  | mk =>
    unfold actE at h ⊢
    by_cases ht : tkn (namesT (.mk 3 x d ns ks)) nm = true
    · simp only [if_pos ht] at h; cases h
    · simp only [if_neg ht] at h ⊢
      exact lay_over ha hb h
  | put k =>
    unfold actE at h ⊢
    by_cases ht : tkn (namesT (.mk 3 x d ns ks)) nm = true
    · simp only [if_pos ht] at h ⊢
      have hi : plc ns nm < ks.length := by rw [← hlen]; exact (tkn_spec (show tkn ns nm = true from ht)).1
      have d1 := del_size hi
      have d2 := del_bytes hi
      have e1 : sizeN (.mk 3 x d (ns.take (plc ns nm) ++ ns.drop (plc ns nm + 1)) (ks.take (plc ns nm) ++ ks.drop (plc ns nm + 1))) + sizeN (ks.getD (plc ns nm) default) = sizeN (.mk 3 x d ns ks) := by rw [sizeN_mk, sizeN_mk]; omega
      have e2 : bytesT (.mk 3 x d (ns.take (plc ns nm) ++ ns.drop (plc ns nm + 1)) (ks.take (plc ns nm) ++ ks.drop (plc ns nm + 1))) + bytesT (ks.getD (plc ns nm) default) = bytesT (.mk 3 x d ns ks) := by rw [bytesT_mk, bytesT_mk]; omega
      exact lay_over (x := x) (d := d) (ns := ns.take (plc ns nm) ++ ns.drop (plc ns nm + 1)) (ks := ks.take (plc ns nm) ++ ks.drop (plc ns nm + 1)) (oa := oa) (ob := ob) (by show a - sizeN (ks.getD (plc ns nm) default) = _; omega) (by show b - bytesT (ks.getD (plc ns nm) default) = _; omega) h
    · simp only [if_neg ht] at h ⊢
      exact lay_over ha hb h
  | drop =>
    unfold actE at h
    by_cases ht : tkn (namesT (.mk 3 x d ns ks)) nm = true
    · simp only [if_pos ht] at h; cases h
    · simp only [if_neg ht] at h; cases h
theorem chg_over (e : Ed) : ∀ (l : List ByteArray) (t : T) (dep a b oa ob : Nat), fmA t → a = oa + sizeN t → b = ob + bytesT t → (chgE e l dep t a b).1 = 2 → Over (chgE e l dep t a b).2.1 dep oa ob
  | [], t, dep, a, b, oa, ob, _, _, _, h => by rw [chgE] at h; cases h
  | nm :: r, .mk k x d ns ks, dep, a, b, oa, ob, hf, ha, hb, h => by
    by_cases hk : k = 3
    · subst hk
      obtain ⟨hlen, hp, hris⟩ := dir_pw hf
      by_cases hr : r = []
      · subst hr
        rw [chg_one] at h ⊢
        exact act_over e hf ha hb h
      · rw [chg_dir _ _ _ hr] at h ⊢
        by_cases ht : tkn ns nm = true
        · rw [if_pos ht] at h ⊢
          have hi : plc ns nm < ks.length := by rw [← hlen]; exact (tkn_spec ht).1
          have s1 := sizeNL_kid hi
          have s2 := bytesL_kid hi
          rw [fmA_mk] at hf
          rw [sizeN_mk] at ha
          rw [bytesT_mk] at hb
          have ih := chg_over e r (ks.getD (plc ns nm) default) (dep + 1) a b (a - sizeN (ks.getD (plc ns nm) default)) (b - bytesT (ks.getD (plc ns nm) default)) (fmL_getD hf.2 hi) (by omega) (by omega) h
          have z1 := set_size hi (chgE e r (dep + 1) (ks.getD (plc ns nm) default) a b).2.1
          have z2 := set_bytes hi (chgE e r (dep + 1) (ks.getD (plc ns nm) default) a b).2.1
          have z3 := set_high hi (chgE e r (dep + 1) (ks.getD (plc ns nm) default) a b).2.1
          unfold Over at ih ⊢
          simp only
          rw [sizeN_mk, bytesT_mk, heightT_mk]
          omega
        · simp only [if_neg ht] at h; cases h
    · rw [chg_not _ _ _ _ _ hk] at h; cases h

/-! The code without the limits. -/
def cd (r : ER) : Nat := if r.1 = 2 then 0 else r.1
theorem cd_lay (nm : ByteArray) (i dep : Nat) (t k : T) (a b : Nat) : cd (layE nm i dep t k a b) = 0 := by
  unfold cd layE
  by_cases hc : 4096 < a + sizeN k ∨ 65536 < b + bytesT k ∨ 16 < dep + heightT k
  · simp only [if_pos hc, if_true]
  · simp only [if_neg hc]; rfl
theorem act_free (e : Ed) (nm : ByteArray) (t : T) (dep a b dep' a' b' : Nat) : cd (actE e nm dep t a b) = cd (actE e nm dep' t a' b') ∧ (actE e nm dep t a b).2.1 = (actE e nm dep' t a' b').2.1 := by
  cases e with
  | mk =>
    unfold actE
    by_cases ht : tkn (namesT t) nm = true
    · simp only [if_pos ht]; refine ⟨?_, ?_⟩ <;> first | rfl | trivial
    · simp only [if_neg ht, cd_lay]; refine ⟨?_, ?_⟩ <;> first | rfl | trivial
  | put k =>
    unfold actE
    by_cases ht : tkn (namesT t) nm = true
    · simp only [if_pos ht, cd_lay]; refine ⟨?_, ?_⟩ <;> first | rfl | trivial
    · simp only [if_neg ht, cd_lay]; refine ⟨?_, ?_⟩ <;> first | rfl | trivial
  | drop =>
    unfold actE
    by_cases ht : tkn (namesT t) nm = true
    · simp only [if_pos ht]; refine ⟨?_, ?_⟩ <;> first | rfl | trivial
    · simp only [if_neg ht]; refine ⟨?_, ?_⟩ <;> first | rfl | trivial
theorem chg_free (e : Ed) : ∀ (l : List ByteArray) (t : T) (dep a b dep' a' b' : Nat), cd (chgE e l dep t a b) = cd (chgE e l dep' t a' b') ∧ (chgE e l dep t a b).2.1 = (chgE e l dep' t a' b').2.1
  | [], t, dep, a, b, dep', a', b' => ⟨rfl, rfl⟩
  | nm :: r, .mk k x d ns ks, dep, a, b, dep', a', b' => by
    by_cases hk : k = 3
    · subst hk
      by_cases hr : r = []
      · subst hr
        rw [chg_one, chg_one]
        exact act_free e nm _ dep a b dep' a' b'
      · rw [chg_dir _ _ _ hr, chg_dir _ _ _ hr]
        by_cases ht : tkn ns nm = true
        · rw [if_pos ht, if_pos ht]
          have ih := chg_free e r (ks.getD (plc ns nm) default) (dep + 1) a b (dep' + 1) a' b'
          exact ⟨ih.1, by simp only; rw [ih.2]⟩
        · rw [if_neg ht, if_neg ht]; exact ⟨rfl, rfl⟩
    · rw [chg_not _ _ _ _ _ hk, chg_not _ _ _ _ _ hk]; exact ⟨rfl, rfl⟩
theorem drop_not2 : ∀ (l : List ByteArray) (t : T) (dep a b : Nat), (chgE .drop l dep t a b).1 ≠ 2
  | [], t, dep, a, b => by rw [chgE]; simp
  | nm :: r, .mk k x d ns ks, dep, a, b => by
    by_cases hk : k = 3
    · subst hk
      by_cases hr : r = []
      · subst hr
        rw [chg_one, drop_one]
        split <;> simp
      · rw [chg_dir _ _ _ hr]
        split
        · exact drop_not2 r _ (dep + 1) a b
        · simp
    · rw [chg_not _ _ _ _ _ hk]; simp

/-- What the reference's change tells. -/
def chgR (e : Ed) (l : List ByteArray) (t : T) : Nat × T := (cd (chgE e l 1 t 0 0), (chgE e l 1 t 0 0).2.1)

/-- The program's answer is the reference's. -/
def AsR (A : ER) (R : Nat × T) : Prop := (R.1 ≠ 0 → A.1 = R.1) ∧ (R.1 = 0 → (A.1 = 0 ∧ (sizeT R.2).isSome = true ∧ A.2.1 = R.2) ∨ (A.1 = 2 ∧ (sizeT R.2).isSome = false))
theorem chg_as (e : Ed) (hput : ∀ k, e = .put k → fmA k) {l : List ByteArray} (hn : ∀ x ∈ l, tName x.data.toList = true) {t : T} {a b : Nat} (h : Exact t a b) : AsR (chgE e l 1 t a b) (chgR e l t) := by
  have hfr := chg_free e l t 1 0 0 1 a b
  unfold AsR chgR
  simp only
  rw [hfr.1, hfr.2]
  unfold cd
  by_cases h2 : (chgE e l 1 t a b).1 = 2
  · rw [if_pos h2]
    refine ⟨fun h0 => absurd rfl h0, fun _ => .inr ⟨h2, ?_⟩⟩
    have ho := chg_over e l t 1 a b 0 0 h.1.1 (by have := h.2.1; omega) (by have := h.2.2; omega) h2
    cases hs : (sizeT (chgE e l 1 t a b).2.1).isSome with
    | false => rfl
    | true =>
      obtain ⟨⟨p, q⟩, hq⟩ := Option.isSome_iff_exists.1 hs
      obtain ⟨g1, g2, g3, g4, _⟩ := (sizeT_iff _ _ _).1 hq
      unfold Over at ho
      omega
  · rw [if_neg h2]
    exact ⟨fun _ => rfl, fun h0 => .inl ⟨h0, (h.done (chg_done e hput l hn t 1 a b h.1 h0)).size, rfl⟩⟩

/-! Which path stands under which. -/
theorem pieces_app : ∀ b c : List UInt8, pieces (b ++ 47 :: c) = pieces b ++ pieces c
  | [], c => by
    show pieces (47 :: c) = [[]] ++ pieces c
    conv => lhs; unfold pieces
    rw [if_pos rfl]; rfl
  | x :: b, c => by
    have ih := pieces_app b c
    show pieces (x :: (b ++ 47 :: c)) = _
    conv => lhs; unfold pieces
    conv => rhs; lhs; unfold pieces
    by_cases hx : x = 47
    · rw [if_pos hx, if_pos hx, ih]; rfl
    · rw [if_neg hx, if_neg hx, ih]
      cases hp : pieces b with
      | nil => exact absurd hp (pieces_ne b)
      | cons p r => rfl
theorem unp_app : ∀ (p q : List (List UInt8)), p ≠ [] → q ≠ [] → unp (p ++ q) = unp p ++ 47 :: unp q
  | [], _, h, _ => absurd rfl h
  | [p], q, _, hq => by
    cases q with
    | nil => exact absurd rfl hq
    | cons a r => rfl
  | p :: p2 :: r, q, _, hq => by
    have ih := unp_app (p2 :: r) q (by simp) hq
    show p ++ 47 :: unp (p2 :: r ++ q) = (p ++ 47 :: unp (p2 :: r)) ++ 47 :: unp q
    rw [ih]
    simp
theorem nmE_pieces (s : List UInt8) : (nmE s).map (·.data.toList) = pieces s := by
  have e : ∀ l : List (List UInt8), (l.map fun p => (⟨p.toArray⟩ : ByteArray)).map (·.data.toList) = l := fun l => by
    rw [List.map_map]
    conv => rhs; rw [← List.map_id l]
    exact List.map_congr_left fun x _ => by simp
  unfold nmE
  exact e _
/-- The reference's under. -/
def undS (a b : List UInt8) : Bool := decide (b.length < a.length ∧ a.take b.length = b ∧ a.getD b.length 0 = 47)
theorem und_with (a b : List UInt8) : undS a b = withB (nmE a) (nmE b) := by
  unfold undS withB
  rw [decide_eq_decide]
  constructor
  · rintro ⟨h1, h2, h3⟩
    have hab : a = b ++ 47 :: a.drop (b.length + 1) := by
      conv => lhs; rw [← List.take_append_drop b.length a, h2]
      congr 1
      rw [List.drop_eq_getElem_cons h1]
      congr 1
      rw [List.getD_eq_getElem?_getD, List.getElem?_eq_getElem h1] at h3
      exact h3
    have hp : nmE a = nmE b ++ nmE (a.drop (b.length + 1)) := by
      unfold nmE
      conv => lhs; rw [hab, pieces_app, List.map_append]
    have hpos : 0 < (nmE (a.drop (b.length + 1))).length := List.length_pos_iff.2 (nmE_ne _)
    rw [hp]
    refine ⟨by rw [List.length_append]; omega, List.take_left' rfl⟩
  · rintro ⟨h1, h2⟩
    have hq : (nmE a).drop (nmE b).length ≠ [] := fun h => by
      have := congrArg List.length h
      rw [List.length_drop] at this
      simp at this
      omega
    have hp : pieces a = pieces b ++ ((nmE a).drop (nmE b).length).map (·.data.toList) := by
      rw [← nmE_pieces a, ← nmE_pieces b, ← List.map_append]
      congr 1
      conv => lhs; rw [← List.take_append_drop (nmE b).length (nmE a), h2]
    have hu : a = b ++ 47 :: unp (((nmE a).drop (nmE b).length).map (·.data.toList)) := by
      conv => lhs; rw [← unp_pieces a, hp, unp_app _ _ (pieces_ne b) (by simpa using hq), unp_pieces]
    rw [hu]
    refine ⟨by simp, List.take_left' rfl, ?_⟩
    rw [List.getD_eq_getElem?_getD, List.getElem?_append_right (Nat.le_refl _), Nat.sub_self]
    rfl

/-! One edit, and some. -/
def moveR (x : EdD) (t : T) : Nat × T :=
  match findT (nmE x.src.data.toList) t with
  | .inl c => (c.toNat, t)
  | .inr k => if x.src = x.path then (0, t) else if undS x.src.data.toList x.path.data.toList || undS x.path.data.toList x.src.data.toList then (10, t)
    else if (chgR .drop (nmE x.src.data.toList) t).1 ≠ 0 then ((chgR .drop (nmE x.src.data.toList) t).1, t) else chgR (.put k) (nmE x.path.data.toList) (chgR .drop (nmE x.src.data.toList) t).2
def oneR (x : EdD) (t : T) : Nat × T :=
  if belN x.path.data.toList ≠ 0 then (belN x.path.data.toList, t)
  else if x.kind = 1 then chgR .mk (nmE x.path.data.toList) t
  else if x.kind = 2 then (if (sizeT x.tree).isSome then chgR (.put x.tree) (nmE x.path.data.toList) t else (3, t))
  else if x.kind = 3 then (if belN x.src.data.toList ≠ 0 then (belN x.src.data.toList, t) else moveR x t)
  else if x.kind = 4 then chgR .drop (nmE x.path.data.toList) t
  else (3, t)
theorem as_err {c : Nat} (hc : c ≠ 0) (t t' : T) (a b : Nat) : AsR (c, t, a, b) (c, t') := ⟨fun _ => rfl, fun h => absurd h hc⟩
theorem with_self (l : List ByteArray) : withB l l = false := by unfold withB; simp
theorem move_as {x : EdD} {t : T} {a b : Nat} (h : Exact t a b) (hb : belN x.path.data.toList = 0) (hs : belN x.src.data.toList = 0) : AsR (moveE (nmE x.src.data.toList) (nmE x.path.data.toList) t a b) (moveR x t) := by
  have hn := nmE_names hb
  have hns := nmE_names hs
  have hne := nmE_ne x.src.data.toList
  have hfr := chg_free .drop (nmE x.src.data.toList) t 1 0 0 1 a b
  unfold moveE moveR
  rw [drop_find _ hne t 1 a b h.1.1]
  by_cases hd : (chgE .drop (nmE x.src.data.toList) 1 t a b).1 = 0
  · rw [if_pos hd]
    simp only
    rw [if_neg (by simp [hd])]
    by_cases he : x.src = x.path
    · rw [if_pos he, ← he, with_self]
      simp only [Bool.or_self, Bool.false_eq_true, if_false]
      rw [drop_put _ hne hns t 1 a b h.1 hd]
      exact ⟨fun h0 => absurd rfl h0, fun _ => .inl ⟨rfl, h.size, rfl⟩⟩
    · rw [if_neg he, und_with, und_with]
      by_cases hw : (withB (nmE x.src.data.toList) (nmE x.path.data.toList) || withB (nmE x.path.data.toList) (nmE x.src.data.toList)) = true
      · rw [if_pos hw, if_pos hw]
        exact as_err (by decide) _ _ _ _
      · rw [if_neg hw, if_neg hw]
        have hc : (chgR .drop (nmE x.src.data.toList) t).1 = 0 := by
          show cd _ = 0
          rw [hfr.1]; unfold cd; rw [hd]; rfl
        have ht : (chgR .drop (nmE x.src.data.toList) t).2 = (chgE .drop (nmE x.src.data.toList) 1 t a b).2.1 := hfr.2
        rw [if_neg (by simp [hc]), ht]
        have h1 := h.done (chg_done .drop (fun k hk => by cases hk) _ hns t 1 a b h.1 hd)
        obtain ⟨dep', hg⟩ := get_lim _ t 1 a b h.1 hd
        exact chg_as (.put (getE (nmE x.src.data.toList) t)) (fun k hk => by cases hk; exact hg.1) hn h1
  · rw [if_neg hd]
    simp only
    rw [if_pos hd]
    exact ⟨fun _ => by simp, fun h0 => absurd (by simpa using h0) hd⟩
theorem one_as {x : EdD} {t : T} {a b : Nat} (h : Exact t a b) : AsR (applyE x t a b) (oneR x t) := by
  unfold applyE oneR
  by_cases hb : belN x.path.data.toList ≠ 0
  · rw [if_pos hb, if_pos hb]; exact as_err hb _ _ _ _
  rw [if_neg hb, if_neg hb]
  have hb0 : belN x.path.data.toList = 0 := by simpa using hb
  have hn := nmE_names hb0
  by_cases k1 : x.kind = 1
  · rw [if_pos k1, if_pos k1]; exact chg_as .mk (fun k hk => by cases hk) hn h
  rw [if_neg k1, if_neg k1]
  by_cases k2 : x.kind = 2
  · rw [if_pos k2, if_pos k2]
    by_cases hs : (sizeT x.tree).isSome = true
    · rw [if_pos hs, if_pos hs]; exact chg_as (.put x.tree) (fun k hk => by cases hk; exact (sizeT_get hs).2.1) hn h
    · rw [if_neg hs, if_neg hs]; exact as_err (by decide) _ _ _ _
  rw [if_neg k2, if_neg k2]
  by_cases k3 : x.kind = 3
  · rw [if_pos k3, if_pos k3]
    by_cases hs : belN x.src.data.toList ≠ 0
    · rw [if_pos hs, if_pos hs]; exact as_err hs _ _ _ _
    · rw [if_neg hs, if_neg hs]
      exact move_as h hb0 (by simpa using hs)
  rw [if_neg k3, if_neg k3]
  by_cases k4 : x.kind = 4
  · rw [if_pos k4, if_pos k4]; exact chg_as .drop (fun k hk => by cases hk) hn h
  · rw [if_neg k4, if_neg k4]; exact as_err (by decide) _ _ _ _

/-- The reference's Apply behind its first look at the tree. -/
def foldR : List EdD → T → Nat × T
  | [], t => (0, t)
  | x :: r, t => if (oneR x t).1 ≠ 0 then ((oneR x t).1, zeroT) else if (sizeT (oneR x t).2).isSome then foldR r (oneR x t).2 else (2, zeroT)
def runR (t : T) (l : List EdD) : Nat × T := if (sizeT t).isSome then foldR l t else (3, zeroT)
theorem fold_as : ∀ (l : List EdD) (t : T) (a b : Nat), Exact t a b → (foldE l t a b).1 = (foldR l t).1 ∧ ((foldR l t).1 = 0 → (foldE l t a b).2.1 = (foldR l t).2) ∧ ((foldR l t).1 ≠ 0 → (foldR l t).2 = zeroT)
  | [], t, a, b, h => ⟨rfl, fun _ => rfl, fun h => absurd rfl h⟩
  | x :: r, t, a, b, h => by
    have ha := one_as (x := x) h
    rw [foldE, foldR]
    by_cases h0 : (oneR x t).1 = 0
    · rw [if_neg (show ¬ (oneR x t).1 ≠ 0 from fun h => h h0)]
      rcases ha.2 h0 with ⟨g1, g2, g3⟩ | ⟨g1, g2⟩
      · rw [if_neg (show ¬ (applyE x t a b).1 ≠ 0 from fun h => h g1), if_pos g2, g3]
        have he := applyE_ok h g1
        rw [g3] at he
        exact fold_as r _ _ _ he
      · rw [if_pos (show (applyE x t a b).1 ≠ 0 by rw [g1]; decide), if_neg (show ¬ (sizeT (oneR x t).2).isSome = true by rw [g2]; decide)]
        exact ⟨g1, fun h => by simp at h, fun _ => rfl⟩
    · have h1 := ha.1 h0
      rw [if_pos (show (oneR x t).1 ≠ 0 from h0), if_pos (show (applyE x t a b).1 ≠ 0 by rw [h1]; exact h0)]
      exact ⟨h1, fun h => absurd h h0, fun _ => rfl⟩
/-- The program's answer is the reference's. -/
theorem run_as (t : T) (l : List EdD) : (runE t l).1 = (runR t l).1 ∧ ((runR t l).1 = 0 → (runE t l).2.1 = (runR t l).2) ∧ ((runR t l).1 ≠ 0 → (runR t l).2 = zeroT) := by
  unfold runE runR
  by_cases hs : (sizeT t).isSome = true
  · rw [if_pos hs, if_pos hs]
    exact fold_as l t _ _ (exact_of hs)
  · rw [if_neg hs, if_neg hs]
    exact ⟨rfl, fun h => by simp at h, fun _ => rfl⟩

end Go.Proofs.YtbempgdndmchlaaDoor

namespace Go.Proofs.YtbempgdndmchlaaDoor
open Go.RowKit
set_option linter.unusedVariables false

/-- A tree that no change of the blocks F touches. -/
def Sta (F : List Nat) (w : World) (n : Nat) (cs : List Value) (t : T) : Prop := ∀ w', Fr F w w' → IsT w' n cs t
theorem Sta.self {F : List Nat} {w : World} {n : Nat} {cs : List Value} {t : T} (h : Sta F w n cs t) : IsT w n cs t := h w (Fr.refl _ _)
theorem Sta.go {F : List Nat} {w w1 : World} {n : Nat} {cs : List Value} {t : T} (h : Sta F w n cs t) (hf : Fr F w w1) : Sta F w1 n cs t := fun w' h' => h w' (hf.trans h' (fun g hg _ => hg))
theorem Sta.more {F F' : List Nat} {w : World} {n : Nat} {cs : List Value} {t : T} (h : Sta F w n cs t) (hs : ∀ g ∈ F', g < w.heap.size → g ∈ F) : Sta F' w n cs t := fun w' h' => h w' (h'.mono hs)
theorem Sta.of {F : List Nat} {w : World} {n : Nat} {cs : List Value} {t : T} (h : IsT w n cs t) (hF : ∀ g ∈ F, w.heap.size ≤ g) : Sta F w n cs t := fun w' h' => IsT.later (h'.below (Nat.le_refl _) hF) _ _ _ h
theorem Sta.later {F : List Nat} {w w1 : World} {n : Nat} {cs : List Value} {t : T} (h : Sta F w n cs t) (hb : Below w.heap.size w w1) : Sta F w1 n cs t := h.go (Fr.of_below hb)
theorem Sta.up {F : List Nat} {w : World} {m n : Nat} {cs : List Value} {t : T} (hm : n ≤ m) (h : Sta F w n cs t) : Sta F w m cs t := fun w' h' => isT_mono _ _ _ _ hm (h w' h')

/-- Where the kids of such a tree lie. -/
theorem Sta.kid {F : List Nat} {w : World} {n : Nat} {k : UInt8} {x : Bool} {d : List UInt8} {ns : List ByteArray} {ks : List T} {ad an ak : Option Addr} {nd cd nn cn nk ck : Nat}
    (h : Sta F w (n + 1) [.int .u8 (k.toNat : Int), .bool x, .slice ad nd cd, .slice an nn cn, .slice ak nk ck] (.mk k x d ns ks)) {i : Nat} (hi : i < ks.length) :
    ∃ kb ko c0 c1 c2 c3 c4, ak = some ⟨kb, ko, none⟩ ∧ kb < w.heap.size ∧ w.rangeAt kb (ko + i * 5) [c0, c1, c2, c3, c4] ∧ Sta F w n [c0, c1, c2, c3, c4] (ks.getD i default) := by
  have hK : ∀ w', Fr F w w' → IsK (IsT w' n) w' ak nk ck ks := fun w' hf => by
    obtain ⟨ad', nd', cd', an', nn', cn', ak', nk', ck', he, _, _, hK⟩ := h w' hf
    simp only [List.cons.injEq, Value.slice.injEq, and_true, true_and] at he
    obtain ⟨_, _, rfl, rfl, rfl⟩ := he
    exact hK
  have h0 := hK w (Fr.refl _ _)
  have hnk : nk = ks.length := h0.length.symm
  rcases h0.at_ with he | ⟨kb, ko, rfl, hlt, hc⟩
  · omega
  obtain ⟨c0, c1, c2, c3, c4, hr, g0, g1, g2, g3, g4⟩ := hc i (by omega)
  have hrange : w.rangeAt kb (ko + i * 5) [c0, c1, c2, c3, c4] := fun j v hv => by
    rw [Nat.add_assoc]
    match j, hv with
    | 0, hv => cases hv; exact g0
    | 1, hv => cases hv; exact g1
    | 2, hv => cases hv; exact g2
    | 3, hv => cases hv; exact g3
    | 4, hv => cases hv; exact g4
    | j + 5, hv => simp at hv
  have hnf : kb ∉ F := fun hm => by
    have hf : Fr F w ({ w with heap := w.heap.set kb (.cells #[] 0 (0, 0)) hlt } : World) := ⟨rfl, rfl, rfl, by simp, fun g hg hn => by
      have : kb ≠ g := fun e => hn (e ▸ hm)
      simp [this]⟩
    rcases (hK _ hf).at_ with he | ⟨kb', ko', he, _, hc'⟩
    · omega
    · cases he
      obtain ⟨_, _, _, _, _, _, q0, _⟩ := hc' i (by omega)
      simp [World.cell?] at q0
  refine ⟨kb, ko, c0, c1, c2, c3, c4, rfl, hlt, hrange, fun w' hf => ?_⟩
  rcases (hK w' hf).at_ with he | ⟨kb', ko', he, hlt', hc'⟩
  · omega
  · cases he
    obtain ⟨d0, d1, d2, d3, d4, hr', q0, q1, q2, q3, q4⟩ := hc' i (by omega)
    have hcell : ∀ o, w'.cell? ⟨kb, o, none⟩ = w.cell? ⟨kb, o, none⟩ := fun o => World.cell?_of_block (w := w) (a := ⟨kb, o, none⟩) (hf.block kb hlt hnf)
    rw [hcell] at q0 q1 q2 q3 q4
    rw [g0] at q0
    rw [g1] at q1
    rw [g2] at q2
    rw [g3] at q3
    rw [g4] at q4
    cases q0; cases q1; cases q2; cases q3; cases q4
    exact hr'
end Go.Proofs.YtbempgdndmchlaaDoor

namespace Go.Proofs.YtbempgdndmchlaaDoor
open Go.RowKit
set_option linter.unusedVariables false

def dirC (vn vk : Value) : List Value := [.int .u8 3, .bool false, .slice none 0 0, vn, vk]

theorem owns_stay {w w' : World} {B n size : Nat} {e : TypeId} {v : Value} {xs : List Value} (h : w.ownsRow B e size v n xs) (hs : ∀ g, v.ownBlock = some g → w'.heap[g]? = w.heap[g]?) : w'.ownsRow B e size v n xs := by
  refine ⟨h.1, ?_⟩
  rcases h.2 with h0 | ⟨g, cap, cur, h1, h2, h3, h4⟩
  · exact .inl h0
  · exact .inr ⟨g, cap, cur, h1, h2, (hs g (by rw [h1]; rfl)).trans h3, h4⟩
theorem owns_unlike {w : World} {B B' n n' size size' : Nat} {e e' : TypeId} {v v' : Value} {xs xs' : List Value} (h : w.ownsRow B e size v n xs) (h' : w.ownsRow B' e' size' v' n' xs') (he : e ≠ e') : ∀ g, v.ownBlock = some g → v'.ownBlock ≠ some g := by
  intro g hg hg'
  rcases h.2 with ⟨rfl, _⟩ | ⟨b, cap, cur, rfl, _, hb, _⟩
  · cases hg
  · rcases h'.2 with ⟨rfl, _⟩ | ⟨b', cap', cur', rfl, _, hb', _⟩
    · cases hg'
    · simp only [Value.ownBlock, Option.some.injEq] at hg hg'
      subst hg
      subst hg'
      rw [hb] at hb'
      cases hb'
      exact he rfl
theorem five_old {LK cs : List Value} {i n : Nat} (hl : LK.length = n * 5) (hi : i < n) : five (LK ++ cs) i = five LK i := by
  unfold five
  rw [List.drop_append_of_le_length (by omega), List.take_append_of_le_length (by rw [List.length_drop]; omega)]
theorem five_new {LK cs : List Value} {n : Nat} (hl : LK.length = n * 5) (hc : cs.length = 5) : five (LK ++ cs) n = cs := by
  unfold five
  rw [← hl, List.drop_left' rfl, ← hc, List.take_length]

/-- A directory in the making: its box X, its rows behind it; its kids are trees of the world w. -/
structure WDir (F : List Nat) (w w1 : World) (X : Nat) (ns : List ByteArray) (ks : List T) (vn vk : Value) (wr : World) : Prop where
  bel : Below w.heap.size w wr
  low : Below X w1 wr
  at_ : w.heap.size ≤ X
  box : Has wr X (dirC vn vk) 26
  names : wr.ownsRow (X + 1) 9 1 vn ns.length (ns.map Value.string)
  kids : ∃ LK N, wr.ownsRow (X + 1) 26 5 vk ks.length LK ∧ ∀ i, i < ks.length → Sta F w N (five LK i) (ks.getD i default)
  own : ∀ g ∈ F, g < w.heap.size

section
variable {F : List Nat} {w w1 wr : World} {X : Nat} {ns : List ByteArray} {ks : List T} {vn vk : Value}

theorem WDir.later (h : WDir F w w1 X ns ks vn vk wr) {w' : World} (hb : Below wr.heap.size wr w') : WDir F w w1 X ns ks vn vk w' := by
  obtain ⟨LK, N, h1, h2⟩ := h.kids
  have hx := h.box.lt
  exact ⟨h.bel.trans (hb.mono h.bel.size), h.low.trans (hb.mono (by omega)), h.at_, (hb.block X hx).trans h.box, owns_stay h.names (fun g hg => hb.block g (h.names.lt g hg).2), ⟨LK, N, owns_stay h1 (fun g hg => hb.block g (h1.lt g hg).2), h2⟩, h.own⟩

/-- A name more. -/
theorem WDir.name (h : WDir F w w1 X ns ks vn vk wr) {nm : ByteArray} {w' : World} {g cap : Nat} (ho : w'.ownsRow (X + 1) 9 1 (.slice (some ⟨g, 0, none⟩) (ns.length + 1) cap) (ns.length + 1) (ns.map Value.string ++ [.string nm])) (hg : wr.grownBy w' vn.ownBlock) :
    Has w' X (dirC vn vk) 26 ∧ Below w.heap.size w w' ∧ Below X w1 w' ∧ WDir F w w1 X (ns ++ [nm]) ks (.slice (some ⟨g, 0, none⟩) (ns.length + 1) cap) vk (w'.setCell ⟨X, 3, none⟩ (.slice (some ⟨g, 0, none⟩) (ns.length + 1) cap)) := by
  have hat := h.at_
  have hx := h.box.lt
  have hnb : ∀ k, vn.ownBlock = some k → X + 1 ≤ k := fun k hk => (h.names.lt k hk).1
  have hB : Has w' X (dirC vn vk) 26 := (hg.block _ hx (fun e => by have := hnb _ e.symm; omega)).trans h.box
  have b1 : Below w.heap.size w w' := h.bel.grown hg h.bel.size (fun k hk => by have := hnb k hk; omega)
  have b2 : Below X w1 w' := h.low.grown hg (by omega) (fun k hk => by have := hnb k hk; omega)
  obtain ⟨LK, N, hk, hst⟩ := h.kids
  refine ⟨hB, b1, b2, b1.setCell (p := ⟨X, 3, none⟩) (by show w.heap.size ≤ X; omega) _, b2.setCell (p := ⟨X, 3, none⟩) (Nat.le_refl _) _, hat, hB.set 3 _, ?_, ⟨LK, N, ?_, hst⟩, h.own⟩
  · rw [List.length_append, List.map_append]
    exact owns_stay ho (fun q hq => heap_setCell_other w' ⟨X, 3, none⟩ q _ (by
      have := (ho.lt q hq).1
      show q ≠ X; omega))
  · exact owns_stay hk (fun q hq => (heap_setCell_other w' ⟨X, 3, none⟩ q _ (by
      have := (hk.lt q hq).1
      show q ≠ X; omega)).trans (hg.block q (hk.lt q hq).2 (fun e => owns_unlike hk h.names (by decide) q hq e.symm)))

/-- A kid more. -/
theorem WDir.kid (h : WDir F w w1 X ns ks vn vk wr) {LK : List Value} {N : Nat} (hk : wr.ownsRow (X + 1) 26 5 vk ks.length LK) (hst : ∀ i, i < ks.length → Sta F w N (five LK i) (ks.getD i default)) {t : T} {cs : List Value} {m : Nat} (ht : Sta F w m cs t) {w' : World} {g cap : Nat}
    (ho : w'.ownsRow (X + 1) 26 5 (.slice (some ⟨g, 0, none⟩) (ks.length + 1) cap) (ks.length + 1) (LK ++ cs)) (hg : wr.grownBy w' vk.ownBlock) :
    Has w' X (dirC vn vk) 26 ∧ Below w.heap.size w w' ∧ Below X w1 w' ∧ WDir F w w1 X ns (ks ++ [t]) vn (.slice (some ⟨g, 0, none⟩) (ks.length + 1) cap) (w'.setCell ⟨X, 4, none⟩ (.slice (some ⟨g, 0, none⟩) (ks.length + 1) cap)) := by
  have hat := h.at_
  have hx := h.box.lt
  have hc := isT_five ht.self
  have hl : LK.length = ks.length * 5 := hk.1
  have hnb : ∀ k, vk.ownBlock = some k → X + 1 ≤ k := fun k hq => (hk.lt k hq).1
  have hB : Has w' X (dirC vn vk) 26 := (hg.block _ hx (fun e => by have := hnb _ e.symm; omega)).trans h.box
  have b1 : Below w.heap.size w w' := h.bel.grown hg h.bel.size (fun k hk => by have := hnb k hk; omega)
  have b2 : Below X w1 w' := h.low.grown hg (by omega) (fun k hk => by have := hnb k hk; omega)
  refine ⟨hB, b1, b2, b1.setCell (p := ⟨X, 4, none⟩) (by show w.heap.size ≤ X; omega) _, b2.setCell (p := ⟨X, 4, none⟩) (Nat.le_refl _) _, hat, hB.set 4 _, ?_, ⟨LK ++ cs, Nat.max N m, ?_, fun i hi => ?_⟩, h.own⟩
  · exact owns_stay h.names (fun q hq => (heap_setCell_other w' ⟨X, 4, none⟩ q _ (by
      have := (h.names.lt q hq).1
      show q ≠ X; omega)).trans (hg.block q (h.names.lt q hq).2 (fun e => owns_unlike h.names hk (by decide) q hq e.symm)))
  · rw [List.length_append]
    exact owns_stay ho (fun q hq => heap_setCell_other w' ⟨X, 4, none⟩ q _ (by
      have := (ho.lt q hq).1
      show q ≠ X; omega))
  · rw [List.length_append, List.length_singleton] at hi
    rcases Nat.lt_or_ge i ks.length with h' | h'
    · rw [five_old hl h', List.getD_eq_getElem?_getD, List.getElem?_append_left h', ← List.getD_eq_getElem?_getD]
      exact Sta.up (Nat.le_max_left N m) (hst i h')
    · obtain rfl : i = ks.length := by omega
      rw [five_new hl hc, List.getD_eq_getElem?_getD, List.getElem?_append_right (Nat.le_refl _), Nat.sub_self]
      exact Sta.up (Nat.le_max_right N m) ht

/-- What is made reads as a directory, whatever is done to the blocks F. -/
theorem WDir.sta (h : WDir F w w1 X ns ks vn vk wr) : ∃ n, Sta F wr n (dirC vn vk) (.mk 3 false [] ns ks) := by
  obtain ⟨LK, N, hk, hst⟩ := h.kids
  have hat := h.at_
  have hown := h.own
  refine ⟨N + 1, fun w' hf => ?_⟩
  have hnf : ∀ g, X + 1 ≤ g → g ∉ F := fun g hg hm => by have := hown g hm; omega
  have hn' : w'.ownsRow (X + 1) 9 1 vn ns.length (ns.map Value.string) := owns_stay h.names (fun g hg => hf.block g (h.names.lt g hg).2 (hnf g (h.names.lt g hg).1))
  have hk' : w'.ownsRow (X + 1) 26 5 vk ks.length LK := owns_stay hk (fun g hg => hf.block g (hk.lt g hg).2 (hnf g (hk.lt g hg).1))
  have hst' : ∀ i, i < ks.length → IsT w' N (five LK i) (ks.getD i default) := fun i hi => hst i hi w' ((Fr.of_below h.bel).trans hf (fun g hg _ => hg))
  obtain ⟨an, cn, rfl, hS, _⟩ := isS_of_owns hn'
  have hK : ∃ ak ck, vk = .slice ak ks.length ck ∧ IsK (IsT w' N) w' ak ks.length ck ks := by
    rcases hk'.2 with ⟨rfl, h0⟩ | ⟨g, cap, cur, rfl, hb, hg, hnc, hcm, hcs, htake⟩
    · exact ⟨none, 0, by rw [h0], ⟨rfl, .inl h0, fun _ => ⟨h0, rfl⟩, by omega, Nat.zero_le _⟩⟩
    · refine ⟨_, cap, rfl, rfl, .inr ⟨g, 0, rfl, (Array.getElem?_eq_some_iff.1 hg).1, fun i hi => ?_⟩, (fun h => by cases h), hnc, hcm⟩
      have ht := hst' i hi
      obtain ⟨c0, c1, c2, c3, c4, he⟩ := five_list (isT_five ht)
      have hq : w'.ownsRow (X + 1) 26 5 (.slice (some ⟨g, 0, none⟩) ks.length cap) ks.length LK := hk'
      have hcell : ∀ j, j < 5 → w'.cell? ⟨g, 0 + (i * 5 + j), none⟩ = (five LK i)[j]? := fun j hj => by
        rw [Nat.zero_add, hq.cellAt (i * 5 + j) (by omega), five_get j hj]
      rw [he] at ht hcell
      exact ⟨c0, c1, c2, c3, c4, ht, hcell 0 (by omega), hcell 1 (by omega), hcell 2 (by omega), hcell 3 (by omega), hcell 4 (by omega)⟩
  obtain ⟨ak, ck, rfl, hK⟩ := hK
  exact ⟨none, 0, 0, an, ns.length, cn, ak, ks.length, ck, rfl, isB_none w', hS, hK⟩
theorem WDir.isT (h : WDir F w w1 X ns ks vn vk wr) : ∃ n, IsT wr n (dirC vn vk) (.mk 3 false [] ns ks) := by
  obtain ⟨n, hs⟩ := h.sta
  exact ⟨n, hs.self⟩
end

/-! The two loops, round by round. -/
def wthN (nm : ByteArray) (k : T) (ns : List ByteArray) (ks : List T) : Nat → List ByteArray × List T × Bool
  | 0 => ([], [], false)
  | i + 1 =>
    let n := ns.getD i ⟨#[]⟩
    let p := wthN nm k ns ks i
    let q := if !p.2.2 && !Op.bytesLess n.toList nm.toList then (p.1 ++ [nm], p.2.1 ++ [k], true) else p
    if n ≠ nm then (q.1 ++ [n], q.2.1 ++ [ks.getD i default], q.2.2) else q
def wouN (nm : ByteArray) (ns : List ByteArray) (ks : List T) : Nat → List ByteArray × List T
  | 0 => ([], [])
  | i + 1 => if ns.getD i ⟨#[]⟩ ≠ nm then ((wouN nm ns ks i).1 ++ [ns.getD i ⟨#[]⟩], (wouN nm ns ks i).2 ++ [ks.getD i default]) else wouN nm ns ks i

theorem take_more {α : Type} {l : List α} {i : Nat} (hi : i < l.length) (d : α) : l.take (i + 1) = l.take i ++ [l.getD i d] := by
  rw [List.take_succ_eq_append_getElem hi, List.getD_eq_getElem?_getD, List.getElem?_eq_getElem hi]; rfl
theorem name_is {ns : List ByteArray} (hp : ns.Pairwise nLt) {nm : ByteArray} {i : Nat} (hi : i < ns.length) : ns.getD i ⟨#[]⟩ = nm ↔ i = plc ns nm ∧ tkn ns nm = true := by
  constructor
  · intro h
    have := look_at (ks := []) hp hi h
    exact ⟨this.2.symm, this.1⟩
  · rintro ⟨rfl, h⟩
    exact (tkn_spec h).2
theorem less_is {ns : List ByteArray} (hp : ns.Pairwise nLt) {nm : ByteArray} {i : Nat} (hi : i < ns.length) : Op.bytesLess (ns.getD i ⟨#[]⟩).toList nm.toList = decide (i < plc ns nm) := by
  have hs := plc_spec hp nm
  rw [getD_ns hi]
  by_cases h : i < plc ns nm
  · have := hs.1 ns[i] (List.mem_take_iff_getElem.2 ⟨i, by omega, rfl⟩)
    rw [decide_eq_true h]; exact this
  · have := hs.2 ns[i] (List.mem_drop_iff_getElem.2 ⟨i - plc ns nm, by omega, by congr 1; omega⟩)
    rw [decide_eq_false h]
    unfold nLt at this
    simpa using this

/-- Without a name that is there. -/
theorem wou_is {ns : List ByteArray} {ks : List T} (hl : ns.length = ks.length) (hp : ns.Pairwise nLt) {nm : ByteArray} (ht : tkn ns nm = true) :
    ∀ i, i ≤ ns.length → wouN nm ns ks i = if i ≤ plc ns nm then (ns.take i, ks.take i) else (ns.take (plc ns nm) ++ (ns.take i).drop (plc ns nm + 1), ks.take (plc ns nm) ++ (ks.take i).drop (plc ns nm + 1))
  | 0, _ => by simp [wouN]
  | i + 1, hi => by
    have ih := wou_is hl hp ht i (by omega)
    have hn := name_is hp (nm := nm) (show i < ns.length by omega)
    rw [wouN, ih]
    by_cases he : i = plc ns nm
    · rw [if_neg (fun h => h (hn.2 ⟨he, ht⟩)), if_pos (by omega), if_neg (by omega), ← he]
      have z1 : (ns.take (i + 1)).drop (i + 1) = [] := List.drop_eq_nil_of_le (by rw [List.length_take]; omega)
      have z2 : (ks.take (i + 1)).drop (i + 1) = [] := List.drop_eq_nil_of_le (by rw [List.length_take]; omega)
      rw [z1, z2, List.append_nil, List.append_nil]
    · rw [if_pos (fun h => he (hn.1 h).1)]
      by_cases h : i ≤ plc ns nm
      · rw [if_pos h, if_pos (by omega), take_more (show i < ns.length by omega) ⟨#[]⟩, take_more (show i < ks.length by omega) default]
      · rw [if_neg h, if_neg (by omega), take_more (show i < ns.length by omega) ⟨#[]⟩, take_more (show i < ks.length by omega) default,
          List.drop_append_of_le_length (by rw [List.length_take]; omega), List.drop_append_of_le_length (by rw [List.length_take]; omega), List.append_assoc, List.append_assoc]
theorem wou_all {ns : List ByteArray} {ks : List T} (hl : ns.length = ks.length) (hp : ns.Pairwise nLt) {nm : ByteArray} (ht : tkn ns nm = true) : wouN nm ns ks ns.length = (ns.take (plc ns nm) ++ ns.drop (plc ns nm + 1), ks.take (plc ns nm) ++ ks.drop (plc ns nm + 1)) := by
  have h := (tkn_spec ht).1
  rw [wou_is hl hp ht _ (Nat.le_refl _), if_neg (by omega), List.take_length, hl, List.take_length]

/-- With a name. -/
theorem wth_is {ns : List ByteArray} {ks : List T} (hl : ns.length = ks.length) (hp : ns.Pairwise nLt) (nm : ByteArray) (k : T) :
    ∀ i, i ≤ ns.length → wthN nm k ns ks i = if i ≤ plc ns nm then (ns.take i, ks.take i, false) else (ns.take (plc ns nm) ++ nm :: (ns.take i).drop (if tkn ns nm then plc ns nm + 1 else plc ns nm), ks.take (plc ns nm) ++ k :: (ks.take i).drop (if tkn ns nm then plc ns nm + 1 else plc ns nm), true)
  | 0, _ => by simp [wthN]
  | i + 1, hi => by
    have ih := wth_is hl hp nm k i (by omega)
    have hn := name_is hp (nm := nm) (show i < ns.length by omega)
    have hle := less_is hp (nm := nm) (show i < ns.length by omega)
    have m1 := take_more (show i < ns.length by omega) ⟨#[]⟩
    have m2 := take_more (show i < ks.length by omega) default
    have l1 : (ns.take i).length = i := by rw [List.length_take]; omega
    have l2 : (ks.take i).length = i := by rw [List.length_take]; omega
    rw [wthN]
    simp only [ih, hle]
    rcases Nat.lt_trichotomy i (plc ns nm) with h | h | h
    · have hne : ns.getD i ⟨#[]⟩ ≠ nm := fun e => by have := (hn.1 e).1; omega
      rw [if_pos (show i ≤ plc ns nm by omega), if_pos (show i + 1 ≤ plc ns nm by omega), decide_eq_true h, m1, m2]
      simp only [Bool.not_true, Bool.and_false, Bool.false_eq_true, if_false]
      rw [if_pos hne]
    · rw [if_pos (show i ≤ plc ns nm by omega), if_neg (show ¬ i + 1 ≤ plc ns nm by omega), decide_eq_false (by omega), m1, m2]
      simp only [Bool.not_false, Bool.and_self, if_true]
      rw [← h]
      rcases ht : tkn ns nm with _ | _
      · have hne : ns.getD i ⟨#[]⟩ ≠ nm := fun e => by have := (hn.1 e).2; rw [ht] at this; cases this
        rw [if_pos hne]
        simp only [Bool.false_eq_true, if_false]
        rw [List.drop_left' l1, List.drop_left' l2]
        simp
      · rw [if_neg (fun h' => h' (hn.2 ⟨h, ht⟩))]
        simp only [if_true]
        rw [List.drop_eq_nil_of_le (by simp; omega), List.drop_eq_nil_of_le (by simp; omega)]
    · have hne : ns.getD i ⟨#[]⟩ ≠ nm := fun e => by have := (hn.1 e).1; omega
      rw [if_neg (show ¬ i ≤ plc ns nm by omega), if_neg (show ¬ i + 1 ≤ plc ns nm by omega), m1, m2]
      simp only [Bool.not_true, Bool.false_and, Bool.false_eq_true, if_false]
      rw [if_pos hne]
      have hd : (if tkn ns nm = true then plc ns nm + 1 else plc ns nm) ≤ i := by split <;> omega
      rw [List.drop_append_of_le_length (by rw [l1]; exact hd), List.drop_append_of_le_length (by rw [l2]; exact hd)]
      simp

/-- The whole of it: with the name behind all when it was nowhere. -/
def wthAll (nm : ByteArray) (k : T) (ns : List ByteArray) (ks : List T) : List ByteArray × List T :=
  if (wthN nm k ns ks ns.length).2.2 then ((wthN nm k ns ks ns.length).1, (wthN nm k ns ks ns.length).2.1) else ((wthN nm k ns ks ns.length).1 ++ [nm], (wthN nm k ns ks ns.length).2.1 ++ [k])
theorem wth_all {ns : List ByteArray} {ks : List T} (hl : ns.length = ks.length) (hp : ns.Pairwise nLt) (nm : ByteArray) (k : T) :
    wthAll nm k ns ks = if tkn ns nm = true then (ns, ks.set (plc ns nm) k) else (ns.take (plc ns nm) ++ nm :: ns.drop (plc ns nm), ks.take (plc ns nm) ++ k :: ks.drop (plc ns nm)) := by
  have hpl := plc_le ns nm
  unfold wthAll
  rw [wth_is hl hp nm k _ (Nat.le_refl _)]
  by_cases h : ns.length ≤ plc ns nm
  · have ht : tkn ns nm = false := by
      cases ht : tkn ns nm with
      | false => rfl
      | true => have := (tkn_spec ht).1; omega
    rw [if_pos h, ht]
    simp only [Bool.false_eq_true, if_false]
    rw [List.drop_eq_nil_of_le h, List.drop_eq_nil_of_le (by omega), List.take_of_length_le h, List.take_of_length_le (show ks.length ≤ plc ns nm by omega), List.take_length, hl, List.take_length]
  · rw [if_neg h]
    simp only [if_true]
    rw [List.take_length, hl, List.take_length]
    rcases ht : tkn ns nm with _ | _
    · rfl
    · simp only [if_true]
      obtain ⟨h1, h2⟩ := tkn_spec ht
      rw [set_at (by omega)]
      have e : nm = ns[plc ns nm] := by rw [← getD_ns h1]; exact h2.symm
      have : ns.take (plc ns nm) ++ nm :: ns.drop (plc ns nm + 1) = ns := by
        conv => lhs; rhs; lhs; rw [e]
        rw [← List.drop_eq_getElem_cons h1, List.take_append_drop]
      rw [this]

end Go.Proofs.YtbempgdndmchlaaDoor

namespace Go.Proofs.YtbempgdndmchlaaDoor
open Go.RowKit
set_option linter.unusedVariables false

theorem wou_len (nm : ByteArray) (ns : List ByteArray) (ks : List T) : ∀ i, (wouN nm ns ks i).1.length ≤ i ∧ (wouN nm ns ks i).2.length = (wouN nm ns ks i).1.length
  | 0 => ⟨Nat.le_refl _, rfl⟩
  | i + 1 => by
    have ih := wou_len nm ns ks i
    rw [wouN]
    split
    · simp only [List.length_append, List.length_singleton]; omega
    · omega

theorem WDir.at3 {F : List Nat} {w w1 wr : World} {X : Nat} {ns : List ByteArray} {ks : List T} {vn vk : Value} (h : WDir F w w1 X ns ks vn vk wr) {A i : Nat} {L : List Value} {v : Value} {t : TypeId} (hg : Has w1 A L t) (hA : A < X) (hv : L[i]? = some v) : wr.cell? ⟨A, i, none⟩ = some v :=
  (h.low.cell (p := ⟨A, i, none⟩) hA).trans (hg.cellAt hv)
theorem WDir.old {F : List Nat} {w w1 wr : World} {X : Nat} {ns : List ByteArray} {ks : List T} {vn vk : Value} (h : WDir F w w1 X ns ks vn vk wr) {b o : Nat} {v : Value} (hb : b < w.heap.size) (hc : w.cell? ⟨b, o, none⟩ = some v) : wr.cell? ⟨b, o, none⟩ = some v :=
  (h.bel.cell (p := ⟨b, o, none⟩) hb).trans hc

end Go.Proofs.YtbempgdndmchlaaDoor

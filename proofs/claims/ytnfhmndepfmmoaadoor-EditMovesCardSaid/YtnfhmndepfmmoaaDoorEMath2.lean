/-
  That the changes leave right trees right, and count rightly. No program text.
-/
import Derived.Test.YtnfhmndepfmmoaaDoorEWork
namespace Go.Proofs.YtnfhmndepfmmoaaDoor
open Go.RowKit
set_option linter.unusedVariables false

theorem max_le' {a b c : Nat} (h1 : a ≤ c) (h2 : b ≤ c) : Nat.max a b ≤ c := Nat.max_le.2 ⟨h1, h2⟩
theorem le_max1 (a b : Nat) : a ≤ Nat.max a b := Nat.le_max_left a b
theorem le_max2 (a b : Nat) : b ≤ Nat.max a b := Nat.le_max_right a b

theorem ins_height (ks : List T) (i : Nat) (k : T) : heightL (ks.take i ++ k :: ks.drop i) = Nat.max (heightL ks) (1 + heightT k) := by
  rw [heightL_append, heightL_cons, heightL_split ks i]
  show max _ (max _ _) = max (max _ _) _
  omega
theorem ins_size (ks : List T) (i : Nat) (k : T) : sizeNL (ks.take i ++ k :: ks.drop i) = sizeNL ks + sizeN k := by
  rw [sizeNL_append, sizeNL_cons, sizeNL_split ks i]; omega
theorem ins_bytes (ks : List T) (i : Nat) (k : T) : bytesL (ks.take i ++ k :: ks.drop i) = bytesL ks + bytesT k := by
  rw [bytesL_append, bytesL_cons, bytesL_split ks i]; omega
theorem ins_fm {ks : List T} {i : Nat} {k : T} (h : fmL ks) (hk : fmA k) : fmL (ks.take i ++ k :: ks.drop i) := by
  rw [fmL_append, fmL_cons]
  have := (fmL_split ks i).1 h
  exact ⟨this.1, hk, this.2⟩
theorem del_height {ks : List T} {i : Nat} (hi : i < ks.length) : heightL (ks.take i ++ ks.drop (i + 1)) ≤ heightL ks := by
  rw [heightL_append, heightL_kid hi]
  exact max_le' (le_max1 _ _) (Nat.le_trans (le_max2 _ _) (le_max2 _ _))
theorem del_size {ks : List T} {i : Nat} (hi : i < ks.length) : sizeNL ks = sizeNL (ks.take i ++ ks.drop (i + 1)) + sizeN (ks.getD i default) := by
  rw [sizeNL_append, sizeNL_kid hi]; omega
theorem del_bytes {ks : List T} {i : Nat} (hi : i < ks.length) : bytesL ks = bytesL (ks.take i ++ ks.drop (i + 1)) + bytesT (ks.getD i default) := by
  rw [bytesL_append, bytesL_kid hi]; omega
theorem del_fm {ks : List T} {i : Nat} (hi : i < ks.length) (h : fmL ks) : fmL (ks.take i ++ ks.drop (i + 1)) := by
  rw [fmL_append]
  have := (fmL_kid hi).1 h
  exact ⟨this.1, this.2.2⟩
theorem set_height {ks : List T} {i : Nat} (hi : i < ks.length) (k : T) : heightL (ks.set i k) ≤ Nat.max (heightL ks) (1 + heightT k) := by
  rw [set_at hi, heightL_append, heightL_cons, heightL_kid hi]
  show max _ (max _ _) ≤ max (max _ (max _ _)) _
  omega
theorem set_size {ks : List T} {i : Nat} (hi : i < ks.length) (k : T) : sizeNL (ks.set i k) + sizeN (ks.getD i default) = sizeNL ks + sizeN k := by
  rw [set_at hi, sizeNL_append, sizeNL_cons, sizeNL_kid hi]; omega
theorem set_bytes {ks : List T} {i : Nat} (hi : i < ks.length) (k : T) : bytesL (ks.set i k) + bytesT (ks.getD i default) = bytesL ks + bytesT k := by
  rw [set_at hi, bytesL_append, bytesL_cons, bytesL_kid hi]; omega
theorem set_fm {ks : List T} {i : Nat} (hi : i < ks.length) {k : T} (h : fmL ks) (hk : fmA k) : fmL (ks.set i k) := by
  rw [set_at hi, fmL_append, fmL_cons]
  have := (fmL_kid hi).1 h
  exact ⟨this.1, hk, this.2.2⟩

/-- A directory's form: its names and how many. -/
theorem dir_form {x : Bool} {d : List UInt8} {ns : List ByteArray} {ks : List T} (h : formedT (.mk 3 x d ns ks) = true) : ns.length = ks.length ∧ risingT ns = true ∧ ∀ ns' (ks' : List T), ns'.length = ks'.length → risingT ns' = true → formedT (.mk 3 x d ns' ks') = true := by
  rw [formedT_dir] at h
  simp only [Bool.and_eq_true, decide_eq_true_eq] at h
  refine ⟨h.1.2, h.2, fun ns' ks' h1 h2 => ?_⟩
  rw [formedT_dir]
  simp only [Bool.and_eq_true, decide_eq_true_eq]
  exact ⟨⟨h.1.1, h1⟩, h2⟩

/-- What is put in the place of what is there. -/
theorem put_there {k : UInt8} {x : Bool} {d : List UInt8} {ns : List ByteArray} {ks : List T} {nm : ByteArray} (hl : ns.length = ks.length) (ht : tkn ns nm = true) (tt : T) : insT (delT (.mk k x d ns ks) (plc ns nm)) (plc ns nm) nm tt = .mk k x d ns (ks.set (plc ns nm) tt) := by
  obtain ⟨h1, h2⟩ := tkn_spec ht
  obtain ⟨i, hi⟩ : ∃ i, i = plc ns nm := ⟨_, rfl⟩
  rw [← hi] at h1 h2 ⊢
  have t1 : (ns.take i).length = i := by rw [List.length_take]; omega
  have t2 : (ks.take i).length = i := by rw [List.length_take]; omega
  show T.mk k x d ((ns.take i ++ ns.drop (i + 1)).take i ++ nm :: (ns.take i ++ ns.drop (i + 1)).drop i) ((ks.take i ++ ks.drop (i + 1)).take i ++ tt :: (ks.take i ++ ks.drop (i + 1)).drop i) = _
  rw [List.take_left' t1, List.drop_left' t1, List.take_left' t2, List.drop_left' t2, set_at (by omega)]
  congr 1
  have e : nm = ns[i] := by rw [← h2, List.getD_eq_getElem?_getD, List.getElem?_eq_getElem h1]; rfl
  rw [e, ← List.drop_eq_getElem_cons h1, List.take_append_drop]

/-- What a change that is done leaves. -/
structure Done2 (t : T) (dep a b : Nat) (r : ER) : Prop where
  fm : fmA r.2.1
  hgt : dep + heightT r.2.1 ≤ 17
  num : r.2.2.1 + sizeN t = a + sizeN r.2.1
  byt : r.2.2.2 + bytesT t = b + bytesT r.2.1
  most : r.2.2.1 ≤ 4096
  much : r.2.2.2 ≤ 65536

theorem Done2.lim {t : T} {dep a b : Nat} {r : ER} (h : Done2 t dep a b r) (hl : Lim t dep a b) : Lim r.2.1 dep r.2.2.1 r.2.2.2 := by
  obtain ⟨h1, h2, h3, h4, h5, h6, h7⟩ := hl
  have e1 := h.num
  have e2 := h.byt
  exact ⟨h.fm, h2, h.hgt, by omega, h.most, by omega, h.much⟩

theorem act_done (e : Ed) (hput : ∀ k, e = .put k → fmA k) {nm : ByteArray} (hnm : tName nm.data.toList = true) {x : Bool} {d : List UInt8} {ns : List ByteArray} {ks : List T} {dep a b : Nat} (hl : Lim (.mk 3 x d ns ks) dep a b) (h0 : (actE e nm dep (.mk 3 x d ns ks) a b).1 = 0) : Done2 (.mk 3 x d ns ks) dep a b (actE e nm dep (.mk 3 x d ns ks) a b) := by
  obtain ⟨h1, h2, h3, h4, h5, h6, h7⟩ := hl
  rw [fmA_mk] at h1
  rw [heightT_mk] at h3
  rw [sizeN_mk] at h4
  rw [bytesT_mk] at h6
  obtain ⟨hlen, hris, hform⟩ := dir_form h1.1
  have hpl := plc_le ns nm
  -- laying at a place that isn't taken
  have hlay : ∀ k, fmA k → tkn ns nm = false → (layE nm (plc ns nm) dep (.mk 3 x d ns ks) k a b).1 = 0 → Done2 (.mk 3 x d ns ks) dep a b (layE nm (plc ns nm) dep (.mk 3 x d ns ks) k a b) := fun k hk ht h0 => by
    have hc : ¬ (4096 < a + sizeN k ∨ 65536 < b + bytesT k ∨ 16 < dep + heightT k) := fun hc => by
      unfold layE at h0
      simp only [if_pos hc] at h0
      cases h0
    have hm : Nat.max (heightL ks) (1 + heightT k) ≤ 17 - dep := max_le' (by omega) (by omega)
    refine ⟨?_, ?_, ?_, ?_, ?_, ?_⟩
    · show fmA (.mk 3 x d (ns.take (plc ns nm) ++ nm :: ns.drop (plc ns nm)) (ks.take (plc ns nm) ++ k :: ks.drop (plc ns nm)))
      rw [fmA_mk]
      exact ⟨hform _ _ (by simp only [List.length_append, List.length_cons, List.length_take, List.length_drop]; omega) (rising_ins hris hnm ht), ins_fm h1.2 hk⟩
    · show dep + heightT (.mk 3 x d (ns.take (plc ns nm) ++ nm :: ns.drop (plc ns nm)) (ks.take (plc ns nm) ++ k :: ks.drop (plc ns nm))) ≤ 17
      rw [heightT_mk, ins_height]; omega
    · show a + sizeN k + sizeN (.mk 3 x d ns ks) = a + sizeN (.mk 3 x d (ns.take (plc ns nm) ++ nm :: ns.drop (plc ns nm)) (ks.take (plc ns nm) ++ k :: ks.drop (plc ns nm)))
      rw [sizeN_mk, sizeN_mk, ins_size]; omega
    · show b + bytesT k + bytesT (.mk 3 x d ns ks) = b + bytesT (.mk 3 x d (ns.take (plc ns nm) ++ nm :: ns.drop (plc ns nm)) (ks.take (plc ns nm) ++ k :: ks.drop (plc ns nm)))
      rw [bytesT_mk, bytesT_mk, ins_bytes]; omega
    · show a + sizeN k ≤ 4096
      omega
    · show b + bytesT k ≤ 65536
      omega
  cases e with
  | mk =>
    unfold actE at h0 ⊢
    by_cases ht : tkn (namesT (.mk 3 x d ns ks)) nm = true
    · simp only [if_pos ht] at h0; cases h0
    · simp only [if_neg ht] at h0 ⊢
      exact hlay emptyDir (by unfold emptyDir; rw [fmA_mk]; exact ⟨by decide +kernel, trivial⟩) (by simpa [namesT] using ht) h0
  | put k =>
    unfold actE at h0 ⊢
    by_cases ht : tkn (namesT (.mk 3 x d ns ks)) nm = true
    · simp only [if_pos ht] at h0 ⊢
      have ht' : tkn ns nm = true := ht
      have hi : plc ns nm < ks.length := by rw [← hlen]; exact (tkn_spec ht').1
      have hkid : kidT (.mk 3 x d ns ks) (plc ns nm) = ks.getD (plc ns nm) default := rfl
      have hs1 := sizeNL_get hi
      have hs2 := bytesL_kid hi
      show Done2 _ _ _ _ (layE nm (plc ns nm) dep (delT (.mk 3 x d ns ks) (plc ns nm)) k (a - sizeN (ks.getD (plc ns nm) default)) (b - bytesT (ks.getD (plc ns nm) default)))
      have h0' : (layE nm (plc ns nm) dep (delT (.mk 3 x d ns ks) (plc ns nm)) k (a - sizeN (ks.getD (plc ns nm) default)) (b - bytesT (ks.getD (plc ns nm) default))).1 = 0 := h0
      have hc : ¬ (4096 < a - sizeN (ks.getD (plc ns nm) default) + sizeN k ∨ 65536 < b - bytesT (ks.getD (plc ns nm) default) + bytesT k ∨ 16 < dep + heightT k) := fun hc => by
        unfold layE at h0'
        simp only [if_pos hc] at h0'
        cases h0'
      have hm : Nat.max (heightL ks) (1 + heightT k) ≤ 17 - dep := max_le' (by omega) (by omega)
      have hset := put_there (k := 3) (x := x) (d := d) hlen ht' k
      have z1 := set_size hi k
      have z2 := set_bytes hi k
      have z3 := set_height hi k
      refine ⟨?_, ?_, ?_, ?_, ?_, ?_⟩
      · show fmA (insT (delT (.mk 3 x d ns ks) (plc ns nm)) (plc ns nm) nm k)
        rw [hset, fmA_mk]
        exact ⟨hform _ _ (by rw [List.length_set]; exact hlen) hris, set_fm hi h1.2 (hput k rfl)⟩
      · show dep + heightT (insT (delT (.mk 3 x d ns ks) (plc ns nm)) (plc ns nm) nm k) ≤ 17
        rw [hset, heightT_mk]; omega
      · show a - sizeN (ks.getD (plc ns nm) default) + sizeN k + sizeN (.mk 3 x d ns ks) = a + sizeN (insT (delT (.mk 3 x d ns ks) (plc ns nm)) (plc ns nm) nm k)
        rw [hset, sizeN_mk, sizeN_mk]; omega
      · show b - bytesT (ks.getD (plc ns nm) default) + bytesT k + bytesT (.mk 3 x d ns ks) = b + bytesT (insT (delT (.mk 3 x d ns ks) (plc ns nm)) (plc ns nm) nm k)
        rw [hset, bytesT_mk, bytesT_mk]; omega
      · show a - sizeN (ks.getD (plc ns nm) default) + sizeN k ≤ 4096
        omega
      · show b - bytesT (ks.getD (plc ns nm) default) + bytesT k ≤ 65536
        omega
    · simp only [if_neg ht] at h0 ⊢
      exact hlay k (hput k rfl) (by simpa [namesT] using ht) h0
  | drop =>
    unfold actE at h0 ⊢
    by_cases ht : tkn (namesT (.mk 3 x d ns ks)) nm = true
    · simp only [if_pos ht] at h0 ⊢
      have ht' : tkn ns nm = true := ht
      have hi : plc ns nm < ks.length := by rw [← hlen]; exact (tkn_spec ht').1
      have hs1 := del_size hi
      have hs2 := del_bytes hi
      have hs3 := del_height hi
      refine ⟨?_, ?_, ?_, ?_, ?_, ?_⟩
      · show fmA (.mk 3 x d (ns.take (plc ns nm) ++ ns.drop (plc ns nm + 1)) (ks.take (plc ns nm) ++ ks.drop (plc ns nm + 1)))
        rw [fmA_mk]
        exact ⟨hform _ _ (by simp only [List.length_append, List.length_take, List.length_drop]; omega) (rising_del hris _), del_fm hi h1.2⟩
      · show dep + heightT (.mk 3 x d (ns.take (plc ns nm) ++ ns.drop (plc ns nm + 1)) (ks.take (plc ns nm) ++ ks.drop (plc ns nm + 1))) ≤ 17
        rw [heightT_mk]; omega
      · show a - sizeN (ks.getD (plc ns nm) default) + sizeN (.mk 3 x d ns ks) = a + sizeN (.mk 3 x d (ns.take (plc ns nm) ++ ns.drop (plc ns nm + 1)) (ks.take (plc ns nm) ++ ks.drop (plc ns nm + 1)))
        rw [sizeN_mk, sizeN_mk]; omega
      · show b - bytesT (ks.getD (plc ns nm) default) + bytesT (.mk 3 x d ns ks) = b + bytesT (.mk 3 x d (ns.take (plc ns nm) ++ ns.drop (plc ns nm + 1)) (ks.take (plc ns nm) ++ ks.drop (plc ns nm + 1)))
        rw [bytesT_mk, bytesT_mk]; omega
      · show a - sizeN (ks.getD (plc ns nm) default) ≤ 4096
        omega
      · show b - bytesT (ks.getD (plc ns nm) default) ≤ 65536
        omega
    · simp only [if_neg ht] at h0; cases h0

theorem chg_done (e : Ed) (hput : ∀ k, e = .put k → fmA k) : ∀ (l : List ByteArray), (∀ x ∈ l, tName x.data.toList = true) → ∀ (t : T) (dep a b : Nat), Lim t dep a b → (chgE e l dep t a b).1 = 0 → Done2 t dep a b (chgE e l dep t a b)
  | [], _, t, dep, a, b, _, h0 => by rw [chgE] at h0; cases h0
  | nm :: r, hn, .mk k x d ns ks, dep, a, b, hl, h0 => by
    rw [chgE] at h0 ⊢
    by_cases hk : kindT (.mk k x d ns ks) ≠ 3
    · simp only [if_pos hk] at h0; cases h0
    · rw [if_neg hk] at h0 ⊢
      have hk3 : k = 3 := by simpa [kindT] using hk
      subst hk3
      by_cases hr : r = []
      · rw [if_pos hr] at h0 ⊢
        exact act_done e hput (hn nm (by simp)) hl h0
      · rw [if_neg hr] at h0 ⊢
        by_cases ht : tkn (namesT (.mk 3 x d ns ks)) nm = true
        · rw [if_pos ht] at h0 ⊢
          have ht' : tkn ns nm = true := ht
          have h1 := hl.1
          rw [fmA_mk] at h1
          obtain ⟨hlen, hris, hform⟩ := dir_form h1.1
          have hi : plc ns nm < ks.length := by rw [← hlen]; exact (tkn_spec ht').1
          have hq := chg_done e hput r (fun x hx => hn x (List.mem_cons_of_mem _ hx)) _ (dep + 1) a b (hl.kid hi) h0
          have z1 := set_size hi (chgE e r (dep + 1) (ks.getD (plc ns nm) default) a b).2.1
          have z2 := set_bytes hi (chgE e r (dep + 1) (ks.getD (plc ns nm) default) a b).2.1
          have z3 := set_height hi (chgE e r (dep + 1) (ks.getD (plc ns nm) default) a b).2.1
          have hh := hl.2.2.1
          rw [heightT_mk] at hh
          have hm : Nat.max (heightL ks) (1 + heightT (chgE e r (dep + 1) (ks.getD (plc ns nm) default) a b).2.1) ≤ 17 - dep := max_le' (by omega) (by have := hq.hgt; omega)
          refine ⟨?_, ?_, ?_, ?_, hq.most, hq.much⟩
          · show fmA (.mk 3 x d ns (ks.set (plc ns nm) (chgE e r (dep + 1) (ks.getD (plc ns nm) default) a b).2.1))
            rw [fmA_mk]
            exact ⟨hform _ _ (by rw [List.length_set]; exact hlen) hris, set_fm hi h1.2 hq.fm⟩
          · show dep + heightT (.mk 3 x d ns (ks.set (plc ns nm) (chgE e r (dep + 1) (ks.getD (plc ns nm) default) a b).2.1)) ≤ 17
            rw [heightT_mk]; omega
          · show (chgE e r (dep + 1) (ks.getD (plc ns nm) default) a b).2.2.1 + sizeN (.mk 3 x d ns ks) = a + sizeN (.mk 3 x d ns (ks.set (plc ns nm) (chgE e r (dep + 1) (ks.getD (plc ns nm) default) a b).2.1))
            have := hq.num
            rw [sizeN_mk, sizeN_mk]; omega
          · show (chgE e r (dep + 1) (ks.getD (plc ns nm) default) a b).2.2.2 + bytesT (.mk 3 x d ns ks) = b + bytesT (.mk 3 x d ns (ks.set (plc ns nm) (chgE e r (dep + 1) (ks.getD (plc ns nm) default) a b).2.1))
            have := hq.byt
            rw [bytesT_mk, bytesT_mk]; omega
        · simp only [if_neg ht] at h0; cases h0

/-- What is dropped is right. -/
theorem get_lim : ∀ (l : List ByteArray) (t : T) (dep a b : Nat), Lim t dep a b → (chgE .drop l dep t a b).1 = 0 → ∃ dep', Lim (getE l t) dep' a b
  | [], t, dep, a, b, _, h0 => by rw [chgE] at h0; cases h0
  | nm :: r, .mk k x d ns ks, dep, a, b, hl, h0 => by
    rw [chgE] at h0
    by_cases hk : kindT (.mk k x d ns ks) ≠ 3
    · simp only [if_pos hk] at h0; cases h0
    · rw [if_neg hk] at h0
      have hlen := hl.lens
      by_cases hr : r = []
      · rw [if_pos hr] at h0
        unfold actE at h0
        by_cases ht : tkn (namesT (.mk k x d ns ks)) nm = true
        · have hi : plc ns nm < ks.length := by rw [← hlen]; exact (tkn_spec (show tkn ns nm = true from ht)).1
          subst hr
          exact ⟨_, hl.kid hi⟩
        · simp only [if_neg ht] at h0; cases h0
      · rw [if_neg hr] at h0
        by_cases ht : tkn (namesT (.mk k x d ns ks)) nm = true
        · rw [if_pos ht] at h0
          have hi : plc ns nm < ks.length := by rw [← hlen]; exact (tkn_spec (show tkn ns nm = true from ht)).1
          exact get_lim r _ (dep + 1) a b (hl.kid hi) h0
        · simp only [if_neg ht] at h0; cases h0

end Go.Proofs.YtnfhmndepfmmoaaDoor

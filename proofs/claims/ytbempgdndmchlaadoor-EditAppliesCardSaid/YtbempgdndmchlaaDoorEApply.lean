/-
  That the changes leave right trees right, and count rightly. No program text.
-/
import Derived.Test.YtbempgdndmchlaaDoorEWork
import Derived.Test.YtbempgdndmchlaaDoorEDown
import Derived.Test.YtbempgdndmchlaaDoorTSplit
import Derived.Test.YtbempgdndmchlaaDoorECopy
namespace Go.Proofs.YtbempgdndmchlaaDoor
open Go.RowKit
set_option linter.unusedVariables false

theorem max_le' {a b c : Nat} (h1 : a ≤ c) (h2 : b ≤ c) : Nat.max a b ≤ c := Nat.max_le.2 ⟨h1, h2⟩
theorem le_max1 (a b : Nat) : a ≤ Nat.max a b := Nat.le_max_left a b
theorem le_max2 (a b : Nat) : b ≤ Nat.max a b := Nat.le_max_right a b

theorem ins_height (ks : List T) (i : Nat) (k : T) : heightL (ks.take i ++ k :: ks.drop i) = Nat.max (heightL ks) (1 + heightT k) := by
  rw [heightL_append, heightL_cons, heightL_split ks i]
  show max _ (max _ _) = max (max _ _) _
  omega
theorem ins_size (ks : List T) (i : Nat) (k : T) : sizeNL (ks.take i ++ k :: ks.drop i) = sizeNL ks + sizeN k := by
  rw [sizeNL_append, sizeNL_cons, sizeNL_split ks i]; omega
theorem ins_bytes (ks : List T) (i : Nat) (k : T) : bytesL (ks.take i ++ k :: ks.drop i) = bytesL ks + bytesT k := by
  rw [bytesL_append, bytesL_cons, bytesL_split ks i]; omega
theorem ins_fm {ks : List T} {i : Nat} {k : T} (h : fmL ks) (hk : fmA k) : fmL (ks.take i ++ k :: ks.drop i) := by
  rw [fmL_append, fmL_cons]
  have := (fmL_split ks i).1 h
  exact ⟨this.1, hk, this.2⟩
theorem del_height {ks : List T} {i : Nat} (hi : i < ks.length) : heightL (ks.take i ++ ks.drop (i + 1)) ≤ heightL ks := by
  rw [heightL_append, heightL_kid hi]
  exact max_le' (le_max1 _ _) (Nat.le_trans (le_max2 _ _) (le_max2 _ _))
theorem del_size {ks : List T} {i : Nat} (hi : i < ks.length) : sizeNL ks = sizeNL (ks.take i ++ ks.drop (i + 1)) + sizeN (ks.getD i default) := by
  rw [sizeNL_append, sizeNL_kid hi]; omega
theorem del_bytes {ks : List T} {i : Nat} (hi : i < ks.length) : bytesL ks = bytesL (ks.take i ++ ks.drop (i + 1)) + bytesT (ks.getD i default) := by
  rw [bytesL_append, bytesL_kid hi]; omega
theorem del_fm {ks : List T} {i : Nat} (hi : i < ks.length) (h : fmL ks) : fmL (ks.take i ++ ks.drop (i + 1)) := by
  rw [fmL_append]
  have := (fmL_kid hi).1 h
  exact ⟨this.1, this.2.2⟩
theorem set_height {ks : List T} {i : Nat} (hi : i < ks.length) (k : T) : heightL (ks.set i k) ≤ Nat.max (heightL ks) (1 + heightT k) := by
  rw [set_at hi, heightL_append, heightL_cons, heightL_kid hi]
  show max _ (max _ _) ≤ max (max _ (max _ _)) _
  omega
theorem set_size {ks : List T} {i : Nat} (hi : i < ks.length) (k : T) : sizeNL (ks.set i k) + sizeN (ks.getD i default) = sizeNL ks + sizeN k := by
  rw [set_at hi, sizeNL_append, sizeNL_cons, sizeNL_kid hi]; omega
theorem set_bytes {ks : List T} {i : Nat} (hi : i < ks.length) (k : T) : bytesL (ks.set i k) + bytesT (ks.getD i default) = bytesL ks + bytesT k := by
  rw [set_at hi, bytesL_append, bytesL_cons, bytesL_kid hi]; omega
theorem set_fm {ks : List T} {i : Nat} (hi : i < ks.length) {k : T} (h : fmL ks) (hk : fmA k) : fmL (ks.set i k) := by
  rw [set_at hi, fmL_append, fmL_cons]
  have := (fmL_kid hi).1 h
  exact ⟨this.1, hk, this.2.2⟩

/-- A directory's form: its names and how many. -/
theorem dir_form {x : Bool} {d : List UInt8} {ns : List ByteArray} {ks : List T} (h : formedT (.mk 3 x d ns ks) = true) : ns.length = ks.length ∧ risingT ns = true ∧ ∀ ns' (ks' : List T), ns'.length = ks'.length → risingT ns' = true → formedT (.mk 3 x d ns' ks') = true := by
  rw [formedT_dir] at h
  simp only [Bool.and_eq_true, decide_eq_true_eq] at h
  refine ⟨h.1.2, h.2, fun ns' ks' h1 h2 => ?_⟩
  rw [formedT_dir]
  simp only [Bool.and_eq_true, decide_eq_true_eq]
  exact ⟨⟨h.1.1, h1⟩, h2⟩

/-- What is put in the place of what is there. -/
theorem put_there {k : UInt8} {x : Bool} {d : List UInt8} {ns : List ByteArray} {ks : List T} {nm : ByteArray} (hl : ns.length = ks.length) (ht : tkn ns nm = true) (tt : T) : insT (delT (.mk k x d ns ks) (plc ns nm)) (plc ns nm) nm tt = .mk k x d ns (ks.set (plc ns nm) tt) := by
  obtain ⟨h1, h2⟩ := tkn_spec ht
  obtain ⟨i, hi⟩ : ∃ i, i = plc ns nm := ⟨_, rfl⟩
  rw [← hi] at h1 h2 ⊢
  have t1 : (ns.take i).length = i := by rw [List.length_take]; omega
  have t2 : (ks.take i).length = i := by rw [List.length_take]; omega
  show T.mk k x d ((ns.take i ++ ns.drop (i + 1)).take i ++ nm :: (ns.take i ++ ns.drop (i + 1)).drop i) ((ks.take i ++ ks.drop (i + 1)).take i ++ tt :: (ks.take i ++ ks.drop (i + 1)).drop i) = _
  rw [List.take_left' t1, List.drop_left' t1, List.take_left' t2, List.drop_left' t2, set_at (by omega)]
  congr 1
  have e : nm = ns[i] := by rw [← h2, List.getD_eq_getElem?_getD, List.getElem?_eq_getElem h1]; rfl
  rw [e, ← List.drop_eq_getElem_cons h1, List.take_append_drop]

/-- What a change that is done leaves. -/
structure Done2 (t : T) (dep a b : Nat) (r : ER) : Prop where
  fm : fmA r.2.1
  hgt : dep + heightT r.2.1 ≤ 17
  num : r.2.2.1 + sizeN t = a + sizeN r.2.1
  byt : r.2.2.2 + bytesT t = b + bytesT r.2.1
  most : r.2.2.1 ≤ 4096
  much : r.2.2.2 ≤ 65536

theorem Done2.lim {t : T} {dep a b : Nat} {r : ER} (h : Done2 t dep a b r) (hl : Lim t dep a b) : Lim r.2.1 dep r.2.2.1 r.2.2.2 := by
  obtain ⟨h1, h2, h3, h4, h5, h6, h7⟩ := hl
  have e1 := h.num
  have e2 := h.byt
  exact ⟨h.fm, h2, h.hgt, by omega, h.most, by omega, h.much⟩

theorem act_done (e : Ed) (hput : ∀ k, e = .put k → fmA k) {nm : ByteArray} (hnm : tName nm.data.toList = true) {x : Bool} {d : List UInt8} {ns : List ByteArray} {ks : List T} {dep a b : Nat} (hl : Lim (.mk 3 x d ns ks) dep a b) (h0 : (actE e nm dep (.mk 3 x d ns ks) a b).1 = 0) : Done2 (.mk 3 x d ns ks) dep a b (actE e nm dep (.mk 3 x d ns ks) a b) := by
  obtain ⟨h1, h2, h3, h4, h5, h6, h7⟩ := hl
  rw [fmA_mk] at h1
  rw [heightT_mk] at h3
  rw [sizeN_mk] at h4
  rw [bytesT_mk] at h6
  obtain ⟨hlen, hris, hform⟩ := dir_form h1.1
  have hpl := plc_le ns nm
  -- laying at a place that isn't taken
  have hlay : ∀ k, fmA k → tkn ns nm = false → (layE nm (plc ns nm) dep (.mk 3 x d ns ks) k a b).1 = 0 → Done2 (.mk 3 x d ns ks) dep a b (layE nm (plc ns nm) dep (.mk 3 x d ns ks) k a b) := fun k hk ht h0 => by
    have hc : ¬ (4096 < a + sizeN k ∨ 65536 < b + bytesT k ∨ 16 < dep + heightT k) := fun hc => by
      unfold layE at h0
      simp only [if_pos hc] at h0
      cases h0
    have hm : Nat.max (heightL ks) (1 + heightT k) ≤ 17 - dep := max_le' (by omega) (by omega)
    refine ⟨?_, ?_, ?_, ?_, ?_, ?_⟩
    · show fmA (.mk 3 x d (ns.take (plc ns nm) ++ nm :: ns.drop (plc ns nm)) (ks.take (plc ns nm) ++ k :: ks.drop (plc ns nm)))
      rw [fmA_mk]
      exact ⟨hform _ _ (by simp only [List.length_append, List.length_cons, List.length_take, List.length_drop]; omega) (rising_ins hris hnm ht), ins_fm h1.2 hk⟩
    · show dep + heightT (.mk 3 x d (ns.take (plc ns nm) ++ nm :: ns.drop (plc ns nm)) (ks.take (plc ns nm) ++ k :: ks.drop (plc ns nm))) ≤ 17
      rw [heightT_mk, ins_height]; omega
    · show a + sizeN k + sizeN (.mk 3 x d ns ks) = a + sizeN (.mk 3 x d (ns.take (plc ns nm) ++ nm :: ns.drop (plc ns nm)) (ks.take (plc ns nm) ++ k :: ks.drop (plc ns nm)))
      rw [sizeN_mk, sizeN_mk, ins_size]; omega
    · show b + bytesT k + bytesT (.mk 3 x d ns ks) = b + bytesT (.mk 3 x d (ns.take (plc ns nm) ++ nm :: ns.drop (plc ns nm)) (ks.take (plc ns nm) ++ k :: ks.drop (plc ns nm)))
      rw [bytesT_mk, bytesT_mk, ins_bytes]; omega
    · show a + sizeN k ≤ 4096
      omega
    · show b + bytesT k ≤ 65536
      omega
  cases e with
  | mk =>
    unfold actE at h0 ⊢
    by_cases ht : tkn (namesT (.mk 3 x d ns ks)) nm = true
    · simp only [if_pos ht] at h0; cases h0
    · simp only [if_neg ht] at h0 ⊢
      exact hlay emptyDir (by unfold emptyDir; rw [fmA_mk]; exact ⟨by decide +kernel, trivial⟩) (by simpa [namesT] using ht) h0
  | put k =>
    unfold actE at h0 ⊢
    by_cases ht : tkn (namesT (.mk 3 x d ns ks)) nm = true
    · simp only [if_pos ht] at h0 ⊢
      have ht' : tkn ns nm = true := ht
      have hi : plc ns nm < ks.length := by rw [← hlen]; exact (tkn_spec ht').1
      have hkid : kidT (.mk 3 x d ns ks) (plc ns nm) = ks.getD (plc ns nm) default := rfl
      have hs1 := sizeNL_get hi
      have hs2 := bytesL_kid hi
      show Done2 _ _ _ _ (layE nm (plc ns nm) dep (delT (.mk 3 x d ns ks) (plc ns nm)) k (a - sizeN (ks.getD (plc ns nm) default)) (b - bytesT (ks.getD (plc ns nm) default)))
      have h0' : (layE nm (plc ns nm) dep (delT (.mk 3 x d ns ks) (plc ns nm)) k (a - sizeN (ks.getD (plc ns nm) default)) (b - bytesT (ks.getD (plc ns nm) default))).1 = 0 := h0
      have hc : ¬ (4096 < a - sizeN (ks.getD (plc ns nm) default) + sizeN k ∨ 65536 < b - bytesT (ks.getD (plc ns nm) default) + bytesT k ∨ 16 < dep + heightT k) := fun hc => by
        unfold layE at h0'
        simp only [if_pos hc] at h0'
        cases h0'
      have hm : Nat.max (heightL ks) (1 + heightT k) ≤ 17 - dep := max_le' (by omega) (by omega)
      have hset := put_there (k := 3) (x := x) (d := d) hlen ht' k
      have z1 := set_size hi k
      have z2 := set_bytes hi k
      have z3 := set_height hi k
      refine ⟨?_, ?_, ?_, ?_, ?_, ?_⟩
      · show fmA (insT (delT (.mk 3 x d ns ks) (plc ns nm)) (plc ns nm) nm k)
        rw [hset, fmA_mk]
        exact ⟨hform _ _ (by rw [List.length_set]; exact hlen) hris, set_fm hi h1.2 (hput k rfl)⟩
      · show dep + heightT (insT (delT (.mk 3 x d ns ks) (plc ns nm)) (plc ns nm) nm k) ≤ 17
        rw [hset, heightT_mk]; omega
      · show a - sizeN (ks.getD (plc ns nm) default) + sizeN k + sizeN (.mk 3 x d ns ks) = a + sizeN (insT (delT (.mk 3 x d ns ks) (plc ns nm)) (plc ns nm) nm k)
        rw [hset, sizeN_mk, sizeN_mk]; omega
      · show b - bytesT (ks.getD (plc ns nm) default) + bytesT k + bytesT (.mk 3 x d ns ks) = b + bytesT (insT (delT (.mk 3 x d ns ks) (plc ns nm)) (plc ns nm) nm k)
        rw [hset, bytesT_mk, bytesT_mk]; omega
      · show a - sizeN (ks.getD (plc ns nm) default) + sizeN k ≤ 4096
        omega
      · show b - bytesT (ks.getD (plc ns nm) default) + bytesT k ≤ 65536
        omega
    · simp only [if_neg ht] at h0 ⊢
      exact hlay k (hput k rfl) (by simpa [namesT] using ht) h0
  | drop =>
    unfold actE at h0 ⊢
    by_cases ht : tkn (namesT (.mk 3 x d ns ks)) nm = true
    · simp only [if_pos ht] at h0 ⊢
      have ht' : tkn ns nm = true := ht
      have hi : plc ns nm < ks.length := by rw [← hlen]; exact (tkn_spec ht').1
      have hs1 := del_size hi
      have hs2 := del_bytes hi
      have hs3 := del_height hi
      refine ⟨?_, ?_, ?_, ?_, ?_, ?_⟩
      · show fmA (.mk 3 x d (ns.take (plc ns nm) ++ ns.drop (plc ns nm + 1)) (ks.take (plc ns nm) ++ ks.drop (plc ns nm + 1)))
        rw [fmA_mk]
        exact ⟨hform _ _ (by simp only [List.length_append, List.length_take, List.length_drop]; omega) (rising_del hris _), del_fm hi h1.2⟩
      · show dep + heightT (.mk 3 x d (ns.take (plc ns nm) ++ ns.drop (plc ns nm + 1)) (ks.take (plc ns nm) ++ ks.drop (plc ns nm + 1))) ≤ 17
        rw [heightT_mk]; omega
      · show a - sizeN (ks.getD (plc ns nm) default) + sizeN (.mk 3 x d ns ks) = a + sizeN (.mk 3 x d (ns.take (plc ns nm) ++ ns.drop (plc ns nm + 1)) (ks.take (plc ns nm) ++ ks.drop (plc ns nm + 1)))
        rw [sizeN_mk, sizeN_mk]; omega
      · show b - bytesT (ks.getD (plc ns nm) default) + bytesT (.mk 3 x d ns ks) = b + bytesT (.mk 3 x d (ns.take (plc ns nm) ++ ns.drop (plc ns nm + 1)) (ks.take (plc ns nm) ++ ks.drop (plc ns nm + 1)))
        rw [bytesT_mk, bytesT_mk]; omega
      · show a - sizeN (ks.getD (plc ns nm) default) ≤ 4096
        omega
      · show b - bytesT (ks.getD (plc ns nm) default) ≤ 65536
        omega
    · simp only [if_neg ht] at h0; cases h0

theorem chg_done (e : Ed) (hput : ∀ k, e = .put k → fmA k) : ∀ (l : List ByteArray), (∀ x ∈ l, tName x.data.toList = true) → ∀ (t : T) (dep a b : Nat), Lim t dep a b → (chgE e l dep t a b).1 = 0 → Done2 t dep a b (chgE e l dep t a b)
  | [], _, t, dep, a, b, _, h0 => by rw [chgE] at h0; cases h0
  | nm :: r, hn, .mk k x d ns ks, dep, a, b, hl, h0 => by
    rw [chgE] at h0 ⊢
    by_cases hk : kindT (.mk k x d ns ks) ≠ 3
    · simp only [if_pos hk] at h0; cases h0
    · rw [if_neg hk] at h0 ⊢
      have hk3 : k = 3 := by simpa [kindT] using hk
      subst hk3
      by_cases hr : r = []
      · rw [if_pos hr] at h0 ⊢
        exact act_done e hput (hn nm (by simp)) hl h0
      · rw [if_neg hr] at h0 ⊢
        by_cases ht : tkn (namesT (.mk 3 x d ns ks)) nm = true
        · rw [if_pos ht] at h0 ⊢
          have ht' : tkn ns nm = true := ht
          have h1 := hl.1
          rw [fmA_mk] at h1
          obtain ⟨hlen, hris, hform⟩ := dir_form h1.1
          have hi : plc ns nm < ks.length := by rw [← hlen]; exact (tkn_spec ht').1
          have hq := chg_done e hput r (fun x hx => hn x (List.mem_cons_of_mem _ hx)) _ (dep + 1) a b (hl.kid hi) h0
          have z1 := set_size hi (chgE e r (dep + 1) (ks.getD (plc ns nm) default) a b).2.1
          have z2 := set_bytes hi (chgE e r (dep + 1) (ks.getD (plc ns nm) default) a b).2.1
          have z3 := set_height hi (chgE e r (dep + 1) (ks.getD (plc ns nm) default) a b).2.1
          have hh := hl.2.2.1
          rw [heightT_mk] at hh
          have hm : Nat.max (heightL ks) (1 + heightT (chgE e r (dep + 1) (ks.getD (plc ns nm) default) a b).2.1) ≤ 17 - dep := max_le' (by omega) (by have := hq.hgt; omega)
          refine ⟨?_, ?_, ?_, ?_, hq.most, hq.much⟩
          · show fmA (.mk 3 x d ns (ks.set (plc ns nm) (chgE e r (dep + 1) (ks.getD (plc ns nm) default) a b).2.1))
            rw [fmA_mk]
            exact ⟨hform _ _ (by rw [List.length_set]; exact hlen) hris, set_fm hi h1.2 hq.fm⟩
          · show dep + heightT (.mk 3 x d ns (ks.set (plc ns nm) (chgE e r (dep + 1) (ks.getD (plc ns nm) default) a b).2.1)) ≤ 17
            rw [heightT_mk]; omega
          · show (chgE e r (dep + 1) (ks.getD (plc ns nm) default) a b).2.2.1 + sizeN (.mk 3 x d ns ks) = a + sizeN (.mk 3 x d ns (ks.set (plc ns nm) (chgE e r (dep + 1) (ks.getD (plc ns nm) default) a b).2.1))
            have := hq.num
            rw [sizeN_mk, sizeN_mk]; omega
          · show (chgE e r (dep + 1) (ks.getD (plc ns nm) default) a b).2.2.2 + bytesT (.mk 3 x d ns ks) = b + bytesT (.mk 3 x d ns (ks.set (plc ns nm) (chgE e r (dep + 1) (ks.getD (plc ns nm) default) a b).2.1))
            have := hq.byt
            rw [bytesT_mk, bytesT_mk]; omega
        · simp only [if_neg ht] at h0; cases h0

/-- What is dropped is right. -/
theorem get_lim : ∀ (l : List ByteArray) (t : T) (dep a b : Nat), Lim t dep a b → (chgE .drop l dep t a b).1 = 0 → ∃ dep', Lim (getE l t) dep' a b
  | [], t, dep, a, b, _, h0 => by rw [chgE] at h0; cases h0
  | nm :: r, .mk k x d ns ks, dep, a, b, hl, h0 => by
    rw [chgE] at h0
    by_cases hk : kindT (.mk k x d ns ks) ≠ 3
    · simp only [if_pos hk] at h0; cases h0
    · rw [if_neg hk] at h0
      have hlen := hl.lens
      by_cases hr : r = []
      · rw [if_pos hr] at h0
        unfold actE at h0
        by_cases ht : tkn (namesT (.mk k x d ns ks)) nm = true
        · have hi : plc ns nm < ks.length := by rw [← hlen]; exact (tkn_spec (show tkn ns nm = true from ht)).1
          subst hr
          exact ⟨_, hl.kid hi⟩
        · simp only [if_neg ht] at h0; cases h0
      · rw [if_neg hr] at h0
        by_cases ht : tkn (namesT (.mk k x d ns ks)) nm = true
        · rw [if_pos ht] at h0
          have hi : plc ns nm < ks.length := by rw [← hlen]; exact (tkn_spec (show tkn ns nm = true from ht)).1
          exact get_lim r _ (dep + 1) a b (hl.kid hi) h0
        · simp only [if_neg ht] at h0; cases h0

end Go.Proofs.YtbempgdndmchlaaDoor

namespace Go.Proofs.YtbempgdndmchlaaDoor
open Go.RowKit
set_option linter.unusedVariables false

/-- A tree that is worked on, with how many trees and bytes it has. -/
def WK (w : World) (B p : Nat) (t : T) (a b : Nat) (S : List Nat) : Prop := ∃ R, WS w B p p 0 (R ++ [.int .i64 (a : Int), .int .i64 (b : Int)]) R 52 R a b t S
/-- Behind a change of it. -/
def TopP (w : World) (B p : Nat) (S Sx : List Nat) (q : Option Nat) (gt : T) (r : ER) (w' : World) : Prop :=
  Fr (p :: S) w w' ∧ (r.1 = 0 → ∃ S', WK w' B p r.2.1 r.2.2.1 r.2.2.2 S' ∧ (∀ g ∈ S', g ∈ S ∨ g ∈ Sx ∨ w.heap.size ≤ g) ∧ Got w' B q gt S S')

theorem WK.later {w w' : World} {B p a b : Nat} {t : T} {S : List Nat} (h : WK w B p t a b S) (hb : Below w.heap.size w w') : WK w' B p t a b S := by
  obtain ⟨R, h⟩ := h
  exact ⟨R, h.later hb⟩
theorem WK.lt {w : World} {B p a b : Nat} {t : T} {S : List Nat} (h : WK w B p t a b S) : p < w.heap.size ∧ ∀ g ∈ S, g < w.heap.size := by
  obtain ⟨R, h⟩ := h
  exact ⟨h.hX.lt, fun g hg => h.mt.lt hg⟩

theorem wk_of {wz w' : World} {B p : Nat} {X : List Value} {R : List Value} {S Sx : List Nat} {q : Option Nat} {gt t' : T} {a' b' : Nat} (h : WQ wz B p p 0 X 52 R S Sx q gt t' a' b' w') :
    ∃ S', WK w' B p t' a' b' S' ∧ (∀ g ∈ S', g ∈ S ∨ g ∈ Sx ∨ wz.heap.size ≤ g) ∧ Got w' B q gt S S' := by
  obtain ⟨X', cs', R', S', k1, k2, k3, k4, k5, k6⟩ := h
  refine ⟨S', ⟨R', ?_⟩, k5, k6⟩
  rcases k1.hp with ⟨_, _, _, e4, e5⟩ | ⟨e1, _⟩
  · rw [e4, ← e5] at k1
    exact k1
  · exact absurd rfl e1
theorem fr_dup {p : Nat} {S : List Nat} {w w' : World} (h : Fr (p :: p :: S) w w') : Fr (p :: S) w w' := h.mono (fun g hg _ => by
  rcases List.mem_cons.1 hg with h | h
  · exact List.mem_cons.2 (.inl h)
  · exact h)
theorem top_fr {w wz w' : World} {p : Nat} {S Z : List Nat} (hb : Below w.heap.size w wz) (hZ : ∀ g ∈ Z, w.heap.size ≤ g) (h : Fr (p :: p :: (S ++ Z)) wz w') : Fr (p :: S) w w' :=
  ((Fr.of_below (S := []) hb).mono (S' := p :: S) (fun g hg _ => by cases hg)).trans (fr_dup h) (fun g hg hl => by
      simp only [List.mem_cons, List.mem_append] at hg
      rcases hg with h | h | h
      · exact List.mem_cons.2 (.inl h)
      · exact List.mem_cons_of_mem _ h
      · have := hZ g h; omega)
theorem top_of {w wz w' : World} {B p : Nat} {X : List Value} {R : List Value} {S Z Sx : List Nat} {q : Option Nat} {gt : T} {r : ER} {e : Ending} (hb : Below w.heap.size w wz) (hZ : ∀ g ∈ Z, w.heap.size ≤ g) (h : WP wz B p p 0 X 52 R S Z Sx q gt r e w') :
    e = .returned (.int .i64 (r.1 : Int)) ∧ TopP w B p S Sx q gt r w' := by
  obtain ⟨h1, h2, h3, h4⟩ := h
  refine ⟨h1, top_fr hb hZ h2, fun h0 => ?_⟩
  obtain ⟨S', k1, k2, k3⟩ := wk_of (h4 h0)
  refine ⟨S', k1, fun g hg => ?_, k3⟩
  rcases k2 g hg with h | h | h
  · exact .inl h
  · exact .inr (.inl h)
  · exact .inr (.inr (Nat.le_trans hb.size h))

set_option maxRecDepth 100000 in
set_option maxHeartbeats 2000000 in
theorem change_any {B p : Nat} (ed : Ed) (E : World → Prop) (hE : ∀ w w' : World, Below w.heap.size w w' → E w → E w') (f : Nat) (caps : Array Value) (he : ∀ args w, (callFunc f args).run Tryd.prog w = .ok (.enter f args) w) (Z Sx : List Nat) (q : Option Nat) (hZr : ∀ w, E w → Rows w Z)
    (hact : ∀ (w : World) (db o : Nat) (X cs : List Value) (ty : TypeId) (R : List Value) (a b : Nat) (k : UInt8) (x : Bool) (d : List UInt8) (ns : List ByteArray) (ks : List T) (S : List Nat) (nm : ByteArray) (dep : Nat), E w → WS w B p db o X cs ty R a b (.mk k x d ns ks) S → (∀ g ∈ Z, g ∉ S ∧ g ≠ db ∧ g ≠ p) → (∀ g ∈ Sx, g ∉ S ∧ g ≠ db ∧ g ≠ p) → B ≤ w.heap.size → Lim (.mk k x d ns ks) dep a b →
      Calls Tryd.prog f (#[.agg (spC db o nm (plc ns nm) dep (tkn ns nm)).toArray] ++ caps) w (WP w B p db o X ty R S Z Sx q (ks.getD (plc ns nm) default) (actE ed nm dep (.mk k x d ns ks) a b)))
    (l : List ByteArray) (hne : l ≠ []) (t : T) (w : World) (R : List Value) (a b : Nat) (S : List Nat) (na : Option Addr) (n c : Nat) (hEw : E w) (h : WS w B p p 0 (R ++ [.int .i64 (a : Int), .int .i64 (b : Int)]) R 52 R a b t S) (hZ : ∀ g ∈ Z, g ∉ S ∧ g ≠ p) (hSx : ∀ g ∈ Sx, g ∉ S ∧ g ≠ p) (hB : B ≤ w.heap.size) (hlim : Lim t 1 a b) (hl : IsS w na n c l) :
      Calls Tryd.prog 41 #[.pointer (some ⟨p, 0, none⟩), .slice na n c, .func (.func f) #[] caps] w (WP w B p p 0 (R ++ [.int .i64 (a : Int), .int .i64 (b : Int)]) 52 R S Z Sx q (getE l t) (chgE ed l 1 t a b)) := by
  have HC := Lib.hid (down_any ed E hE f caps he Z Sx q hZr hact l hne t w p 0 _ R _ R a b S 1 na n c hEw h (fun g hg => ⟨(hZ g hg).1, (hZ g hg).2, (hZ g hg).2⟩) (fun g hg => ⟨(hSx g hg).1, (hSx g hg).2, (hSx g hg).2⟩) hB hlim hl)
  clear hE hact hZr hEw h hZ hSx hB hlim hl he
  obtain ⟨G, hG⟩ : ∃ G, G = chgE ed l 1 t a b := ⟨_, rfl⟩
  rw [← hG] at HC ⊢
  clear hG
  go_enter Tryd.func41, Tryd.ntmps41
  go_wp2_with fail
  refine HC.out.mono ?_
  rintro e w1 ⟨rfl, h2⟩
  obtain ⟨D, hD⟩ : ∃ D, D = G.1 := ⟨_, rfl⟩
  rw [← hD] at h2 ⊢
  have H2 := Lib.hid h2
  have HD := Lib.hid hD
  clear h2 hD
  go_wp2_with fail
  go_ret
  exact ⟨by rw [← HD.out]; rfl, by rw [← HD.out]; exact H2.out⟩

theorem results_ct {P : Program} {fn : Func} {p u : Tmp} {ty : TypeId} (h : fn.results = #[.cell p ty, .tmp u]) (tmps : Array Value) (w : World) (g : Nat) (t : TypeId) (cs : Array Value) (fr : Nat × Nat) (d : TypeDesc)
    (hp : tmps.getD p undef = .pointer (some ⟨g, 0, none⟩)) (hg : w.heap[g]? = some (.cells cs t fr))
    (hu : P.underlying ty = some d) (hd : (match d with | .struct _ | .array _ _ => true | _ => false) = true) (hi : (P.info? ty).map (·.size) = some cs.size) :
    (results fn tmps).run P w = .ok (.tuple #[.agg cs, tmps.getD u undef]) w := by
  have hp' : tmps[p]?.getD undef = .pointer (some ⟨g, 0, none⟩) := by simpa using hp
  simp [results, h, hp', asAddr, run_loadVar_row w g t ty cs fr d hg hu hd hi]
theorem app1 (x y : Value) : (#[x] ++ #[y] : Array Value) = #[x, y] := rfl
theorem app2 (x y z : Value) : (#[x] ++ #[y, z] : Array Value) = #[x, y, z] := rfl

set_option maxRecDepth 100000 in
set_option maxHeartbeats 2000000 in
theorem mkdir_any {w : World} {B p a b : Nat} {t : T} {S : List Nat} {na : Option Addr} {n c : Nat} {l : List ByteArray} (h : WK w B p t a b S) (hB : B ≤ w.heap.size) (hlim : Lim t 1 a b) (hl : IsS w na n c l) (hne : l ≠ []) :
    Calls Tryd.prog 27 #[.pointer (some ⟨p, 0, none⟩), .slice na n c] w fun e w' => e = .returned (.int .i64 ((chgE .mk l 1 t a b).1 : Int)) ∧ TopP w B p S [] none (getE l t) (chgE .mk l 1 t a b) w' := by
  obtain ⟨R, h⟩ := h
  obtain ⟨w1, hw1⟩ : ∃ w1, w1 = w.alloc (.cells #[.pointer (some ⟨p, 0, none⟩)] 47) := ⟨_, rfl⟩
  have b1 : Below w.heap.size w w1 := by rw [hw1]; exact (Below.refl _ _).alloc (Nat.le_refl _) _
  have g1 : Has w1 w.heap.size [.pointer (some ⟨p, 0, none⟩)] 47 := by rw [hw1]; exact Has.new w [.pointer (some ⟨p, 0, none⟩)] _
  have HCH := Lib.hid (change_any (B := B) (p := p) .mk (fun W => Has W w.heap.size [.pointer (some ⟨p, 0, none⟩)] 47) (fun W W' hb hh => has_fr hh (Fr.of_below (S := []) hb) (by simp)) 42 #[.pointer (some ⟨w.heap.size, 0, none⟩)] (enters_of Tryd.func42 (by kernel_rfl) rfl) [] [] none (fun W _ => Rows.nil W)
    (fun W db o X cs ty R a b k x d ns ks S nm dep hEW hW _ _ hBW hL => by rw [app1]; exact mkdir_act hEW hW hBW hL) l hne t w1 R a b S na n c g1 (h.later b1) (fun g hg => by cases hg) (fun g hg => by cases hg) (Nat.le_trans hB b1.size) hlim (hl.later b1))
  have B1 := Lib.hid b1
  have HW1 := Lib.hid hw1
  have hld := Has.cellAt g1 (i := 0) rfl
  clear h hB hlim hl hne g1 b1
  obtain ⟨G, hG⟩ : ∃ G, G = chgE .mk l 1 t a b := ⟨_, rfl⟩
  rw [← hG] at HCH ⊢
  clear hG hw1
  have hmf : ∀ (fn : Fn) (first cap : Array Value) (w : World), (Instr.makeFunc fn first cap).run Tryd.prog w = .ok (.func fn first cap) w := fun _ _ _ _ => rfl
  go_enter Tryd.func27, Tryd.ntmps27
  go_upto_region 1 with fail
  rw [← HW1.out]
  go_wp2_with fail
  refine HCH.out.mono ?_
  intro e w2 h2
  obtain ⟨q1, q2⟩ := top_of B1.out (fun g hg => by cases hg) h2
  subst q1
  obtain ⟨D, hD⟩ : ∃ D, D = G.1 := ⟨_, rfl⟩
  rw [← hD]
  have H2 := Lib.hid q2
  have HD := Lib.hid hD
  clear h2 hD q2
  go_wp2_with fail
  go_ret
  exact ⟨by rw [← HD.out]; rfl, H2.out⟩

set_option maxRecDepth 100000 in
set_option maxHeartbeats 2000000 in
theorem put_any {w : World} {B p a b : Nat} {t tt : T} {S Sx : List Nat} {na : Option Addr} {n c : Nat} {l : List ByteArray} {ct : List Value} (h : WK w B p t a b S) (hB : B ≤ w.heap.size) (hlim : Lim t 1 a b) (hl : IsS w na n c l) (hne : l ≠ [])
    (hm : MT w B ct tt Sx) (hSx : ∀ g ∈ Sx, g ∉ S ∧ g ≠ p) (hsm : Small tt) (hz : sizeT tt = some (sizeN tt, bytesT tt)) (hN : sizeN tt ≤ 1000000) :
    Calls Tryd.prog 29 #[.pointer (some ⟨p, 0, none⟩), .slice na n c, .agg ct.toArray] w fun e w' => e = .returned (.int .i64 ((chgE (.put tt) l 1 t a b).1 : Int)) ∧ TopP w B p S Sx none (getE l t) (chgE (.put tt) l 1 t a b) w' := by
  obtain ⟨R, h⟩ := h
  obtain ⟨w0, hw0⟩ : ∃ w0, w0 = w.alloc (.cells #[.pointer (some ⟨p, 0, none⟩)] 47) := ⟨_, rfl⟩
  have s0 : w0.heap.size = w.heap.size + 1 := by rw [hw0]; simp
  obtain ⟨w1, hw1⟩ : ∃ w1, w1 = w0.alloc (.cells ct.toArray 26) := ⟨_, rfl⟩
  have b1 : Below w.heap.size w w1 := by rw [hw1, hw0]; exact ((Below.refl _ _).alloc (Nat.le_refl _) _).alloc (by simp) _
  have g1 : Has w1 w.heap.size [.pointer (some ⟨p, 0, none⟩)] 47 := by rw [hw1, hw0]; exact (Has.new w [.pointer (some ⟨p, 0, none⟩)] _).alloc _
  have t1 : Has w1 (w.heap.size + 1) ct 26 := by rw [hw1, ← s0]; exact Has.new w0 ct _
  have hpl : p < w.heap.size := h.hX.lt
  have hSl : ∀ g ∈ S, g < w.heap.size := fun g hg => h.mt.lt hg
  have HCH := Lib.hid (change_any (B := B) (p := p) (.put tt) (fun W => Has W w.heap.size [.pointer (some ⟨p, 0, none⟩)] 47 ∧ Has W (w.heap.size + 1) ct 26 ∧ MT W B ct tt Sx) (fun W W' hb hh => ⟨has_fr hh.1 (Fr.of_below (S := []) hb) (by simp), has_fr hh.2.1 (Fr.of_below (S := []) hb) (by simp), hh.2.2.later hb⟩)
    44 #[.pointer (some ⟨w.heap.size, 0, none⟩), .pointer (some ⟨w.heap.size + 1, 0, none⟩)] (enters_of Tryd.func44 (by kernel_rfl) rfl) [w.heap.size, w.heap.size + 1] Sx none (fun W hW => Rows.cons hW.1 (by decide) (Rows.cons hW.2.1 (by decide) (Rows.nil W)))
    (fun W db o X cs ty R a b k x d ns ks S nm dep hEW hW hZ hSX hBW hL => by rw [app2]; exact put_act hEW.1 hEW.2.1 hEW.2.2 hSX (hZ _ (by simp)) (hZ _ (by simp)) hsm hz hN hW hBW hL) l hne t w1 R a b S na n c ⟨g1, t1, hm.later b1⟩ (h.later b1) (fun g hg => by
      simp only [List.mem_cons, List.not_mem_nil, or_false] at hg
      rcases hg with rfl | rfl
      · exact ⟨fun hm => by have := hSl _ hm; omega, by omega⟩
      · exact ⟨fun hm => by have := hSl _ hm; omega, by omega⟩) hSx (Nat.le_trans hB b1.size) hlim (hl.later b1))
  have B1 := Lib.hid b1
  have HW1 : Hid (w1 = (w.alloc (.cells #[.pointer (some ⟨p, 0, none⟩)] 47)).alloc (.cells ct.toArray 26)) := Lib.hid (by rw [hw1, hw0])
  have hld := Has.cellAt g1 (i := 0) rfl
  clear h hB hlim hl hne g1 b1 t1 hm hSx hsm hz hN hpl hSl hw1 hw0 s0
  obtain ⟨G, hG⟩ : ∃ G, G = chgE (.put tt) l 1 t a b := ⟨_, rfl⟩
  rw [← hG] at HCH ⊢
  clear hG
  have hmf : ∀ (fn : Fn) (first cap : Array Value) (w : World), (Instr.makeFunc fn first cap).run Tryd.prog w = .ok (.func fn first cap) w := fun _ _ _ _ => rfl
  go_enter Tryd.func29, Tryd.ntmps29
  go_upto_region 1 with fail
  rw [← HW1.out]
  go_wp2_with fail
  refine HCH.out.mono ?_
  intro e w2 h2
  obtain ⟨q1, q2⟩ := top_of B1.out (fun g hg => by
    simp only [List.mem_cons, List.not_mem_nil, or_false] at hg
    omega) h2
  subst q1
  obtain ⟨D, hD⟩ : ∃ D, D = G.1 := ⟨_, rfl⟩
  rw [← hD]
  have H2 := Lib.hid q2
  have HD := Lib.hid hD
  clear h2 hD q2
  go_wp2_with fail
  go_ret
  exact ⟨by rw [← HD.out]; rfl, H2.out⟩

/-- What drop tells: five cells; they read as what was there. -/
def DropP (w : World) (B p : Nat) (S : List Nat) (gt : T) (r : ER) (e : Ending) (w' : World) : Prop :=
  ∃ gcs, e = .returned (.tuple #[.agg gcs.toArray, .int .i64 (r.1 : Int)]) ∧ gcs.length = 5 ∧ gcs.toArray.all (·.oneCell') = true ∧ Fr (p :: S) w w' ∧ (r.1 = 0 → ∃ S' Sg, WK w' B p r.2.1 r.2.2.1 r.2.2.2 S' ∧ (∀ g ∈ S', g ∈ S ∨ w.heap.size ≤ g) ∧ MT w' B gcs gt Sg ∧ (∀ g ∈ Sg, g ∈ S ∧ g ∉ S'))

theorem WK.fr {w w' : World} {F : List Nat} {B p a b : Nat} {t : T} {S : List Nat} (h : WK w B p t a b S) (hf : Fr F w w') (hF : Rows w F) (h1 : p ∉ F) (h3 : ∀ g ∈ S, g ∉ F) : WK w' B p t a b S := by
  obtain ⟨R, h⟩ := h
  exact ⟨R, h.fr hf hF h1 h1 h3⟩

set_option maxRecDepth 100000 in
set_option maxHeartbeats 4000000 in
theorem drop_any {w : World} {B p a b : Nat} {t : T} {S : List Nat} {na : Option Addr} {n c : Nat} {l : List ByteArray} (h : WK w B p t a b S) (hB : B ≤ w.heap.size) (hlim : Lim t 1 a b) (hl : IsS w na n c l) (hne : l ≠ []) :
    Calls Tryd.prog 31 #[.pointer (some ⟨p, 0, none⟩), .slice na n c] w (DropP w B p S (getE l t) (chgE .drop l 1 t a b)) := by
  obtain ⟨R, h⟩ := h
  obtain ⟨w0, hw0⟩ : ∃ w0, w0 = w.alloc (.cells #[.pointer (some ⟨p, 0, none⟩)] 47) := ⟨_, rfl⟩
  have s0 : w0.heap.size = w.heap.size + 1 := by rw [hw0]; simp
  obtain ⟨wy, hwy⟩ : ∃ wy, wy = w0.alloc (.cells #[.int .u8 0, .bool false, .slice none 0 0, .slice none 0 0, .slice none 0 0] 26) := ⟨_, rfl⟩
  have sy : wy.heap.size = w.heap.size + 1 + 1 := by rw [hwy]; simp [s0]
  obtain ⟨w1, hw1⟩ : ∃ w1, w1 = wy.alloc (.cells #[.int .u8 0, .bool false, .slice none 0 0, .slice none 0 0, .slice none 0 0] 26) := ⟨_, rfl⟩
  have b1 : Below w.heap.size w w1 := by rw [hw1, hwy, hw0]; exact (((Below.refl _ _).alloc (Nat.le_refl _) _).alloc (by simp) _).alloc (by simp; omega) _
  have g1 : Has w1 w.heap.size [.pointer (some ⟨p, 0, none⟩)] 47 := by rw [hw1, hwy, hw0]; exact ((Has.new w [.pointer (some ⟨p, 0, none⟩)] _).alloc _).alloc _
  have r1 : Has w1 (w.heap.size + 1) zK 26 := by rw [hw1, hwy, ← s0]; exact (Has.new w0 zK _).alloc _
  have q1 : Has w1 (w.heap.size + 1 + 1) zK 26 := by rw [hw1, ← sy]; exact Has.new wy zK _
  have hpl : p < w.heap.size := h.hX.lt
  have hSl : ∀ g ∈ S, g < w.heap.size := fun g hg => h.mt.lt hg
  have HCH := Lib.hid (change_any (B := B) (p := p) .drop (fun W => Has W w.heap.size [.pointer (some ⟨p, 0, none⟩)] 47 ∧ Has W (w.heap.size + 1 + 1) zK 26) (fun W W' hb hh => ⟨has_fr hh.1 (Fr.of_below (S := []) hb) (by simp), has_fr hh.2 (Fr.of_below (S := []) hb) (by simp)⟩)
    47 #[.pointer (some ⟨w.heap.size, 0, none⟩), .pointer (some ⟨w.heap.size + 1 + 1, 0, none⟩)] (enters_of Tryd.func47 (by kernel_rfl) rfl) [w.heap.size + 1 + 1] [] (some (w.heap.size + 1 + 1)) (fun W hW => Rows.cons hW.2 (by decide) (Rows.nil W))
    (fun W db o X cs ty R a b k x d ns ks S nm dep hEW hW hZ hSX hBW hL => by rw [app2]; exact drop_act hEW.1 hEW.2 rfl (hZ _ (by simp)) (by simp) hW hL) l hne t w1 R a b S na n c ⟨g1, q1⟩ (h.later b1) (fun g hg => by
      simp only [List.mem_cons, List.not_mem_nil, or_false] at hg
      subst hg
      exact ⟨fun hm => by have := hSl _ hm; omega, by omega⟩) (fun g hg => by cases hg) (Nat.le_trans hB b1.size) hlim (hl.later b1))
  have B1 := Lib.hid b1
  have R1 := Lib.hid r1
  have Q1 := Lib.hid q1
  have HPL := Lib.hid hpl
  have HSL := Lib.hid hSl
  have HW1 : Hid (w1 = ((w.alloc (.cells #[.pointer (some ⟨p, 0, none⟩)] 47)).alloc (.cells #[.int .u8 0, .bool false, .slice none 0 0, .slice none 0 0, .slice none 0 0] 26)).alloc (.cells #[.int .u8 0, .bool false, .slice none 0 0, .slice none 0 0, .slice none 0 0] 26)) := Lib.hid (by rw [hw1, hwy, hw0])
  have hld := Has.cellAt g1 (i := 0) rfl
  clear h hB hlim hl hne g1 b1 r1 q1 hpl hSl hw1 hw0 hwy s0 sy
  obtain ⟨G, hG⟩ : ∃ G, G = chgE .drop l 1 t a b := ⟨_, rfl⟩
  rw [← hG] at HCH ⊢
  clear hG
  have hmf : ∀ (fn : Fn) (first cap : Array Value) (w : World), (Instr.makeFunc fn first cap).run Tryd.prog w = .ok (.func fn first cap) w := fun _ _ _ _ => rfl
  go_enter Tryd.func31, Tryd.ntmps31
  go_upto_region 2 with fail
  rw [← HW1.out]
  go_wp2_with fail
  refine HCH.out.mono ?_
  intro e w2 h2
  obtain ⟨e1, hfp, hfe, hwq⟩ := h2
  have hsz : w.heap.size + 1 + 1 < w1.heap.size := Q1.out.lt
  have hft := top_fr B1.out (fun g hg => by
    simp only [List.mem_cons, List.not_mem_nil, or_false] at hg
    omega) hfp
  subst e1
  have hr2 : Has w2 (w.heap.size + 1) zK 26 := has_fr R1.out hfp (fun hm => by
    simp only [List.mem_cons, List.mem_append, List.not_mem_nil, or_false] at hm
    have := HPL.out
    rcases hm with h | h | h | h
    · omega
    · omega
    · have := HSL.out _ h; omega
    · omega)
  have hgot : ∃ gcs, Has w2 (w.heap.size + 1 + 1) gcs 26 ∧ gcs.length = 5 ∧ gcs.toArray.all (·.oneCell') = true ∧ (G.1 = 0 → ∃ S' Sg, WK w2 B p G.2.1 G.2.2.1 G.2.2.2 S' ∧ (∀ g ∈ S', g ∈ S ∨ w1.heap.size ≤ g) ∧ MT w2 B gcs (getE l t) Sg ∧ (∀ g ∈ Sg, g ∈ S ∧ g ∉ S')) := by
    by_cases h0 : G.1 = 0
    · obtain ⟨S', k1, k2, k3⟩ := wk_of (hwq h0)
      obtain ⟨gcs, Sg, m1, m2, m3, m4⟩ := k3 _ rfl
      refine ⟨gcs, m1, m2.five, ?_, fun _ => ⟨S', Sg, k1, fun g hg => ?_, m2, fun g hg => ⟨m3 g hg, m4 g hg⟩⟩⟩
      · rw [Array.all_eq_true_iff_forall_mem]
        intro u hu
        exact m2.one u (by simpa using hu)
      · rcases k2 g hg with h | h | h
        · exact .inl h
        · cases h
        · exact .inr h
    · refine ⟨zK, has_fr Q1.out (hfe h0) (fun hm => ?_), rfl, by decide +kernel, fun h => absurd h h0⟩
      simp only [List.mem_cons] at hm
      have := HPL.out
      rcases hm with h | h | h
      · omega
      · omega
      · have := HSL.out _ h; omega
  obtain ⟨gcs, hgc, hg5, hg1, hgo⟩ := hgot
  obtain ⟨D, hD⟩ : ∃ D, D = G.1 := ⟨_, rfl⟩
  rw [← hD]
  have HD := Lib.hid hD
  have HGO := Lib.hid hgo
  have HGR : Hid (w2.heap[w.heap.size + 1 + 1]? = some (.cells gcs.toArray 26 (0, 0))) := Lib.hid hgc
  have HRR : Hid (w2.heap[w.heap.size + 1]? = some (.cells zK.toArray 26 (0, 0))) := Lib.hid hr2
  have HG5 := Lib.hid (infoL hg5)
  have HGS : Hid (zK.toArray.size = gcs.toArray.size) := Lib.hid (by simp [zK, hg5])
  have HG1 := Lib.hid hg1
  have HGL := Lib.hid hg5
  have HFIN : Hid (DropP w B p S (getE l t) G (.returned (.tuple #[.agg gcs.toArray, .int .i64 (D : Int)])) (w2.setRow (w.heap.size + 1) gcs.toArray)) := Lib.hid (by
    have hf3 : Fr [w.heap.size + 1] w2 (w2.setRow (w.heap.size + 1) gcs.toArray) := (Fr.refl _ _).setRow (.inl (by simp)) _
    have hr3 : Rows w2 [w.heap.size + 1] := Rows.cons hr2 (by decide) (Rows.nil _)
    have hnp : p ∉ [w.heap.size + 1] := fun hm => by simp only [List.mem_cons, List.not_mem_nil, or_false] at hm; have := HPL.out; omega
    have hn1 : ∀ g, g ∈ S ∨ w1.heap.size ≤ g → g ∉ [w.heap.size + 1] := fun g hg hm => by
      simp only [List.mem_cons, List.not_mem_nil, or_false] at hm
      rcases hg with h | h
      · have := HSL.out g h; omega
      · omega
    have hft3 : Fr (p :: S) w (w2.setRow (w.heap.size + 1) gcs.toArray) := hft.trans hf3 (fun g hg hl => by simp only [List.mem_cons, List.not_mem_nil, or_false] at hg; omega)
    refine ⟨gcs, by rw [hD], hg5, hg1, hft3, fun h0 => ?_⟩
    obtain ⟨S', Sg, k1, k2, k3, k4⟩ := hgo h0
    exact ⟨S', Sg, k1.fr hf3 hr3 hnp (fun g hg => hn1 g (k2 g hg)), fun g hg => (k2 g hg).imp id (fun h => by omega), k3.frame hf3 hr3 (fun g hg => hn1 g (.inl (k4 g hg).1)), k4⟩)
  clear hgo hgc hr2 hg5 hg1 hfp hfe hwq hD hft hsz
  go_wp2_with (first
    | (refine wpList_load_row rfl 26 _ rfl (w.heap.size + 1 + 1) rfl 26 gcs.toArray (0, 0) _ HGR.out Tryd.underlying26 rfl HG5.out ?_)
    | (refine wpList_store_row rfl 26 _ _ rfl (w.heap.size + 1) gcs.toArray rfl rfl 26 zK.toArray HRR.out HG5.out HGS.out HG1.out ?_))
  refine bodyPost_ret (results_ct (fn := Tryd.f31) (p := 4) (u := 5) (ty := 26) Tryd.results31 _ _ (w.heap.size + 1) 26 gcs.toArray (0, 0) _ rfl (setRow_heap _ _ _ _ _ _ HRR.out) Tryd.underlying26 rfl HG5.out) rfl ?_
  exact HFIN.out

end Go.Proofs.YtbempgdndmchlaaDoor

namespace Go.Proofs.YtbempgdndmchlaaDoor
open Go.RowKit
set_option linter.unusedVariables false

theorem cell_block {w w' : World} {p : Addr} (h : w'.heap[p.block]? = w.heap[p.block]?) : w'.cell? p = w.cell? p := by
  unfold World.cell?
  rw [h]
theorem IsS.fr {F : List Nat} {w w' : World} {a : Option Addr} {n c : Nat} {l : List ByteArray} (h : IsS w a n c l) (hf : Fr F w w') (hd : ∀ x, a = some x → x.block ∉ F) : IsS w' a n c l := by
  refine ⟨h.length, ?_, h.nil, h.room⟩
  rcases h.at_ with h0 | ⟨b, off, rfl, hb, hc⟩
  · exact .inl h0
  · exact .inr ⟨b, off, rfl, Nat.lt_of_lt_of_le hb hf.size, fun i hi => (cell_block (p := ⟨b, off + i, none⟩) (hf.block b hb (hd _ rfl))).trans (hc i hi)⟩

/-- The error of a path that may not be the root's, and its names. -/
def belN (s : List UInt8) : Nat := if 400 < s.length then 2 else if s = [] then 1 else if (pieces s).all tName = true then 0 else 4
def nmE (s : List UInt8) : List ByteArray := (pieces s).map fun p => ⟨p.toArray⟩
theorem nmE_of {l : List ByteArray} {s : List UInt8} (h : l.map (·.data.toList) = pieces s) : l = nmE s := by
  unfold nmE
  rw [← h, List.map_map]
  conv => lhs; rw [← List.map_id l]
  exact List.map_congr_left fun x _ => by cases x; rfl
theorem nmE_ne (s : List UInt8) : nmE s ≠ [] := by
  unfold nmE
  intro h
  have hp : pieces s ≠ [] := by
    cases s with
    | nil => simp [pieces]
    | cons c t =>
      unfold pieces
      split
      · simp
      · split <;> simp
  exact hp (List.map_eq_nil_iff.1 h)
theorem nmE_names {s : List UInt8} (h : belN s = 0) : ∀ x ∈ nmE s, tName x.data.toList = true := by
  unfold belN at h
  split at h
  · cases h
  · split at h
    · cases h
    · split at h
      · rename_i h3
        intro x hx
        obtain ⟨p, hp, rfl⟩ := List.mem_map.1 hx
        exact (List.all_eq_true.1 h3) p hp
      · cases h

/-- What below tells. -/
def BelP (s : List UInt8) (w : World) (e : Ending) (w' : World) : Prop :=
  ∃ a n c l, IsS w' a n c l ∧ e = .returned (.tuple #[.slice a n c, .int .i64 (belN s : Int)]) ∧ (belN s = 0 → l = nmE s) ∧ (∀ x, a = some x → w.heap.size ≤ x.block) ∧ Below w.heap.size w w'

set_option maxRecDepth 100000 in
set_option maxHeartbeats 4000000 in
theorem below_any (s : ByteArray) (w : World) (hm : MaxW w) : Calls Tryd.prog 26 #[.string s] w (BelP s.data.toList w) := by
  obtain ⟨L, hL⟩ : ∃ L, L = s.data.toList := ⟨_, rfl⟩
  have HS := Lib.hid (split_any s w hm)
  rw [← hL] at HS ⊢
  clear hL hm
  by_cases h1 : 400 < L.length
  · have hsp : splitT L = ([], 2) := by unfold splitT; rw [if_pos h1]
    have hbn : belN L = 2 := by unfold belN; rw [if_pos h1]
    have HBN := Lib.hid hbn
    rw [hsp] at HS
    clear hsp hbn h1
    go_enter Tryd.func26, Tryd.ntmps26
    go_wp2_with fail
    refine HS.out.mono ?_
    rintro e w1 ⟨⟨a, n, c, l, hl, hml, rfl, ho⟩, hb⟩
    have HL := Lib.hid hl
    have HO := Lib.hid ho
    have HB := Lib.hid hb
    clear hl hml ho hb
    go_wp2_with fail
    go_ret2
    exact ⟨a, n, c, l, HL.out, by rw [HBN.out]; rfl, (fun h => by rw [HBN.out] at h; cases h), HO.out, HB.out⟩
  · by_cases h2 : L = []
    · have hsp : splitT L = ([], 0) := by unfold splitT; rw [if_neg h1, if_pos h2]
      have hbn : belN L = 1 := by unfold belN; rw [if_neg h1, if_pos h2]
      have HBN := Lib.hid hbn
      rw [hsp] at HS
      clear hsp hbn h1 h2
      go_enter Tryd.func26, Tryd.ntmps26
      go_wp2_with fail
      refine HS.out.mono ?_
      rintro e w1 ⟨⟨a, n, c, l, hl, hml, rfl, ho⟩, hb⟩
      have hl0 : l = [] := List.map_eq_nil_iff.1 hml
      have hn0 : n = 0 := by rw [← hl.length, hl0]; rfl
      subst hn0
      have HB := Lib.hid hb
      clear hl hml ho hb hl0
      go_wp2_with fail
      go_ret2
      exact ⟨none, 0, 0, [], ⟨rfl, .inl rfl, fun _ => ⟨rfl, rfl⟩, Nat.le_refl _, Nat.zero_le _⟩, by rw [HBN.out]; rfl, (fun h => by rw [HBN.out] at h; cases h), (fun x hx => by cases hx), HB.out⟩
    · by_cases h3 : (pieces L).all tName = true
      · have hsp : splitT L = (pieces L, 0) := by unfold splitT; rw [if_neg h1, if_neg h2, if_pos h3]
        have hbn : belN L = 0 := by unfold belN; rw [if_neg h1, if_neg h2, if_pos h3]
        have HBN := Lib.hid hbn
        rw [hsp] at HS
        clear hsp hbn h1 h2 h3
        go_enter Tryd.func26, Tryd.ntmps26
        go_wp2_with fail
        refine HS.out.mono ?_
        rintro e w1 ⟨⟨a, n, c, l, hl, hml, rfl, ho⟩, hb⟩
        have hln : l = nmE L := nmE_of hml
        have hn0 : ¬ n = 0 := by
          rw [← hl.length, hln]
          exact fun h => nmE_ne L (List.eq_nil_of_length_eq_zero h)
        have HL := Lib.hid hl
        have HO := Lib.hid ho
        have HB := Lib.hid hb
        have HLN := Lib.hid hln
        clear hl hml ho hb hln
        go_wp2_with fail
        go_ret2
        exact ⟨a, n, c, l, HL.out, by rw [HBN.out]; rfl, fun _ => HLN.out, HO.out, HB.out⟩
      · have hsp : splitT L = ([], 4) := by unfold splitT; rw [if_neg h1, if_neg h2, if_neg h3]
        have hbn : belN L = 4 := by unfold belN; rw [if_neg h1, if_neg h2, if_neg h3]
        have HBN := Lib.hid hbn
        rw [hsp] at HS
        clear hsp hbn h1 h2 h3
        go_enter Tryd.func26, Tryd.ntmps26
        go_wp2_with fail
        refine HS.out.mono ?_
        rintro e w1 ⟨⟨a, n, c, l, hl, hml, rfl, ho⟩, hb⟩
        have HL := Lib.hid hl
        have HO := Lib.hid ho
        have HB := Lib.hid hb
        clear hl hml ho hb
        go_wp2_with fail
        go_ret2
        exact ⟨a, n, c, l, HL.out, by rw [HBN.out]; rfl, (fun h => by rw [HBN.out] at h; cases h), HO.out, HB.out⟩

/-- Does a path stand in another one? -/
def withB (l m : List ByteArray) : Bool := decide (m.length < l.length ∧ l.take m.length = m)

set_option maxRecDepth 100000 in
set_option maxHeartbeats 4000000 in
theorem within_any {w : World} {a1 a2 : Option Addr} {n1 c1 n2 c2 : Nat} {l m : List ByteArray} (h1 : IsS w a1 n1 c1 l) (h2 : IsS w a2 n2 c2 m) (hne : m ≠ []) :
    Calls Tryd.prog 46 #[.slice a1 n1 c1, .slice a2 n2 c2] w fun e w' => e = .returned (.bool (withB l m)) ∧ Below w.heap.size w w' := by
  have e1 := h1.length
  have e2 := h2.length
  have r1 := h1.room
  have r2 := h2.room
  unfold maxLen at r1 r2
  have hn2 : ¬ n2 = 0 := fun e => hne (List.eq_nil_of_length_eq_zero (by omega))
  by_cases hlt : n2 < n1
  · obtain ⟨b1, o1, rfl, hb1, hc1⟩ : ∃ b off, a1 = some ⟨b, off, none⟩ ∧ b < w.heap.size ∧ ∀ i, i < n1 → w.cell? ⟨b, off + i, none⟩ = some (.string (l.getD i ⟨#[]⟩)) := by
      rcases h1.at_ with h0 | h
      · omega
      · exact h
    obtain ⟨b2, o2, rfl, hb2, hc2⟩ : ∃ b off, a2 = some ⟨b, off, none⟩ ∧ b < w.heap.size ∧ ∀ i, i < n2 → w.cell? ⟨b, off + i, none⟩ = some (.string (m.getD i ⟨#[]⟩)) := by
      rcases h2.at_ with h0 | h
      · omega
      · exact h
    have hw : withB l m = decide (l.take n2 = m.take n2) := by
      unfold withB
      rw [e2, List.take_of_length_le (show m.length ≤ n2 by omega)]
      simp only [e1, hlt, true_and]
    have HQ := Lib.hid (Tryd.slices_Equal_string b1 o1 n2 c1 b2 o2 n2 c2 l m w (by omega) (by omega) (by omega) (by omega) (fun j hj => hc1 j (by omega)) (fun j hj => hc2 j (by omega)))
    rw [← hw] at HQ
    have hi : (n2 : Int) < (n1 : Int) := by omega
    have hi2 : (n2 : Int) ≤ (c1 : Int) := by omega
    have hi3 : n2 ≤ c1 := by omega
    clear h1 h2 hne e1 e2 hc1 hc2 hw hb1 hb2
    obtain ⟨V, hV⟩ : ∃ V, V = withB l m := ⟨_, rfl⟩
    rw [← hV] at HQ ⊢
    clear hV
    go_enter Tryd.func46, Tryd.ntmps46
    go_wp2_with (refine HQ.out.mono ?_; rintro e w1 ⟨rfl, q, rfl⟩)
    go_ret
    exact ⟨by cases V <;> rfl, ⟨rfl, rfl, rfl, Nat.le_refl _, fun _ _ => rfl⟩⟩
  · have hw : withB l m = false := by
      unfold withB
      simp only [decide_eq_false_iff_not]
      rintro ⟨h, _⟩
      omega
    have hi : ¬ (n2 : Int) < (n1 : Int) := by omega
    rw [hw]
    clear h1 h2 hne e1 e2 hw r1 r2
    go_enter Tryd.func46, Tryd.ntmps46
    go_wp2_with fail
    go_ret
    exact ⟨rfl, Below.refl _ _⟩

/-- What an edit of a tree that is worked on tells, and leaves. -/
def OpP (w : World) (B p : Nat) (S : List Nat) (r : ER) (e : Ending) (w' : World) : Prop :=
  e = .returned (.int .i64 (r.1 : Int)) ∧ Fr (p :: S) w w' ∧ (r.1 = 0 → ∃ S', WK w' B p r.2.1 r.2.2.1 r.2.2.2 S' ∧ (∀ g ∈ S', g ∈ S ∨ w.heap.size ≤ g))

theorem OpP.of_top {w : World} {B p : Nat} {S : List Nat} {gt : T} {r : ER} {w' : World} (h : TopP w B p S [] none gt r w') : OpP w B p S r (.returned (.int .i64 (r.1 : Int))) w' :=
  ⟨rfl, h.1, fun h0 => by
    obtain ⟨S', k1, k2, _⟩ := h.2 h0
    exact ⟨S', k1, fun g hg => by
      rcases k2 g hg with h | h | h
      · exact .inl h
      · cases h
      · exact .inr h⟩⟩

def moveE (l m : List ByteArray) (t : T) (a b : Nat) : ER :=
  if (chgE .drop l 1 t a b).1 ≠ 0 then chgE .drop l 1 t a b else if withB l m || withB m l then (10, (chgE .drop l 1 t a b).2)
  else chgE (.put (getE l t)) m 1 (chgE .drop l 1 t a b).2.1 (chgE .drop l 1 t a b).2.2.1 (chgE .drop l 1 t a b).2.2.2

set_option maxRecDepth 100000 in
set_option maxHeartbeats 8000000 in
theorem move_any {w : World} {B p a b : Nat} {t : T} {S : List Nat} {na ma : Option Addr} {n c n' c' : Nat} {l m : List ByteArray} (h : WK w B p t a b S) (hB : B ≤ w.heap.size) (hlim : Lim t 1 a b) (hl : IsS w na n c l) (hne : l ≠ []) (hnm : ∀ x ∈ l, tName x.data.toList = true)
    (hml : IsS w ma n' c' m) (hme : m ≠ []) (hd1 : ∀ x, na = some x → x.block ∉ p :: S) (hd2 : ∀ x, ma = some x → x.block ∉ p :: S) :
    Calls Tryd.prog 30 #[.pointer (some ⟨p, 0, none⟩), .slice na n c, .slice ma n' c'] w (OpP w B p S (moveE l m t a b)) := by
  obtain ⟨D, hD⟩ : ∃ D, D = chgE .drop l 1 t a b := ⟨_, rfl⟩
  have hmv : (D.1 ≠ 0 → moveE l m t a b = D) ∧ (D.1 = 0 → (withB l m || withB m l) = true → moveE l m t a b = (10, D.2)) ∧ (D.1 = 0 → (withB l m || withB m l) = false → moveE l m t a b = chgE (.put (getE l t)) m 1 D.2.1 D.2.2.1 D.2.2.2) := by
    unfold moveE
    rw [← hD]
    refine ⟨fun h => by rw [if_pos h], fun h h2 => by rw [if_neg (by simp [h]), if_pos h2], fun h h2 => by rw [if_neg (by simp [h]), if_neg (by simp [h2])]⟩
  have hdone : D.1 = 0 → Lim D.2.1 1 D.2.2.1 D.2.2.2 ∧ ∃ dep', Lim (getE l t) dep' a b := fun h0 => by
    rw [hD] at h0 ⊢
    exact ⟨(chg_done .drop (fun k hk => by cases hk) l hnm t 1 a b hlim h0).lim hlim, get_lim l t 1 a b hlim h0⟩
  have HDR := Lib.hid (drop_any h hB hlim hl hne)
  rw [← hD] at HDR
  have hrow : Rows w (p :: S) := by
    obtain ⟨R, hh⟩ := h
    exact Rows.cons hh.hR (by decide) hh.mt.rows
  have HNP : Hid (p ∉ S) := Lib.hid (by
    obtain ⟨R, hh⟩ := h
    exact hh.np)
  have HMV := Lib.hid hmv
  have HDN := Lib.hid hdone
  have HL := Lib.hid hl
  have HM := Lib.hid hml
  have HNE := Lib.hid hne
  have HME := Lib.hid hme
  have HD1 := Lib.hid hd1
  have HD2 := Lib.hid hd2
  have HB := Lib.hid hB
  obtain ⟨M, hM⟩ : ∃ M, M = moveE l m t a b := ⟨_, rfl⟩
  rw [← hM] at HMV ⊢
  clear h hB hlim hl hne hnm hml hme hd1 hd2 hD hmv hdone hrow hM
  go_enter Tryd.func30, Tryd.ntmps30
  go_wp2_with fail
  refine HDR.out.mono ?_
  rintro e w2 ⟨gcs, rfl, hg5, hg1, hf, hok⟩
  obtain ⟨Dc, hDc⟩ : ∃ Dc, Dc = D.1 := ⟨_, rfl⟩
  rw [← hDc]
  have HDC := Lib.hid hDc
  obtain ⟨w3, hw3⟩ : ∃ w3, w3 = (w2.alloc (.cells #[.int .u8 0, .bool false, .slice none 0 0, .slice none 0 0, .slice none 0 0] 26)).setRow w2.heap.size gcs.toArray := ⟨_, rfl⟩
  have HN : Hid ((w2.alloc (.cells #[.int .u8 0, .bool false, .slice none 0 0, .slice none 0 0, .slice none 0 0] 26)).heap[w2.heap.size]? = some (.cells zK.toArray 26 (0, 0))) := Lib.hid (Has.new w2 zK _)
  have b3 : Below w2.heap.size w2 w3 := by rw [hw3]; exact below_setRow ((Below.refl _ _).alloc (Nat.le_refl _) _) (Nat.le_refl _) _
  have g3 : Hid (w3.heap[w2.heap.size]? = some (.cells gcs.toArray 26 (0, 0))) := Lib.hid (by rw [hw3]; exact setRow_heap _ _ _ _ _ _ HN.out)
  have HG5 := Lib.hid (infoL hg5)
  have HGS : Hid (zK.toArray.size = gcs.toArray.size) := Lib.hid (by simp [zK, hg5])
  have HG1 := Lib.hid hg1
  have HF := Lib.hid hf
  have HOK := Lib.hid hok
  have B3 := Lib.hid b3
  have F3 : Hid (Fr (p :: S) w w3) := Lib.hid (hf.trans (Fr.of_below (S := []) b3) (fun g hg => by cases hg))
  have HW3 := Lib.hid hw3
  clear hDc b3 hg5 hg1 hf hok hw3
  go_upto_region 2 with (refine wpList_store_row rfl 26 _ _ rfl w2.heap.size gcs.toArray rfl rfl 26 zK.toArray HN.out HG5.out HGS.out HG1.out ?_)
  rw [← HW3.out]
  by_cases h0 : Dc = 0
  · have hd0 : D.1 = 0 := by rw [← HDC.out]; exact h0
    obtain ⟨S', Sg, k1, k2, k3, k4⟩ := HOK.out hd0
    obtain ⟨hl3, dep', hgl⟩ := HDN.out hd0
    have WK3 := Lib.hid (k1.later B3.out)
    have MT3 := Lib.hid (k3.later B3.out)
    have K2 := Lib.hid k2
    have K4 := Lib.hid k4
    have L3 := Lib.hid hl3
    have GL := Lib.hid hgl
    have IL := Lib.hid (HL.out.fr F3.out HD1.out)
    have IM := Lib.hid (HM.out.fr F3.out HD2.out)
    have hmv2 := HMV.out.2.1 hd0
    have hmv3 := HMV.out.2.2 hd0
    have HV2 := Lib.hid hmv2
    have HV3 := Lib.hid hmv3
    subst h0
    clear k1 k2 k3 k4 hl3 hgl hmv2 hmv3 hd0
    obtain ⟨V1, hV1⟩ : ∃ V1, V1 = withB l m := ⟨_, rfl⟩
    obtain ⟨V2, hV2⟩ : ∃ V2, V2 = withB m l := ⟨_, rfl⟩
    have HC1 := Lib.hid (within_any IL.out IM.out HME.out)
    have HC2 := Lib.hid (fun (W : World) (hW : Below w3.heap.size w3 W) => within_any (IM.out.later hW) (IL.out.later hW) HNE.out)
    rw [← hV1] at HC1 HV2 HV3
    rw [← hV2] at HC2 HV2 HV3
    clear hV1 hV2
    go_wp2_with fail
    refine HC1.out.mono ?_
    rintro e w4 ⟨rfl, hb4⟩
    have B4 := Lib.hid hb4
    have HC2' := Lib.hid (HC2.out w4 hb4)
    clear hb4
    rcases Bool.eq_false_or_eq_true V1 with rfl | rfl
    · go_wp2_with fail
      go_ret
      rw [HV2.out (by rfl)]
      exact ⟨rfl, F3.out.trans (Fr.of_below (S := []) B4.out) (fun g hg => by cases hg), fun h => by simp at h⟩
    · go_wp2_with (refine HC2'.out.mono ?_)
      rintro e w5 ⟨rfl, hb5⟩
      have B5 := Lib.hid (B4.out.trans (hb5.mono B4.out.size))
      clear hb5
      rcases Bool.eq_false_or_eq_true V2 with rfl | rfl
      · go_wp2_with fail
        go_ret
        rw [HV2.out (by rfl)]
        exact ⟨rfl, F3.out.trans (Fr.of_below (S := []) B5.out) (fun g hg => by cases hg), fun h => by simp at h⟩
      · have g5 : Hid (w5.heap[w2.heap.size]? = some (.cells gcs.toArray 26 (0, 0))) := Lib.hid ((B5.out.block _ ((Array.getElem?_eq_some_iff.1 g3.out).1)).trans g3.out)
        have hsz := GL.out.small
        have HPT := Lib.hid (put_any (Sx := Sg) (tt := getE l t) (ct := gcs) (WK3.out.later B5.out) (Nat.le_trans HB.out (Nat.le_trans F3.out.size B5.out.size)) L3.out (IM.out.later B5.out) HME.out (MT3.out.later B5.out) (fun g hg => ⟨(K4.out g hg).2, fun e => HNP.out (e ▸ (K4.out g hg).1)⟩) hsz.1 GL.out.size (by omega))
        clear hsz
        have hv3 := HV3.out (by rfl)
        obtain ⟨G, hG⟩ : ∃ G, G = chgE (.put (getE l t)) m 1 D.2.1 D.2.2.1 D.2.2.2 := ⟨_, rfl⟩
        rw [← hG] at hv3 HPT
        have HVG := Lib.hid hv3
        clear hG hv3
        go_wp2_with (refine wpList_load_row rfl 26 _ rfl w2.heap.size rfl 26 gcs.toArray (0, 0) _ g5.out Tryd.underlying26 rfl HG5.out ?_)
        refine HPT.out.mono ?_
        rintro e w6 ⟨rfl, hf6, hok6⟩
        obtain ⟨E6, hE6⟩ : ∃ E6, E6 = G.1 := ⟨_, rfl⟩
        rw [← hE6] at hok6 ⊢
        have HE6 := Lib.hid hE6
        have HF6 := Lib.hid hf6
        have HO6 := Lib.hid hok6
        clear hE6 hf6 hok6
        go_wp2_with fail
        go_ret
        rw [HVG.out]
        have hsz5 : w.heap.size ≤ w5.heap.size := Nat.le_trans F3.out.size B5.out.size
        refine ⟨by rw [← HE6.out]; rfl, (F3.out.trans (Fr.of_below (S := []) B5.out) (fun g hg => by cases hg)).trans HF6.out (fun g hg hl => ?_), fun hz => ?_⟩
        · rcases List.mem_cons.1 hg with h1 | h1
          · exact List.mem_cons.2 (.inl h1)
          · rcases K2.out g h1 with h2 | h2
            · exact List.mem_cons_of_mem _ h2
            · omega
        · obtain ⟨S2, q1, q2, _⟩ := HO6.out (by rw [HE6.out]; exact hz)
          refine ⟨S2, q1, fun g hg => ?_⟩
          rcases q2 g hg with h1 | h1 | h1
          · exact K2.out g h1
          · exact .inl (K4.out g h1).1
          · exact .inr (by omega)
  · have h0i : ¬ ((Dc : Int) = 0) := by omega
    have hd0 : D.1 ≠ 0 := by rw [← HDC.out]; exact h0
    have hmv1 := HMV.out.1 hd0
    have HV1 := Lib.hid hmv1
    have HD0 := Lib.hid hd0
    clear hmv1 hd0
    go_wp2_with fail
    go_ret
    rw [HV1.out]
    exact ⟨by rw [← HDC.out]; rfl, F3.out, fun h => absurd h HD0.out⟩

end Go.Proofs.YtbempgdndmchlaaDoor

namespace Go.Proofs.YtbempgdndmchlaaDoor
open Go.RowKit
set_option linter.unusedVariables false

/-- An edit: what it does, where, from where, a tree. -/
structure EdD where
  kind : UInt8
  path : ByteArray
  src : ByteArray
  tree : T

/-- Eight cells that read as an edit. -/
def IsX (w : World) (m : Nat) (cs : List Value) (x : EdD) : Prop := ∃ ct, cs = [.int .u8 (x.kind.toNat : Int), .string x.path, .string x.src] ++ ct ∧ IsT w m ct x.tree

/-- A tree behind an edit. -/
def applyE (x : EdD) (t : T) (a b : Nat) : ER :=
  if belN x.path.data.toList ≠ 0 then (belN x.path.data.toList, t, a, b)
  else if x.kind = 1 then chgE .mk (nmE x.path.data.toList) 1 t a b
  else if x.kind = 2 then (if (sizeT x.tree).isSome then chgE (.put x.tree) (nmE x.path.data.toList) 1 t a b else (3, t, a, b))
  else if x.kind = 3 then (if belN x.src.data.toList ≠ 0 then (belN x.src.data.toList, t, a, b) else moveE (nmE x.src.data.toList) (nmE x.path.data.toList) t a b)
  else if x.kind = 4 then chgE .drop (nmE x.path.data.toList) 1 t a b
  else (3, t, a, b)

theorem op_of {w wz w' : World} {B p : Nat} {S Sx : List Nat} {gt : T} {r : ER} (hb : Below w.heap.size w wz) (hSx : ∀ g ∈ Sx, w.heap.size ≤ g) (h : TopP wz B p S Sx none gt r w') : OpP w B p S r (.returned (.int .i64 (r.1 : Int))) w' :=
  ⟨rfl, ((Fr.of_below (S := []) hb).mono (fun g hg _ => by cases hg)).trans h.1 (fun g hg _ => hg), fun h0 => by
    obtain ⟨S', k1, k2, _⟩ := h.2 h0
    exact ⟨S', k1, fun g hg => by
      rcases k2 g hg with h | h | h
      · exact .inl h
      · exact .inr (hSx g h)
      · exact .inr (Nat.le_trans hb.size h)⟩⟩
theorem op_below {w wz w' : World} {B p : Nat} {S : List Nat} {r : ER} {e : Ending} (hb : Below w.heap.size w wz) (h : OpP wz B p S r e w') : OpP w B p S r e w' :=
  ⟨h.1, ((Fr.of_below (S := []) hb).mono (fun g hg _ => by cases hg)).trans h.2.1 (fun g hg _ => hg), fun h0 => by
    obtain ⟨S', k1, k2⟩ := h.2.2 h0
    exact ⟨S', k1, fun g hg => (k2 g hg).imp id (fun h => Nat.le_trans hb.size h)⟩⟩
theorem op_err {w w' : World} {B p : Nat} {S : List Nat} {t : T} {a b c : Nat} (hb : Below w.heap.size w w') (hc : c ≠ 0) : OpP w B p S (c, t, a, b) (.returned (.int .i64 (c : Int))) w' :=
  ⟨rfl, (Fr.of_below (S := []) hb).mono (fun g hg _ => by cases hg), fun h => absurd h hc⟩

theorem sizeT_get {t : T} (h : (sizeT t).isSome = true) : sizeT t = some (sizeN t, bytesT t) ∧ fmA t ∧ Small t ∧ sizeN t ≤ 4096 := by
  obtain ⟨⟨x, y⟩, hx⟩ := Option.isSome_iff_exists.1 h
  obtain ⟨h1, h2, h3, h4, rfl, rfl⟩ := (sizeT_iff t x y).1 hx
  exact ⟨hx, h1, small_of _ t (Nat.le_refl _) h1 h4 (by omega), h3⟩

set_option maxRecDepth 100000 in
set_option maxHeartbeats 20000000 in
theorem apply_any {w : World} {B p a b m : Nat} {t : T} {S : List Nat} {cs : List Value} {x : EdD} (h : WK w B p t a b S) (hB : B ≤ w.heap.size) (hlim : Lim t 1 a b) (hx : IsX w m cs x) (hm : MaxW w) (hmx : 0 < B) :
    Calls Tryd.prog 19 #[.pointer (some ⟨p, 0, none⟩), .agg cs.toArray] w (OpP w B p S (applyE x t a b)) := by
  obtain ⟨k, path, src, tt⟩ := x
  obtain ⟨ct, rfl, hT⟩ := hx
  obtain ⟨c0, c1, c2, c3, c4, rfl⟩ := five_list (isT_five hT)
  obtain ⟨E8, hE8⟩ : ∃ E8, E8 = ([.int .u8 (k.toNat : Int), .string path, .string src, c0, c1, c2, c3, c4] : List Value) := ⟨_, rfl⟩
  rw [show ([.int .u8 (k.toNat : Int), .string path, .string src] ++ [c0, c1, c2, c3, c4] : List Value) = E8 from hE8.symm]
  obtain ⟨w1, hw1⟩ : ∃ w1, w1 = w.alloc (.cells E8.toArray 41) := ⟨_, rfl⟩
  have b1 : Below w.heap.size w w1 := by rw [hw1]; exact (Below.refl _ _).alloc (Nat.le_refl _) _
  have g1 : Has w1 w.heap.size E8 41 := by rw [hw1]; exact Has.new w E8 _
  have m1 : MaxW w1 := hm.below b1 (Nat.lt_of_lt_of_le hmx hB)
  have hlt := h.lt
  -- what the edit does
  obtain ⟨P, hP⟩ : ∃ P, P = path.data.toList := ⟨_, rfl⟩
  obtain ⟨Q, hQ⟩ : ∃ Q, Q = src.data.toList := ⟨_, rfl⟩
  obtain ⟨V, hV⟩ : ∃ V, V = applyE ⟨k, path, src, tt⟩ t a b := ⟨_, rfl⟩
  have hVu : V = if belN P ≠ 0 then (belN P, t, a, b) else if k = 1 then chgE .mk (nmE P) 1 t a b else if k = 2 then (if (sizeT tt).isSome then chgE (.put tt) (nmE P) 1 t a b else (3, t, a, b))
      else if k = 3 then (if belN Q ≠ 0 then (belN Q, t, a, b) else moveE (nmE Q) (nmE P) t a b) else if k = 4 then chgE .drop (nmE P) 1 t a b else (3, t, a, b) := by rw [hV, hP, hQ]; rfl
  rw [← hV]
  have HVU := Lib.hid hVu
  have HBEL := Lib.hid (below_any path w1 m1)
  rw [← hP] at HBEL
  have HBEQ := Lib.hid (fun (W : World) (hW : MaxW W) => below_any src W hW)
  rw [← hQ] at HBEQ
  have H := Lib.hid h
  have HB := Lib.hid hB
  have HLIM := Lib.hid hlim
  have HT := Lib.hid hT
  have HMX := Lib.hid hmx
  have HLT := Lib.hid hlt
  have B1 := Lib.hid b1
  have G1 := Lib.hid g1
  have M1 := Lib.hid m1
  have HW1 := Lib.hid hw1
  have HE8 := Lib.hid hE8
  have hq1 := Has.cellAt g1 (i := 1) (v := .string path) (by rw [hE8]; rfl)
  have HI5 : Hid ((Tryd.prog.info? 26).map (·.size) = some ([c0, c1, c2, c3, c4] : List Value).length) := Lib.hid (by kernel_rfl)
  clear h hB hlim hT hm hmx hlt b1 g1 m1 hw1 hE8 hVu hV hP hQ
  go_enter Tryd.func19, Tryd.ntmps19
  go_upto_region 1 with fail
  rw [← HW1.out]
  go_wp2_with fail
  refine HBEL.out.mono ?_
  rintro e w2 ⟨a1, n1, k1, l1, hl1, rfl, hl1n, ho1, hb2⟩
  obtain ⟨bn, hbn⟩ : ∃ bn, bn = belN P := ⟨_, rfl⟩
  rw [← hbn] at hl1n ⊢
  have HBN := Lib.hid hbn
  have B2 := Lib.hid (B1.out.trans (hb2.mono B1.out.size))
  have G2 : Hid (Has w2 w.heap.size E8 41) := Lib.hid (has_fr G1.out (Fr.of_below (S := []) hb2) (by simp))
  have M2 : Hid (MaxW w2) := Lib.hid (M1.out.below hb2 (by have := HMX.out; have := HB.out; have := B1.out.size; omega))
  have HL1 := Lib.hid hl1
  have HLN := Lib.hid hl1n
  have HO1 := Lib.hid ho1
  clear hl1 hl1n ho1 hb2 hbn hq1
  by_cases h0 : bn = 0
  · subst h0
    have hln := HLN.out rfl
    subst hln
    have hnn : ∀ x ∈ nmE P, tName x.data.toList = true := nmE_names HBN.out.symm
    have HNN := Lib.hid hnn
    have hV0 : Hid (V = if k = 1 then chgE .mk (nmE P) 1 t a b else if k = 2 then (if (sizeT tt).isSome then chgE (.put tt) (nmE P) 1 t a b else (3, t, a, b))
      else if k = 3 then (if belN Q ≠ 0 then (belN Q, t, a, b) else moveE (nmE Q) (nmE P) t a b) else if k = 4 then chgE .drop (nmE P) 1 t a b else (3, t, a, b)) := Lib.hid (by rw [HVU.out, if_neg (by rw [← HBN.out]; simp)])
    have WK2 := Lib.hid (H.out.later B2.out)
    have HB2 : Hid (B ≤ w2.heap.size) := Lib.hid (Nat.le_trans HB.out B2.out.size)
    have hqk := Has.cellAt G2.out (i := 0) (v := .int .u8 (k.toNat : Int)) (by rw [HE8.out]; rfl)
    clear HVU hnn
    by_cases k1 : k = 1
    · subst k1
      have hqk' : w2.cell? ⟨w.heap.size, 0, none⟩ = some (.int .u8 1) := hqk
      clear hqk
      have hv : Hid (V = chgE .mk (nmE P) 1 t a b) := Lib.hid (by rw [hV0.out, if_pos rfl])
      have HC := Lib.hid (mkdir_any WK2.out HB2.out HLIM.out HL1.out (nmE_ne P))
      obtain ⟨G, hG⟩ : ∃ G, G = chgE .mk (nmE P) 1 t a b := ⟨_, rfl⟩
      rw [← hG] at hv HC
      clear hG
      go_wp2_with fail
      refine HC.out.mono ?_
      rintro e w3 ⟨rfl, h3⟩
      have H3 := Lib.hid (op_of B2.out (fun g hg => by cases hg) h3)
      obtain ⟨D, hD⟩ : ∃ D, D = G.1 := ⟨_, rfl⟩
      rw [← hD] at H3 ⊢
      clear hD h3
      go_wp2_with fail
      go_ret
      rw [hv.out]
      exact H3.out
    by_cases k2 : k = 2
    · subst k2
      have hqk' : w2.cell? ⟨w.heap.size, 0, none⟩ = some (.int .u8 2) := hqk
      clear hqk k1
      have R2 : Hid (w2.rangeAt w.heap.size 3 [c0, c1, c2, c3, c4]) := Lib.hid (fun j v hv => by
        have hj : j < 5 := (List.getElem?_eq_some_iff.1 hv).1
        have := Has.cellAt G2.out (i := 3 + j) (v := v) (by
          rw [HE8.out]
          match j, hj with
          | 0, _ => exact hv
          | 1, _ => exact hv
          | 2, _ => exact hv
          | 3, _ => exact hv
          | 4, _ => exact hv)
        exact this)
      have HF := Lib.hid (form_any m [c0, c1, c2, c3, c4] tt w2 (IsT.later B2.out _ _ _ HT.out))
      have hvv : Hid (V = if (sizeT tt).isSome then chgE (.put tt) (nmE P) 1 t a b else (3, t, a, b)) := Lib.hid (by rw [hV0.out, if_neg (by decide), if_pos rfl])
      obtain ⟨fb, hfb⟩ : ∃ fb, fb = (sizeT tt).isSome := ⟨_, rfl⟩
      rw [← hfb] at HF hvv
      have HFB := Lib.hid hfb
      clear hfb
      go_wp2_with (refine wpList_load_mid rfl 26 _ rfl w.heap.size 3 rfl [c0, c1, c2, c3, c4] _ R2.out Tryd.underlying26 rfl HI5.out ?_)
      refine HF.out.mono ?_
      rintro e w3 ⟨rfl, hb3⟩
      have B3 := Lib.hid hb3
      have R3 : Hid (w3.rangeAt w.heap.size 3 [c0, c1, c2, c3, c4]) := Lib.hid (fun j v hv => (hb3.cell (p := ⟨w.heap.size, 3 + j, none⟩) G2.out.lt).trans (R2.out j v hv))
      clear hb3
      rcases Bool.eq_false_or_eq_true fb with rfl | rfl
      · obtain ⟨s1, s2, s3, s4⟩ := sizeT_get HFB.out.symm
        have B3w := Lib.hid (B2.out.trans (B3.out.mono B2.out.size))
        have HCP := Lib.hid (mcopy_any m [c0, c1, c2, c3, c4] tt w3 (IsT.later B3w.out _ _ _ HT.out) s3 (by omega))
        have S1 := Lib.hid s1
        have S3 := Lib.hid s3
        have S4 := Lib.hid s4
        have hv : Hid (V = chgE (.put tt) (nmE P) 1 t a b) := Lib.hid (by rw [hvv.out, if_pos rfl])
        clear s1 s2 s3 s4 hvv
        go_wp2_with (refine wpList_load_mid rfl 26 _ rfl w.heap.size 3 rfl [c0, c1, c2, c3, c4] _ R3.out Tryd.underlying26 rfl HI5.out ?_)
        refine HCP.out.mono ?_
        rintro e w4 ⟨gcs, Sg, rfl, hmt, hSg, hb4⟩
        have B4 := Lib.hid (B3w.out.trans (hb4.mono B3w.out.size))
        have B42 := Lib.hid (B3.out.trans (hb4.mono B3.out.size))
        have hsz3 : w.heap.size ≤ w3.heap.size := B3w.out.size
        have HC := Lib.hid (put_any (WK2.out.later B42.out) (Nat.le_trans HB.out B4.out.size) HLIM.out (HL1.out.later B42.out) (nmE_ne P) (hmt.low (Nat.le_trans HB.out hsz3)) (fun g hg => ⟨fun hm => by have h1 := HLT.out.2 g hm; have h2 := hSg g hg; omega, fun e => by have h1 := HLT.out.1; have h2 := hSg g hg; omega⟩) S3.out S1.out (by have := S4.out; omega))
        have HSG : Hid (∀ g ∈ Sg, w.heap.size ≤ g) := Lib.hid (fun g hg => Nat.le_trans hsz3 (hSg g hg))
        obtain ⟨G, hG⟩ : ∃ G, G = chgE (.put tt) (nmE P) 1 t a b := ⟨_, rfl⟩
        rw [← hG] at hv HC
        clear hG hmt hSg hb4 hsz3
        go_wp2_with fail
        refine HC.out.mono ?_
        rintro e w5 ⟨rfl, h5⟩
        have H5 := Lib.hid (op_of B4.out HSG.out h5)
        obtain ⟨D, hD⟩ : ∃ D, D = G.1 := ⟨_, rfl⟩
        rw [← hD] at H5 ⊢
        clear hD h5
        go_wp2_with fail
        go_ret
        rw [hv.out]
        exact H5.out
      · have hv : Hid (V = (3, t, a, b)) := Lib.hid (by rw [hvv.out, if_neg (by simp)])
        go_wp2_with fail
        go_ret
        rw [hv.out]
        exact op_err (B2.out.trans (B3.out.mono B2.out.size)) (by decide)
    by_cases k3 : k = 3
    · subst k3
      have hqk' : w2.cell? ⟨w.heap.size, 0, none⟩ = some (.int .u8 3) := hqk
      have hqs := Has.cellAt G2.out (i := 2) (v := .string src) (by rw [HE8.out]; rfl)
      clear hqk k1 k2
      have hvv : Hid (V = if belN Q ≠ 0 then (belN Q, t, a, b) else moveE (nmE Q) (nmE P) t a b) := Lib.hid (by rw [hV0.out, if_neg (by decide), if_neg (by decide), if_pos rfl])
      have HBQ := Lib.hid (HBEQ.out w2 M2.out)
      go_wp2_with fail
      refine HBQ.out.mono ?_
      rintro e w3 ⟨a3, n3, q3, l3, hl3, rfl, hl3n, ho3, hb3⟩
      obtain ⟨bq, hbq⟩ : ∃ bq, bq = belN Q := ⟨_, rfl⟩
      rw [← hbq] at hl3n hvv ⊢
      have HBQN := Lib.hid hbq
      have B3 := Lib.hid hb3
      have B3w := Lib.hid (B2.out.trans (hb3.mono B2.out.size))
      have HL3 := Lib.hid hl3
      have HL3N := Lib.hid hl3n
      have HO3 := Lib.hid ho3
      clear hl3 hl3n ho3 hb3 hbq
      by_cases h3 : bq = 0
      · subst h3
        have hln3 := HL3N.out rfl
        subst hln3
        have hv : Hid (V = moveE (nmE Q) (nmE P) t a b) := Lib.hid (by rw [hvv.out, if_neg (by simp)])
        have hap : ∀ z, w.heap.size ≤ z → z ∉ p :: S := fun z hz hm => by
          rcases List.mem_cons.1 hm with h | h
          · have := HLT.out.1; omega
          · have := HLT.out.2 z h; omega
        have HC := Lib.hid (move_any (H.out.later B3w.out) (Nat.le_trans HB.out B3w.out.size) HLIM.out HL3.out (nmE_ne Q) (nmE_names HBQN.out.symm) (HL1.out.later B3.out) (nmE_ne P) (fun x hx => hap _ (Nat.le_trans B2.out.size (HO3.out x hx))) (fun x hx => hap _ (Nat.le_trans B1.out.size (HO1.out x hx))))
        obtain ⟨G, hG⟩ : ∃ G, G = moveE (nmE Q) (nmE P) t a b := ⟨_, rfl⟩
        rw [← hG] at hv HC
        clear hG hap
        go_wp2_with fail
        refine HC.out.mono ?_
        intro e w5 h5
        have h5e := h5.1
        subst h5e
        have H5 := Lib.hid (op_below B3w.out h5)
        obtain ⟨D, hD⟩ : ∃ D, D = G.1 := ⟨_, rfl⟩
        rw [← hD] at H5 ⊢
        clear hD h5
        go_wp2_with fail
        go_ret
        rw [hv.out]
        exact H5.out
      · have hv : Hid (V = (bq, t, a, b)) := Lib.hid (by rw [hvv.out, if_pos h3])
        have h3i : ¬ ((bq : Int) = 0) := by omega
        have H3 := Lib.hid h3
        clear h3
        go_wp2_with fail
        go_ret
        rw [hv.out]
        exact op_err B3w.out H3.out
    by_cases k4 : k = 4
    · subst k4
      have hqk' : w2.cell? ⟨w.heap.size, 0, none⟩ = some (.int .u8 4) := hqk
      clear hqk k1 k2 k3
      have hv : Hid (V = chgE .drop (nmE P) 1 t a b) := Lib.hid (by rw [hV0.out, if_neg (by decide), if_neg (by decide), if_neg (by decide), if_pos rfl])
      have HC := Lib.hid (drop_any WK2.out HB2.out HLIM.out HL1.out (nmE_ne P))
      obtain ⟨G, hG⟩ : ∃ G, G = chgE .drop (nmE P) 1 t a b := ⟨_, rfl⟩
      rw [← hG] at hv HC
      clear hG
      go_wp2_with fail
      refine HC.out.mono ?_
      rintro e w3 ⟨gcs, rfl, hg5, hg1, hf, hok⟩
      have H3 : Hid (OpP w B p S G (.returned (.int .i64 (G.1 : Int))) w3) := Lib.hid (op_below B2.out ⟨rfl, hf, fun h0 => by
        obtain ⟨S', Sg, q1, q2, _⟩ := hok h0
        exact ⟨S', q1, q2⟩⟩)
      obtain ⟨D, hD⟩ : ∃ D, D = G.1 := ⟨_, rfl⟩
      rw [← hD] at H3 ⊢
      have HN : Hid ((w3.alloc (.cells #[.int .u8 0, .bool false, .slice none 0 0, .slice none 0 0, .slice none 0 0] 26)).heap[w3.heap.size]? = some (.cells zK.toArray 26 (0, 0))) := Lib.hid (Has.new w3 zK _)
      have HG5 := Lib.hid (infoL hg5)
      have HGS : Hid (zK.toArray.size = gcs.toArray.size) := Lib.hid (by simp [zK, hg5])
      have HG1 := Lib.hid hg1
      have HFIN : Hid (OpP w B p S G (.returned (.int .i64 (D : Int))) ((w3.alloc (.cells #[.int .u8 0, .bool false, .slice none 0 0, .slice none 0 0, .slice none 0 0] 26)).setRow w3.heap.size gcs.toArray)) := Lib.hid (by
        have bb : Below w3.heap.size w3 ((w3.alloc (.cells #[.int .u8 0, .bool false, .slice none 0 0, .slice none 0 0, .slice none 0 0] 26)).setRow w3.heap.size gcs.toArray) := below_setRow ((Below.refl _ _).alloc (Nat.le_refl _) _) (Nat.le_refl _) _
        refine ⟨H3.out.1, H3.out.2.1.trans (Fr.of_below (S := []) bb) (fun g hg => by cases hg), fun h0 => ?_⟩
        obtain ⟨S', q1, q2⟩ := H3.out.2.2 h0
        exact ⟨S', q1.later bb, q2⟩)
      clear hD hg5 hg1 hf hok
      go_wp2_with (refine wpList_store_row rfl 26 _ _ rfl w3.heap.size gcs.toArray rfl rfl 26 zK.toArray HN.out HG5.out HGS.out HG1.out ?_)
      go_ret
      rw [hv.out]
      exact HFIN.out
    · have hi : ∀ c : UInt8, k ≠ c → ¬ ((k.toNat : Int) = (c.toNat : Int)) := fun c hc e => hc (UInt8.toNat_inj.1 (by omega))
      have i1 : ¬ ((k.toNat : Int) = 1) := hi 1 k1
      have i2 : ¬ ((k.toNat : Int) = 2) := hi 2 k2
      have i3 : ¬ ((k.toNat : Int) = 3) := hi 3 k3
      have i4 : ¬ ((k.toNat : Int) = 4) := hi 4 k4
      have hv : Hid (V = (3, t, a, b)) := Lib.hid (by rw [hV0.out, if_neg k1, if_neg k2, if_neg k3, if_neg k4])
      clear hi k1 k2 k3 k4
      go_wp2_with fail
      go_ret
      rw [hv.out]
      exact op_err B2.out (by decide)
  · have h0i : ¬ ((bn : Int) = 0) := by omega
    have hv : Hid (V = (bn, t, a, b)) := Lib.hid (by rw [HVU.out, ← HBN.out, if_pos h0])
    have H0 := Lib.hid h0
    clear h0
    go_wp2_with fail
    go_ret
    rw [hv.out]
    exact op_err B2.out H0.out

end Go.Proofs.YtbempgdndmchlaaDoor

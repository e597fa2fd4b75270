/-
  A spot of a tree that is worked on: what it reads as, and how that is put together again behind a change. No program text but the types' numbers.
-/
import Derived.Test.YtbempgdndmchlaaDoorEMath
import Derived.Test.YtbempgdndmchlaaDoorESpot
import Derived.Test.YtbempgdndmchlaaDoorETake
namespace Go.Proofs.YtbempgdndmchlaaDoor
open Go.RowKit
set_option linter.unusedVariables false

/-! Lists of kids. -/
theorem e5_left {A C : List Value} {i m : Nat} (hA : A.length = m * 5) (hi : i < m) : five (A ++ C) i = five A i := by
  refine List.ext_getElem? fun j => ?_
  by_cases hj : j < 5
  · rw [five_get j hj, five_get j hj, List.getElem?_append_left (by omega)]
  · have h1 : ∀ L : List Value, (five L i)[j]? = none := fun L => List.getElem?_eq_none (by unfold five; rw [List.length_take]; omega)
    rw [h1, h1]
theorem e5_right {A C : List Value} {i m : Nat} (hA : A.length = m * 5) (hi : m ≤ i) : five (A ++ C) i = five C (i - m) := by
  refine List.ext_getElem? fun j => ?_
  by_cases hj : j < 5
  · rw [five_get j hj, five_get j hj, List.getElem?_append_right (by omega)]
    congr 1; omega
  · have h1 : ∀ (L : List Value) (q : Nat), (five L q)[j]? = none := fun L q => List.getElem?_eq_none (by unfold five; rw [List.length_take]; omega)
    rw [h1, h1]
theorem e5_drop (L : List Value) (i j : Nat) : five (L.drop (i * 5)) j = five L (i + j) := by
  unfold five
  rw [List.drop_drop]
  congr 2; omega
theorem e5_take {L : List Value} {i j : Nat} (h : j < i) : five (L.take (i * 5)) j = five L j := five_take h
theorem e5_self {ct : List Value} (h : ct.length = 5) : five ct 0 = ct := by unfold five; simp [← h]
theorem five_ins {L ct : List Value} {i n : Nat} (hL : L.length = n * 5) (hct : ct.length = 5) (hi : i ≤ n) (j : Nat) :
    five (L.take (i * 5) ++ ct ++ L.drop (i * 5)) j = if j < i then five L j else if j = i then ct else five L (j - 1) := by
  have h1 : (L.take (i * 5)).length = i * 5 := by rw [List.length_take]; omega
  have h2 : (L.take (i * 5) ++ ct).length = (i + 1) * 5 := by rw [List.length_append, h1, hct]; omega
  by_cases a : j < i
  · rw [if_pos a, e5_left h2 (by omega), e5_left h1 a, e5_take a]
  · rw [if_neg a]
    by_cases b : j = i
    · rw [if_pos b, e5_left h2 (by omega), e5_right h1 (by omega), b, Nat.sub_self, e5_self hct]
    · rw [if_neg b, e5_right h2 (by omega), e5_drop]
      congr 1; omega
theorem five_del {L : List Value} {i n : Nat} (hL : L.length = n * 5) (hi : i < n) (j : Nat) :
    five (L.take (i * 5) ++ L.drop ((i + 1) * 5)) j = if j < i then five L j else five L (j + 1) := by
  have h1 : (L.take (i * 5)).length = i * 5 := by rw [List.length_take]; omega
  by_cases a : j < i
  · rw [if_pos a, e5_left h1 a, e5_take a]
  · rw [if_neg a, e5_right h1 (by omega), e5_drop]
    congr 1; omega
theorem getD_ins {α : Type} {l : List α} {i : Nat} (hi : i ≤ l.length) (k e : α) (j : Nat) : (l.take i ++ k :: l.drop i).getD j e = if j < i then l.getD j e else if j = i then k else l.getD (j - 1) e := by
  have h1 : (l.take i).length = i := by rw [List.length_take]; omega
  simp only [List.getD_eq_getElem?_getD]
  by_cases a : j < i
  · rw [if_pos a, List.getElem?_append_left (by omega), List.getElem?_take, if_pos a]
  · rw [if_neg a, List.getElem?_append_right (by omega), h1]
    by_cases b : j = i
    · rw [if_pos b, b, Nat.sub_self]; rfl
    · obtain ⟨q, hq⟩ : ∃ q, j - i = q + 1 := ⟨j - i - 1, by omega⟩
      rw [if_neg b, hq, List.getElem?_cons_succ, List.getElem?_drop]
      congr 2; omega
theorem getD_del {α : Type} {l : List α} {i : Nat} (hi : i < l.length) (e : α) (j : Nat) : (l.take i ++ l.drop (i + 1)).getD j e = if j < i then l.getD j e else l.getD (j + 1) e := by
  have h1 : (l.take i).length = i := by rw [List.length_take]; omega
  simp only [List.getD_eq_getElem?_getD]
  by_cases a : j < i
  · rw [if_pos a, List.getElem?_append_left (by omega), List.getElem?_take, if_pos a]
  · rw [if_neg a, List.getElem?_append_right (by omega), h1, List.getElem?_drop]
    congr 2; omega
theorem getD_set {α : Type} {l : List α} {i : Nat} (hi : i < l.length) (k e : α) (j : Nat) : (l.set i k).getD j e = if j = i then k else l.getD j e := by
  simp only [List.getD_eq_getElem?_getD, List.getElem?_set]
  by_cases a : i = j
  · subst a; simp [hi]
  · rw [if_neg a, if_neg (fun h => a h.symm)]

/-! Who is apart from whom. -/
theorem nd_iff {vn vk : Value} {n : Nat} {Ss : Nat → List Nat} : (blk vn ++ blk vk ++ (List.range n).flatMap Ss).Nodup ↔
    (∀ g ∈ blk vn, g ∉ blk vk ∧ ∀ i, i < n → g ∉ Ss i) ∧ (∀ g ∈ blk vk, ∀ i, i < n → g ∉ Ss i) ∧ (∀ i, i < n → (Ss i).Nodup) ∧ (∀ i j, i < n → j < n → i ≠ j → ∀ g, g ∈ Ss i → g ∉ Ss j) := by
  rw [List.nodup_append, List.nodup_append]
  constructor
  · rintro ⟨⟨_, _, h1⟩, h2, h3⟩
    have hf : ∀ i, i < n → ∀ g ∈ Ss i, g ∈ (List.range n).flatMap Ss := fun i hi g hg => List.mem_flatMap.2 ⟨i, List.mem_range.2 hi, hg⟩
    have h4 := (List.pairwise_flatMap.1 h2)
    refine ⟨fun g hg => ⟨fun hk => h1 g hg g hk rfl, fun i hi hm => h3 g (List.mem_append_left _ hg) g (hf i hi g hm) rfl⟩, fun g hg i hi hm => h3 g (List.mem_append_right _ hg) g (hf i hi g hm) rfl,
      fun i hi => h4.1 i (List.mem_range.2 hi), fun i j hi hj hij g hgi hgj => ?_⟩
    have h5 := List.pairwise_iff_getElem.1 h4.2
    rcases Nat.lt_or_gt_of_ne hij with h | h
    · have := h5 i j (by simpa using hi) (by simpa using hj) h
      simp only [List.getElem_range] at this
      exact this g hgi g hgj rfl
    · have := h5 j i (by simpa using hj) (by simpa using hi) h
      simp only [List.getElem_range] at this
      exact this g hgj g hgi rfl
  · rintro ⟨h1, h2, h3, h4⟩
    refine ⟨⟨blk_nodup _, blk_nodup _, fun a ha c hc e => (h1 a ha).1 (e ▸ hc)⟩, flatMap_nodup h3 h4, fun a ha c hc e => ?_⟩
    subst e
    obtain ⟨i, hi, hg⟩ := List.mem_flatMap.1 hc
    rcases List.mem_append.1 ha with h | h
    · exact (h1 a h).2 i (List.mem_range.1 hi) hg
    · exact h2 a h i (List.mem_range.1 hi) hg
theorem mem_S {vn vk : Value} {n : Nat} {Ss : Nat → List Nat} {g : Nat} : g ∈ blk vn ++ blk vk ++ (List.range n).flatMap Ss ↔ g ∈ blk vn ∨ g ∈ blk vk ∨ ∃ i, i < n ∧ g ∈ Ss i := by
  rw [List.mem_append, List.mem_append, List.mem_flatMap, or_assoc]
  constructor
  · rintro (h | h | ⟨i, hi, h⟩)
    · exact .inl h
    · exact .inr (.inl h)
    · exact .inr (.inr ⟨i, List.mem_range.1 hi, h⟩)
  · rintro (h | h | ⟨i, hi, h⟩)
    · exact .inl h
    · exact .inr (.inl h)
    · exact .inr (.inr ⟨i, List.mem_range.2 hi, h⟩)

/-- A right tree of so many parts is no greater than memory. -/
theorem small_of : ∀ (n : Nat) (t : T), sizeN t ≤ n → fmA t → bytesT t ≤ 65536 → sizeN t ≤ 1000000 → Small t
  | 0, t, hn, _, _, _ => by have := sizeN_pos t; omega
  | n + 1, .mk k x d ns ks, hn, hf, hb, hs => by
    rw [sizeN_mk] at hn hs
    rw [bytesT_mk] at hb
    rw [fmA_mk] at hf
    have hl := formed_lens hf.1
    have hkl := sizeNL_len ks
    refine Small.mk (fun i hi => by have := hl.2 i hi; omega) (fun i hi => ?_) ⟨by omega, by omega, by omega⟩
    have h1 := sizeNL_get hi
    have h2 := bytesL_kid hi
    exact small_of n _ (by omega) (fmL_getD hf.2 hi) (by omega) (by omega)

/-- What the limits leave: a tree that is right, within the counted. -/
def Lim (t : T) (dep a b : Nat) : Prop := fmA t ∧ 1 ≤ dep ∧ dep + heightT t ≤ 17 ∧ sizeN t ≤ a ∧ a ≤ 4096 ∧ bytesT t ≤ b ∧ b ≤ 65536
theorem height_get {l : List T} {i : Nat} (h : i < l.length) : 1 + heightT (l.getD i default) ≤ heightL l := by
  rw [heightL_kid h]
  exact Nat.le_trans (Nat.le_max_left _ _) (Nat.le_max_right _ _)
theorem Lim.kid {k : UInt8} {x : Bool} {d : List UInt8} {ns : List ByteArray} {ks : List T} {dep a b i : Nat} (h : Lim (.mk k x d ns ks) dep a b) (hi : i < ks.length) : Lim (ks.getD i default) (dep + 1) a b := by
  obtain ⟨h1, h2, h3, h4, h5, h6, h7⟩ := h
  rw [fmA_mk] at h1
  rw [heightT_mk] at h3
  rw [sizeN_mk] at h4
  rw [bytesT_mk] at h6
  have e1 := height_get hi
  have e2 := sizeNL_get hi
  have e3 := bytesL_kid hi
  exact ⟨fmL_getD h1.2 hi, by omega, by omega, by omega, h5, by omega, h7⟩
theorem Lim.size {t : T} {dep a b : Nat} (h : Lim t dep a b) : sizeT t = some (sizeN t, bytesT t) :=
  (sizeT_iff t _ _).2 ⟨h.1, by have := h.2.1; have := h.2.2.1; omega, by have := h.2.2.2.1; have := h.2.2.2.2.1; omega, by have := h.2.2.2.2.2.1; have := h.2.2.2.2.2.2; omega, rfl, rfl⟩
theorem Lim.small {t : T} {dep a b : Nat} (h : Lim t dep a b) : Small t ∧ sizeN t ≤ 4096 ∧ bytesT t ≤ 65536 :=
  have h1 : sizeN t ≤ 4096 := Nat.le_trans h.2.2.2.1 h.2.2.2.2.1
  have h2 : bytesT t ≤ 65536 := Nat.le_trans h.2.2.2.2.2.1 h.2.2.2.2.2.2
  ⟨small_of _ t (Nat.le_refl _) h.1 h2 (by omega), h1, h2⟩
theorem Lim.lens {k : UInt8} {x : Bool} {d : List UInt8} {ns : List ByteArray} {ks : List T} {dep a b : Nat} (h : Lim (.mk k x d ns ks) dep a b) : ns.length = ks.length := by
  have h1 := h.1
  rw [fmA_mk] at h1
  exact (formed_lens h1.1).1

theorem Rows.cons {w : World} {g : Nat} {S : List Nat} {L : List Value} {t : TypeId} (h : Has w g L t) (ht : t ≠ 5) (hS : Rows w S) : Rows w (g :: S) := fun q hq => by
  rcases List.mem_cons.1 hq with rfl | hq
  · exact ⟨_, _, h, ht⟩
  · exact hS q hq
theorem Rows.nil (w : World) : Rows w [] := fun q hq => by cases hq

/-- A spot: five cells at a place read as a tree in rows of its own; the work's block. -/
structure WS (w : World) (B p db o : Nat) (X cs : List Value) (ty : TypeId) (R : List Value) (a b : Nat) (t : T) (S : List Nat) : Prop where
  hX : Has w db X ty
  hc : ∀ j, j < 5 → X[o + j]? = cs[j]?
  mt : MT w B cs t S
  ndb : db ∉ S
  np : p ∉ S
  hR : Has w p (R ++ [.int .i64 (a : Int), .int .i64 (b : Int)]) 52
  r5 : R.length = 5
  hp : (p = db ∧ ty = 52 ∧ o = 0 ∧ X = R ++ [.int .i64 (a : Int), .int .i64 (b : Int)] ∧ R = cs) ∨ (p ≠ db ∧ ty = 26)

/-- What was there is in rows of its own. -/
def Got (w' : World) (B : Nat) (q : Option Nat) (gt : T) (S S' : List Nat) : Prop := ∀ qb, q = some qb → ∃ gcs Sg, Has w' qb gcs 26 ∧ MT w' B gcs gt Sg ∧ (∀ g ∈ Sg, g ∈ S) ∧ (∀ g ∈ Sg, g ∉ S')
theorem Got.none (w' : World) (B : Nat) (gt : T) (S S' : List Nat) : Got w' B none gt S S' := fun qb h => by cases h

/-- Behind a change at a spot, or below it. -/
def WQ (w : World) (B p db o : Nat) (X : List Value) (ty : TypeId) (R : List Value) (S Sx : List Nat) (q : Option Nat) (gt t' : T) (a' b' : Nat) (w' : World) : Prop :=
  ∃ X' cs' R' S', WS w' B p db o X' cs' ty R' a' b' t' S' ∧ X'.length = X.length ∧ (∀ j, j ≠ o + 3 → j ≠ o + 4 → p ≠ db → X'[j]? = X[j]?) ∧ (p ≠ db → R' = R) ∧
    (∀ g ∈ S', g ∈ S ∨ g ∈ Sx ∨ w.heap.size ≤ g) ∧ Got w' B q gt S S'
def WP (w : World) (B p db o : Nat) (X : List Value) (ty : TypeId) (R : List Value) (S Z Sx : List Nat) (q : Option Nat) (gt : T) (r : ER) (e : Ending) (w' : World) : Prop :=
  e = .returned (.int .i64 (r.1 : Int)) ∧ Fr (p :: db :: (S ++ Z)) w w' ∧ (r.1 ≠ 0 → Fr (p :: db :: S) w w') ∧ (r.1 = 0 → WQ w B p db o X ty R S Sx q gt r.2.1 r.2.2.1 r.2.2.2 w')

theorem WS.rows {w : World} {B p db o a b : Nat} {X cs : List Value} {ty : TypeId} {R : List Value} {t : T} {S : List Nat} (h : WS w B p db o X cs ty R a b t S) : Rows w (p :: db :: S) :=
  Rows.cons h.hR (by decide) (Rows.cons h.hX (by
    rcases h.hp with ⟨_, e, _⟩ | ⟨_, e⟩
    · rw [e]; decide
    · rw [e]; decide) h.mt.rows)
theorem MT.later {w w' : World} {B : Nat} {cs : List Value} {t : T} {S : List Nat} (h : MT w B cs t S) (hb : Below w.heap.size w w') : MT w' B cs t S :=
  h.frame (Fr.of_below (S := []) hb) (Rows.nil w) (fun g _ hm => by cases hm)
theorem WS.later {w w' : World} {B p db o a b : Nat} {X cs : List Value} {ty : TypeId} {R : List Value} {t : T} {S : List Nat} (h : WS w B p db o X cs ty R a b t S) (hb : Below w.heap.size w w') : WS w' B p db o X cs ty R a b t S :=
  ⟨has_fr h.hX (Fr.of_below (S := []) hb) (by simp), h.hc, h.mt.later hb, h.ndb, h.np, has_fr h.hR (Fr.of_below (S := []) hb) (by simp), h.r5, h.hp⟩

/-- What five cells that read as a directory are. -/
theorem mt_inv {w : World} {B : Nat} {cs : List Value} {k : UInt8} {x : Bool} {d : List UInt8} {ns : List ByteArray} {ks : List T} {S : List Nat} (h : MT w B cs (.mk k x d ns ks) S) :
    ∃ vd vn vk L Ss, cs = [.int .u8 (k.toNat : Int), .bool x, vd, vn, vk] ∧ S = blk vn ++ blk vk ++ (List.range ks.length).flatMap Ss ∧ w.ownsRow B 5 1 vd d.length (d.map bv) ∧
      w.ownsRow B 9 1 vn ns.length (ns.map Value.string) ∧ w.ownsRow B 26 5 vk ks.length L ∧ (∀ i, i < ks.length → MT w B (five L i) (ks.getD i default) (Ss i)) ∧ (blk vn ++ blk vk ++ (List.range ks.length).flatMap Ss).Nodup := by
  cases h with
  | mk hd hn hk hs hnd => exact ⟨_, _, _, _, _, rfl, rfl, hd, hn, hk, hs, hnd⟩

end Go.Proofs.YtbempgdndmchlaaDoor

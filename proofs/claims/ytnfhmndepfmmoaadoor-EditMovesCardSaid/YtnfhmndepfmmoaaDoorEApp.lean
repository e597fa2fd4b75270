/-
  The names of a path that isn't the root's; whether a path stands in another one; move. Conditions: the tree reads as one in rows of its own, within the limits.
-/
import Derived.Test.YtnfhmndepfmmoaaDoorETop
import Derived.Test.YtnfhmndepfmmoaaDoorEMath2
import Derived.Test.YtnfhmndepfmmoaaDoorTSplit
namespace Go.Proofs.YtnfhmndepfmmoaaDoor
open Go.RowKit
set_option linter.unusedVariables false

theorem cell_block {w w' : World} {p : Addr} (h : w'.heap[p.block]? = w.heap[p.block]?) : w'.cell? p = w.cell? p := by
  unfold World.cell?
  rw [h]
theorem IsS.fr {F : List Nat} {w w' : World} {a : Option Addr} {n c : Nat} {l : List ByteArray} (h : IsS w a n c l) (hf : Fr F w w') (hd : ∀ x, a = some x → x.block ∉ F) : IsS w' a n c l := by
  refine ⟨h.length, ?_, h.nil, h.room⟩
  rcases h.at_ with h0 | ⟨b, off, rfl, hb, hc⟩
  · exact .inl h0
  · exact .inr ⟨b, off, rfl, Nat.lt_of_lt_of_le hb hf.size, fun i hi => (cell_block (p := ⟨b, off + i, none⟩) (hf.block b hb (hd _ rfl))).trans (hc i hi)⟩

/-- The error of a path that may not be the root's, and its names. -/
def belN (s : List UInt8) : Nat := if 400 < s.length then 2 else if s = [] then 1 else if (pieces s).all tName = true then 0 else 4
def nmE (s : List UInt8) : List ByteArray := (pieces s).map fun p => ⟨p.toArray⟩
theorem nmE_of {l : List ByteArray} {s : List UInt8} (h : l.map (·.data.toList) = pieces s) : l = nmE s := by
  unfold nmE
  rw [← h, List.map_map]
  conv => lhs; rw [← List.map_id l]
  exact List.map_congr_left fun x _ => by cases x; rfl
theorem nmE_ne (s : List UInt8) : nmE s ≠ [] := by
  unfold nmE
  intro h
  have hp : pieces s ≠ [] := by
    cases s with
    | nil => simp [pieces]
    | cons c t =>
      unfold pieces
      split
      · simp
      · split <;> simp
  exact hp (List.map_eq_nil_iff.1 h)
theorem nmE_names {s : List UInt8} (h : belN s = 0) : ∀ x ∈ nmE s, tName x.data.toList = true := by
  unfold belN at h
  split at h
  · cases h
  · split at h
    · cases h
    · split at h
      · rename_i h3
        intro x hx
        obtain ⟨p, hp, rfl⟩ := List.mem_map.1 hx
        exact (List.all_eq_true.1 h3) p hp
      · cases h

/-- What below tells. -/
def BelP (s : List UInt8) (w : World) (e : Ending) (w' : World) : Prop :=
  ∃ a n c l, IsS w' a n c l ∧ e = .returned (.tuple #[.slice a n c, .int .i64 (belN s : Int)]) ∧ (belN s = 0 → l = nmE s) ∧ (∀ x, a = some x → w.heap.size ≤ x.block) ∧ Below w.heap.size w w'

set_option maxRecDepth 100000 in
set_option maxHeartbeats 4000000 in
theorem below_any (s : ByteArray) (w : World) (hm : MaxW w) : Calls Tryd.prog 26 #[.string s] w (BelP s.data.toList w) := by
  obtain ⟨L, hL⟩ : ∃ L, L = s.data.toList := ⟨_, rfl⟩
  have HS := Lib.hid (split_any s w hm)
  rw [← hL] at HS ⊢
  clear hL hm
  by_cases h1 : 400 < L.length
  · have hsp : splitT L = ([], 2) := by unfold splitT; rw [if_pos h1]
    have hbn : belN L = 2 := by unfold belN; rw [if_pos h1]
    have HBN := Lib.hid hbn
    rw [hsp] at HS
    clear hsp hbn h1
    go_enter Tryd.func26, Tryd.ntmps26
    go_wp2_with fail
    refine HS.out.mono ?_
    rintro e w1 ⟨⟨a, n, c, l, hl, hml, rfl, ho⟩, hb⟩
    have HL := Lib.hid hl
    have HO := Lib.hid ho
    have HB := Lib.hid hb
    clear hl hml ho hb
    go_wp2_with fail
    go_ret2
    exact ⟨a, n, c, l, HL.out, by rw [HBN.out]; rfl, (fun h => by rw [HBN.out] at h; cases h), HO.out, HB.out⟩
  · by_cases h2 : L = []
    · have hsp : splitT L = ([], 0) := by unfold splitT; rw [if_neg h1, if_pos h2]
      have hbn : belN L = 1 := by unfold belN; rw [if_neg h1, if_pos h2]
      have HBN := Lib.hid hbn
      rw [hsp] at HS
      clear hsp hbn h1 h2
      go_enter Tryd.func26, Tryd.ntmps26
      go_wp2_with fail
      refine HS.out.mono ?_
      rintro e w1 ⟨⟨a, n, c, l, hl, hml, rfl, ho⟩, hb⟩
      have hl0 : l = [] := List.map_eq_nil_iff.1 hml
      have hn0 : n = 0 := by rw [← hl.length, hl0]; rfl
      subst hn0
      have HB := Lib.hid hb
      clear hl hml ho hb hl0
      go_wp2_with fail
      go_ret2
      exact ⟨none, 0, 0, [], ⟨rfl, .inl rfl, fun _ => ⟨rfl, rfl⟩, Nat.le_refl _, Nat.zero_le _⟩, by rw [HBN.out]; rfl, (fun h => by rw [HBN.out] at h; cases h), (fun x hx => by cases hx), HB.out⟩
    · by_cases h3 : (pieces L).all tName = true
      · have hsp : splitT L = (pieces L, 0) := by unfold splitT; rw [if_neg h1, if_neg h2, if_pos h3]
        have hbn : belN L = 0 := by unfold belN; rw [if_neg h1, if_neg h2, if_pos h3]
        have HBN := Lib.hid hbn
        rw [hsp] at HS
        clear hsp hbn h1 h2 h3
        go_enter Tryd.func26, Tryd.ntmps26
        go_wp2_with fail
        refine HS.out.mono ?_
        rintro e w1 ⟨⟨a, n, c, l, hl, hml, rfl, ho⟩, hb⟩
        have hln : l = nmE L := nmE_of hml
        have hn0 : ¬ n = 0 := by
          rw [← hl.length, hln]
          exact fun h => nmE_ne L (List.eq_nil_of_length_eq_zero h)
        have HL := Lib.hid hl
        have HO := Lib.hid ho
        have HB := Lib.hid hb
        have HLN := Lib.hid hln
        clear hl hml ho hb hln
        go_wp2_with fail
        go_ret2
        exact ⟨a, n, c, l, HL.out, by rw [HBN.out]; rfl, fun _ => HLN.out, HO.out, HB.out⟩
      · have hsp : splitT L = ([], 4) := by unfold splitT; rw [if_neg h1, if_neg h2, if_neg h3]
        have hbn : belN L = 4 := by unfold belN; rw [if_neg h1, if_neg h2, if_neg h3]
        have HBN := Lib.hid hbn
        rw [hsp] at HS
        clear hsp hbn h1 h2 h3
        go_enter Tryd.func26, Tryd.ntmps26
        go_wp2_with fail
        refine HS.out.mono ?_
        rintro e w1 ⟨⟨a, n, c, l, hl, hml, rfl, ho⟩, hb⟩
        have HL := Lib.hid hl
        have HO := Lib.hid ho
        have HB := Lib.hid hb
        clear hl hml ho hb
        go_wp2_with fail
        go_ret2
        exact ⟨a, n, c, l, HL.out, by rw [HBN.out]; rfl, (fun h => by rw [HBN.out] at h; cases h), HO.out, HB.out⟩

/-- Does a path stand in another one? -/
def withB (l m : List ByteArray) : Bool := decide (m.length < l.length ∧ l.take m.length = m)

set_option maxRecDepth 100000 in
set_option maxHeartbeats 4000000 in
theorem within_any {w : World} {a1 a2 : Option Addr} {n1 c1 n2 c2 : Nat} {l m : List ByteArray} (h1 : IsS w a1 n1 c1 l) (h2 : IsS w a2 n2 c2 m) (hne : m ≠ []) :
    Calls Tryd.prog 46 #[.slice a1 n1 c1, .slice a2 n2 c2] w fun e w' => e = .returned (.bool (withB l m)) ∧ Below w.heap.size w w' := by
  have e1 := h1.length
  have e2 := h2.length
  have r1 := h1.room
  have r2 := h2.room
  unfold maxLen at r1 r2
  have hn2 : ¬ n2 = 0 := fun e => hne (List.eq_nil_of_length_eq_zero (by omega))
  by_cases hlt : n2 < n1
  · obtain ⟨b1, o1, rfl, hb1, hc1⟩ : ∃ b off, a1 = some ⟨b, off, none⟩ ∧ b < w.heap.size ∧ ∀ i, i < n1 → w.cell? ⟨b, off + i, none⟩ = some (.string (l.getD i ⟨#[]⟩)) := by
      rcases h1.at_ with h0 | h
      · omega
      · exact h
    obtain ⟨b2, o2, rfl, hb2, hc2⟩ : ∃ b off, a2 = some ⟨b, off, none⟩ ∧ b < w.heap.size ∧ ∀ i, i < n2 → w.cell? ⟨b, off + i, none⟩ = some (.string (m.getD i ⟨#[]⟩)) := by
      rcases h2.at_ with h0 | h
      · omega
      · exact h
    have hw : withB l m = decide (l.take n2 = m.take n2) := by
      unfold withB
      rw [e2, List.take_of_length_le (show m.length ≤ n2 by omega)]
      simp only [e1, hlt, true_and]
    have HQ := Lib.hid (Tryd.slices_Equal_string b1 o1 n2 c1 b2 o2 n2 c2 l m w (by omega) (by omega) (by omega) (by omega) (fun j hj => hc1 j (by omega)) (fun j hj => hc2 j (by omega)))
    rw [← hw] at HQ
    have hi : (n2 : Int) < (n1 : Int) := by omega
    have hi2 : (n2 : Int) ≤ (c1 : Int) := by omega
    have hi3 : n2 ≤ c1 := by omega
    clear h1 h2 hne e1 e2 hc1 hc2 hw hb1 hb2
    obtain ⟨V, hV⟩ : ∃ V, V = withB l m := ⟨_, rfl⟩
    rw [← hV] at HQ ⊢
    clear hV
    go_enter Tryd.func46, Tryd.ntmps46
    go_wp2_with (refine HQ.out.mono ?_; rintro e w1 ⟨rfl, q, rfl⟩)
    go_ret
    exact ⟨by cases V <;> rfl, ⟨rfl, rfl, rfl, Nat.le_refl _, fun _ _ => rfl⟩⟩
  · have hw : withB l m = false := by
      unfold withB
      simp only [decide_eq_false_iff_not]
      rintro ⟨h, _⟩
      omega
    have hi : ¬ (n2 : Int) < (n1 : Int) := by omega
    rw [hw]
    clear h1 h2 hne e1 e2 hw r1 r2
    go_enter Tryd.func46, Tryd.ntmps46
    go_wp2_with fail
    go_ret
    exact ⟨rfl, Below.refl _ _⟩

/-- What an edit of a tree that is worked on tells, and leaves. -/
def OpP (w : World) (B p : Nat) (S : List Nat) (r : ER) (e : Ending) (w' : World) : Prop :=
  e = .returned (.int .i64 (r.1 : Int)) ∧ Fr (p :: S) w w' ∧ (r.1 = 0 → ∃ S', WK w' B p r.2.1 r.2.2.1 r.2.2.2 S' ∧ (∀ g ∈ S', g ∈ S ∨ w.heap.size ≤ g))

theorem OpP.of_top {w : World} {B p : Nat} {S : List Nat} {gt : T} {r : ER} {w' : World} (h : TopP w B p S [] none gt r w') : OpP w B p S r (.returned (.int .i64 (r.1 : Int))) w' :=
  ⟨rfl, h.1, fun h0 => by
    obtain ⟨S', k1, k2, _⟩ := h.2 h0
    exact ⟨S', k1, fun g hg => by
      rcases k2 g hg with h | h | h
      · exact .inl h
      · cases h
      · exact .inr h⟩⟩

def moveE (l m : List ByteArray) (t : T) (a b : Nat) : ER :=
  if (chgE .drop l 1 t a b).1 ≠ 0 then chgE .drop l 1 t a b else if withB l m || withB m l then (10, (chgE .drop l 1 t a b).2)
  else chgE (.put (getE l t)) m 1 (chgE .drop l 1 t a b).2.1 (chgE .drop l 1 t a b).2.2.1 (chgE .drop l 1 t a b).2.2.2

set_option maxRecDepth 100000 in
set_option maxHeartbeats 8000000 in
theorem move_any {w : World} {B p a b : Nat} {t : T} {S : List Nat} {na ma : Option Addr} {n c n' c' : Nat} {l m : List ByteArray} (h : WK w B p t a b S) (hB : B ≤ w.heap.size) (hlim : Lim t 1 a b) (hl : IsS w na n c l) (hne : l ≠ []) (hnm : ∀ x ∈ l, tName x.data.toList = true)
    (hml : IsS w ma n' c' m) (hme : m ≠ []) (hd1 : ∀ x, na = some x → x.block ∉ p :: S) (hd2 : ∀ x, ma = some x → x.block ∉ p :: S) :
    Calls Tryd.prog 30 #[.pointer (some ⟨p, 0, none⟩), .slice na n c, .slice ma n' c'] w (OpP w B p S (moveE l m t a b)) := by
  obtain ⟨D, hD⟩ : ∃ D, D = chgE .drop l 1 t a b := ⟨_, rfl⟩
  have hmv : (D.1 ≠ 0 → moveE l m t a b = D) ∧ (D.1 = 0 → (withB l m || withB m l) = true → moveE l m t a b = (10, D.2)) ∧ (D.1 = 0 → (withB l m || withB m l) = false → moveE l m t a b = chgE (.put (getE l t)) m 1 D.2.1 D.2.2.1 D.2.2.2) := by
    unfold moveE
    rw [← hD]
    refine ⟨fun h => by rw [if_pos h], fun h h2 => by rw [if_neg (by simp [h]), if_pos h2], fun h h2 => by rw [if_neg (by simp [h]), if_neg (by simp [h2])]⟩
  have hdone : D.1 = 0 → Lim D.2.1 1 D.2.2.1 D.2.2.2 ∧ ∃ dep', Lim (getE l t) dep' a b := fun h0 => by
    rw [hD] at h0 ⊢
    exact ⟨(chg_done .drop (fun k hk => by cases hk) l hnm t 1 a b hlim h0).lim hlim, get_lim l t 1 a b hlim h0⟩
  have HDR := Lib.hid (drop_any h hB hlim hl hne)
  rw [← hD] at HDR
  have hrow : Rows w (p :: S) := by
    obtain ⟨R, hh⟩ := h
    exact Rows.cons hh.hR (by decide) hh.mt.rows
  have HNP : Hid (p ∉ S) := Lib.hid (by
    obtain ⟨R, hh⟩ := h
    exact hh.np)
  have HMV := Lib.hid hmv
  have HDN := Lib.hid hdone
  have HL := Lib.hid hl
  have HM := Lib.hid hml
  have HNE := Lib.hid hne
  have HME := Lib.hid hme
  have HD1 := Lib.hid hd1
  have HD2 := Lib.hid hd2
  have HB := Lib.hid hB
  obtain ⟨M, hM⟩ : ∃ M, M = moveE l m t a b := ⟨_, rfl⟩
  rw [← hM] at HMV ⊢
  clear h hB hlim hl hne hnm hml hme hd1 hd2 hD hmv hdone hrow hM
  go_enter Tryd.func30, Tryd.ntmps30
  go_wp2_with fail
  refine HDR.out.mono ?_
  rintro e w2 ⟨gcs, rfl, hg5, hg1, hf, hok⟩
  obtain ⟨Dc, hDc⟩ : ∃ Dc, Dc = D.1 := ⟨_, rfl⟩
  rw [← hDc]
  have HDC := Lib.hid hDc
  obtain ⟨w3, hw3⟩ : ∃ w3, w3 = (w2.alloc (.cells #[.int .u8 0, .bool false, .slice none 0 0, .slice none 0 0, .slice none 0 0] 26)).setRow w2.heap.size gcs.toArray := ⟨_, rfl⟩
  have HN : Hid ((w2.alloc (.cells #[.int .u8 0, .bool false, .slice none 0 0, .slice none 0 0, .slice none 0 0] 26)).heap[w2.heap.size]? = some (.cells zK.toArray 26 (0, 0))) := Lib.hid (Has.new w2 zK _)
  have b3 : Below w2.heap.size w2 w3 := by rw [hw3]; exact below_setRow ((Below.refl _ _).alloc (Nat.le_refl _) _) (Nat.le_refl _) _
  have g3 : Hid (w3.heap[w2.heap.size]? = some (.cells gcs.toArray 26 (0, 0))) := Lib.hid (by rw [hw3]; exact setRow_heap _ _ _ _ _ _ HN.out)
  have HG5 := Lib.hid (infoL hg5)
  have HGS : Hid (zK.toArray.size = gcs.toArray.size) := Lib.hid (by simp [zK, hg5])
  have HG1 := Lib.hid hg1
  have HF := Lib.hid hf
  have HOK := Lib.hid hok
  have B3 := Lib.hid b3
  have F3 : Hid (Fr (p :: S) w w3) := Lib.hid (hf.trans (Fr.of_below (S := []) b3) (fun g hg => by cases hg))
  have HW3 := Lib.hid hw3
  clear hDc b3 hg5 hg1 hf hok hw3
  go_upto_region 2 with (refine wpList_store_row rfl 26 _ _ rfl w2.heap.size gcs.toArray rfl rfl 26 zK.toArray HN.out HG5.out HGS.out HG1.out ?_)
  rw [← HW3.out]
  by_cases h0 : Dc = 0
  · have hd0 : D.1 = 0 := by rw [← HDC.out]; exact h0
    obtain ⟨S', Sg, k1, k2, k3, k4⟩ := HOK.out hd0
    obtain ⟨hl3, dep', hgl⟩ := HDN.out hd0
    have WK3 := Lib.hid (k1.later B3.out)
    have MT3 := Lib.hid (k3.later B3.out)
    have K2 := Lib.hid k2
    have K4 := Lib.hid k4
    have L3 := Lib.hid hl3
    have GL := Lib.hid hgl
    have IL := Lib.hid (HL.out.fr F3.out HD1.out)
    have IM := Lib.hid (HM.out.fr F3.out HD2.out)
    have hmv2 := HMV.out.2.1 hd0
    have hmv3 := HMV.out.2.2 hd0
    have HV2 := Lib.hid hmv2
    have HV3 := Lib.hid hmv3
    subst h0
    clear k1 k2 k3 k4 hl3 hgl hmv2 hmv3 hd0
    obtain ⟨V1, hV1⟩ : ∃ V1, V1 = withB l m := ⟨_, rfl⟩
    obtain ⟨V2, hV2⟩ : ∃ V2, V2 = withB m l := ⟨_, rfl⟩
    have HC1 := Lib.hid (within_any IL.out IM.out HME.out)
    have HC2 := Lib.hid (fun (W : World) (hW : Below w3.heap.size w3 W) => within_any (IM.out.later hW) (IL.out.later hW) HNE.out)
    rw [← hV1] at HC1 HV2 HV3
    rw [← hV2] at HC2 HV2 HV3
    clear hV1 hV2
    go_wp2_with fail
    refine HC1.out.mono ?_
    rintro e w4 ⟨rfl, hb4⟩
    have B4 := Lib.hid hb4
    have HC2' := Lib.hid (HC2.out w4 hb4)
    clear hb4
    rcases Bool.eq_false_or_eq_true V1 with rfl | rfl
    · go_wp2_with fail
      go_ret
      rw [HV2.out (by rfl)]
      exact ⟨rfl, F3.out.trans (Fr.of_below (S := []) B4.out) (fun g hg => by cases hg), fun h => by simp at h⟩
    · go_wp2_with (refine HC2'.out.mono ?_)
      rintro e w5 ⟨rfl, hb5⟩
      have B5 := Lib.hid (B4.out.trans (hb5.mono B4.out.size))
      clear hb5
      rcases Bool.eq_false_or_eq_true V2 with rfl | rfl
      · go_wp2_with fail
        go_ret
        rw [HV2.out (by rfl)]
        exact ⟨rfl, F3.out.trans (Fr.of_below (S := []) B5.out) (fun g hg => by cases hg), fun h => by simp at h⟩
      · have g5 : Hid (w5.heap[w2.heap.size]? = some (.cells gcs.toArray 26 (0, 0))) := Lib.hid ((B5.out.block _ ((Array.getElem?_eq_some_iff.1 g3.out).1)).trans g3.out)
        have hsz := GL.out.small
        have HPT := Lib.hid (put_any (Sx := Sg) (tt := getE l t) (ct := gcs) (WK3.out.later B5.out) (Nat.le_trans HB.out (Nat.le_trans F3.out.size B5.out.size)) L3.out (IM.out.later B5.out) HME.out (MT3.out.later B5.out) (fun g hg => ⟨(K4.out g hg).2, fun e => HNP.out (e ▸ (K4.out g hg).1)⟩) hsz.1 GL.out.size (by omega))
        clear hsz
        have hv3 := HV3.out (by rfl)
        obtain ⟨G, hG⟩ : ∃ G, G = chgE (.put (getE l t)) m 1 D.2.1 D.2.2.1 D.2.2.2 := ⟨_, rfl⟩
        rw [← hG] at hv3 HPT
        have HVG := Lib.hid hv3
        clear hG hv3
        go_wp2_with (refine wpList_load_row rfl 26 _ rfl w2.heap.size rfl 26 gcs.toArray (0, 0) _ g5.out Tryd.underlying26 rfl HG5.out ?_)
        refine HPT.out.mono ?_
        rintro e w6 ⟨rfl, hf6, hok6⟩
        obtain ⟨E6, hE6⟩ : ∃ E6, E6 = G.1 := ⟨_, rfl⟩
        rw [← hE6] at hok6 ⊢
        have HE6 := Lib.hid hE6
        have HF6 := Lib.hid hf6
        have HO6 := Lib.hid hok6
        clear hE6 hf6 hok6
        go_wp2_with fail
        go_ret
        rw [HVG.out]
        have hsz5 : w.heap.size ≤ w5.heap.size := Nat.le_trans F3.out.size B5.out.size
        refine ⟨by rw [← HE6.out]; rfl, (F3.out.trans (Fr.of_below (S := []) B5.out) (fun g hg => by cases hg)).trans HF6.out (fun g hg hl => ?_), fun hz => ?_⟩
        · rcases List.mem_cons.1 hg with h1 | h1
          · exact List.mem_cons.2 (.inl h1)
          · rcases K2.out g h1 with h2 | h2
            · exact List.mem_cons_of_mem _ h2
            · omega
        · obtain ⟨S2, q1, q2, _⟩ := HO6.out (by rw [HE6.out]; exact hz)
          refine ⟨S2, q1, fun g hg => ?_⟩
          rcases q2 g hg with h1 | h1 | h1
          · exact K2.out g h1
          · exact .inl (K4.out g h1).1
          · exact .inr (by omega)
  · have h0i : ¬ ((Dc : Int) = 0) := by omega
    have hd0 : D.1 ≠ 0 := by rw [← HDC.out]; exact h0
    have hmv1 := HMV.out.1 hd0
    have HV1 := Lib.hid hmv1
    have HD0 := Lib.hid hd0
    clear hmv1 hd0
    go_wp2_with fail
    go_ret
    rw [HV1.out]
    exact ⟨by rw [← HDC.out]; rfl, F3.out, fun h => absurd h HD0.out⟩

end Go.Proofs.YtnfhmndepfmmoaaDoor

/-
  What the laws of recipe rest on, part 5: the code's functions as functions on lists and trees, and what each call does.
-/
import Derived.Deep.RegionHeld3
import Derived.Laws.Rows
import Derived.Deep.RegionHeld
import Derived.BigFrame
import Derived.Deep.AppendLies
import Derived.Lib.AppendStr
import Derived.Lib.ConvBytes
import Derived.Lib.SplitLaws
import Derived.Test.YtlccdenafnekjaaGreatDoorMd
namespace Go.Proofs.YtlccdenafnekjaaGreatDoor
open Go.RowKit
set_option linter.unusedVariables false
set_option maxRecDepth 100000

/-- A build: its tree's five cells, and out, the inputs, most. -/
def blC (cs : List Value) (out : ByteArray) (iv : Value) (m : Nat) : List Value := cs ++ [.string out, iv, .int .i64 (m : Int)]
theorem info_ed : (Tryz.prog.info? 90).map (·.size) = some 8 := by kernel_rfl
/-- Behind an edit: the tree is another one, and only the build's block is as it was not. -/
def EdP (pb : Nat) (out : ByteArray) (iv : Value) (m : Nat) (t : T) (x : EdD) (w : World) (e : Ending) (w' : World) : Prop :=
  ∃ cs', e = .returned (.int .i64 ((runE t [x]).1 : Int)) ∧ cs'.length = 5 ∧ Has w' pb (blC cs' out iv m) 71 ∧ Fr [pb] w w' ∧ ((runE t [x]).1 = 0 → ∃ B S, pb < B ∧ MT w' B cs' (runE t [x]).2.1 S)
theorem eight_list {α : Type} {l : List α} (h : l.length = 8) : ∃ a b c d e f g i, l = [a, b, c, d, e, f, g, i] := by
  match l, h with
  | [a, b, c, d, e, f, g, i], _ => exact ⟨a, b, c, d, e, f, g, i, rfl⟩
theorem range_has {w : World} {b : Nat} {L : List Value} {t : TypeId} (h : Has w b L t) : w.rangeAt b 0 L := fun j v hj => by
  rw [Nat.zero_add]; exact h.cellAt hj
theorem range_bl {w : World} {b : Nat} {cs L : List Value} {t : TypeId} (h : Has w b (cs ++ L) t) : w.rangeAt b 0 cs := fun j v hj => by
  rw [Nat.zero_add]; exact h.cellAt (by rw [List.getElem?_append_left (List.getElem?_eq_some_iff.1 hj).1]; exact hj)
theorem there_bl {w : World} {b : Nat} {cs L : List Value} {t : TypeId} (h : Has w b (cs ++ L) t) {k : Nat} (hk : k = cs.length) : w.there b 0 k := fun j hj => by
  rw [Nat.zero_add]
  refine ⟨?_, h.frozen j⟩
  have h1 : (cs ++ L)[j]? = some ((cs ++ L)[j]'(by rw [List.length_append]; omega)) := List.getElem?_eq_getElem _
  rw [h.cellAt h1]; rfl
theorem has_bl {w : World} {b : Nat} {cs cs' L : List Value} {t : TypeId} (h : Has w b (cs ++ L) t) (hl : cs'.length = cs.length) : Has (w.setCells b 0 cs') b (cs' ++ L) t := by
  rw [setCells_row cs' 0 _ w h (by simp [hl])]
  have e : ((cs ++ L).toArray.toList.take 0 ++ cs' ++ (cs ++ L).toArray.toList.drop (0 + cs'.length)) = cs' ++ L := by simp [hl]
  rw [e]
  exact h.row _
theorem fr_cells {S : List Nat} {w w' : World} {b : Nat} {cs cs' L : List Value} {t : TypeId} (hf : Fr S w w') (hb : b ∈ S) (h : Has w' b (cs ++ L) t) (hl : cs'.length = cs.length) : Fr S w (w'.setCells b 0 cs') := by
  rw [setCells_row cs' 0 _ w' h (by simp [hl])]
  exact hf.setRow (.inl hb) _
theorem mt_below {w w' : World} {B : Nat} {cs : List Value} {t : T} {S : List Nat} (h : MT w B cs t S) (hb : Below w.heap.size w w') : MT w' B cs t S :=
  MT.frame (S := []) (Fr.of_below hb) (fun _ h => by cases h) h (fun _ _ h => by cases h)
/-- What stands while edit goes on. -/
def EdS (w : World) (pb G : Nat) (L E : List Value) (v : World) : Prop := Has v pb L 71 ∧ Has v G E 90 ∧ Below w.heap.size w v
theorem EdS.later {w v v' : World} {pb G : Nat} {L E : List Value} (h : EdS w pb G L E v) (hb : Below v.heap.size v v') : EdS w pb G L E v' := ⟨h.1.below hb h.1.lt, h.2.1.below hb h.2.1.lt, h.2.2.trans (hb.mono h.2.2.size)⟩
set_option maxHeartbeats 20000000 in
theorem edit_any (w : World) (pb n m mx : Nat) (cs E : List Value) (t : T) (out : ByteArray) (iv : Value) (x : EdD) (h : Has w pb (blC cs out iv mx) 71) (ht : IsT w n cs t) (hx : IsX w m E x) (hm : MaxW w) (hmx : 1 < w.heap.size) :
    Calls Tryz.prog 44 #[.pointer (some ⟨pb, 0, none⟩), .agg E.toArray] w (EdP pb out iv mx t x w) := by
  have HI5 : Hid ((Tryz.prog.info? 37).map (·.size) = some cs.length) := Lib.hid (by rw [infoL (isT_five ht), List.size_toArray])
  have hE8 : E.length = 8 := (IsX.eight hx).1
  have HIE : Hid ((Tryz.prog.info? 90).map (·.size) = some E.length) := Lib.hid (by rw [info_ed, hE8])
  obtain ⟨G, hG⟩ : ∃ G, G = w.heap.size := ⟨_, rfl⟩
  obtain ⟨w1, hw1⟩ : ∃ w1, w1 = w.alloc (.cells E.toArray 90) := ⟨_, rfl⟩
  have b1 : Below w.heap.size w w1 := by rw [hw1]; exact (Below.refl _ _).alloc (Nat.le_refl _) _
  have g1 : Has w1 G E 90 := by rw [hw1, hG]; exact Has.new w E _
  have HW1 := Lib.hid hw1
  have HG := Lib.hid hG
  have B1 := Lib.hid b1
  have G1 := Lib.hid g1
  have HP := Lib.hid h
  have HT := Lib.hid ht
  have HX := Lib.hid hx
  have HM := Lib.hid hm
  have HMX := Lib.hid hmx
  have HI8 := HIE
  obtain ⟨e0, e1, e2, e3, e4, e5, e6, e7, hEE⟩ := eight_list hE8
  have HEE := Lib.hid hEE
  have h5 := isT_five ht
  have HC5 := Lib.hid h5
  have HS1 : Hid (EdS w pb G (blC cs out iv mx) E w1) := Lib.hid ⟨h.below b1 h.lt, g1, b1⟩
  clear h ht hx hm hmx hw1 b1 g1 hG hE8 h5 hEE
  go_enter Tryz.func44, Tryz.ntmps44
  go_upto_region 1 with fail
  rw [← HW1.out, ← HG.out]
  refine wp_region_held_drew (S := EdS w pb G (blC cs out iv mx) E) (by kernel_rfl) (HS1.out.later (Below.refl _ _).drew) (fun hHeld => ?_)
  obtain ⟨v0, hv0⟩ : ∃ v0, v0 = w1.drew := ⟨_, rfl⟩
  rw [← hv0] at hHeld ⊢
  clear hv0
  refine wpAnyH_take (i := 0) (v := .pointer (some ⟨pb, 0, none⟩)) rfl (by kernel_rfl) (by kernel_rfl) (by kernel_rfl) (fun _ _ _ h => h)
    (Or.inl ⟨by rfl, by intro w hSw;  clear hSw; go_simp⟩) hHeld ?_
  refine wpAnyH_take (i := 1) (v := .pointer (some ⟨pb, 0, none⟩)) rfl (by kernel_rfl) (by kernel_rfl) (by kernel_rfl) (fun _ _ _ h => h)
    (Or.inl ⟨by rfl, by intro w hSw;  clear hSw; go_simp⟩) hHeld ?_
  refine wpAnyH_take (i := 2) (v := .pointer (some ⟨pb, 0, none⟩)) rfl (by kernel_rfl) (by kernel_rfl) (by kernel_rfl) (fun _ _ _ h => h)
    (Or.inl ⟨by rfl, by intro w hSw;  clear hSw; go_simp⟩) hHeld ?_
  refine wpAnyH_take (i := 3) rfl (by kernel_rfl) (by kernel_rfl) (by kernel_rfl) (fun _ _ _ h => h)
    (yieldsIf_load_mid (by rfl) 37 (.tmp 10) rfl pb (0) rfl cs _ (fun _ h => range_bl h.1) Tryz.underlying37 rfl HI5.out) hHeld ?_
  refine wpAnyH_take (i := 4) rfl (by kernel_rfl) (by kernel_rfl) (by kernel_rfl) (fun _ _ _ h => h)
    (yieldsIf_load_mid (by rfl) 90 (.tmp 3) rfl G (0) rfl E _ (fun _ h => range_has h.2.1) Tryz.underlying90 rfl HI8.out) hHeld ?_
  refine wpAnyH_ready (rs := [5, 10]) (by kernel_rfl) (by simp) ?_
  refine AllReadyH.cons rfl (fun K hK => ?_) (AllReadyH.cons rfl (fun K hK => ?_) AllReadyH.nil)
  · rw [HEE.out]
    go_simp
    obtain ⟨vb, hnw⟩ : ∃ X, X = v0.alloc (.cells #[e0, e1, e2, e3, e4, e5, e6, e7] 90) := ⟨_, rfl⟩
    have hbn : Below v0.heap.size v0 vb := by rw [hnw]; exact (Below.refl _ _).alloc (Nat.le_refl _) _
    obtain ⟨yb, hyb⟩ : ∃ y, y = v0.heap.size := ⟨_, rfl⟩
    rw [← hnw, ← hyb]
    have HYB : Hid (Has vb yb E 90) := Lib.hid (by rw [hnw, hyb, HEE.out]; exact Has.new v0 [e0, e1, e2, e3, e4, e5, e6, e7] _)
    have SN := EdS.later hHeld hbn
    clear hnw hbn hyb
    rw [← HEE.out]
    refine hK.out _ _ SN (fun hHw1 => ?_)
    clear hK K SN hHeld
    refine wpAnyH_ready (rs := [6, 10]) (by kernel_rfl) (by simp) ?_
    refine AllReadyH.cons rfl (fun K hK => ?_) (AllReadyH.cons rfl (fun K hK => ?_) AllReadyH.nil)
    · have BW := Lib.hid hHw1.2.2
      have HXS : Hid (IsXs vb m (some ⟨yb, 0, none⟩) 1 1 [x]) := Lib.hid (one_edit HYB.out (IsX.later HX.out BW.out))
      go_simp
      refine (applyA_any n cs t vb (IsT.later BW.out _ _ _ HT.out) m (some ⟨yb, 0, none⟩) 1 1 [x] HXS.out (HM.out.below BW.out HMX.out) (Nat.lt_of_lt_of_le HMX.out BW.out.size)).mono ?_
      intro e va hq
      obtain ⟨ot, rfl, ho5, ho1, hbn, hok, hbad⟩ := hq
      obtain ⟨D, hD⟩ : ∃ D, D = (runE t [x]).1 := ⟨_, rfl⟩
      rw [← hD] at hok ⊢
      have HD := Lib.hid hD
      obtain ⟨B0, hB0⟩ : ∃ B, B = vb.heap.size := ⟨_, rfl⟩
      rw [← hB0] at hok
      have HB0 : Hid (w.heap.size ≤ B0) := Lib.hid (by rw [hB0]; exact BW.out.size)
      have HOK : Hid (D = 0 → ∃ S, MT va B0 ot (runE t [x]).2.1 S) := Lib.hid hok
      have HO5 := Lib.hid ho5
      have HO1 := Lib.hid ho1
      have SN := EdS.later hHw1 hbn
      have HYB := Lib.hid (HYB.out.below hbn HYB.out.lt)
      clear hok hbad hD ho5 ho1 hbn hB0 HXS BW
      go_simp
      refine hK.out _ _ SN (fun hHw2 => ?_)
      clear hK K SN hHw1
      refine wpAnyH_take (i := 7) (v := .tuple #[.agg ot.toArray, .int .i64 (D : Int)]) rfl (by kernel_rfl) (by kernel_rfl) (by kernel_rfl) (fun _ _ _ h => h)
        (Or.inl ⟨by rfl, by intro w hSw;  clear hSw; go_simp⟩) hHw2 ?_
      refine wpAnyH_take (i := 8) (v := .agg ot.toArray) rfl (by kernel_rfl) (by kernel_rfl) (by kernel_rfl) (fun _ _ _ h => h)
        (Or.inl ⟨by rfl, by intro w hSw;  clear hSw; go_simp⟩) hHw2 ?_
      refine wpAnyH_take (i := 9) (v := .int .i64 (D : Int)) rfl (by kernel_rfl) (by kernel_rfl) (by kernel_rfl) (fun _ _ _ h => h)
        (Or.inl ⟨by rfl, by intro w hSw;  clear hSw; go_simp⟩) hHw2 ?_
      refine wpAnyH_ready (rs := [10]) (by kernel_rfl) (by simp) ?_
      refine AllReadyH.cons rfl (fun K hK => ?_) AllReadyH.nil
      go_simp
      obtain ⟨vt, hnw⟩ : ∃ X, X = va.alloc (.cells #[.int .u8 0, .bool false, .slice none 0 0, .slice none 0 0, .slice none 0 0] 37) := ⟨_, rfl⟩
      have hbn : Below va.heap.size va vt := by rw [hnw]; exact (Below.refl _ _).alloc (Nat.le_refl _) _
      obtain ⟨ta, hta⟩ : ∃ y, y = va.heap.size := ⟨_, rfl⟩
      rw [← hnw, ← hta]
      have HYB := Lib.hid (HYB.out.below hbn HYB.out.lt)
      have HTA : Hid (Has vt ta zK 37) := Lib.hid (by rw [hnw, hta]; exact Has.new va zK _)
      have HTG : Hid (w.heap.size ≤ ta ∧ pb ≠ ta ∧ G ≠ ta) := Lib.hid ⟨by rw [hta]; exact hHw2.2.2.size, by rw [hta]; exact Nat.ne_of_lt hHw2.1.lt, by rw [hta]; exact Nat.ne_of_lt hHw2.2.1.lt⟩
      have SN := EdS.later hHw2 hbn
      have HOK : Hid (D = 0 → ∃ S, MT vt B0 ot (runE t [x]).2.1 S ∧ ta ∉ S) := Lib.hid (fun h0 => by obtain ⟨S, hk⟩ := HOK.out h0; exact ⟨S, mt_below hk hbn, fun hm => by have := hk.rows.lt hm; omega⟩)
      clear hnw hbn hta
      refine hK.out _ _ SN (fun hHw3 => ?_)
      clear hK K SN hHw2
      refine wpAnyH_ready (rs := [11]) (by kernel_rfl) (by simp) ?_
      refine AllReadyH.cons rfl (fun K hK => ?_) AllReadyH.nil
      rw [if_pos (by rfl)]
      refine wp_store_row 37 (.tmp 5) (.tmp 15) rfl ta ot.toArray rfl rfl 37 _ (show _ from HTA.out) (infoL HO5.out) (by simp [zK, HO5.out]) HO1.out ?_
      have HTA0 := HTA
      obtain ⟨vs, hnw⟩ : ∃ X, X = vt.setRow ta ot.toArray := ⟨_, rfl⟩
      have HTA : Hid (Has vs ta ot 37) := Lib.hid (by rw [hnw]; exact HTA.out.row ot)
      have SN : EdS w pb G (blC cs out iv mx) E vs := ⟨by rw [hnw]; exact hHw3.1.rowOther HTG.out.2.1 _, by rw [hnw]; exact hHw3.2.1.rowOther HTG.out.2.2 _, by rw [hnw]; exact below_setRow hHw3.2.2 HTG.out.1 _⟩
      have HOK : Hid (D = 0 → ∃ S, MT vs B0 ot (runE t [x]).2.1 S) := Lib.hid (fun h0 => by
        obtain ⟨S, hk, hn⟩ := HOK.out h0
        rw [hnw]
        exact ⟨S, MT.frame (S := [ta]) ((Fr.refl [ta] _).setRow (.inl (List.mem_cons_self)) _) (Rows.cons HTA0.out (by decide) (fun _ h => by cases h)) hk (fun g hg h1 => by
          obtain rfl : g = ta := by simpa using h1
          exact hn hg)⟩)
      rw [← hnw]
      clear hnw HTA0
      refine hK.out _ _ SN (fun hHw4 => ?_)
      have SV := Lib.hid SN
      clear hK K SN hHw3
      try simp only [Act.put]
      refine wpAnyH_take (i := 12) (v := .int .i64 (D : Int)) rfl (by kernel_rfl) (by kernel_rfl) (by kernel_rfl) (fun _ _ _ h => h)
        (Or.inl ⟨by rfl, by intro w hSw;  clear hSw; go_simp⟩) hHw4 ?_
      refine wpAnyH_done (by kernel_rfl) ?_ _
      clear hHw4
      go_wp2_with (first
        | (refine wpList_load_row rfl 37 _ rfl ta rfl 37 ot.toArray (0, 0) _ (show _ from HTA.out) Tryz.underlying37 rfl (infoL HO5.out) ?_)
        | (refine wpList_store_mid rfl 37 _ _ rfl pb 0 ot.toArray rfl rfl (there_bl SV.out.1 (by rw [List.size_toArray, HO5.out, HC5.out])) (infoL HO5.out) HO1.out ?_))
      refine bodyPost_ret (results_tmp rfl _ _ _) rfl ?_
      refine ⟨ot, by rw [HD.out]; rfl, HO5.out, has_bl SV.out.1 (by rw [HO5.out, HC5.out]), fr_cells (Fr.of_below SV.out.2.2) (List.mem_cons_self) SV.out.1 (by rw [HO5.out, HC5.out]), fun h0 => ?_⟩
      obtain ⟨S, hmt⟩ := HOK.out (by rw [HD.out]; exact h0)
      have hm2 := MT.frame (S := [pb]) (fr_cells (cs' := ot) (Fr.refl [pb] _) (List.mem_cons_self) SV.out.1 (by rw [HO5.out, HC5.out])) (Rows.cons SV.out.1 (by decide) (fun _ h => by cases h)) hmt (fun g hg h1 => by
        obtain rfl : g = pb := by simpa using h1
        have h2 := hmt.from _ hg
        have h3 := HB0.out
        have h4 := HP.out.lt
        omega)
      exact ⟨_, S, by have h3 := HB0.out; have h4 := HP.out.lt; omega, hm2⟩
    · go_simp
      obtain ⟨vt, hnw⟩ : ∃ X, X = vb.alloc (.cells #[.int .u8 0, .bool false, .slice none 0 0, .slice none 0 0, .slice none 0 0] 37) := ⟨_, rfl⟩
      have hbn : Below vb.heap.size vb vt := by rw [hnw]; exact (Below.refl _ _).alloc (Nat.le_refl _) _
      obtain ⟨ta, hta⟩ : ∃ y, y = vb.heap.size := ⟨_, rfl⟩
      rw [← hnw, ← hta]
      have HYB := Lib.hid (HYB.out.below hbn HYB.out.lt)
      have HTA : Hid (Has vt ta zK 37) := Lib.hid (by rw [hnw, hta]; exact Has.new vb zK _)
      have HTG : Hid (w.heap.size ≤ ta ∧ pb ≠ ta ∧ G ≠ ta) := Lib.hid ⟨by rw [hta]; exact hHw1.2.2.size, by rw [hta]; exact Nat.ne_of_lt hHw1.1.lt, by rw [hta]; exact Nat.ne_of_lt hHw1.2.1.lt⟩
      have SN := EdS.later hHw1 hbn
      clear hnw hbn hta
      refine hK.out _ _ SN (fun hHw2 => ?_)
      clear hK K SN hHw1
      refine wpAnyH_ready (rs := [6]) (by kernel_rfl) (by simp) ?_
      refine AllReadyH.cons rfl (fun K hK => ?_) AllReadyH.nil
      have BW := Lib.hid hHw2.2.2
      have HXS : Hid (IsXs vt m (some ⟨yb, 0, none⟩) 1 1 [x]) := Lib.hid (one_edit HYB.out (IsX.later HX.out BW.out))
      go_simp
      refine (applyA_any n cs t vt (IsT.later BW.out _ _ _ HT.out) m (some ⟨yb, 0, none⟩) 1 1 [x] HXS.out (HM.out.below BW.out HMX.out) (Nat.lt_of_lt_of_le HMX.out BW.out.size)).mono ?_
      intro e va hq
      obtain ⟨ot, rfl, ho5, ho1, hbn, hok, hbad⟩ := hq
      obtain ⟨D, hD⟩ : ∃ D, D = (runE t [x]).1 := ⟨_, rfl⟩
      rw [← hD] at hok ⊢
      have HD := Lib.hid hD
      obtain ⟨B0, hB0⟩ : ∃ B, B = vt.heap.size := ⟨_, rfl⟩
      rw [← hB0] at hok
      have HB0 : Hid (w.heap.size ≤ B0) := Lib.hid (by rw [hB0]; exact BW.out.size)
      have HTB : Hid (ta < B0) := Lib.hid (by rw [hB0]; exact HTA.out.lt)
      have HOK : Hid (D = 0 → ∃ S, MT va B0 ot (runE t [x]).2.1 S ∧ ta ∉ S) := Lib.hid (fun h0 => by
        obtain ⟨S, hmt⟩ := hok h0
        exact ⟨S, hmt, fun hm => by have := hmt.from _ hm; have := HTB.out; omega⟩)
      have HO5 := Lib.hid ho5
      have HO1 := Lib.hid ho1
      have SN := EdS.later hHw2 hbn
      have HTA := Lib.hid (HTA.out.below hbn HTA.out.lt)
      have HYB := Lib.hid (HYB.out.below hbn HYB.out.lt)
      clear hok hbad hD ho5 ho1 hbn hB0 HXS BW
      go_simp
      refine hK.out _ _ SN (fun hHw3 => ?_)
      clear hK K SN hHw2
      refine wpAnyH_take (i := 7) (v := .tuple #[.agg ot.toArray, .int .i64 (D : Int)]) rfl (by kernel_rfl) (by kernel_rfl) (by kernel_rfl) (fun _ _ _ h => h)
        (Or.inl ⟨by rfl, by intro w hSw;  clear hSw; go_simp⟩) hHw3 ?_
      refine wpAnyH_take (i := 8) (v := .agg ot.toArray) rfl (by kernel_rfl) (by kernel_rfl) (by kernel_rfl) (fun _ _ _ h => h)
        (Or.inl ⟨by rfl, by intro w hSw;  clear hSw; go_simp⟩) hHw3 ?_
      refine wpAnyH_take (i := 9) (v := .int .i64 (D : Int)) rfl (by kernel_rfl) (by kernel_rfl) (by kernel_rfl) (fun _ _ _ h => h)
        (Or.inl ⟨by rfl, by intro w hSw;  clear hSw; go_simp⟩) hHw3 ?_
      refine wpAnyH_ready (rs := [11]) (by kernel_rfl) (by simp) ?_
      refine AllReadyH.cons rfl (fun K hK => ?_) AllReadyH.nil
      rw [if_pos (by rfl)]
      refine wp_store_row 37 (.tmp 5) (.tmp 15) rfl ta ot.toArray rfl rfl 37 _ (show _ from HTA.out) (infoL HO5.out) (by simp [zK, HO5.out]) HO1.out ?_
      have HTA0 := HTA
      obtain ⟨vs, hnw⟩ : ∃ X, X = va.setRow ta ot.toArray := ⟨_, rfl⟩
      have HTA : Hid (Has vs ta ot 37) := Lib.hid (by rw [hnw]; exact HTA.out.row ot)
      have SN : EdS w pb G (blC cs out iv mx) E vs := ⟨by rw [hnw]; exact hHw3.1.rowOther HTG.out.2.1 _, by rw [hnw]; exact hHw3.2.1.rowOther HTG.out.2.2 _, by rw [hnw]; exact below_setRow hHw3.2.2 HTG.out.1 _⟩
      have HOK : Hid (D = 0 → ∃ S, MT vs B0 ot (runE t [x]).2.1 S) := Lib.hid (fun h0 => by
        obtain ⟨S, hk, hn⟩ := HOK.out h0
        rw [hnw]
        exact ⟨S, MT.frame (S := [ta]) ((Fr.refl [ta] _).setRow (.inl (List.mem_cons_self)) _) (Rows.cons HTA0.out (by decide) (fun _ h => by cases h)) hk (fun g hg h1 => by
          obtain rfl : g = ta := by simpa using h1
          exact hn hg)⟩)
      rw [← hnw]
      clear hnw HTA0
      refine hK.out _ _ SN (fun hHw4 => ?_)
      have SV := Lib.hid SN
      clear hK K SN hHw3
      try simp only [Act.put]
      refine wpAnyH_take (i := 12) (v := .int .i64 (D : Int)) rfl (by kernel_rfl) (by kernel_rfl) (by kernel_rfl) (fun _ _ _ h => h)
        (Or.inl ⟨by rfl, by intro w hSw;  clear hSw; go_simp⟩) hHw4 ?_
      refine wpAnyH_done (by kernel_rfl) ?_ _
      clear hHw4
      go_wp2_with (first
        | (refine wpList_load_row rfl 37 _ rfl ta rfl 37 ot.toArray (0, 0) _ (show _ from HTA.out) Tryz.underlying37 rfl (infoL HO5.out) ?_)
        | (refine wpList_store_mid rfl 37 _ _ rfl pb 0 ot.toArray rfl rfl (there_bl SV.out.1 (by rw [List.size_toArray, HO5.out, HC5.out])) (infoL HO5.out) HO1.out ?_))
      refine bodyPost_ret (results_tmp rfl _ _ _) rfl ?_
      refine ⟨ot, by rw [HD.out]; rfl, HO5.out, has_bl SV.out.1 (by rw [HO5.out, HC5.out]), fr_cells (Fr.of_below SV.out.2.2) (List.mem_cons_self) SV.out.1 (by rw [HO5.out, HC5.out]), fun h0 => ?_⟩
      obtain ⟨S, hmt⟩ := HOK.out (by rw [HD.out]; exact h0)
      have hm2 := MT.frame (S := [pb]) (fr_cells (cs' := ot) (Fr.refl [pb] _) (List.mem_cons_self) SV.out.1 (by rw [HO5.out, HC5.out])) (Rows.cons SV.out.1 (by decide) (fun _ h => by cases h)) hmt (fun g hg h1 => by
        obtain rfl : g = pb := by simpa using h1
        have h2 := hmt.from _ hg
        have h3 := HB0.out
        have h4 := HP.out.lt
        omega)
      exact ⟨_, S, by have h3 := HB0.out; have h4 := HP.out.lt; omega, hm2⟩
  · go_simp
    obtain ⟨vt, hnw⟩ : ∃ X, X = v0.alloc (.cells #[.int .u8 0, .bool false, .slice none 0 0, .slice none 0 0, .slice none 0 0] 37) := ⟨_, rfl⟩
    have hbn : Below v0.heap.size v0 vt := by rw [hnw]; exact (Below.refl _ _).alloc (Nat.le_refl _) _
    obtain ⟨ta, hta⟩ : ∃ y, y = v0.heap.size := ⟨_, rfl⟩
    rw [← hnw, ← hta]
    have HTA : Hid (Has vt ta zK 37) := Lib.hid (by rw [hnw, hta]; exact Has.new v0 zK _)
    have HTG : Hid (w.heap.size ≤ ta ∧ pb ≠ ta ∧ G ≠ ta) := Lib.hid ⟨by rw [hta]; exact hHeld.2.2.size, by rw [hta]; exact Nat.ne_of_lt hHeld.1.lt, by rw [hta]; exact Nat.ne_of_lt hHeld.2.1.lt⟩
    have SN := EdS.later hHeld hbn
    clear hnw hbn hta
    refine hK.out _ _ SN (fun hHw1 => ?_)
    clear hK K SN hHeld
    refine wpAnyH_ready (rs := [5]) (by kernel_rfl) (by simp) ?_
    refine AllReadyH.cons rfl (fun K hK => ?_) AllReadyH.nil
    rw [HEE.out]
    go_simp
    obtain ⟨vb, hnw⟩ : ∃ X, X = vt.alloc (.cells #[e0, e1, e2, e3, e4, e5, e6, e7] 90) := ⟨_, rfl⟩
    have hbn : Below vt.heap.size vt vb := by rw [hnw]; exact (Below.refl _ _).alloc (Nat.le_refl _) _
    obtain ⟨yb, hyb⟩ : ∃ y, y = vt.heap.size := ⟨_, rfl⟩
    rw [← hnw, ← hyb]
    have HTA := Lib.hid (HTA.out.below hbn HTA.out.lt)
    have HYB : Hid (Has vb yb E 90) := Lib.hid (by rw [hnw, hyb, HEE.out]; exact Has.new vt [e0, e1, e2, e3, e4, e5, e6, e7] _)
    have SN := EdS.later hHw1 hbn
    clear hnw hbn hyb
    rw [← HEE.out]
    refine hK.out _ _ SN (fun hHw2 => ?_)
    clear hK K SN hHw1
    refine wpAnyH_ready (rs := [6]) (by kernel_rfl) (by simp) ?_
    refine AllReadyH.cons rfl (fun K hK => ?_) AllReadyH.nil
    have BW := Lib.hid hHw2.2.2
    have HXS : Hid (IsXs vb m (some ⟨yb, 0, none⟩) 1 1 [x]) := Lib.hid (one_edit HYB.out (IsX.later HX.out BW.out))
    go_simp
    refine (applyA_any n cs t vb (IsT.later BW.out _ _ _ HT.out) m (some ⟨yb, 0, none⟩) 1 1 [x] HXS.out (HM.out.below BW.out HMX.out) (Nat.lt_of_lt_of_le HMX.out BW.out.size)).mono ?_
    intro e va hq
    obtain ⟨ot, rfl, ho5, ho1, hbn, hok, hbad⟩ := hq
    obtain ⟨D, hD⟩ : ∃ D, D = (runE t [x]).1 := ⟨_, rfl⟩
    rw [← hD] at hok ⊢
    have HD := Lib.hid hD
    obtain ⟨B0, hB0⟩ : ∃ B, B = vb.heap.size := ⟨_, rfl⟩
    rw [← hB0] at hok
    have HB0 : Hid (w.heap.size ≤ B0) := Lib.hid (by rw [hB0]; exact BW.out.size)
    have HTB : Hid (ta < B0) := Lib.hid (by rw [hB0]; exact HTA.out.lt)
    have HOK : Hid (D = 0 → ∃ S, MT va B0 ot (runE t [x]).2.1 S ∧ ta ∉ S) := Lib.hid (fun h0 => by
      obtain ⟨S, hmt⟩ := hok h0
      exact ⟨S, hmt, fun hm => by have := hmt.from _ hm; have := HTB.out; omega⟩)
    have HO5 := Lib.hid ho5
    have HO1 := Lib.hid ho1
    have SN := EdS.later hHw2 hbn
    have HTA := Lib.hid (HTA.out.below hbn HTA.out.lt)
    have HYB := Lib.hid (HYB.out.below hbn HYB.out.lt)
    clear hok hbad hD ho5 ho1 hbn hB0 HXS BW
    go_simp
    refine hK.out _ _ SN (fun hHw3 => ?_)
    clear hK K SN hHw2
    refine wpAnyH_take (i := 7) (v := .tuple #[.agg ot.toArray, .int .i64 (D : Int)]) rfl (by kernel_rfl) (by kernel_rfl) (by kernel_rfl) (fun _ _ _ h => h)
      (Or.inl ⟨by rfl, by intro w hSw;  clear hSw; go_simp⟩) hHw3 ?_
    refine wpAnyH_take (i := 8) (v := .agg ot.toArray) rfl (by kernel_rfl) (by kernel_rfl) (by kernel_rfl) (fun _ _ _ h => h)
      (Or.inl ⟨by rfl, by intro w hSw;  clear hSw; go_simp⟩) hHw3 ?_
    refine wpAnyH_take (i := 9) (v := .int .i64 (D : Int)) rfl (by kernel_rfl) (by kernel_rfl) (by kernel_rfl) (fun _ _ _ h => h)
      (Or.inl ⟨by rfl, by intro w hSw;  clear hSw; go_simp⟩) hHw3 ?_
    refine wpAnyH_ready (rs := [11]) (by kernel_rfl) (by simp) ?_
    refine AllReadyH.cons rfl (fun K hK => ?_) AllReadyH.nil
    rw [if_pos (by rfl)]
    refine wp_store_row 37 (.tmp 5) (.tmp 15) rfl ta ot.toArray rfl rfl 37 _ (show _ from HTA.out) (infoL HO5.out) (by simp [zK, HO5.out]) HO1.out ?_
    have HTA0 := HTA
    obtain ⟨vs, hnw⟩ : ∃ X, X = va.setRow ta ot.toArray := ⟨_, rfl⟩
    have HTA : Hid (Has vs ta ot 37) := Lib.hid (by rw [hnw]; exact HTA.out.row ot)
    have SN : EdS w pb G (blC cs out iv mx) E vs := ⟨by rw [hnw]; exact hHw3.1.rowOther HTG.out.2.1 _, by rw [hnw]; exact hHw3.2.1.rowOther HTG.out.2.2 _, by rw [hnw]; exact below_setRow hHw3.2.2 HTG.out.1 _⟩
    have HOK : Hid (D = 0 → ∃ S, MT vs B0 ot (runE t [x]).2.1 S) := Lib.hid (fun h0 => by
      obtain ⟨S, hk, hn⟩ := HOK.out h0
      rw [hnw]
      exact ⟨S, MT.frame (S := [ta]) ((Fr.refl [ta] _).setRow (.inl (List.mem_cons_self)) _) (Rows.cons HTA0.out (by decide) (fun _ h => by cases h)) hk (fun g hg h1 => by
        obtain rfl : g = ta := by simpa using h1
        exact hn hg)⟩)
    rw [← hnw]
    clear hnw HTA0
    refine hK.out _ _ SN (fun hHw4 => ?_)
    have SV := Lib.hid SN
    clear hK K SN hHw3
    try simp only [Act.put]
    refine wpAnyH_take (i := 12) (v := .int .i64 (D : Int)) rfl (by kernel_rfl) (by kernel_rfl) (by kernel_rfl) (fun _ _ _ h => h)
      (Or.inl ⟨by rfl, by intro w hSw;  clear hSw; go_simp⟩) hHw4 ?_
    refine wpAnyH_done (by kernel_rfl) ?_ _
    clear hHw4
    go_wp2_with (first
      | (refine wpList_load_row rfl 37 _ rfl ta rfl 37 ot.toArray (0, 0) _ (show _ from HTA.out) Tryz.underlying37 rfl (infoL HO5.out) ?_)
      | (refine wpList_store_mid rfl 37 _ _ rfl pb 0 ot.toArray rfl rfl (there_bl SV.out.1 (by rw [List.size_toArray, HO5.out, HC5.out])) (infoL HO5.out) HO1.out ?_))
    refine bodyPost_ret (results_tmp rfl _ _ _) rfl ?_
    refine ⟨ot, by rw [HD.out]; rfl, HO5.out, has_bl SV.out.1 (by rw [HO5.out, HC5.out]), fr_cells (Fr.of_below SV.out.2.2) (List.mem_cons_self) SV.out.1 (by rw [HO5.out, HC5.out]), fun h0 => ?_⟩
    obtain ⟨S, hmt⟩ := HOK.out (by rw [HD.out]; exact h0)
    have hm2 := MT.frame (S := [pb]) (fr_cells (cs' := ot) (Fr.refl [pb] _) (List.mem_cons_self) SV.out.1 (by rw [HO5.out, HC5.out])) (Rows.cons SV.out.1 (by decide) (fun _ h => by cases h)) hmt (fun g hg h1 => by
      obtain rfl : g = pb := by simpa using h1
      have h2 := hmt.from _ hg
      have h3 := HB0.out
      have h4 := HP.out.lt
      omega)
    exact ⟨_, S, by have h3 := HB0.out; have h4 := HP.out.lt; omega, hm2⟩
end Go.Proofs.YtlccdenafnekjaaGreatDoor
namespace Go.Proofs.YtlccdenafnekjaaGreatDoor
open Go.RowKit
set_option linter.unusedVariables false
set_option maxRecDepth 100000

/-- An edit that puts. -/
def putX (path : ByteArray) (y : T) : EdD := { kind := 2, path := path, src := ⟨#[]⟩, tree := y }
set_option maxHeartbeats 8000000 in
theorem put_rc (w : World) (pb n m mx : Nat) (cs ct : List Value) (t y : T) (out : ByteArray) (iv : Value) (path : ByteArray) (h : Has w pb (blC cs out iv mx) 71) (ht : IsT w n cs t) (hy : IsT w m ct y) (hm : MaxW w) (hmx : 1 < w.heap.size) :
    Calls Tryz.prog 45 #[.pointer (some ⟨pb, 0, none⟩), .string path, .agg ct.toArray] w (EdP pb out iv mx t (putX path y) w) := by
  have HIC := Lib.hid (infoL (isT_five hy))
  obtain ⟨G, hG⟩ : ∃ G, G = w.heap.size := ⟨_, rfl⟩
  obtain ⟨w1, hw1⟩ : ∃ w1, w1 = w.alloc (.cells ct.toArray 37) := ⟨_, rfl⟩
  have b1 : Below w.heap.size w w1 := by rw [hw1]; exact (Below.refl _ _).alloc (Nat.le_refl _) _
  have g1 : Has w1 G ct 37 := by rw [hw1, hG]; exact Has.new w ct _
  obtain ⟨c0, c1, c2, c3, c4, hc⟩ := five_list (isT_five hy)
  have hx : IsX w1 m [.int .u8 2, .string path, .string ⟨#[]⟩, c0, c1, c2, c3, c4] (putX path y) := ⟨ct, by rw [hc]; rfl, IsT.later b1 _ _ _ hy⟩
  have HED := Lib.hid (edit_any w1 pb n m mx cs _ t out iv (putX path y) (h.below b1 h.lt) (IsT.later b1 _ _ _ ht) hx (hm.below b1 hmx) (Nat.lt_of_lt_of_le hmx b1.size))
  have HW1 := Lib.hid hw1
  have HG := Lib.hid hG
  have HC := Lib.hid hc
  have G1 := Lib.hid g1
  have B1 := Lib.hid b1
  clear h ht hy hm hmx hG hw1 b1 g1 hc hx
  go_enter Tryz.func45, Tryz.ntmps45
  go_upto_region 1 with fail
  rw [← HW1.out, ← HG.out]
  rw [HC.out] at G1 HIC
  rw [HC.out]
  go_wp2_with (refine wpList_load_row rfl 37 _ rfl G rfl 37 #[c0, c1, c2, c3, c4] (0, 0) _ (show _ from G1.out) Tryz.underlying37 rfl HIC.out ?_)
  refine HED.out.mono ?_
  intro e w2 hq
  obtain ⟨cs', rfl, h5, hp, hf, ho⟩ := hq
  go_wp2_with fail
  refine bodyPost_ret (results_tmp rfl _ _ _) rfl ?_
  exact ⟨cs', rfl, h5, hp, (Fr.of_below (S := [pb]) B1.out).trans hf (fun g hg _ => hg), ho⟩
end Go.Proofs.YtlccdenafnekjaaGreatDoor
namespace Go.Proofs.YtlccdenafnekjaaGreatDoor
open Go.RowKit
set_option linter.unusedVariables false

set_option maxRecDepth 100000 in
set_option maxHeartbeats 20000000 in
theorem at_err (n : Nat) (cs : List Value) (t : T) (s : ByteArray) (w : World) (ht : IsT w n cs t) (hm : MaxW w) (hmx : 1 < w.heap.size) (hs : (splitT s.data.toList).2 = 0) (code : Int)
    (hf : ∀ l : List ByteArray, l.map (·.data.toList) = (splitT s.data.toList).1 → findT l t = .inl code) :
    Calls Tryz.prog 71 #[.agg cs.toArray, .string s] w fun e w' => e = .returned (.tuple #[.agg zT.toArray, .int .i64 code]) ∧ Below w.heap.size w w' := by
  have hI := Lib.hid (infoL (isT_five ht))
  have HT := Lib.hid ht
  have HF := Lib.hid hf
  have HS := Lib.hid hs
  have HM := Lib.hid hm
  clear ht hf hs hm
  go_enter Tryz.func71, Tryz.ntmps71
  go_upto_region 1 with fail
  obtain ⟨w1, hw1⟩ : ∃ w1, w1 = (w.alloc (.cells cs.toArray 37)).alloc (.cells #[.int .u8 0, .bool false, .slice none 0 0, .slice none 0 0, .slice none 0 0] 37) := ⟨_, rfl⟩
  have sz : (w.alloc (.cells cs.toArray 37)).heap.size = w.heap.size + 1 := by simp
  have r1 : Has w1 (w.heap.size + 1) zT 37 := by rw [hw1, ← sz]; exact Has.new _ zT _
  have g1 : Has w1 w.heap.size cs 37 := by rw [hw1]; exact (Has.new w cs _).alloc _
  have b1 : Below w.heap.size w w1 := by rw [hw1]; exact ((Below.refl _ _).alloc (Nat.le_refl _) _).alloc (by simp) _
  have s1 : w1.heap.size = w.heap.size + 1 + 1 := by rw [hw1]; simp
  rw [← hw1]
  obtain ⟨G, hG⟩ : ∃ G, G = w.heap.size := ⟨_, rfl⟩
  obtain ⟨R, hR⟩ : ∃ R, R = w.heap.size + 1 := ⟨_, rfl⟩
  rw [← hR] at r1 s1
  rw [← hG] at g1
  have hGR : G < R := by omega
  have hwG : w.heap.size ≤ G := by omega
  have hwR : w.heap.size ≤ R := by omega
  have hs1 : w1.heap.size = R + 1 := s1
  rw [← hR, ← hG]
  have HK := Lib.hid (split_any s w1 (HM.out.below b1 hmx))
  have R1 := Lib.hid r1
  have G1 := Lib.hid g1
  have B1 := Lib.hid b1
  have HZI : Hid ((Tryz.prog.info? 37).map (·.size) = some zT.toArray.size) := Lib.hid (by rw [info5]; rfl)
  have HZO : Hid (zT.toArray.all (·.oneCell') = true) := Lib.hid (all_oneCell_toArray (fun v hv => by
    simp only [zT, List.mem_cons, List.not_mem_nil, or_false] at hv
    rcases hv with rfl | rfl | rfl | rfl | rfl <;> rfl))
  clear hw1 sz r1 g1 b1 s1 hG hR
  go_wp2_with fail
  refine HK.out.mono ?_
  rintro e w2 ⟨⟨a, nl, cap, l, hIS, hlm, rfl, hge⟩, b2⟩
  rw [HS.out]
  have R2 := Lib.hid (R1.out.below b2 (by omega))
  have G2 := Lib.hid (G1.out.below b2 (by omega))
  have B2 := Lib.hid (B1.out.trans (b2.mono B1.out.size))
  have HIS := Lib.hid hIS
  have HGE : Hid (∀ x, a = some x → R < x.block) := Lib.hid (fun x hx => by have := hge x hx; omega)
  have HFT := Lib.hid (HF.out l hlm)
  have hroom := hIS.room
  unfold maxLen at hroom
  clear b2 hIS hge hlm HK R1 G1 B1
  go_wp2_with fail
  go_loopw [22] (fun ii wr => ∃ (i n' : Nat) (cs' : List Value) (t' : T), i ≤ nl ∧ ii = .int .i64 i ∧ Has wr G cs' 37 ∧ Has wr R zT 37 ∧ IsT w n' cs' t' ∧ findT (l.drop i) t' = .inl code ∧ Below w.heap.size w wr ∧ IsS wr a nl cap l) (fun ii _ => nl - (intOf ii).toNat)
  case atStart => exact ⟨0, n, cs, t, Nat.zero_le _, rfl, G2.out, R2.out, HT.out, by rw [List.drop_zero]; exact HFT.out, B2.out, HIS.out⟩
  case round =>
    clear G2 R2 B2 HIS
    obtain ⟨i, n', cs', t', hi, rfl, hg, hr, hT, hfd, hbel, hIS⟩ := hrel
    by_cases hlt : i < nl
    · rcases hIS.at_ with h0 | ⟨b, off, rfl, hb, hc⟩
      · omega
      have hll : i < l.length := by rw [hIS.length]; exact hlt
      have hbR : R < b := HGE.out _ rfl
      obtain ⟨nm, hnm⟩ : ∃ nm, nm = l.getD i ⟨#[]⟩ := ⟨_, rfl⟩
      have hcn : wr.cell? ⟨b, off + i, none⟩ = some (.string nm) := by rw [hnm]; exact hc i hlt
      have hdrop : l.drop i = nm :: l.drop (i + 1) := by
        rw [hnm, List.getD_eq_getElem?_getD, List.getElem?_eq_getElem hll]; exact List.drop_eq_getElem_cons hll
      rw [hdrop] at hfd
      cases n' with
      | zero => exact absurd hT (by simp [IsT])
      | succ m =>
      obtain ⟨k, x, d, ns, ks⟩ := t'
      obtain ⟨ad, nd, cd, an, nn, cn, ak, nk, ck, rfl, hB, hSS, hK⟩ := hT
      have cg0 := hg.cellAt (i := 0) rfl
      have HXG := Lib.hid hg
      have HXR := Lib.hid hr
      have HBE := Lib.hid hbel
      have HIS := Lib.hid hIS
      have HSS := Lib.hid (hSS.later hbel)
      have HKK := Lib.hid hK
      have hki : (i : Int) < (nl : Int) := by omega
      have hni : (i : Int) + 1 ≤ 9223372036854775807 := by omega
      have hfd' := hfd
      rw [findT] at hfd'
      have HFD := Lib.hid hfd'
      have hbsz := hbel.size
      clear hg hr hbel hIS hSS hK hB hc hnm hdrop hfd hfd'
      by_cases hk3 : k = 3
      · subst hk3
        have hfd2 : (if Lib.idxOfS ns nm < 0 ∨ (ks.length : Int) ≤ Lib.idxOfS ns nm then Sum.inl 6 else findT (l.drop (i + 1)) (ks.getD (Lib.idxOfS ns nm).toNat default)) = (Sum.inl code : Int ⊕ T) := by
          have := HFD.out; rwa [if_neg (by simp)] at this
        have KI : Calls Tryz.prog 91 #[.slice an nn cn, .string nm] wr fun e w' => e = .returned (.int .i64 (Lib.idxOfS ns nm)) ∧ w' = wr := by
          rcases HSS.out.at_ with h0 | ⟨bn, on, rfl, _, hcn2⟩
          · subst h0
            have : ns = [] := List.eq_nil_of_length_eq_zero HSS.out.length
            subst this
            exact Tryz.slices_Index_string_empty an cn nm wr
          · have hnl := HSS.out.length
            have hrm := HSS.out.room
            unfold maxLen at hrm
            have K := Tryz.slices_Index_string bn on nn cn ns nm wr (by omega) (by omega) (fun j hj => hcn2 j (by omega))
            rw [List.take_of_length_le (by omega)] at K
            exact K
        have HKI := Lib.hid KI
        have cg3 := HXG.out.cellAt (i := 3) rfl
        have cg4 := HXG.out.cellAt (i := 4) rfl
        have HLK := HKK.out.length
        obtain ⟨ix, hix⟩ : ∃ ix, ix = Lib.idxOfS ns nm := ⟨_, rfl⟩
        rw [← hix] at hfd2
        have HIX := Lib.hid hix
        clear KI hix HFD
        by_cases hneg : ix < 0
        · have HCODE : Hid (code = 6) := Lib.hid (by rw [if_pos (.inl hneg)] at hfd2; cases hfd2; rfl)
          clear hfd2
          go_wp2_with fail
          refine HKI.out.mono ?_
          rintro e w3 ⟨rfl, rfl⟩
          rw [← HIX.out]
          go_wp2_with (refine wpList_store_row rfl 37 _ _ rfl R zT.toArray rfl rfl 37 _ HXR.out HZI.out rfl HZO.out ?_)
          refine bodyPost_ret (at_ret (fn := Tryz.f71) (p := 4) (u := 5) (ty := 37) Tryz.results71 _ _ R 37 zT.toArray (0, 0) _ rfl (setRow_heap _ _ _ _ _ _ HXR.out) Tryz.underlying37 rfl HZI.out) rfl ?_
          rw [HCODE.out]
          exact ⟨rfl, below_setRow HBE.out (by omega) _⟩
        · by_cases hbig : (nk : Int) ≤ ix
          · have HCODE : Hid (code = 6) := Lib.hid (by rw [if_pos (.inr (by rw [HLK]; exact hbig))] at hfd2; cases hfd2; rfl)
            clear hfd2
            go_wp2_with fail
            refine HKI.out.mono ?_
            rintro e w3 ⟨rfl, rfl⟩
            rw [← HIX.out]
            go_wp2_with (refine wpList_store_row rfl 37 _ _ rfl R zT.toArray rfl rfl 37 _ HXR.out HZI.out rfl HZO.out ?_)
            refine bodyPost_ret (at_ret (fn := Tryz.f71) (p := 4) (u := 5) (ty := 37) Tryz.results71 _ _ R 37 zT.toArray (0, 0) _ rfl (setRow_heap _ _ _ _ _ _ HXR.out) Tryz.underlying37 rfl HZI.out) rfl ?_
            rw [HCODE.out]
            exact ⟨rfl, below_setRow HBE.out (by omega) _⟩
          · obtain ⟨j, rfl⟩ : ∃ j : Nat, ix = (j : Int) := ⟨ix.toNat, by omega⟩
            have hjn : j < nk := by omega
            have hfd3 : findT (l.drop (i + 1)) (ks.getD j default) = .inl code := by rw [if_neg (by rw [HLK]; omega)] at hfd2; simpa using hfd2
            rcases HKK.out.at_ with h0 | ⟨bk, ok, rfl, hbk, hck⟩
            · omega
            obtain ⟨e0, e1, e2, e3, e4, hRk, k0, k1, k2, k3, k4⟩ := hck j hjn
            have hrange : wr.rangeAt bk (ok + j * 5) [e0, e1, e2, e3, e4] := fun q v hv => by
              rw [Nat.add_assoc]
              match q, hv with
              | 0, hv => cases hv; exact (HBE.out.cell (p := ⟨bk, ok + (j * 5 + 0), none⟩) hbk).trans k0
              | 1, hv => cases hv; exact (HBE.out.cell (p := ⟨bk, ok + (j * 5 + 1), none⟩) hbk).trans k1
              | 2, hv => cases hv; exact (HBE.out.cell (p := ⟨bk, ok + (j * 5 + 2), none⟩) hbk).trans k2
              | 3, hv => cases hv; exact (HBE.out.cell (p := ⟨bk, ok + (j * 5 + 3), none⟩) hbk).trans k3
              | 4, hv => cases hv; exact (HBE.out.cell (p := ⟨bk, ok + (j * 5 + 4), none⟩) hbk).trans k4
              | q + 5, hv => simp at hv
            obtain ⟨L5, hL5⟩ : ∃ L, L = [e0, e1, e2, e3, e4] := ⟨_, rfl⟩
            rw [← hL5] at hrange hRk
            have HRG := Lib.hid hrange
            have HRK := Lib.hid hRk
            have HLI := Lib.hid (infoL (isT_five hRk))
            have HL5 : Hid ((Tryz.prog.info? 37).map (·.size) = some L5.length) := Lib.hid (by rw [info5, isT_five hRk])
            have HLO := Lib.hid (isT_one hRk)
            have HLS : Hid ((#[.int .u8 3, .bool x, .slice ad nd cd, .slice an nn cn, .slice (some ⟨bk, ok, none⟩) nk ck] : Array Value).size = L5.toArray.size) := Lib.hid (by have := isT_five hRk; simp [this])
            have HF3 := Lib.hid hfd3
            have HLT := Lib.hid hlt
            have hjk : (j : Int) < (nk : Int) := by omega
            have hq1 : decide ((j : Int) < 0) = false := by simp
            have hq2 : decide ((nk : Int) ≤ (j : Int)) = false := by simp; omega
            have hq3 : ¬ nk ≤ j := by omega
            have hq4 : ¬ (nk : Int) ≤ (j : Int) := by omega
            clear hfd2 hfd3 hck k0 k1 k2 k3 k4 hrange hRk hL5 hneg hbig hjn HLK
            go_wp2_with fail
            refine HKI.out.mono ?_
            rintro e w3 ⟨rfl, rfl⟩
            rw [← HIX.out]
            go_wp2_with (first
              | (refine wpList_load_mid rfl 37 _ rfl bk (ok + j * 5) rfl L5 _ HRG.out Tryz.underlying37 rfl HL5.out ?_)
              | (refine wpList_store_row rfl 37 _ _ rfl G L5.toArray rfl rfl 37 _ HXG.out HLI.out HLS.out HLO.out ?_))
            go_roundw
            case rel =>
              refine ⟨i + 1, m, L5, _, by have := HLT.out; omega, by go_num, HXG.out.row L5, HXR.out.rowOther (by omega) _, HRK.out, HF3.out, below_setRow HBE.out (by omega) _, ?_⟩
              have hS := HIS.out
              refine ⟨hS.length, ?_, hS.nil, hS.room⟩
              rcases hS.at_ with h0 | ⟨b', off', he, hb', hc'⟩
              · exact .inl h0
              · cases he
                exact .inr ⟨b, off, rfl, by simpa using hb', fun q hq => (World.cell?_of_block (w := w3) (a := ⟨b, off + q, none⟩) (setRow_other _ _ _ _ (by show b ≠ G; omega))).trans (hc' q hq)⟩
            case measure =>
              have := HLT.out
              simp only [intOf]; omega
      · have HCODE : Hid (code = 8) := Lib.hid (by have := HFD.out; rw [if_pos hk3] at this; cases this; rfl)
        obtain ⟨z, hz⟩ : ∃ z : Int, z = (k.toNat : Int) := ⟨_, rfl⟩
        rw [← hz] at cg0
        have hz3 : (z == 3) = false := by
          have : k.toNat ≠ 3 := fun h => hk3 (UInt8.toNat_inj.1 h)
          rw [beq_eq_false_iff_ne]; omega
        have hz3' : ¬ z = 3 := by simpa using hz3
        have hz4 : (z != 3) = true := by rw [bne_iff_ne]; exact hz3'
        clear hk3 HFD hz
        go_wp2_with (refine wpList_store_row rfl 37 _ _ rfl R zT.toArray rfl rfl 37 _ HXR.out HZI.out rfl HZO.out ?_)
        refine bodyPost_ret (at_ret (fn := Tryz.f71) (p := 4) (u := 5) (ty := 37) Tryz.results71 _ _ R 37 zT.toArray (0, 0) _ rfl (setRow_heap _ _ _ _ _ _ HXR.out) Tryz.underlying37 rfl HZI.out) rfl ?_
        rw [HCODE.out]
        exact ⟨rfl, below_setRow HBE.out (by omega) _⟩
    · exfalso
      have : l.drop i = [] := List.drop_eq_nil_of_le (by rw [hIS.length]; omega)
      rw [this] at hfd
      cases hfd

/-- Something stands there: a copy of it. -/
def AtOk (x : T) (w : World) (e : Ending) (w' : World) : Prop := ∃ cs S, e = .returned (.tuple #[.agg cs.toArray, .int .i64 0]) ∧ MT w' w.heap.size cs x S ∧ Below w.heap.size w w'

set_option maxRecDepth 100000 in
set_option maxHeartbeats 20000000 in
theorem at_ok (n : Nat) (cs : List Value) (t : T) (s : ByteArray) (w : World) (ht : IsT w n cs t) (hsm : Small t) (hN : sizeN t ≤ 1000000) (hm : MaxW w) (hmx : 1 < w.heap.size) (hs : (splitT s.data.toList).2 = 0) (x0 : T)
    (hf : ∀ l : List ByteArray, l.map (·.data.toList) = (splitT s.data.toList).1 → findT l t = .inr x0) :
    Calls Tryz.prog 71 #[.agg cs.toArray, .string s] w (AtOk x0 w) := by
  have hI := Lib.hid (infoL (isT_five ht))
  have HT := Lib.hid ht
  have HF := Lib.hid hf
  have HSMT := Lib.hid hsm
  have HNT := Lib.hid hN
  have HS := Lib.hid hs
  have HM := Lib.hid hm
  clear ht hf hs hm hsm hN
  go_enter Tryz.func71, Tryz.ntmps71
  go_upto_region 1 with fail
  obtain ⟨w1, hw1⟩ : ∃ w1, w1 = (w.alloc (.cells cs.toArray 37)).alloc (.cells #[.int .u8 0, .bool false, .slice none 0 0, .slice none 0 0, .slice none 0 0] 37) := ⟨_, rfl⟩
  have sz : (w.alloc (.cells cs.toArray 37)).heap.size = w.heap.size + 1 := by simp
  have r1 : Has w1 (w.heap.size + 1) zT 37 := by rw [hw1, ← sz]; exact Has.new _ zT _
  have g1 : Has w1 w.heap.size cs 37 := by rw [hw1]; exact (Has.new w cs _).alloc _
  have b1 : Below w.heap.size w w1 := by rw [hw1]; exact ((Below.refl _ _).alloc (Nat.le_refl _) _).alloc (by simp) _
  have s1 : w1.heap.size = w.heap.size + 1 + 1 := by rw [hw1]; simp
  rw [← hw1]
  obtain ⟨G, hG⟩ : ∃ G, G = w.heap.size := ⟨_, rfl⟩
  obtain ⟨R, hR⟩ : ∃ R, R = w.heap.size + 1 := ⟨_, rfl⟩
  rw [← hR] at r1 s1
  rw [← hG] at g1
  have hGR : G < R := by omega
  have hwG : w.heap.size ≤ G := by omega
  have hwR : w.heap.size ≤ R := by omega
  have hs1 : w1.heap.size = R + 1 := s1
  rw [← hR, ← hG]
  have HK := Lib.hid (split_any s w1 (HM.out.below b1 hmx))
  have R1 := Lib.hid r1
  have G1 := Lib.hid g1
  have B1 := Lib.hid b1
  have HZI : Hid ((Tryz.prog.info? 37).map (·.size) = some zT.toArray.size) := Lib.hid (by rw [info5]; rfl)
  have HZO : Hid (zT.toArray.all (·.oneCell') = true) := Lib.hid (all_oneCell_toArray (fun v hv => by
    simp only [zT, List.mem_cons, List.not_mem_nil, or_false] at hv
    rcases hv with rfl | rfl | rfl | rfl | rfl <;> rfl))
  clear hw1 sz r1 g1 b1 s1 hG hR
  go_wp2_with fail
  refine HK.out.mono ?_
  rintro e w2 ⟨⟨a, nl, cap, l, hIS, hlm, rfl, hge⟩, b2⟩
  rw [HS.out]
  have R2 := Lib.hid (R1.out.below b2 (by omega))
  have G2 := Lib.hid (G1.out.below b2 (by omega))
  have B2 := Lib.hid (B1.out.trans (b2.mono B1.out.size))
  have HIS := Lib.hid hIS
  have HGE : Hid (∀ x, a = some x → R < x.block) := Lib.hid (fun x hx => by have := hge x hx; omega)
  have HFT := Lib.hid (HF.out l hlm)
  have hroom := hIS.room
  unfold maxLen at hroom
  clear b2 hIS hge hlm HK R1 G1 B1
  go_wp2_with fail
  go_loopw [22] (fun ii wr => ∃ (i n' : Nat) (cs' : List Value) (t' : T), i ≤ nl ∧ ii = .int .i64 i ∧ Has wr G cs' 37 ∧ Has wr R zT 37 ∧ IsT w n' cs' t' ∧ findT (l.drop i) t' = .inr x0 ∧ Below w.heap.size w wr ∧ IsS wr a nl cap l ∧ Small t' ∧ sizeN t' ≤ 1000000) (fun ii _ => nl - (intOf ii).toNat)
  case atStart => exact ⟨0, n, cs, t, Nat.zero_le _, rfl, G2.out, R2.out, HT.out, by rw [List.drop_zero]; exact HFT.out, B2.out, HIS.out, HSMT.out, HNT.out⟩
  case round =>
    clear G2 R2 B2 HIS
    obtain ⟨i, n', cs', t', hi, rfl, hg, hr, hT, hfd, hbel, hIS, hsm', hN'⟩ := hrel
    by_cases hlt : i < nl
    · rcases hIS.at_ with h0 | ⟨b, off, rfl, hb, hc⟩
      · omega
      have hll : i < l.length := by rw [hIS.length]; exact hlt
      have hbR : R < b := HGE.out _ rfl
      obtain ⟨nm, hnm⟩ : ∃ nm, nm = l.getD i ⟨#[]⟩ := ⟨_, rfl⟩
      have hcn : wr.cell? ⟨b, off + i, none⟩ = some (.string nm) := by rw [hnm]; exact hc i hlt
      have hdrop : l.drop i = nm :: l.drop (i + 1) := by
        rw [hnm, List.getD_eq_getElem?_getD, List.getElem?_eq_getElem hll]; exact List.drop_eq_getElem_cons hll
      rw [hdrop] at hfd
      cases n' with
      | zero => exact absurd hT (by simp [IsT])
      | succ m =>
      obtain ⟨k, x, d, ns, ks⟩ := t'
      obtain ⟨ad, nd, cd, an, nn, cn, ak, nk, ck, rfl, hB, hSS, hK⟩ := hT
      have cg0 := hg.cellAt (i := 0) rfl
      have HXG := Lib.hid hg
      have HXR := Lib.hid hr
      have HBE := Lib.hid hbel
      have HIS := Lib.hid hIS
      have HSS := Lib.hid (hSS.later hbel)
      have HKK := Lib.hid hK
      have HSM' := Lib.hid hsm'
      have HN' := Lib.hid hN'
      have hki : (i : Int) < (nl : Int) := by omega
      have hni : (i : Int) + 1 ≤ 9223372036854775807 := by omega
      rw [findT] at hfd
      have HFD := Lib.hid hfd
      have hbsz := hbel.size
      clear hg hr hbel hIS hSS hK hB hc hnm hdrop hfd hsm' hN'
      by_cases hk3 : k = 3
      · subst hk3
        have hfd2 : (if Lib.idxOfS ns nm < 0 ∨ (ks.length : Int) ≤ Lib.idxOfS ns nm then Sum.inl 6 else findT (l.drop (i + 1)) (ks.getD (Lib.idxOfS ns nm).toNat default)) = (Sum.inr x0 : Int ⊕ T) := by
          have := HFD.out; rwa [if_neg (by simp)] at this
        have KI : Calls Tryz.prog 91 #[.slice an nn cn, .string nm] wr fun e w' => e = .returned (.int .i64 (Lib.idxOfS ns nm)) ∧ w' = wr := by
          rcases HSS.out.at_ with h0 | ⟨bn, on, rfl, _, hcn2⟩
          · subst h0
            have : ns = [] := List.eq_nil_of_length_eq_zero HSS.out.length
            subst this
            exact Tryz.slices_Index_string_empty an cn nm wr
          · have hnl := HSS.out.length
            have hrm := HSS.out.room
            unfold maxLen at hrm
            have K := Tryz.slices_Index_string bn on nn cn ns nm wr (by omega) (by omega) (fun j hj => hcn2 j (by omega))
            rw [List.take_of_length_le (by omega)] at K
            exact K
        have HKI := Lib.hid KI
        have cg3 := HXG.out.cellAt (i := 3) rfl
        have cg4 := HXG.out.cellAt (i := 4) rfl
        have HLK := HKK.out.length
        obtain ⟨ix, hix⟩ : ∃ ix, ix = Lib.idxOfS ns nm := ⟨_, rfl⟩
        rw [← hix] at hfd2
        have HIX := Lib.hid hix
        clear KI hix HFD
        have hneg : ¬ ix < 0 := fun h => by rw [if_pos (.inl h)] at hfd2; cases hfd2
        have hbig : ¬ (nk : Int) ≤ ix := fun h => by rw [if_pos (.inr (by rw [HLK]; exact h))] at hfd2; cases hfd2
        obtain ⟨j, rfl⟩ : ∃ j : Nat, ix = (j : Int) := ⟨ix.toNat, by omega⟩
        have hjn : j < nk := by omega
        have hfd3 : findT (l.drop (i + 1)) (ks.getD j default) = .inr x0 := by rw [if_neg (by rw [HLK]; omega)] at hfd2; simpa using hfd2
        rcases HKK.out.at_ with h0 | ⟨bk, ok, rfl, hbk, hck⟩
        · omega
        obtain ⟨e0, e1, e2, e3, e4, hRk, k0, k1, k2, k3, k4⟩ := hck j hjn
        have hrange : wr.rangeAt bk (ok + j * 5) [e0, e1, e2, e3, e4] := fun q v hv => by
          rw [Nat.add_assoc]
          match q, hv with
          | 0, hv => cases hv; exact (HBE.out.cell (p := ⟨bk, ok + (j * 5 + 0), none⟩) hbk).trans k0
          | 1, hv => cases hv; exact (HBE.out.cell (p := ⟨bk, ok + (j * 5 + 1), none⟩) hbk).trans k1
          | 2, hv => cases hv; exact (HBE.out.cell (p := ⟨bk, ok + (j * 5 + 2), none⟩) hbk).trans k2
          | 3, hv => cases hv; exact (HBE.out.cell (p := ⟨bk, ok + (j * 5 + 3), none⟩) hbk).trans k3
          | 4, hv => cases hv; exact (HBE.out.cell (p := ⟨bk, ok + (j * 5 + 4), none⟩) hbk).trans k4
          | q + 5, hv => simp at hv
        have HSK : Hid (Small (ks.getD j default)) := Lib.hid (HSM'.out.kid j (by omega))
        have HNK : Hid (sizeN (ks.getD j default) ≤ 1000000) := Lib.hid (by
          have h1 := HN'.out
          rw [sizeN_mk] at h1
          have := sizeNL_get (l := ks) (i := j) (by omega)
          omega)
        obtain ⟨L5, hL5⟩ : ∃ L, L = [e0, e1, e2, e3, e4] := ⟨_, rfl⟩
        rw [← hL5] at hrange hRk
        have HRG := Lib.hid hrange
        have HRK := Lib.hid hRk
        have HLI := Lib.hid (infoL (isT_five hRk))
        have HL5 : Hid ((Tryz.prog.info? 37).map (·.size) = some L5.length) := Lib.hid (by rw [info5, isT_five hRk])
        have HLO := Lib.hid (isT_one hRk)
        have HLS : Hid ((#[.int .u8 3, .bool x, .slice ad nd cd, .slice an nn cn, .slice (some ⟨bk, ok, none⟩) nk ck] : Array Value).size = L5.toArray.size) := Lib.hid (by have := isT_five hRk; simp [this])
        have HF3 := Lib.hid hfd3
        have HLT := Lib.hid hlt
        have hjk : (j : Int) < (nk : Int) := by omega
        have hq1 : decide ((j : Int) < 0) = false := by simp
        have hq2 : decide ((nk : Int) ≤ (j : Int)) = false := by simp; omega
        have hq3 : ¬ nk ≤ j := by omega
        have hq4 : ¬ (nk : Int) ≤ (j : Int) := by omega
        clear hfd2 hfd3 hck k0 k1 k2 k3 k4 hrange hRk hL5 hneg hbig hjn HLK
        go_wp2_with fail
        refine HKI.out.mono ?_
        rintro e w3 ⟨rfl, rfl⟩
        rw [← HIX.out]
        go_wp2_with (first
          | (refine wpList_load_mid rfl 37 _ rfl bk (ok + j * 5) rfl L5 _ HRG.out Tryz.underlying37 rfl HL5.out ?_)
          | (refine wpList_store_row rfl 37 _ _ rfl G L5.toArray rfl rfl 37 _ HXG.out HLI.out HLS.out HLO.out ?_))
        go_roundw
        case rel =>
          refine ⟨i + 1, m, L5, _, by have := HLT.out; omega, by go_num, HXG.out.row L5, HXR.out.rowOther (by omega) _, HRK.out, HF3.out, below_setRow HBE.out (by omega) _, ?_, HSK.out, HNK.out⟩
          have hS := HIS.out
          refine ⟨hS.length, ?_, hS.nil, hS.room⟩
          rcases hS.at_ with h0 | ⟨b', off', he, hb', hc'⟩
          · exact .inl h0
          · cases he
            exact .inr ⟨b, off, rfl, by simpa using hb', fun q hq => (World.cell?_of_block (w := w3) (a := ⟨b, off + q, none⟩) (setRow_other _ _ _ _ (by show b ≠ G; omega))).trans (hc' q hq)⟩
        case measure =>
          have := HLT.out
          simp only [intOf]; omega
      · exfalso
        have := HFD.out
        rw [if_pos hk3] at this
        cases this
    · obtain rfl : i = nl := by omega
      have hx : t' = x0 := by
        have : l.drop i = [] := List.drop_eq_nil_of_le (by rw [hIS.length]; omega)
        rw [this] at hfd
        cases hfd
        rfl
      subst hx
      have HCS := Lib.hid (infoL (isT_five hT))
      have HXG := Lib.hid hg
      have HXR := Lib.hid hr
      have HBE := Lib.hid hbel
      have HKC := Lib.hid (mcopy_any n' cs' t' wr (IsT.later hbel _ _ _ hT) hsm' hN')
      clear hg hr hbel hT hfd hIS hsm' hN'
      go_wp2_with (refine wpList_load_row rfl 37 _ rfl G rfl 37 cs'.toArray (0, 0) _ HXG.out Tryz.underlying37 rfl HCS.out ?_)
      refine HKC.out.mono ?_
      rintro e w4 ⟨cq, Sq, rfl, hmt, _, b4⟩
      have hRw : R < wr.heap.size := HXR.out.lt
      have HRW := Lib.hid hRw
      have HR4 := Lib.hid (HXR.out.below b4 hRw)
      have HQI := Lib.hid (infoL hmt.five)
      have HQS : Hid (zT.toArray.size = cq.toArray.size) := Lib.hid (by simp [hmt.five, zT])
      have HQO := Lib.hid (all_oneCell_toArray hmt.one)
      have HMT := Lib.hid hmt
      have HB4 := Lib.hid (HBE.out.trans (b4.mono HBE.out.size))
      clear b4 hmt HKC
      go_wp2_with (refine wpList_store_row rfl 37 _ _ rfl R cq.toArray rfl rfl 37 _ HR4.out HQI.out HQS.out HQO.out ?_)
      refine bodyPost_ret (at_ret (fn := Tryz.f71) (p := 4) (u := 5) (ty := 37) Tryz.results71 _ _ R 37 cq.toArray (0, 0) _ rfl (setRow_heap _ _ _ _ _ _ HR4.out) Tryz.underlying37 rfl HQI.out) rfl ?_
      refine ⟨cq, Sq, rfl, (MT.frame (S := [R]) ((Fr.refl [R] _).setRow (.inl (List.mem_cons_self)) _) (Rows.cons HR4.out (by decide) (fun _ h => by cases h)) HMT.out (fun g hg h1 => ?_)).low HBE.out.size, below_setRow HB4.out (by omega) _⟩
      obtain rfl : g = R := by simpa using h1
      have h2 := HMT.out.from _ hg
      have h3 := HRW.out
      omega

set_option maxRecDepth 100000 in
set_option maxHeartbeats 20000000 in
theorem at_split (cs : List Value) (s : ByteArray) (w : World) (h5 : cs.length = 5) (hm : MaxW w) (hmx : 1 < w.heap.size) (code : Int) (hs : (splitT s.data.toList).2 = code) (hne : code ≠ 0) :
    Calls Tryz.prog 71 #[.agg cs.toArray, .string s] w fun e w' => e = .returned (.tuple #[.agg zT.toArray, .int .i64 code]) ∧ Below w.heap.size w w' := by
  have HS := Lib.hid hs
  have HM := Lib.hid hm
  have hne1 : (code != 0) = true := by rw [bne_iff_ne]; exact hne
  have hne2 : (code == 0) = false := by rw [beq_eq_false_iff_ne]; exact hne
  clear hs hm
  go_enter Tryz.func71, Tryz.ntmps71
  go_upto_region 1 with fail
  obtain ⟨w1, hw1⟩ : ∃ w1, w1 = (w.alloc (.cells cs.toArray 37)).alloc (.cells #[.int .u8 0, .bool false, .slice none 0 0, .slice none 0 0, .slice none 0 0] 37) := ⟨_, rfl⟩
  have sz : (w.alloc (.cells cs.toArray 37)).heap.size = w.heap.size + 1 := by simp
  have r1 : Has w1 (w.heap.size + 1) zT 37 := by rw [hw1, ← sz]; exact Has.new _ zT _
  have b1 : Below w.heap.size w w1 := by rw [hw1]; exact ((Below.refl _ _).alloc (Nat.le_refl _) _).alloc (by simp) _
  have s1 : w1.heap.size = w.heap.size + 1 + 1 := by rw [hw1]; simp
  rw [← hw1]
  obtain ⟨R, hR⟩ : ∃ R, R = w.heap.size + 1 := ⟨_, rfl⟩
  rw [← hR] at r1 s1 ⊢
  have hwR : w.heap.size ≤ R := by omega
  have HK := Lib.hid (split_any s w1 (HM.out.below b1 hmx))
  have R1 := Lib.hid r1
  have B1 := Lib.hid b1
  have HZI : Hid ((Tryz.prog.info? 37).map (·.size) = some zT.toArray.size) := Lib.hid (by rw [info5]; rfl)
  have HZO : Hid (zT.toArray.all (·.oneCell') = true) := Lib.hid (all_oneCell_toArray (fun v hv => by
    simp only [zT, List.mem_cons, List.not_mem_nil, or_false] at hv
    rcases hv with rfl | rfl | rfl | rfl | rfl <;> rfl))
  clear hw1 sz r1 b1 hR
  go_wp2_with fail
  refine HK.out.mono ?_
  rintro e w2 ⟨⟨a, nl, cap, l, hIS, hlm, rfl, hge⟩, b2⟩
  rw [HS.out]
  have R2 := Lib.hid (R1.out.below b2 (by omega))
  have B2 := Lib.hid (B1.out.trans (b2.mono B1.out.size))
  clear b2 hIS hge hlm HK R1 B1
  go_wp2_with (refine wpList_store_row rfl 37 _ _ rfl R zT.toArray rfl rfl 37 _ R2.out HZI.out rfl HZO.out ?_)
  refine bodyPost_ret (at_ret (fn := Tryz.f71) (p := 4) (u := 5) (ty := 37) Tryz.results71 _ _ R 37 zT.toArray (0, 0) _ rfl (setRow_heap _ _ _ _ _ _ R2.out) Tryz.underlying37 rfl HZI.out) rfl ?_
  exact ⟨rfl, below_setRow B2.out (by omega) _⟩

/-- What At tells. -/
def AtPost (r : Int ⊕ T) (w : World) (e : Ending) (w' : World) : Prop := match r with
  | .inl c => e = .returned (.tuple #[.agg zT.toArray, .int .i64 c]) ∧ Below w.heap.size w w'
  | .inr x => AtOk x w e w'

theorem at_any (n : Nat) (cs : List Value) (t : T) (s : ByteArray) (w : World) (ht : IsT w n cs t) (hsm : Small t) (hN : sizeN t ≤ 1000000) (hm : MaxW w) (hmx : 1 < w.heap.size) :
    Calls Tryz.prog 71 #[.agg cs.toArray, .string s] w (AtPost (atT s.data.toList t) w) := by
  by_cases h0 : (splitT s.data.toList).2 = 0
  · cases hr : atT s.data.toList t with
    | inl c =>
      refine (at_err n cs t s w ht hm hmx h0 c (fun l hl => ?_)).mono fun e w' h => h
      unfold atT at hr
      rw [if_pos h0] at hr
      rw [mkB_of hl]; exact hr
    | inr x =>
      refine (at_ok n cs t s w ht hsm hN hm hmx h0 x (fun l hl => ?_)).mono fun e w' h => h
      unfold atT at hr
      rw [if_pos h0] at hr
      rw [mkB_of hl]; exact hr
  · have hr : atT s.data.toList t = .inl (splitT s.data.toList).2 := by unfold atT; rw [if_neg h0]
    rw [hr]
    exact (at_split cs s w (isT_five ht) hm hmx _ rfl h0).mono fun e w' h => h

end Go.Proofs.YtlccdenafnekjaaGreatDoor
namespace Go.Proofs.YtlccdenafnekjaaGreatDoor
open Go.RowKit
set_option linter.unusedVariables false
set_option maxRecDepth 100000

/-- A change, as a function: the error's number, the tree. -/
def chF (t : T) (path : ByteArray) (code : T → Int) (g : T → T) : Int × T := match atT path.data.toList t with
  | .inl c => (c, t)
  | .inr y => if kindT y ≠ 1 then (8, t) else if code y ≠ 0 then (code y, t) else (((runE t [putX path (g y)]).1 : Int), (runE t [putX path (g y)]).2.1)
/-- What change tells. -/
def ChP (pb : Nat) (out : ByteArray) (iv : Value) (m : Nat) (r : Int × T) (w : World) (e : Ending) (w' : World) : Prop :=
  ∃ cs', e = .returned (.int .i64 r.1) ∧ cs'.length = 5 ∧ Has w' pb (blC cs' out iv m) 71 ∧ Fr [pb] w w' ∧ (r.1 = 0 → ∃ B S, pb < B ∧ MT w' B cs' r.2 S)
/-- What a change does with a file of one's own. -/
def DoP (B fb : Nat) (c : Int) (y : T) (W : World) (e : Ending) (W' : World) : Prop :=
  e = .returned (.int .i64 c) ∧ Below B W W' ∧ (c = 0 → ∃ cs n, Has W' fb cs 37 ∧ IsT W' n cs y)
set_option maxHeartbeats 20000000 in
theorem change_rc (w : World) (pb n mx f : Nat) (cs : List Value) (t : T) (out : ByteArray) (iv : Value) (path : ByteArray) (caps : Array Value) (code : T → Int) (g : T → T)
    (h : Has w pb (blC cs out iv mx) 71) (ht : IsT w n cs t) (hsm : Small t) (hN : sizeN t ≤ 1000000) (hm : MaxW w) (hmx : 1 < w.heap.size)
    (hbr : ∀ y, atT path.data.toList t = .inr y → kindT y = 1 → ∃ x d, y = .mk 1 x d [] [] ∧ d.length ≤ 65536)
    (he : ∀ args w, (callFunc f args).run Tryz.prog w = .ok (.enter f args) w)
    (hdo : ∀ (W : World) (fb : Nat) (cy : List Value) (y : T) (S : List Nat), Below w.heap.size w W → MT W w.heap.size cy y S → Has W fb cy 37 → w.heap.size ≤ fb → fb ∉ S → (∃ x d, y = .mk 1 x d [] [] ∧ d.length ≤ 65536) → Small y → sizeN y ≤ 1000000 →
      Calls Tryz.prog f (#[.pointer (some ⟨fb, 0, none⟩)] ++ caps) W (DoP w.heap.size fb (code y) (g y) W)) :
    Calls Tryz.prog 47 #[.pointer (some ⟨pb, 0, none⟩), .string path, .func (.func f) #[] caps] w (ChP pb out iv mx (chF t path code g) w) := by
  have hI5 : (Tryz.prog.info? 37).map (·.size) = some cs.length := by rw [infoL (isT_five ht), List.size_toArray]
  have HI5 := Lib.hid hI5
  have HC5 := Lib.hid (isT_five ht)
  have HAT := Lib.hid (at_any n cs t path w ht hsm hN hm hmx)
  have HP := Lib.hid h
  have HT := Lib.hid ht
  have HM := Lib.hid hm
  have HMX := Lib.hid hmx
  have HDO := Lib.hid hdo
  have HSM := Lib.hid hsm
  have HNN := Lib.hid hN
  have HZO : Hid (zT.toArray.all (·.oneCell') = true) := Lib.hid (by simp [zT, Value.oneCell'])
  have HZI : Hid ((Tryz.prog.info? 37).map (·.size) = some zT.toArray.size) := Lib.hid (by rw [info5]; rfl)
  clear h ht hm hmx hdo hsm hN hI5
  go_enter Tryz.func47, Tryz.ntmps47
  go_wp2_with (refine wpList_load_mid rfl 37 _ rfl pb 0 rfl cs _ (range_bl HP.out) Tryz.underlying37 rfl HI5.out ?_)
  refine HAT.out.mono ?_
  intro e w2 hq
  cases hr : atT path.data.toList t with
  | inl c =>
    rw [hr] at hq
    obtain ⟨rfl, hb⟩ := hq
    have HB := Lib.hid hb
    have HCH : Hid (chF t path code g = (c, t)) := Lib.hid (by unfold chF; rw [hr])
    have hc0 : c ≠ 0 := by have := atT_code hr; omega
    have hc1 : (c != 0) = true := by rw [bne_iff_ne]; exact hc0
    have HC0 := Lib.hid hc0
    clear hb hr
    go_wp2_with (refine wpList_store_row rfl 37 _ _ rfl w2.heap.size zT.toArray rfl rfl 37 _ (heap_alloc_new w2 _) HZI.out rfl HZO.out ?_)
    refine bodyPost_ret (results_tmp rfl _ _ _) rfl ?_
    have hbz : Below w.heap.size w ((w2.alloc (.cells #[.int .u8 0, .bool false, .slice none 0 0, .slice none 0 0, .slice none 0 0] 37)).setRow w2.heap.size zT.toArray) := below_setRow (HB.out.alloc HB.out.size _) HB.out.size _
    exact ⟨cs, by rw [HCH.out]; rfl, HC5.out, HP.out.below hbz HP.out.lt, Fr.of_below hbz, fun h0 => absurd (by rw [HCH.out] at h0; exact h0) HC0.out⟩
  | inr y =>
    rw [hr] at hq
    obtain ⟨cq, S, rfl, hmt, hb⟩ := hq
    have HSY := Lib.hid (atT_small hr HSM.out)
    have HBY := Lib.hid (hbr y hr)
    have HCH : Hid (chF t path code g = if kindT y ≠ 1 then (8, t) else if code y ≠ 0 then (code y, t) else (((runE t [putX path (g y)]).1 : Int), (runE t [putX path (g y)]).2.1)) := Lib.hid (by unfold chF; rw [hr])
    obtain ⟨fb, hfb⟩ : ∃ fb, fb = w2.heap.size := ⟨_, rfl⟩
    obtain ⟨w3, hw3⟩ : ∃ w3, w3 = (w2.alloc (.cells #[.int .u8 0, .bool false, .slice none 0 0, .slice none 0 0, .slice none 0 0] 37)).setRow fb cq.toArray := ⟨_, rfl⟩
    have b3 : Below w2.heap.size w2 w3 := by rw [hw3]; exact below_setRow ((Below.refl _ _).alloc (Nat.le_refl _) _) (by rw [hfb]; exact Nat.le_refl _) _
    have g3 : Has w3 fb cq 37 := by rw [hw3, hfb]; exact (Has.new w2 zT _).row cq
    have hnS : fb ∉ S := fun hh => by have := hmt.rows.lt hh; omega
    have HMT3 : Hid (MT w3 w.heap.size cq y S) := Lib.hid (mt_below hmt b3)
    have HIQ := Lib.hid (infoL hmt.five)
    have HSQ : Hid ((#[.int .u8 0, .bool false, .slice none 0 0, .slice none 0 0, .slice none 0 0] : Array Value).size = cq.toArray.size) := Lib.hid (by simp [hmt.five])
    have HOQ := Lib.hid (all_oneCell_toArray hmt.one)
    have HQ5 := Lib.hid hmt.five
    have B3 : Hid (Below w.heap.size w w3) := Lib.hid (hb.trans (b3.mono hb.size))
    have G3 := Lib.hid g3
    have HNS := Lib.hid hnS
    have HW3 := Lib.hid hw3
    have HFB := Lib.hid hfb
    have HFL : Hid (w.heap.size ≤ fb) := Lib.hid (by rw [hfb]; exact hb.size)
    obtain ⟨k, kb, hkc, hkb⟩ : ∃ (k : UInt8) (kb : List Value), cq = .int .u8 (k.toNat : Int) :: kb ∧ k = kindT y := by
      cases hmt with
      | mk hd hn hk hs hnd => exact ⟨_, _, rfl, rfl⟩
    have HKC : Hid (w3.cell? ⟨fb, 0, none⟩ = some (.int .u8 (k.toNat : Int))) := Lib.hid (g3.cellAt (i := 0) (by rw [hkc]; rfl))
    have HKB := Lib.hid hkb
    clear hr hb hw3 hfb b3 g3 hnS hmt hkc hkb
    go_upto_region 2 with (refine wpList_store_row rfl 37 _ _ rfl w2.heap.size cq.toArray rfl rfl 37 _ (heap_alloc_new w2 _) HIQ.out HSQ.out HOQ.out ?_)
    rw [← HFB.out, ← HW3.out]
    clear HW3
    have hkc := HKC.out
    by_cases hk1 : k = 1
    · have hk2 : (((k.toNat : Nat) : Int) != 1) = false := by rw [hk1]; rfl
      have HKY : Hid (kindT y = 1) := Lib.hid (by rw [← HKB.out]; exact hk1)
      clear hk1
      go_wp2_with fail
      refine (HDO.out w3 fb cq y S B3.out HMT3.out G3.out HFL.out HNS.out (HBY.out HKY.out) HSY.out.1 (by have := HSY.out.2; have := HNN.out; omega)).mono ?_
      intro e w4 hq
      obtain ⟨rfl, hb4, hok⟩ := hq
      have B4 : Hid (Below w.heap.size w w4) := Lib.hid (B3.out.trans hb4)
      have HOK := Lib.hid hok
      obtain ⟨c, hc⟩ : ∃ c, c = code y := ⟨_, rfl⟩
      rw [← hc] at HOK ⊢
      have HC := Lib.hid hc
      clear hb4 hok hc
      by_cases hc0 : c = 0
      · subst hc0
        obtain ⟨c2, n2, g4, ht4⟩ := HOK.out rfl
        have G4 := Lib.hid g4
        have HI4 := Lib.hid (infoL (isT_five ht4))
        have HPT := Lib.hid (put_rc w4 pb n n2 mx cs c2 t (g y) out iv path (HP.out.below B4.out HP.out.lt) (IsT.later B4.out _ _ _ HT.out) ht4 (HM.out.below B4.out HMX.out) (Nat.lt_of_lt_of_le HMX.out B4.out.size))
        have HCF : Hid (chF t path code g = (((runE t [putX path (g y)]).1 : Int), (runE t [putX path (g y)]).2.1)) := Lib.hid (by rw [HCH.out, if_neg (fun h => h HKY.out), if_neg (fun h => h HC.out.symm)])
        clear g4 ht4 HCH
        go_wp2_with (refine wpList_load_row rfl 37 _ rfl fb rfl 37 c2.toArray (0, 0) _ (show _ from G4.out) Tryz.underlying37 rfl HI4.out ?_)
        refine HPT.out.mono ?_
        intro e w5 hq
        obtain ⟨cs', rfl, h5, hp, hf, ho⟩ := hq
        go_wp2_with fail
        refine bodyPost_ret (results_tmp rfl _ _ _) rfl ?_
        exact ⟨cs', by rw [HCF.out]; rfl, h5, hp, (Fr.of_below (S := [pb]) B4.out).trans hf (fun g hg _ => hg), fun h0 => by rw [HCF.out] at h0 ⊢; exact ho (Int.ofNat.inj h0)⟩
      · have hc1 : (c != 0) = true := by rw [bne_iff_ne]; exact hc0
        have HCF : Hid (chF t path code g = (c, t)) := Lib.hid (by rw [HCH.out, if_neg (fun h => h HKY.out), if_pos (by rw [← HC.out]; exact hc0), HC.out])
        have HC0 := Lib.hid hc0
        clear hc0 HCH
        go_wp2_with fail
        refine bodyPost_ret (results_tmp rfl _ _ _) rfl ?_
        exact ⟨cs, by rw [HCF.out]; rfl, HC5.out, HP.out.below B4.out HP.out.lt, Fr.of_below B4.out, fun h0 => absurd (by rw [HCF.out] at h0; exact h0) HC0.out⟩
    · have hk2 : (((k.toNat : Nat) : Int) != 1) = true := by
        rw [bne_iff_ne]; intro h
        exact hk1 (UInt8.toNat_inj.1 (by have : k.toNat = 1 := by omega
                                         rw [this]; rfl))
      have HCF : Hid (chF t path code g = (8, t)) := Lib.hid (by rw [HCH.out, if_pos (by rw [← HKB.out]; exact hk1)])
      clear hk1 HCH
      go_wp2_with fail
      refine bodyPost_ret (results_tmp rfl _ _ _) rfl ?_
      exact ⟨cs, by rw [HCF.out]; rfl, HC5.out, HP.out.below B3.out HP.out.lt, Fr.of_below B3.out, fun h0 => by rw [HCF.out] at h0; cases h0⟩
end Go.Proofs.YtlccdenafnekjaaGreatDoor
namespace Go.Proofs.YtlccdenafnekjaaGreatDoor
open Go.RowKit
set_option linter.unusedVariables false
set_option maxRecDepth 100000

/-- An input's six cells. -/
def InC (w : World) (m : Nat) (cs : List Value) (x : ByteArray × T) : Prop := ∃ ct, cs = .string x.1 :: ct ∧ IsT w m ct x.2
theorem InC.later {w w' : World} {m : Nat} {cs : List Value} {x : ByteArray × T} (h : InC w m cs x) (hb : Below w.heap.size w w') : InC w' m cs x := by
  obtain ⟨ct, h1, h2⟩ := h
  exact ⟨ct, h1, IsT.later hb _ _ _ h2⟩
def inD : ByteArray × T := (⟨#[]⟩, zeroT)
/-- Inputs. -/
structure InS (w : World) (m : Nat) (a : Option Addr) (n c : Nat) (l : List (ByteArray × T)) : Prop where
  length : l.length = n
  at_ : n = 0 ∨ ∃ b off, a = some ⟨b, off, none⟩ ∧ b < w.heap.size ∧ ∀ i, i < n → ∃ cs, InC w m cs (l.getD i inD) ∧ w.rangeAt b (off + i * 6) cs
  room : n ≤ c
theorem InS.later {w w' : World} {m : Nat} {a : Option Addr} {n c : Nat} {l : List (ByteArray × T)} (h : InS w m a n c l) (hb : Below w.heap.size w w') : InS w' m a n c l := by
  refine ⟨h.length, ?_, h.room⟩
  rcases h.at_ with h0 | ⟨b, off, ha, hlt, hi⟩
  · exact .inl h0
  · refine .inr ⟨b, off, ha, Nat.lt_of_lt_of_le hlt hb.size, fun i hn => ?_⟩
    obtain ⟨cs, h1, h2⟩ := hi i hn
    exact ⟨cs, h1.later hb, fun j v hj => (hb.cell (p := ⟨b, off + i * 6 + j, none⟩) hlt).trans (h2 j v hj)⟩
/-- How many bytes a word may have. -/
def mostF (l : List (ByteArray × T)) : Nat := l.foldl (fun m x => max m x.1.size) 131072
theorem most_take (l : List (ByteArray × T)) (k : Nat) (hk : k < l.length) : mostF (l.take (k + 1)) = max (mostF (l.take k)) (l.getD k inD).1.size := by
  unfold mostF
  rw [← List.take_append_getElem hk, List.foldl_append, List.getD_eq_getElem?_getD, List.getElem?_eq_getElem hk]
  rfl
theorem info_in : (Tryz.prog.info? 51).map (·.size) = some 6 := by kernel_rfl
def zI : List Value := [.string ⟨#[]⟩, .int .u8 0, .bool false, .slice none 0 0, .slice none 0 0, .slice none 0 0]
def dK : List Value := [.int .u8 3, .bool false, .slice none 0 0, .slice none 0 0, .slice none 0 0]
/-- What stands while the inputs are gone through. -/
def NwS (w : World) (pb tb mm : Nat) (out : ByteArray) (iv : Value) (cs : List Value) (v : World) : Prop := Has v pb (blC dK out iv mm) 71 ∧ Has v tb cs 51 ∧ Below w.heap.size w v
set_option maxHeartbeats 8000000 in
theorem new_rc (w : World) (out : ByteArray) (m : Nat) (a : Option Addr) (n c : Nat) (l : List (ByteArray × T)) (h : InS w m a n c l) (hn : n ≤ 1000000) :
    Calls Tryz.prog 31 #[.string out, .slice a n c] w fun e w' => e = .returned (.pointer (some ⟨w.heap.size, 0, none⟩)) ∧ Has w' w.heap.size (blC dK out (.slice a n c) (mostF l)) 71 ∧ Below w.heap.size w w' := by
  have HH := Lib.hid h
  have HN := Lib.hid hn
  obtain ⟨G, hG⟩ : ∃ G, G = w.heap.size := ⟨_, rfl⟩
  obtain ⟨w1, hw1⟩ : ∃ w1, w1 = w.alloc (.cells (blC dK out (.slice a n c) 131072).toArray 71) := ⟨_, rfl⟩
  have b1 : Below w.heap.size w w1 := by rw [hw1]; exact (Below.refl _ _).alloc (Nat.le_refl _) _
  have g1 : Has w1 G (blC dK out (.slice a n c) 131072) 71 := by rw [hw1, hG]; exact Has.new w _ _
  have HW1 : Hid (w1 = w.alloc (.cells #[.int .u8 3, .bool false, .slice none 0 0, .slice none 0 0, .slice none 0 0, .string out, .slice a n c, .int .i64 131072] 71)) := Lib.hid hw1
  have HG := Lib.hid hG
  have B1 := Lib.hid b1
  have G1 := Lib.hid g1
  rw [← hG]
  clear h hn hw1 b1 g1 hG
  go_enter Tryz.func31, Tryz.ntmps31
  go_upto_region 2 with fail
  rw [← HW1.out, ← HG.out]
  go_wp2_with fail
  go_loopw [15] (fun v15 wr => ∃ k : Nat, k ≤ n ∧ v15 = .int .i64 k ∧ Hid (Has wr G (blC dK out (.slice a n c) (mostF (l.take k))) 71) ∧ Hid (Below w.heap.size w wr)) (fun v15 _ => n - (intOf v15).toNat)
  case atStart => exact ⟨0, Nat.zero_le _, rfl, G1, B1⟩
  case round =>
    obtain ⟨k, hk, rfl, HP, HB⟩ := hrel
    clear G1 B1
    by_cases hlt : k < n
    · have hki : (k : Int) < (n : Int) := by omega
      have hkb : (k : Int) ≤ 1000000 := by have := HN.out; omega
      have hkc : k < c := by have := HH.out.room; omega
      have HLT := Lib.hid hlt
      rcases HH.out.at_ with h0 | ⟨b, off, ha, hbl, hi⟩
      · omega
      subst ha
      obtain ⟨cs, ⟨ct, hcs, hct⟩, hr⟩ := hi k hlt
      obtain ⟨c0, c1, c2, c3, c4, hc5⟩ := five_list (isT_five hct)
      obtain ⟨p, hp⟩ : ∃ p, p = (l.getD k inD).1 := ⟨_, rfl⟩
      rw [← hp, hc5] at hcs
      have HR : Hid (wr.rangeAt b (off + k * 6) [.string p, c0, c1, c2, c3, c4]) := Lib.hid (fun j v hj => by rw [← hcs] at hj; exact (HB.out.cell (p := ⟨b, off + k * 6 + j, none⟩) hbl).trans (hr j v hj))
      have h1 : ∀ u ∈ ct, u.oneCell' = true := fun u hu => (Array.all_eq_true_iff_forall_mem.1 (isT_one hct)) u (by simpa using hu)
      have HO1 : Hid ((#[.string p, c0, c1, c2, c3, c4] : Array Value).all (·.oneCell') = true) := Lib.hid (by
        have h2 := all_oneCell_toArray (cs := .string p :: ct) (fun u hu => by
          rcases List.mem_cons.1 hu with h3 | h3
          · rw [h3]; rfl
          · exact h1 u h3)
        rw [hc5] at h2
        exact h2)
      obtain ⟨mm, hmm⟩ : ∃ mm, mm = mostF (l.take k) := ⟨_, rfl⟩
      obtain ⟨m2, hm2⟩ : ∃ m2, m2 = max mm p.size := ⟨_, rfl⟩
      have HM2 : Hid (mostF (l.take (k + 1)) = m2) := Lib.hid (by rw [most_take l k (by rw [HH.out.length]; exact hlt), ← hmm, ← hp, hm2])
      have HMX : Hid (max (mm : Int) (p.size : Int) = (m2 : Int)) := Lib.hid (by rw [hm2]; omega)
      rw [← hmm] at HP
      obtain ⟨tb, htb⟩ : ∃ tb, tb = wr.heap.size := ⟨_, rfl⟩
      obtain ⟨w3, hw3⟩ : ∃ w3, w3 = (wr.alloc (.cells zI.toArray 51)).setRow tb #[.string p, c0, c1, c2, c3, c4] := ⟨_, rfl⟩
      have b3 : Below wr.heap.size wr w3 := by rw [hw3]; exact below_setRow ((Below.refl _ _).alloc (Nat.le_refl _) _) (by rw [htb]; exact Nat.le_refl _) _
      have g3 : Has w3 tb [.string p, c0, c1, c2, c3, c4] 51 := by
        rw [hw3, htb]; exact (Has.new wr zI 51).row [.string p, c0, c1, c2, c3, c4]
      have S3 : Hid (NwS w G tb mm out (.slice (some ⟨b, off, none⟩) n c) [.string p, c0, c1, c2, c3, c4] w3) := Lib.hid ⟨HP.out.below b3 HP.out.lt, g3, HB.out.trans (b3.mono HB.out.size)⟩
      have HTB := Lib.hid htb
      have HW3 : Hid (w3 = (wr.alloc (.cells #[.string ⟨#[]⟩, .int .u8 0, .bool false, .slice none 0 0, .slice none 0 0, .slice none 0 0] 51)).setRow tb #[.string p, c0, c1, c2, c3, c4]) := Lib.hid hw3
      have HGN : Hid (w.heap.size ≤ G ∧ G < tb) := Lib.hid ⟨by rw [HG.out]; exact Nat.le_refl _, by rw [htb]; exact HP.out.lt⟩
      clear hi hct hcs hc5 hr hmm hm2 htb hw3 b3 g3 hp h1 hbl
      go_upto_region 5 with (first
        | (refine wpList_load_mid rfl 51 _ rfl b (off + k * 6) rfl [.string p, c0, c1, c2, c3, c4] _ HR.out Tryz.underlying51 rfl info_in ?_)
        | (refine wpList_store_row rfl 51 _ _ rfl wr.heap.size #[.string p, c0, c1, c2, c3, c4] rfl rfl 51 _ (heap_alloc_new wr _) info_in rfl HO1.out ?_))
      rw [← HTB.out, ← HW3.out]
      clear HW3
      refine wp_region_held_drew (S := fun _ => True) (by kernel_rfl) trivial (fun hHeld => ?_)
      obtain ⟨v0, hv0⟩ : ∃ v0, v0 = w3.drew := ⟨_, rfl⟩
      have SV : Hid (NwS w G tb mm out (.slice (some ⟨b, off, none⟩) n c) [.string p, c0, c1, c2, c3, c4] v0) := Lib.hid (by rw [hv0]; exact ⟨S3.out.1.below (Below.refl _ _).drew S3.out.1.lt, S3.out.2.1.below (Below.refl _ _).drew S3.out.2.1.lt, S3.out.2.2.drew⟩)
      rw [← hv0]
      clear hv0
      refine wpAnyH_take (i := 0) (v := .pointer (some ⟨G, 0, none⟩)) rfl (by kernel_rfl) (by kernel_rfl) (by kernel_rfl) (fun _ _ _ h => h)
        (Or.inl ⟨by rfl, by intro w hSw;  clear hSw; go_simp⟩) hHeld ?_
      refine wpAnyH_take (i := 1) (v := .pointer (some ⟨G, 0, none⟩)) rfl (by kernel_rfl) (by kernel_rfl) (by kernel_rfl) (fun _ _ _ h => h)
        (Or.inl ⟨by rfl, by intro w hSw;  clear hSw; go_simp⟩) hHeld ?_
      refine wpAnyH_take (i := 2) (v := .pointer (some ⟨G, 0, none⟩)) rfl (by kernel_rfl) (by kernel_rfl) (by kernel_rfl) (fun _ _ _ h => h)
        (Or.inl ⟨by rfl, by intro w hSw;  clear hSw; go_simp⟩) hHeld ?_
      refine wpAnyH_take (i := 3) (v := .pointer (some ⟨G, 7, none⟩)) rfl (by kernel_rfl) (by kernel_rfl) (by kernel_rfl) (fun _ _ _ h => h)
        (Or.inl ⟨by rfl, by intro w hSw;  clear hSw; go_simp⟩) hHeld ?_
      refine wpAnyH_take (i := 5) (v := .pointer (some ⟨tb, 0, none⟩)) rfl (by kernel_rfl) (by kernel_rfl) (by kernel_rfl) (fun _ _ _ h => h)
        (Or.inl ⟨by rfl, by intro w hSw;  clear hSw; go_simp⟩) hHeld ?_
      refine wpAnyH_ready (rs := [4, 6]) (by kernel_rfl) (by simp) ?_
      refine AllReadyH.cons rfl (fun K hK => ?_) (AllReadyH.cons rfl (fun K hK => ?_) AllReadyH.nil)
      · have hc := SV.out.1.cellAt (i := 7) rfl
        go_simp
        refine hK.out _ _ trivial (fun hHw1 => ?_)
        clear hK K hc hHeld
        refine wpAnyH_ready (rs := [6]) (by kernel_rfl) (by simp) ?_
        refine AllReadyH.cons rfl (fun K hK => ?_) AllReadyH.nil
        have hc := SV.out.2.1.cellAt (i := 0) rfl
        go_simp
        refine hK.out _ _ trivial (fun hHw2 => ?_)
        clear hK K hc hHw1
        refine wpAnyH_take (i := 7) (v := .int .i64 (p.size : Int)) rfl (by kernel_rfl) (by kernel_rfl) (by kernel_rfl) (fun _ _ _ h => h)
          (Or.inl ⟨by rfl, by intro w hSw;  clear hSw; go_simp⟩) hHw2 ?_
        refine wpAnyH_take (i := 8) (v := .int .i64 (m2 : Int)) rfl (by kernel_rfl) (by kernel_rfl) (by kernel_rfl) (fun _ _ _ h => h)
          (Or.inl ⟨by rfl, by intro w hSw; have hq := HMX.out; clear hSw; go_simp⟩) hHw2 ?_
        refine wpAnyH_take (i := 9) (v := .pointer (some ⟨G, 0, none⟩)) rfl (by kernel_rfl) (by kernel_rfl) (by kernel_rfl) (fun _ _ _ h => h)
          (Or.inl ⟨by rfl, by intro w hSw;  clear hSw; go_simp⟩) hHw2 ?_
        refine wpAnyH_take (i := 10) (v := .pointer (some ⟨G, 7, none⟩)) rfl (by kernel_rfl) (by kernel_rfl) (by kernel_rfl) (fun _ _ _ h => h)
          (Or.inl ⟨by rfl, by intro w hSw;  clear hSw; go_simp⟩) hHw2 ?_
        refine wpAnyH_ready (rs := [11]) (by kernel_rfl) (by simp) ?_
        refine AllReadyH.cons rfl (fun K hK => ?_) AllReadyH.nil
        have hc := SV.out.1.cellAt (i := 7) rfl
        have hf := SV.out.1.frozen 7
        go_simp
        obtain ⟨w5, hw5⟩ : ∃ w5, w5 = v0.setCell ⟨G, 7, none⟩ (.int .i64 (m2 : Int)) := ⟨_, rfl⟩
        have HP5 : Hid (Has w5 G (blC dK out (.slice (some ⟨b, off, none⟩) n c) m2) 71) := Lib.hid (by rw [hw5]; exact SV.out.1.set 7 (.int .i64 (m2 : Int)))
        have HB5 : Hid (Below w.heap.size w w5) := Lib.hid (by rw [hw5]; exact SV.out.2.2.setCell (p := ⟨G, 7, none⟩) HGN.out.1 _)
        rw [← hw5]
        clear hw5 hc hf
        refine hK.out _ _ trivial (fun hHw3 => ?_)
        clear hK K hHw2
        try simp only [Act.put]
        refine wpAnyH_done (by kernel_rfl) ?_ _
        clear hHw3
        go_wp2_with fail
        go_roundw
        case rel => exact ⟨k + 1, HLT.out, by go_num, Lib.hid (by rw [HM2.out]; exact HP5.out), HB5⟩
        case measure => have := HLT.out; simp [intOf]; omega
      · have hc := SV.out.2.1.cellAt (i := 0) rfl
        go_simp
        refine hK.out _ _ trivial (fun hHw1 => ?_)
        clear hK K hc hHeld
        refine wpAnyH_take (i := 7) (v := .int .i64 (p.size : Int)) rfl (by kernel_rfl) (by kernel_rfl) (by kernel_rfl) (fun _ _ _ h => h)
          (Or.inl ⟨by rfl, by intro w hSw;  clear hSw; go_simp⟩) hHw1 ?_
        refine wpAnyH_ready (rs := [4]) (by kernel_rfl) (by simp) ?_
        refine AllReadyH.cons rfl (fun K hK => ?_) AllReadyH.nil
        have hc := SV.out.1.cellAt (i := 7) rfl
        go_simp
        refine hK.out _ _ trivial (fun hHw2 => ?_)
        clear hK K hc hHw1
        refine wpAnyH_take (i := 8) (v := .int .i64 (m2 : Int)) rfl (by kernel_rfl) (by kernel_rfl) (by kernel_rfl) (fun _ _ _ h => h)
          (Or.inl ⟨by rfl, by intro w hSw; have hq := HMX.out; clear hSw; go_simp⟩) hHw2 ?_
        refine wpAnyH_take (i := 9) (v := .pointer (some ⟨G, 0, none⟩)) rfl (by kernel_rfl) (by kernel_rfl) (by kernel_rfl) (fun _ _ _ h => h)
          (Or.inl ⟨by rfl, by intro w hSw;  clear hSw; go_simp⟩) hHw2 ?_
        refine wpAnyH_take (i := 10) (v := .pointer (some ⟨G, 7, none⟩)) rfl (by kernel_rfl) (by kernel_rfl) (by kernel_rfl) (fun _ _ _ h => h)
          (Or.inl ⟨by rfl, by intro w hSw;  clear hSw; go_simp⟩) hHw2 ?_
        refine wpAnyH_ready (rs := [11]) (by kernel_rfl) (by simp) ?_
        refine AllReadyH.cons rfl (fun K hK => ?_) AllReadyH.nil
        have hc := SV.out.1.cellAt (i := 7) rfl
        have hf := SV.out.1.frozen 7
        go_simp
        obtain ⟨w5, hw5⟩ : ∃ w5, w5 = v0.setCell ⟨G, 7, none⟩ (.int .i64 (m2 : Int)) := ⟨_, rfl⟩
        have HP5 : Hid (Has w5 G (blC dK out (.slice (some ⟨b, off, none⟩) n c) m2) 71) := Lib.hid (by rw [hw5]; exact SV.out.1.set 7 (.int .i64 (m2 : Int)))
        have HB5 : Hid (Below w.heap.size w w5) := Lib.hid (by rw [hw5]; exact SV.out.2.2.setCell (p := ⟨G, 7, none⟩) HGN.out.1 _)
        rw [← hw5]
        clear hw5 hc hf
        refine hK.out _ _ trivial (fun hHw3 => ?_)
        clear hK K hHw2
        try simp only [Act.put]
        refine wpAnyH_done (by kernel_rfl) ?_ _
        clear hHw3
        go_wp2_with fail
        go_roundw
        case rel => exact ⟨k + 1, HLT.out, by go_num, Lib.hid (by rw [HM2.out]; exact HP5.out), HB5⟩
        case measure => have := HLT.out; simp [intOf]; omega
    · obtain rfl : k = n := by omega
      have hki : ¬ (k : Int) < (k : Int) := by omega
      have HE : Hid (mostF (l.take k) = mostF l) := Lib.hid (by rw [List.take_of_length_le (by rw [HH.out.length]; exact Nat.le_refl _)])
      go_wp2_with fail
      refine bodyPost_ret (results_tmp rfl _ _ _) rfl ?_
      exact ⟨rfl, by rw [← HE.out]; exact HP.out, by rw [HG.out]; exact HB.out⟩
end Go.Proofs.YtlccdenafnekjaaGreatDoor
namespace Go.Proofs.YtlccdenafnekjaaGreatDoor
open Go.RowKit
set_option linter.unusedVariables false
set_option maxRecDepth 100000

/-- Take, as a function. -/
def tkF (t : T) (inp frm tgt : ByteArray) : List (ByteArray × T) → Int × T
  | [] => (9, t)
  | (p, y) :: r => if p = inp then (match atT frm.data.toList y with
      | .inl c => (c, t)
      | .inr z => (((runE t [putX tgt z]).1 : Int), (runE t [putX tgt z]).2.1)) else tkF t inp frm tgt r
theorem tk_at {t : T} {inp frm tgt : ByteArray} {l : List (ByteArray × T)} {k : Nat} (hk : k < l.length) : tkF t inp frm tgt (l.drop k) = if (l.getD k inD).1 = inp then (match atT frm.data.toList (l.getD k inD).2 with
      | .inl c => (c, t)
      | .inr z => (((runE t [putX tgt z]).1 : Int), (runE t [putX tgt z]).2.1)) else tkF t inp frm tgt (l.drop (k + 1)) := by
  rw [List.drop_eq_getElem_cons hk, List.getD_eq_getElem?_getD, List.getElem?_eq_getElem hk]
  rfl
set_option maxHeartbeats 20000000 in
theorem take_rc (w : World) (pb n mx m nn c : Nat) (a : Option Addr) (cs : List Value) (t : T) (out inp frm tgt : ByteArray) (l : List (ByteArray × T)) (h : Has w pb (blC cs out (.slice a nn c) mx) 71) (ht : IsT w n cs t)
    (hin : InS w m a nn c l) (hnn : nn ≤ 1000000) (hsm : ∀ i, i < nn → Small (l.getD i inD).2 ∧ sizeN (l.getD i inD).2 ≤ 1000000) (hm : MaxW w) (hmx : 1 < w.heap.size) :
    Calls Tryz.prog 46 #[.pointer (some ⟨pb, 0, none⟩), .string inp, .string frm, .string tgt] w (ChP pb out (.slice a nn c) mx (tkF t inp frm tgt l) w) := by
  have HC5 := Lib.hid (isT_five ht)
  have HP := Lib.hid h
  have HT := Lib.hid ht
  have HM := Lib.hid hm
  have HMX := Lib.hid hmx
  have HH := Lib.hid hin
  have HN := Lib.hid hnn
  have HSM := Lib.hid hsm
  have HZO : Hid (zT.toArray.all (·.oneCell') = true) := Lib.hid (by simp [zT, Value.oneCell'])
  have HZI : Hid ((Tryz.prog.info? 37).map (·.size) = some zT.toArray.size) := Lib.hid (by rw [info5]; rfl)
  have hld : w.cell? ⟨pb, 6, none⟩ = some (.slice a nn c) := h.cellAt (i := 6) (by
    obtain ⟨c0, c1, c2, c3, c4, hc⟩ := five_list (isT_five ht)
    rw [hc]; rfl)
  obtain ⟨R, hR⟩ : ∃ R, R = tkF t inp frm tgt l := ⟨_, rfl⟩
  rw [← hR]
  have HR := Lib.hid hR
  clear h ht hin hnn hsm hm hmx hR
  go_enter Tryz.func46, Tryz.ntmps46
  go_wp2_with fail
  clear hld
  go_loopw [18] (fun v18 wr => ∃ k : Nat, k ≤ nn ∧ v18 = .int .i64 k ∧ Hid (tkF t inp frm tgt (l.drop k) = R) ∧ Hid (Below w.heap.size w wr)) (fun v18 _ => nn - (intOf v18).toNat)
  case atStart => exact ⟨0, Nat.zero_le _, rfl, Lib.hid (by rw [List.drop_zero]; exact HR.out.symm), Lib.hid (Below.refl _ _)⟩
  case round =>
    obtain ⟨k, hk, rfl, HQ, HB⟩ := hrel
    by_cases hlt : k < nn
    · have hki : (k : Int) < (nn : Int) := by omega
      have hkb : (k : Int) ≤ 1000000 := by have := HN.out; omega
      have hkc : k < c := by have := HH.out.room; omega
      have HLT := Lib.hid hlt
      rcases HH.out.at_ with h0 | ⟨b, off, ha, hbl, hi⟩
      · omega
      subst ha
      obtain ⟨cx, ⟨ct, hcs, hct⟩, hr⟩ := hi k hlt
      have h5 := isT_five hct
      have hTK := tk_at (t := t) (inp := inp) (frm := frm) (tgt := tgt) (l := l) (k := k) (by rw [HH.out.length]; exact hlt)
      rw [HQ.out] at hTK
      obtain ⟨p, hp⟩ : ∃ p, p = (l.getD k inD).1 := ⟨_, rfl⟩
      obtain ⟨y, hy⟩ : ∃ y, y = (l.getD k inD).2 := ⟨_, rfl⟩
      have HSY := Lib.hid (HSM.out k hlt)
      rw [← hp, ← hy] at hTK
      rw [← hy] at hct HSY
      have HTK := Lib.hid hTK
      obtain ⟨c0, c1, c2, c3, c4, hc5⟩ := five_list h5
      rw [← hp, hc5] at hcs
      have HRG : Hid (wr.rangeAt b (off + k * 6) [.string p, c0, c1, c2, c3, c4]) := Lib.hid (fun j v hj => by rw [← hcs] at hj; exact (HB.out.cell (p := ⟨b, off + k * 6 + j, none⟩) hbl).trans (hr j v hj))
      have h1 : ∀ u ∈ ct, u.oneCell' = true := fun u hu => (Array.all_eq_true_iff_forall_mem.1 (isT_one hct)) u (by simpa using hu)
      have HO1 : Hid ((#[.string p, c0, c1, c2, c3, c4] : Array Value).all (·.oneCell') = true) := Lib.hid (by
        have h2 := all_oneCell_toArray (cs := .string p :: ct) (fun u hu => by
          rcases List.mem_cons.1 hu with h3 | h3
          · rw [h3]; rfl
          · exact h1 u h3)
        rw [hc5] at h2
        exact h2)
      obtain ⟨tb, htb⟩ : ∃ tb, tb = wr.heap.size := ⟨_, rfl⟩
      obtain ⟨w3, hw3⟩ : ∃ w3, w3 = (wr.alloc (.cells zI.toArray 51)).setRow tb #[.string p, c0, c1, c2, c3, c4] := ⟨_, rfl⟩
      have b3 : Below wr.heap.size wr w3 := by rw [hw3]; exact below_setRow ((Below.refl _ _).alloc (Nat.le_refl _) _) (by rw [htb]; exact Nat.le_refl _) _
      have g3 : Has w3 tb [.string p, c0, c1, c2, c3, c4] 51 := by
        rw [hw3, htb]; exact (Has.new wr zI 51).row [.string p, c0, c1, c2, c3, c4]
      have B3 : Hid (Below w.heap.size w w3) := Lib.hid (HB.out.trans (b3.mono HB.out.size))
      have G3 := Lib.hid g3
      have HCT : Hid (IsT w3 m [c0, c1, c2, c3, c4] y) := Lib.hid (by rw [← hc5]; exact IsT.later B3.out _ _ _ hct)
      have HTB := Lib.hid htb
      have HW3 : Hid (w3 = (wr.alloc (.cells #[.string ⟨#[]⟩, .int .u8 0, .bool false, .slice none 0 0, .slice none 0 0, .slice none 0 0] 51)).setRow tb #[.string p, c0, c1, c2, c3, c4]) := Lib.hid hw3
      clear hi hct hcs hc5 hr htb hw3 b3 g3 hp hy h1 hbl h5 hTK
      go_upto_region 4 with (first
        | (refine wpList_load_mid rfl 51 _ rfl b (off + k * 6) rfl [.string p, c0, c1, c2, c3, c4] _ HRG.out Tryz.underlying51 rfl info_in ?_)
        | (refine wpList_store_row rfl 51 _ _ rfl wr.heap.size #[.string p, c0, c1, c2, c3, c4] rfl rfl 51 _ (heap_alloc_new wr _) info_in rfl HO1.out ?_))
      rw [← HTB.out, ← HW3.out]
      clear HW3
      have hcp : w3.cell? ⟨tb, 0, none⟩ = some (.string p) := G3.out.cellAt (i := 0) rfl
      by_cases heq : p = inp
      · have he : (p.toList == inp.toList) = true := by rw [heq]; simp
        have HTE := Lib.hid (by have := HTK.out; rw [if_pos heq] at this; exact this)
        have HAT := Lib.hid (at_any m [c0, c1, c2, c3, c4] y frm w3 HCT.out HSY.out.1 HSY.out.2 (HM.out.below B3.out HMX.out) (Nat.lt_of_lt_of_le HMX.out B3.out.size))
        have HRT : Hid (w3.rangeAt tb 1 [c0, c1, c2, c3, c4]) := Lib.hid (fun j v hj => G3.out.cellAt (i := 1 + j) (by rw [Nat.add_comm]; exact hj))
        clear heq HTK HQ
        go_wp2_with (refine wpList_load_mid rfl 37 _ rfl tb 1 rfl [c0, c1, c2, c3, c4] _ HRT.out Tryz.underlying37 rfl (by rw [info5]; rfl) ?_)
        refine HAT.out.mono ?_
        intro e w4 hq
        cases hr : atT frm.data.toList y with
        | inl c2 =>
          rw [hr] at hq
          obtain ⟨rfl, hb⟩ := hq
          have HB4 : Hid (Below w.heap.size w w4) := Lib.hid (B3.out.trans (hb.mono B3.out.size))
          have hc0 : c2 ≠ 0 := by have := atT_code hr; omega
          have hc1 : (c2 != 0) = true := by rw [bne_iff_ne]; exact hc0
          have HC0 := Lib.hid hc0
          have HE : Hid (R = (c2, t)) := Lib.hid (by have := HTE.out; rw [hr] at this; exact this)
          clear hb hr HTE
          go_wp2_with (refine wpList_store_row rfl 37 _ _ rfl w4.heap.size zT.toArray rfl rfl 37 _ (heap_alloc_new w4 _) HZI.out rfl HZO.out ?_)
          refine bodyPost_ret (results_tmp rfl _ _ _) rfl ?_
          have hbz : Below w.heap.size w ((w4.alloc (.cells #[.int .u8 0, .bool false, .slice none 0 0, .slice none 0 0, .slice none 0 0] 37)).setRow w4.heap.size zT.toArray) := below_setRow (HB4.out.alloc HB4.out.size _) HB4.out.size _
          exact ⟨cs, by rw [HE.out]; rfl, HC5.out, HP.out.below hbz HP.out.lt, Fr.of_below hbz, fun h0 => absurd (by rw [HE.out] at h0; exact h0) HC0.out⟩
        | inr z =>
          rw [hr] at hq
          obtain ⟨cq, S, rfl, hmt, hb⟩ := hq
          have HSZ := atT_small hr HSY.out.1
          have HE : Hid (R = (((runE t [putX tgt z]).1 : Int), (runE t [putX tgt z]).2.1)) := Lib.hid (by have := HTE.out; rw [hr] at this; exact this)
          obtain ⟨fb, hfb⟩ : ∃ fb, fb = w4.heap.size := ⟨_, rfl⟩
          obtain ⟨w5, hw5⟩ : ∃ w5, w5 = (w4.alloc (.cells #[.int .u8 0, .bool false, .slice none 0 0, .slice none 0 0, .slice none 0 0] 37)).setRow fb cq.toArray := ⟨_, rfl⟩
          have b5 : Below w4.heap.size w4 w5 := by rw [hw5]; exact below_setRow ((Below.refl _ _).alloc (Nat.le_refl _) _) (by rw [hfb]; exact Nat.le_refl _) _
          have g5 : Has w5 fb cq 37 := by rw [hw5, hfb]; exact (Has.new w4 zT _).row cq
          have HIQ := Lib.hid (infoL hmt.five)
          have HSQ : Hid ((#[.int .u8 0, .bool false, .slice none 0 0, .slice none 0 0, .slice none 0 0] : Array Value).size = cq.toArray.size) := Lib.hid (by simp [hmt.five])
          have HOQ := Lib.hid (all_oneCell_toArray hmt.one)
          have HB5 : Hid (Below w.heap.size w w5) := Lib.hid (B3.out.trans ((hb.trans (b5.mono hb.size)).mono B3.out.size))
          have HZT : Hid (IsT w5 (sizeN z) cq z) := Lib.hid ((mt_below hmt b5).isT _ (Nat.le_refl _) HSZ.1)
          have HPT := Lib.hid (put_rc w5 pb n (sizeN z) mx cs cq t z out (.slice (some ⟨b, off, none⟩) nn c) tgt (HP.out.below HB5.out HP.out.lt) (IsT.later HB5.out _ _ _ HT.out) HZT.out (HM.out.below HB5.out HMX.out) (Nat.lt_of_lt_of_le HMX.out HB5.out.size))
          have G5 := Lib.hid g5
          have HW5 := Lib.hid hw5
          have HFB := Lib.hid hfb
          clear hr hmt hb HSZ hfb hw5 b5 g5 HTE
          go_upto_region 6 with (refine wpList_store_row rfl 37 _ _ rfl w4.heap.size cq.toArray rfl rfl 37 _ (heap_alloc_new w4 _) HIQ.out HSQ.out HOQ.out ?_)
          rw [← HFB.out, ← HW5.out]
          clear HW5
          go_wp2_with (refine wpList_load_row rfl 37 _ rfl fb rfl 37 cq.toArray (0, 0) _ (show _ from G5.out) Tryz.underlying37 rfl HIQ.out ?_)
          refine HPT.out.mono ?_
          intro e w6 hq
          obtain ⟨cs', rfl, h5, hp, hf, ho⟩ := hq
          go_wp2_with fail
          refine bodyPost_ret (results_tmp rfl _ _ _) rfl ?_
          exact ⟨cs', by rw [HE.out]; rfl, h5, hp, (Fr.of_below (S := [pb]) HB5.out).trans hf (fun g hg _ => hg), fun h0 => by rw [HE.out] at h0 ⊢; exact ho (Int.ofNat.inj h0)⟩
      · have he : (p.toList == inp.toList) = false := by rw [Lib.bytes_beq_false_iff]; exact heq
        have HQ2 : Hid (tkF t inp frm tgt (l.drop (k + 1)) = R) := Lib.hid (by have := HTK.out; rw [if_neg heq] at this; exact this.symm)
        clear heq HTK HQ
        go_wp2_with fail
        go_roundw
        case rel => exact ⟨k + 1, HLT.out, by go_num, HQ2, B3⟩
        case measure => have := HLT.out; simp [intOf]; omega
    · obtain rfl : k = nn := by omega
      have hki : ¬ (k : Int) < (k : Int) := by omega
      have HE : Hid (R = (9, t)) := Lib.hid (by rw [← HQ.out, List.drop_of_length_le (by rw [HH.out.length]; exact Nat.le_refl _)]; rfl)
      go_wp2_with fail
      refine bodyPost_ret (results_tmp rfl _ _ _) rfl ?_
      exact ⟨cs, by rw [HE.out]; rfl, HC5.out, HP.out.below HB.out HP.out.lt, Fr.of_below HB.out, fun h0 => by rw [HE.out] at h0; cases h0⟩
end Go.Proofs.YtlccdenafnekjaaGreatDoor
namespace Go.Proofs.YtlccdenafnekjaaGreatDoor
open Go.RowKit
set_option linter.unusedVariables false
set_option maxRecDepth 100000

/-- A file that may be run. -/
def execT : T → T
  | .mk k _ d ns ks => .mk k true d ns ks
theorem small_exec {y : T} (h : Small y) : Small (execT y) ∧ sizeN (execT y) = sizeN y := by
  obtain ⟨k, x, d, ns, ks⟩ := y
  refine ⟨?_, by unfold execT; rw [sizeN_mk, sizeN_mk]⟩
  cases h with
  | mk h1 h2 h3 => exact Small.mk h1 h2 h3
theorem exec_do (w : World) (B fb : Nat) (cy : List Value) (y : T) (S : List Nat) (hmt : MT w B cy y S) (hg : Has w fb cy 37) (hB : B ≤ fb) (hn : fb ∉ S) (hs : Small y) :
    Calls Tryz.prog 49 #[.pointer (some ⟨fb, 0, none⟩)] w (DoP B fb 0 (execT y) w) := by
  obtain ⟨k, x, d, ns, ks⟩ := y
  obtain ⟨vd, vn, vk, L, Ss, hcs, hS, hd, hn2, hk, hks, hnd⟩ := mt_inv hmt
  have HMT := Lib.hid hmt
  have HG := Lib.hid hg
  have HB := Lib.hid hB
  have HN := Lib.hid hn
  have HSM := Lib.hid hs
  have HCS := Lib.hid hcs
  have hc1 : w.cell? ⟨fb, 1, none⟩ = some (.bool x) := hg.cellAt (i := 1) (by rw [hcs]; rfl)
  have hf1 := hg.frozen 1
  clear hmt hg hB hn hs hcs hS hd hn2 hk hks hnd
  go_enter Tryz.func49, Tryz.ntmps49
  go_wp2_with fail
  refine bodyPost_ret (results_tmp rfl _ _ _) rfl ?_
  have hfr : Fr [fb] w (w.setCell ⟨fb, 1, none⟩ (.bool true)) := (Fr.refl [fb] w).setCell (.inl List.mem_cons_self) 1 _
  have hm2 := MT.frame hfr (Rows.cons HG.out (by decide) (Rows.nil w)) HMT.out (fun g hg h1 => by
    obtain rfl : g = fb := by simpa using h1
    exact HN.out hg)
  refine ⟨rfl, hfr.below (by have := HG.out.lt; have := HB.out; omega) (fun g hg => by
    obtain rfl : g = fb := by simpa using hg
    exact HB.out), fun _ => ?_⟩
  obtain ⟨vd', vn', vk', L', Ss', hcs', hS', hd', hn', hk', hks', hnd'⟩ := mt_inv hm2
  have e := HCS.out.symm.trans hcs'
  simp only [List.cons.injEq, and_true, true_and] at e
  obtain ⟨rfl, rfl, rfl⟩ := e
  have hx : MT (w.setCell ⟨fb, 1, none⟩ (.bool true)) B [.int .u8 (k.toNat : Int), .bool true, vd, vn, vk] (.mk k true d ns ks) _ := MT.mk hd' hn' hk' hks' hnd'
  refine ⟨[.int .u8 (k.toNat : Int), .bool true, vd, vn, vk], _, ?_, hx.isT _ (Nat.le_refl _) (small_exec HSM.out).1⟩
  have hh := HG.out.set 1 (.bool true)
  rw [HCS.out] at hh
  exact hh
end Go.Proofs.YtlccdenafnekjaaGreatDoor

namespace Go.Proofs
open Go.Shelf
def Tryz.laysW_ren : Go.Shelf.Ren := ⟨fun | 166 => 85 | 240 => 105 | 276 => 126 | n => n, fun | 3 => 3 | 4 => 4 | 5 => 5 | 9 => 9 | 20 => 20 | 37 => 33 | 70 => 126 | 72 => 128 | 75 => 130 | 80 => 135 | 164 => 174 | n => n, fun | n => n⟩
theorem Tryz.laysW : Go.Proofs.Lays.n166 Tryz.prog Tryz.laysW_ren := {
  mixed := by kernel_rfl
  f166 := Tryz.func85.trans (congrArg some (by kernel_rfl))
  f240 := Tryz.func105.trans (congrArg some (by kernel_rfl))
  f276 := Tryz.func126.trans (congrArg some (by kernel_rfl))
  t0 := Tryz.underlying0
  a0 := Tryz.isAgg0
  z0 := Tryz.sizeOf0
  v0 := Tryz.zeroValue0
  t3 := Tryz.underlying3
  a3 := Tryz.isAgg3
  z3 := Tryz.sizeOf3
  v3 := Tryz.zeroValue3
  t4 := Tryz.underlying4
  a4 := Tryz.isAgg4
  z4 := Tryz.sizeOf4
  v4 := Tryz.zeroValue4
  t9 := Tryz.underlying9
  a9 := Tryz.isAgg9
  z9 := Tryz.sizeOf9
  v9 := Tryz.zeroValue9
  t20 := Tryz.underlying20
  a20 := Tryz.isAgg20
  z20 := Tryz.sizeOf20
  v20 := Tryz.zeroValue20
  t37 := Tryz.underlying33
  a37 := Tryz.isAgg33
  z37 := Tryz.sizeOf33
  v37 := Tryz.zeroValue33
  t70 := Tryz.underlying126
  a70 := Tryz.isAgg126
  z70 := Tryz.sizeOf126
  v70 := Tryz.zeroValue126
  t72 := Tryz.underlying128
  a72 := Tryz.isAgg128
  z72 := Tryz.sizeOf128
  v72 := Tryz.zeroValue128
  t75 := Tryz.underlying130
  a75 := Tryz.isAgg130
  z75 := Tryz.sizeOf130
  v75 := Tryz.zeroValue130
  t164 := Tryz.underlying174
  a164 := Tryz.isAgg174
  z164 := Tryz.sizeOf174
  v164 := Tryz.zeroValue174 }
theorem Tryz.Builder_ExtraW : Builder.Extra Tryz.prog Tryz.laysW_ren := {
  sizeBuilder := by kernel_rfl
  liesBuilder := by kernel_rfl
  t5 := Tryz.underlying5
  a5 := Tryz.isAgg5
  z5 := Tryz.sizeOf5
  v5 := Tryz.zeroValue5
  infoByte := by kernel_rfl
  cellsByte := by kernel_rfl
  sizeByte := by kernel_rfl
  neB5 := by decide }
open Go.RowKit in
theorem Tryz.Builder_WriteString (B b : Nat) (bs : List Value) (s : ByteArray) (w : World) (h : Lib.IsBuilder 128 5 B b bs w) (hlen : bs.length + s.size ≤ 140737488355328) (hBw : B ≤ w.heap.size) :
    Calls Tryz.prog 85 #[.pointer (some ⟨b, 0, none⟩), .string s] w fun e w' => e = .returned (.tuple #[.int .i64 s.size, .nilIface]) ∧ (Lib.BuilderAt 128 5 B b (.pointer (some ⟨b, 0, none⟩)) (bs ++ Lib.strCells s) w' ∧ Below B w w') := Any.Builder_WriteString Tryz.laysW Tryz.Builder_ExtraW B b bs s w h hlen hBw
end Go.Proofs

namespace Go.Proofs.YtlccdenafnekjaaGreatDoor
open Go.RowKit
set_option linter.unusedVariables false
set_option maxRecDepth 100000

theorem builderAt_below {T e : TypeId} {B b : Nat} {p : Value} {bs : List Value} {w w' : World} (h : Lib.BuilderAt T e B b p bs w) (hb : Below w.heap.size w w') : Lib.BuilderAt T e B b p bs w' := by
  have hlt := h.lt
  obtain ⟨hB, v, hv, hown, hne⟩ := h
  exact ⟨hB, v, (hb.block b hlt).trans hv, hown.kept (row := none) ⟨hb.os, hb.tape, hb.output, hb.size, fun k hk _ => hb.block k hk⟩ (Classical.em _), hne⟩
theorem isBuilder_below {T e : TypeId} {B b : Nat} {bs : List Value} {w w' : World} (h : Lib.IsBuilder T e B b bs w) (hb : Below w.heap.size w w') : Lib.IsBuilder T e B b bs w' := h.elim (fun x => .inl (builderAt_below x hb)) (fun x => .inr (builderAt_below x hb))
/-- A builder that holds these bytes. -/
def BuF (B b : Nat) (l : List UInt8) (w : World) : Prop := Lib.IsBuilder 128 5 B b (Lib.byteCells l) w
theorem cap_add (m : Nat) (l : List UInt8) (s : ByteArray) (k : Nat) (hl : l.length ≤ m + 1) (hk : k = min s.size (m + 1 - l.length)) : Lib.byteCells l ++ Lib.strCells (s.extract 0 k) = Lib.byteCells ((l ++ s.data.toList).take (m + 1)) := by
  have h1 : (l ++ s.data.toList).take (m + 1) = l ++ s.data.toList.take (m + 1 - l.length) := by
    rw [List.take_append, List.take_of_length_le (by omega)]
  have h2 : s.data.toList.take (m + 1 - l.length) = s.data.toList.take k := by
    have hs : s.data.toList.length = s.size := by simp
    by_cases h : m + 1 - l.length ≤ s.size
    · rw [hk, Nat.min_eq_right h]
    · rw [hk, Nat.min_eq_left (by omega), List.take_of_length_le (by omega), List.take_of_length_le (by omega)]
  rw [h1, h2]
  simp [Lib.byteCells, Lib.strCells]
set_option maxHeartbeats 8000000 in
theorem add_any (w : World) (B b mb m : Nat) (l : List UInt8) (s : ByteArray) (h : BuF B b l w) (hm : w.cell? ⟨mb, 0, none⟩ = some (.int .i64 (m : Int))) (hM : m ≤ 1125899906842624) (hl : l.length ≤ m + 1) (hs : l.length + s.size ≤ 140737488355328) (hB : B ≤ w.heap.size) :
    Calls Tryz.prog 84 #[.string s, .pointer (some ⟨b, 0, none⟩), .pointer (some ⟨mb, 0, none⟩)] w fun e w' => e = .returned (.tuple #[]) ∧ BuF B b ((l ++ s.data.toList).take (m + 1)) w' ∧ Below B w w' := by
  obtain ⟨n, hn⟩ : ∃ n, n = l.length := ⟨_, rfl⟩
  obtain ⟨k, hk⟩ : ∃ k, k = min s.size (m + 1 - l.length) := ⟨_, rfl⟩
  have hk0 : (0 : Int) ≤ (k : Int) := by omega
  have hks : (k : Int) ≤ (s.size : Int) := by omega
  have hks' : k ≤ s.size := by omega
  have hmin : min (s.size : Int) ((m : Int) + 1 - (n : Int)) = (k : Int) := by rw [hk, ← hn]; omega
  have HCAP := Lib.hid (cap_add m l s k hl hk)
  have hlen : (Lib.byteCells l).length = n := by rw [hn, Lib.byteCells_length]
  have HSL : Hid ((Lib.byteCells l).length + (s.extract 0 k).size ≤ 140737488355328) := Lib.hid (by rw [hlen, ByteArray.size_extract]; omega)
  have HLE := Lib.hid hlen
  have HM := Lib.hid hM
  have HN : Hid (n ≤ m + 1) := Lib.hid (by omega)
  have HB := Lib.hid hB
  have HX : Hid (BuF B b l w) := Lib.hid h
  have HMC := Lib.hid hm
  have HSS := Lib.hid hs
  have HW1 : Hid (IntKind.i64.wrap ((m : Int) + 1) = (m : Int) + 1) := Lib.hid (by rw [IntKind.wrap_i64]; omega)
  have HW2 : Hid (IntKind.i64.wrap ((m : Int) + 1 - (n : Int)) = (m : Int) + 1 - (n : Int)) := Lib.hid (by
    have : (n : Int) ≤ (m : Int) + 1 := by omega
    rw [IntKind.wrap_i64]; omega)
  have HW3 := Lib.hid hmin
  have HW4 := Lib.hid hk0
  have HW5 := Lib.hid hks'
  clear h hm hM hl hs hB hlen hk hn hmin hk0 hks hks'
  go_enter Tryz.func84, Tryz.ntmps84
  refine wp_region_held_drew (S := fun _ => True) (by kernel_rfl) trivial (fun hHeld => ?_)
  obtain ⟨v0, hv0⟩ : ∃ v0, v0 = w.drew := ⟨_, rfl⟩
  have hbv : Below w.heap.size w v0 := by rw [hv0]; exact (Below.refl _ _).drew
  have HV0 : Hid (Below B w v0) := Lib.hid (hbv.mono HB.out)
  have HBV : Hid (B ≤ v0.heap.size) := Lib.hid (Nat.le_trans HB.out hbv.size)
  have HXV : Hid (BuF B b l v0) := Lib.hid (isBuilder_below HX.out hbv)
  have HV : Hid (v0.cell? ⟨mb, 0, none⟩ = some (.int .i64 (m : Int))) := Lib.hid ((hbv.cell (p := ⟨mb, 0, none⟩) (World.block_lt_of_cell? w ⟨mb, 0, none⟩ HMC.out)).trans HMC.out)
  have HL := Lib.hid (Tryz.Builder_Len B b _ v0 HXV.out)
  rw [← hv0]
  clear hbv hv0
  refine wpAnyH_take (i := 0) (v := .string s) rfl (by kernel_rfl) (by kernel_rfl) (by kernel_rfl) (fun _ _ _ h => h)
    (Or.inl ⟨by rfl, by intro w hSw;  clear hSw; go_simp⟩) hHeld ?_
  refine wpAnyH_take (i := 1) (v := .string s) rfl (by kernel_rfl) (by kernel_rfl) (by kernel_rfl) (fun _ _ _ h => h)
    (Or.inl ⟨by rfl, by intro w hSw;  clear hSw; go_simp⟩) hHeld ?_
  refine wpAnyH_take (i := 2) (v := .int .i64 (s.size : Int)) rfl (by kernel_rfl) (by kernel_rfl) (by kernel_rfl) (fun _ _ _ h => h)
    (Or.inl ⟨by rfl, by intro w hSw;  clear hSw; go_simp⟩) hHeld ?_
  refine wpAnyH_ready (rs := [3, 5]) (by kernel_rfl) (by simp) ?_
  refine AllReadyH.cons rfl (fun K hK => ?_) (AllReadyH.cons rfl (fun K hK => ?_) AllReadyH.nil)
  · have hm := HV.out
    go_simp
    refine hK.out _ _ trivial (fun hHw1 => ?_)
    clear hK K hm hHeld
    refine wpAnyH_take (i := 4) (v := .int .i64 ((m : Int) + 1)) rfl (by kernel_rfl) (by kernel_rfl) (by kernel_rfl) (fun _ _ _ h => h)
      (Or.inl ⟨by rfl, by intro w hSw; have hw := HW1.out; clear hSw; go_simp⟩) hHw1 ?_
    refine wpAnyH_ready (rs := [5]) (by kernel_rfl) (by simp) ?_
    refine AllReadyH.cons rfl (fun K hK => ?_) AllReadyH.nil
    go_simp
    refine HL.out.mono ?_
    intro e we hq
    obtain ⟨rfl, hwe⟩ := hq
    rw [HLE.out, hwe]
    clear hwe
    go_simp
    refine hK.out _ _ trivial (fun hHw2 => ?_)
    clear hK K hHw1
    refine wpAnyH_take (i := 6) (v := .int .i64 ((m : Int) + 1 - (n : Int))) rfl (by kernel_rfl) (by kernel_rfl) (by kernel_rfl) (fun _ _ _ h => h)
      (Or.inl ⟨by rfl, by intro w hSw; have hw := HW2.out; clear hSw; go_simp⟩) hHw2 ?_
    refine wpAnyH_take (i := 7) (v := .int .i64 (k : Int)) rfl (by kernel_rfl) (by kernel_rfl) (by kernel_rfl) (fun _ _ _ h => h)
      (Or.inl ⟨by rfl, by intro w hSw; have hw := HW3.out; clear hSw; go_simp⟩) hHw2 ?_
    refine wpAnyH_take (i := 8) (v := .string (s.extract 0 k)) rfl (by kernel_rfl) (by kernel_rfl) (by kernel_rfl) (fun _ _ _ h => h)
      (Or.inl ⟨by rfl, by intro w hSw; have hw := HW4.out; have hw2 := HW5.out; clear hSw; go_simp⟩) hHw2 ?_
    refine wpAnyH_ready (rs := [9]) (by kernel_rfl) (by simp) ?_
    refine AllReadyH.cons rfl (fun K hK => ?_) AllReadyH.nil
    go_simp
    refine (Tryz.Builder_WriteString B b _ (s.extract 0 k) v0 HXV.out HSL.out HBV.out).mono ?_
    rintro e we ⟨rfl, h1, h2⟩
    rw [HCAP.out] at h1
    have H1 := Lib.hid h1
    have H2 := Lib.hid (HV0.out.trans h2)
    clear h1 h2
    go_simp
    refine hK.out _ _ trivial (fun hHw3 => ?_)
    clear hK K hHw2
    refine wpAnyH_done (by kernel_rfl) ?_ _
    clear hHw3
    refine bodyPost_end (v := .tuple #[]) (results_none rfl _ _ _) rfl ?_
    exact ⟨rfl, .inr H1.out, H2.out⟩
  · go_simp
    refine HL.out.mono ?_
    intro e we hq
    obtain ⟨rfl, hwe⟩ := hq
    rw [HLE.out, hwe]
    clear hwe
    go_simp
    refine hK.out _ _ trivial (fun hHw1 => ?_)
    clear hK K hHeld
    refine wpAnyH_ready (rs := [3]) (by kernel_rfl) (by simp) ?_
    refine AllReadyH.cons rfl (fun K hK => ?_) AllReadyH.nil
    have hm := HV.out
    go_simp
    refine hK.out _ _ trivial (fun hHw2 => ?_)
    clear hK K hm hHw1
    refine wpAnyH_take (i := 4) (v := .int .i64 ((m : Int) + 1)) rfl (by kernel_rfl) (by kernel_rfl) (by kernel_rfl) (fun _ _ _ h => h)
      (Or.inl ⟨by rfl, by intro w hSw; have hw := HW1.out; clear hSw; go_simp⟩) hHw2 ?_
    refine wpAnyH_take (i := 6) (v := .int .i64 ((m : Int) + 1 - (n : Int))) rfl (by kernel_rfl) (by kernel_rfl) (by kernel_rfl) (fun _ _ _ h => h)
      (Or.inl ⟨by rfl, by intro w hSw; have hw := HW2.out; clear hSw; go_simp⟩) hHw2 ?_
    refine wpAnyH_take (i := 7) (v := .int .i64 (k : Int)) rfl (by kernel_rfl) (by kernel_rfl) (by kernel_rfl) (fun _ _ _ h => h)
      (Or.inl ⟨by rfl, by intro w hSw; have hw := HW3.out; clear hSw; go_simp⟩) hHw2 ?_
    refine wpAnyH_take (i := 8) (v := .string (s.extract 0 k)) rfl (by kernel_rfl) (by kernel_rfl) (by kernel_rfl) (fun _ _ _ h => h)
      (Or.inl ⟨by rfl, by intro w hSw; have hw := HW4.out; have hw2 := HW5.out; clear hSw; go_simp⟩) hHw2 ?_
    refine wpAnyH_ready (rs := [9]) (by kernel_rfl) (by simp) ?_
    refine AllReadyH.cons rfl (fun K hK => ?_) AllReadyH.nil
    go_simp
    refine (Tryz.Builder_WriteString B b _ (s.extract 0 k) v0 HXV.out HSL.out HBV.out).mono ?_
    rintro e we ⟨rfl, h1, h2⟩
    rw [HCAP.out] at h1
    have H1 := Lib.hid h1
    have H2 := Lib.hid (HV0.out.trans h2)
    clear h1 h2
    go_simp
    refine hK.out _ _ trivial (fun hHw3 => ?_)
    clear hK K hHw2
    refine wpAnyH_done (by kernel_rfl) ?_ _
    clear hHw3
    refine bodyPost_end (v := .tuple #[]) (results_none rfl _ _ _) rfl ?_
    exact ⟨rfl, .inr H1.out, H2.out⟩
end Go.Proofs.YtlccdenafnekjaaGreatDoor
namespace Go.Proofs.YtlccdenafnekjaaGreatDoor
open Go.RowKit
set_option linter.unusedVariables false
set_option maxRecDepth 100000

def outB : List UInt8 := [64, 111, 117, 116, 64]
/-- The word, replaced: its fuel, most, out, what is left of the word, what stands in the builder. -/
def repN : Nat → Nat → List UInt8 → List UInt8 → List UInt8 → List UInt8
  | 0, _, _, _, T => T
  | n + 1, m, out, s, T => if T.length ≤ m then (if (Lib.cut s outB).2.2 = true then repN n m out (Lib.cut s outB).2.1 (((T ++ (Lib.cut s outB).1).take (m + 1) ++ out).take (m + 1)) else (T ++ (Lib.cut s outB).1).take (m + 1)) else T
def repF (m : Nat) (out s : List UInt8) : List UInt8 := repN (s.length + 1) m out s []
theorem cut_len (s : List UInt8) : (Lib.cut s outB).1.length ≤ s.length ∧ (Lib.cut s outB).2.1.length ≤ s.length ∧ ((Lib.cut s outB).2.2 = true → (Lib.cut s outB).2.1.length < s.length ∨ s.length = 0) := by
  unfold Lib.cut
  split
  · refine ⟨by rw [List.length_take]; omega, by rw [List.length_drop]; omega, fun _ => ?_⟩
    rw [List.length_drop]
    show s.length - (_ + 5) < s.length ∨ _
    omega
  · exact ⟨Nat.le_refl _, by simp, fun h => by cases h⟩
theorem cut_nil : (Lib.cut [] outB).2.2 = false := by decide
theorem info_bld : (Tryz.prog.info? 128).map (·.size) = some 2 := by kernel_rfl
theorem buF_new (w : World) : BuF w.heap.size w.heap.size [] (w.alloc (.cells #[.pointer none, .slice none 0 0] 128)) :=
  .inl ⟨Nat.le_refl _, .slice none 0 0, Has.new w [.pointer none, .slice none 0 0] _, World.ownsRow_nil _ _ _ _, by simp [Value.ownBlock]⟩
set_option maxHeartbeats 8000000 in
theorem replaced_any (s out : ByteArray) (m : Nat) (w : World) (hm : MaxW w) (hs : s.size ≤ 1000000) (ho : out.size ≤ 1000000) (hM : m ≤ 1125899906842624) :
    Calls Tryz.prog 69 #[.string s, .string out, .int .i64 (m : Int)] w fun e w' => e = .returned (.string ⟨(repF m out.data.toList s.data.toList).toArray⟩) ∧ Below w.heap.size w w' := by
  have HM := Lib.hid hM
  have HO := Lib.hid ho
  have HSS := Lib.hid hs
  have HMX := Lib.hid hm
  obtain ⟨G, hG⟩ : ∃ G, G = w.heap.size := ⟨_, rfl⟩
  obtain ⟨w1, hw1⟩ : ∃ w1, w1 = w.alloc (.cells #[.int .i64 (m : Int)] 3) := ⟨_, rfl⟩
  have b1 : Below G w w1 := by rw [hw1, hG]; exact (Below.refl _ _).alloc (Nat.le_refl _) _
  have z1 : Has w1 G [.int .i64 (m : Int)] 3 := by rw [hw1, hG]; exact Has.new w _ _
  have s1 : w1.heap.size = G + 1 := by rw [hw1, hG]; simp
  obtain ⟨w2, hw2⟩ : ∃ w2, w2 = w1.alloc (.cells #[.pointer none, .slice none 0 0] 128) := ⟨_, rfl⟩
  have b2 : Below (G + 1) w1 w2 := by rw [hw2, ← s1]; exact (Below.refl _ _).alloc (Nat.le_refl _) _
  have z2 : BuF (G + 1) (G + 1) [] w2 := by rw [hw2, ← s1]; exact buF_new w1
  obtain ⟨R, hR⟩ : ∃ R, R = repF m out.data.toList s.data.toList := ⟨_, rfl⟩
  rw [← hR, ← hG]
  have HR : Hid (repN (s.size + 1) m out.data.toList s.data.toList [] = R) := Lib.hid (by rw [hR]; unfold repF; congr 1)
  have HG := Lib.hid hG
  have HW1 := Lib.hid hw1
  have HW2 := Lib.hid hw2
  have HS1 := Lib.hid s1
  have B1 := Lib.hid b1
  have B2 := Lib.hid b2
  have Z1 := Lib.hid z1
  have Z2 := Lib.hid z2
  clear hM ho hs hm hG hw1 hw2 b1 b2 z1 z2 s1 hR
  go_enter Tryz.func69, Tryz.ntmps69
  go_upto_region 2 with fail
  rw [← HW1.out, ← HG.out, ← HW2.out]
  clear HW1 HW2
  have hmf : ∀ (fn : Fn) (first cap : Array Value) (w : World), (Instr.makeFunc fn first cap).run Tryz.prog w = .ok (.func fn first cap) w := fun _ _ _ _ => rfl
  go_wp2_with fail
  go_loopg [0, 9] (s.size + 1) (fun gk v0 v9 wr => ∃ (t : ByteArray) (T : List UInt8) (mo : Bool), v0 = .string t ∧ v9 = .bool mo ∧ Hid (BuF (G + 1) (G + 1) T wr) ∧ Hid (T.length ≤ m + 1) ∧ Hid (t.size ≤ s.size) ∧ Hid (if mo = true then t.size < gk ∧ repN gk m out.data.toList t.data.toList T = R else T = R) ∧ Hid (Below (G + 1) w1 wr) ∧ Hid (T.length + gk * 2000000 ≤ (s.size + 1) * 2000000))
  case atStart => exact ⟨s, [], true, rfl, rfl, Z2, Lib.hid (Nat.zero_le _), Lib.hid (Nat.le_refl _), Lib.hid (by rw [if_pos rfl]; exact ⟨Nat.lt_succ_self _, HR.out⟩), B2, Lib.hid (by simp)⟩
  case round =>
    obtain ⟨t, T, mo, rfl, rfl, HX, HTL, HTS, HQ, HB, HK⟩ := hrel
    clear B2 Z2 HR
    have HMC : Hid (wr.cell? ⟨G, 0, none⟩ = some (.int .i64 (m : Int))) := Lib.hid ((Z1.out.below HB.out (by omega)).cellAt (i := 0) rfl)
    have HBS : Hid (G + 1 ≤ wr.heap.size) := Lib.hid (by have := HB.out.size; rw [HS1.out] at this; exact this)
    cases mo with
    | false =>
      have HRR : Hid (T = R) := Lib.hid (by have := HQ.out; simpa using this)
      clear HQ
      go_upto_region 4 with fail
      go_quiet (fail)
      obtain ⟨wd, hwd⟩ : ∃ wd, wd = wr.drewN nq := ⟨_, rfl⟩
      have hbd : Below wr.heap.size wr wd := by rw [hwd]; exact drewN_below wr nq
      have HXD : Hid (BuF (G + 1) (G + 1) T wd) := Lib.hid (isBuilder_below HX.out hbd)
      have HBD : Hid (Below (G + 1) w1 wd) := Lib.hid (HB.out.trans (hbd.mono HBS.out))
      have HBZ : Hid (G + 1 ≤ wd.heap.size) := Lib.hid (Nat.le_trans HBS.out hbd.size)
      rw [← hwd]
      clear hbd hwd
      go_wp2_with fail
      refine (Tryz.Builder_String_any (G + 1) (G + 1) T wd HXD.out HBZ.out).mono ?_
      rintro e w3 ⟨rfl, h3⟩
      have HE : Hid (Below G w w3) := Lib.hid (B1.out.trans ((HBD.out.trans h3).mono (Nat.le_succ G)))
      clear h3
      rw [HRR.out]
      go_wp2_with fail
      refine bodyPost_ret (results_tmp rfl _ _ _) rfl ?_
      exact ⟨rfl, HE.out⟩
    | true =>
      obtain ⟨hq1, hq2⟩ : t.size < gk ∧ repN gk m out.data.toList t.data.toList T = R := by have := HQ.out; simpa using this
      obtain ⟨k, rfl⟩ : ∃ k, gk = k + 1 := ⟨gk - 1, by omega⟩
      have HQ1 := Lib.hid hq1
      have HQ2 := Lib.hid hq2
      obtain ⟨n, hn⟩ : ∃ n, n = T.length := ⟨_, rfl⟩
      have HLEN : Hid (∀ q, Calls Tryz.prog 86 #[.pointer (some ⟨G + 1, 0, none⟩)] (wr.drewN q) fun e w' => e = .returned (.int .i64 (n : Int)) ∧ w' = wr.drewN q) := Lib.hid (fun q => by
        have h := Tryz.Builder_Len (G + 1) (G + 1) _ (wr.drewN q) (isBuilder_below HX.out (drewN_below wr q))
        rw [Lib.byteCells_length, ← hn] at h
        exact h)
      have hmc := HMC.out
      clear hq1 hq2 HQ
      by_cases hle : T.length ≤ m
      · have hle' : (n : Int) ≤ (m : Int) := by omega
        have HLE := Lib.hid hle
        clear hle
        go_upto_region 4 with fail
        go_quiet ((go_at_call 86; exact Calls.quiet_of_same (HLEN.out _)))
        obtain ⟨wd, hwd⟩ : ∃ wd, wd = wr.drewN nq := ⟨_, rfl⟩
        have hbd : Below wr.heap.size wr wd := by rw [hwd]; exact drewN_below wr nq
        have HBD : Hid (Below (G + 1) w1 wd) := Lib.hid (HB.out.trans (hbd.mono HBS.out))
        have hbw : Below G w wd := B1.out.trans (HBD.out.mono (Nat.le_succ G))
        have HXD : Hid (BuF (G + 1) (G + 1) T wd) := Lib.hid (isBuilder_below HX.out hbd)
        have HBZ : Hid (G + 1 ≤ wd.heap.size) := Lib.hid (Nat.le_trans HBS.out hbd.size)
        have hmw : MaxW wd := HMX.out.later (by rw [← HG.out]; exact hbw)
        rw [← hwd]
        obtain ⟨mm, hmm⟩ := hmw
        have HCT := Tryz.strings_Cut t ⟨#[64, 111, 117, 116, 64]⟩ mm wd (by have := HTS.out; have := HSS.out; omega) hmm
        rw [show (⟨#[64, 111, 117, 116, 64]⟩ : ByteArray).data.toList = outB from rfl] at HCT
        obtain ⟨hl1, hl2, hl3⟩ := cut_len t.data.toList
        have hts : t.data.toList.length = t.size := by simp
        rw [hts] at hl1 hl2 hl3
        obtain ⟨C, hC⟩ : ∃ C, C = Lib.cut t.data.toList outB := ⟨_, rfl⟩
        have hl4 : C.2.2 = true → C.2.1.length < t.size := fun h => by
          rw [hC] at h ⊢
          rcases hl3 h with h3 | h3
          · exact h3
          · have h5 : t.data.toList = [] := List.eq_nil_of_length_eq_zero (by omega)
            rw [h5, cut_nil] at h
            cases h
        rw [← hC] at HCT hl1 hl2
        have HRN : Hid (R = if C.2.2 = true then repN k m out.data.toList C.2.1 (((T ++ C.1).take (m + 1) ++ out.data.toList).take (m + 1)) else (T ++ C.1).take (m + 1)) := Lib.hid (by
          rw [hC, ← HQ2.out, repN, if_pos HLE.out])
        obtain ⟨c1, c2, c3⟩ := C
        simp only at HCT hl1 hl2 hl4 HRN
        obtain ⟨h1, hh1⟩ : ∃ h1 : ByteArray, (⟨c1.toArray⟩ : ByteArray) = h1 := ⟨_, rfl⟩
        obtain ⟨h2, hh2⟩ : ∃ h2 : ByteArray, (⟨c2.toArray⟩ : ByteArray) = h2 := ⟨_, rfl⟩
        have e1 : h1.data.toList = c1 := by rw [← hh1]
        have e2 : h2.data.toList = c2 := by rw [← hh2]
        have z1 : h1.size = c1.length := by rw [← e1]; simp
        have z2 : h2.size = c2.length := by rw [← e2]; simp
        rw [hh1, hh2] at HCT
        rw [← e1, ← e2] at HRN
        have HZ1 : Hid (h1.size ≤ t.size) := Lib.hid (by omega)
        have HZ2 : Hid (h2.size ≤ t.size ∧ (c3 = true → h2.size < t.size)) := Lib.hid ⟨by omega, fun h => by have := hl4 h; omega⟩
        have HCC := Lib.hid HCT
        clear hC hl1 hl2 hl3 hl4 e1 e2 z1 z2 hh1 hh2 HCT hbd hbw hwd hmm hts hmc
        go_wp2_with fail
        refine HCC.out.mono ?_
        rintro e w4 ⟨rfl, q, hw4⟩
        have hb4 : Below wd.heap.size wd w4 := by rw [hw4]; exact drewN_below wd q
        have HX4 : Hid (BuF (G + 1) (G + 1) T w4) := Lib.hid (isBuilder_below HXD.out hb4)
        have HB4 : Hid (Below (G + 1) w1 w4) := Lib.hid (HBD.out.trans (hb4.mono HBZ.out))
        have HZ4 : Hid (G + 1 ≤ w4.heap.size) := Lib.hid (Nat.le_trans HBZ.out hb4.size)
        have HM4 : Hid (w4.cell? ⟨G, 0, none⟩ = some (.int .i64 (m : Int))) := Lib.hid ((Z1.out.below HB4.out (by omega)).cellAt (i := 0) rfl)
        clear hb4 hw4 HCC
        go_wp2_with fail
        refine (add_any w4 (G + 1) (G + 1) G m T h1 HX4.out HM4.out HM.out HTL.out (by have := HZ1.out; have := HTS.out; have := HSS.out; have := HK.out; omega) HZ4.out).mono ?_
        rintro e w5 ⟨rfl, hx5, hb5⟩
        have HX5 := Lib.hid hx5
        have HB5 : Hid (Below (G + 1) w1 w5) := Lib.hid (HB4.out.trans hb5)
        have HZ5 : Hid (G + 1 ≤ w5.heap.size) := Lib.hid (Nat.le_trans HZ4.out hb5.size)
        have HM5 : Hid (w5.cell? ⟨G, 0, none⟩ = some (.int .i64 (m : Int))) := Lib.hid ((Z1.out.below HB5.out (by omega)).cellAt (i := 0) rfl)
        clear hx5 hb5
        have hls : ((T ++ h1.data.toList).take (m + 1)).length ≤ T.length + h1.size := by
          have hz : h1.data.toList.length = h1.size := by simp
          rw [List.length_take, List.length_append, hz]; omega
        have HLS := Lib.hid hls
        clear hls
        cases c3 with
        | false =>
          have HR5 : Hid ((T ++ h1.data.toList).take (m + 1) = R) := Lib.hid (by have := HRN.out; simpa using this.symm)
          clear HRN
          go_wp2_with fail
          go_roundg 0
          case rel => exact ⟨h2, _, false, rfl, rfl, HX5, Lib.hid (by rw [List.length_take]; omega), Lib.hid (by have := HZ2.out.1; have := HTS.out; omega), Lib.hid (by simpa using HR5.out), HB5, Lib.hid (by have := HLS.out; have := HZ1.out; have := HTS.out; have := HSS.out; have := HK.out; omega)⟩
          case measure => omega
        | true =>
          have HR5 : Hid (repN k m out.data.toList h2.data.toList (((T ++ h1.data.toList).take (m + 1) ++ out.data.toList).take (m + 1)) = R) := Lib.hid (by have := HRN.out; simpa using this.symm)
          clear HRN
          go_wp2_with fail
          refine (add_any w5 (G + 1) (G + 1) G m _ out HX5.out HM5.out HM.out (by rw [List.length_take]; omega) (by have := HO.out; have := HZ1.out; have := HTS.out; have := HSS.out; have := HK.out; have := HLS.out; omega) HZ5.out).mono ?_
          rintro e w6 ⟨rfl, hx6, hb6⟩
          have HX6 := Lib.hid hx6
          have HB6 : Hid (Below (G + 1) w1 w6) := Lib.hid (HB5.out.trans hb6)
          clear hx6 hb6
          go_wp2_with fail
          go_roundg k
          case rel => exact ⟨h2, _, true, rfl, rfl, HX6, Lib.hid (by rw [List.length_take]; omega), Lib.hid (by have := HZ2.out.1; have := HTS.out; omega), Lib.hid (by rw [if_pos rfl]; exact ⟨by have := HZ2.out.2 (by simp); have := HQ1.out; omega, HR5.out⟩), HB6, Lib.hid (by have := HLS.out; have := HZ1.out; have := HTS.out; have := HSS.out; have := HK.out; have := HO.out; have hz : out.data.toList.length = out.size := (by simp); rw [List.length_take, List.length_append, hz]; omega)⟩
          case measure => omega
      · have hle' : ¬ (n : Int) ≤ (m : Int) := by omega
        have HRR : Hid (T = R) := Lib.hid (by have := HQ2.out; rw [repN, if_neg hle] at this; exact this)
        clear hle
        go_upto_region 4 with fail
        go_quiet ((go_at_call 86; exact Calls.quiet_of_same (HLEN.out _)))
        obtain ⟨wd, hwd⟩ : ∃ wd, wd = wr.drewN nq := ⟨_, rfl⟩
        have hbd : Below wr.heap.size wr wd := by rw [hwd]; exact drewN_below wr nq
        have HXD : Hid (BuF (G + 1) (G + 1) T wd) := Lib.hid (isBuilder_below HX.out hbd)
        have HBD : Hid (Below (G + 1) w1 wd) := Lib.hid (HB.out.trans (hbd.mono HBS.out))
        have HBZ : Hid (G + 1 ≤ wd.heap.size) := Lib.hid (Nat.le_trans HBS.out hbd.size)
        rw [← hwd]
        clear hbd hwd
        go_wp2_with fail
        refine (Tryz.Builder_String_any (G + 1) (G + 1) T wd HXD.out HBZ.out).mono ?_
        rintro e w3 ⟨rfl, h3⟩
        have HE : Hid (Below G w w3) := Lib.hid (B1.out.trans ((HBD.out.trans h3).mono (Nat.le_succ G)))
        clear h3
        rw [HRR.out]
        go_wp2_with fail
        refine bodyPost_ret (results_tmp rfl _ _ _) rfl ?_
        exact ⟨rfl, HE.out⟩
end Go.Proofs.YtlccdenafnekjaaGreatDoor
namespace Go.Proofs.YtlccdenafnekjaaGreatDoor
open Go.RowKit
set_option linter.unusedVariables false
/-- The shelf's laying of stringslite.IndexByte at this program. -/
def laysSB_ren : Go.Shelf.Ren := ⟨fun | 217 => 82 | 266 => 104 | n => n, fun | 9 => 9 | 5 => 5 | 3 => 3 | n => n, fun | n => n⟩
theorem laysSB : Go.Proofs.Lays.n217 Tryz.prog laysSB_ren := {
  mixed := by kernel_rfl
  f217 := Tryz.func82.trans (congrArg some (by kernel_rfl))
  f266 := Tryz.func104.trans (congrArg some (by kernel_rfl))
  t3 := Tryz.underlying3
  a3 := Tryz.isAgg3
  z3 := Tryz.sizeOf3
  v3 := Tryz.zeroValue3
  t5 := Tryz.underlying5
  a5 := Tryz.isAgg5
  z5 := Tryz.sizeOf5
  v5 := Tryz.zeroValue5
  t9 := Tryz.underlying9
  a9 := Tryz.isAgg9
  z9 := Tryz.sizeOf9
  v9 := Tryz.zeroValue9 }
open Go.Shelf Go.Lib in
theorem sb_IndexByte (s : ByteArray) (c : Int) (w : World) :
    Calls Tryz.prog 82 #[.string s, .int .u8 c] w fun e w' => e = .returned (.int .i64 (Lib.indexByte s.data.toList c.toNat.toUInt8)) ∧ w' = w := Any.stringslite_IndexByte laysSB s c w
set_option maxRecDepth 100000

theorem occ_no (a r : List UInt8) (h : 64 ∉ a) : Lib.NoOcc (a ++ r) outB a.length := fun j hj => by
  have hd : a.drop j = a[j] :: a.drop (j + 1) := List.drop_eq_getElem_cons hj
  have hne : ¬ (64 : UInt8) = a[j] := fun e => h (by rw [e]; exact List.getElem_mem hj)
  unfold Lib.occAt
  rw [List.drop_append_of_le_length (by omega), hd, List.cons_append]
  unfold outB
  simp [List.isPrefixOf, hne]
theorem cut_no (a : List UInt8) (h : 64 ∉ a) : Lib.cut a outB = (a, [], false) := by
  have hi : Lib.index a outB = -1 := Lib.index_none (fun j hj => by
    by_cases hlt : j < a.length
    · have := occ_no a [] h j hlt
      rwa [List.append_nil] at this
    · unfold Lib.occAt
      rw [List.drop_of_length_le (by omega)]
      rfl)
  unfold Lib.cut
  rw [hi]
  rfl
theorem byte_no (s : ByteArray) (a b : Nat) (h : 64 ∉ s.data.toList) : Lib.indexByte (s.extract a b).data.toList 64 = -1 := by
  rcases indexByte_lt 64 (s.extract a b).data.toList with h1 | h1
  · exact h1.1
  · exfalso
    have h2 := h1.2
    rw [ByteArray.data_extract, Array.toList_extract, List.extract_eq_take_drop] at h2
    exact h (List.mem_of_mem_drop (List.mem_of_mem_take h2))
set_option maxHeartbeats 8000000 in
theorem index_big (s sub : ByteArray) (w : World) (hm : MaxW w) (h64 : 64 ∉ s.data.toList) (hl : 64 < s.size) (hs : s.size ≤ 140737488355328) (h5 : sub.size = 5) (h0 : sub.data.toList.getD 0 0 = 64) :
    Calls Tryz.prog 78 #[.string s, .string sub] w fun e w' => e = .returned (.int .i64 (-1)) ∧ w' = w := by
  obtain ⟨m, hmc⟩ := hm
  have hne : (sub.toList == s.toList) = false := by
    rw [Lib.bytes_beq_false_iff]
    intro e
    rw [e] at h5
    omega
  have hss : (s.size : Int) ≤ 140737488355328 := by omega
  have hsl : (64 : Int) < (s.size : Int) := by omega
  have hg0 := str_get sub 0 (by omega)
  have hg1 := str_get sub 1 (by omega)
  have hs0 := str_get s 0 (by omega)
  rw [h0] at hg0
  obtain ⟨d, hd⟩ : ∃ d, d = sub.data.toList.getD 1 0 := ⟨_, rfl⟩
  rw [← hd] at hg1
  obtain ⟨c, hc⟩ : ∃ c, c = s.data.toList.getD 0 0 := ⟨_, rfl⟩
  rw [← hc] at hs0
  have hc64 : ¬ (c.toNat : Int) = 64 := by
    intro e
    have e2 : c = 64 := UInt8.toNat_inj.1 (by show c.toNat = 64; omega)
    apply h64
    rw [← e2, hc, List.getD_eq_getElem?_getD, List.getElem?_eq_getElem (by simp; omega)]
    exact List.getElem_mem _
  have hcn : ((c.toNat : Int) != 64) = true := bne_iff_ne.2 hc64
  have HIX : Hid (∀ a b, Calls Tryz.prog 82 #[.string (s.extract a b), .int .u8 64] w fun e w' => e = .returned (.int .i64 (-1)) ∧ w' = w) := Lib.hid (fun a b => by
    have h := sb_IndexByte (s.extract a b) 64 w
    rw [show (64 : Int).toNat.toUInt8 = 64 from rfl, byte_no s a b h64] at h
    exact h)
  have n5 : (sub.size : Int) = 5 := by omega
  have hsz5 : (5 : Int) < (s.size : Int) := by omega
  have hge : ¬ (s.size : Int) ≤ 5 := by omega
  have hle : ¬ (s.size : Int) ≤ 64 := by omega
  have HL := Lib.hid hl
  clear h64 hd hc h0
  by_cases hm5 : (5 : Int) ≤ m
  · go_enter Tryz.func78, Tryz.ntmps78
    go_wp2_with fail
    go_loopw [8, 10] (fun v8 v10 wr => v8 = .int .i64 0 ∧ v10 = .int .i64 0 ∧ wr = w) (fun _ _ _ => 0)
    case atStart => exact ⟨rfl, rfl, rfl⟩
    case round =>
      obtain ⟨rfl, rfl, rfl⟩ := hrel
      go_wp2_with fail
      refine (HIX.out _ _).mono ?_
      rintro e w1 ⟨rfl, rfl⟩
      go_wp2_with fail
      refine bodyPost_ret (results_tmp rfl _ _ _) rfl ?_
      exact ⟨rfl, rfl⟩
  · go_enter Tryz.func78, Tryz.ntmps78
    go_wp2_with fail
    go_loopw [8, 10] (fun v8 v10 wr => v8 = .int .i64 0 ∧ v10 = .int .i64 0 ∧ wr = w) (fun _ _ _ => 0)
    case atStart => exact ⟨rfl, rfl, rfl⟩
    case round =>
      obtain ⟨rfl, rfl, rfl⟩ := hrel
      go_wp2_with fail
      refine (HIX.out _ _).mono ?_
      rintro e w1 ⟨rfl, rfl⟩
      go_wp2_with fail
      refine bodyPost_ret (results_tmp rfl _ _ _) rfl ?_
      exact ⟨rfl, rfl⟩
theorem results_three {P : Program} {fn : Func} {p u v : Tmp} (h : fn.results = #[.tmp p, .tmp u, .tmp v]) (tmps : Array Value) (w : World) :
    (results fn tmps).run P w = .ok (.tuple #[tmps.getD p undef, tmps.getD u undef, tmps.getD v undef]) w := by
  simp [results, h]
set_option maxHeartbeats 8000000 in
theorem cutl_big (s sub : ByteArray) (w : World) (hm : MaxW w) (h64 : 64 ∉ s.data.toList) (hl : 64 < s.size) (hs : s.size ≤ 140737488355328) (h5 : sub.size = 5) (h0 : sub.data.toList.getD 0 0 = 64) :
    Calls Tryz.prog 81 #[.string s, .string sub] w fun e w' => e = .returned (.tuple #[.string s, .string ⟨#[]⟩, .bool false]) ∧ w' = w := by
  have HIX := Lib.hid (index_big s sub w hm h64 hl hs h5 h0)
  clear hm h64 hl hs h5 h0
  go_enter Tryz.func81, Tryz.ntmps81
  go_wp2_with fail
  refine HIX.out.mono ?_
  rintro e w1 ⟨rfl, rfl⟩
  go_wp2_with fail
  refine bodyPost_ret (results_three rfl _ _) rfl ?_
  exact ⟨rfl, rfl⟩
theorem cut_big (s sub : ByteArray) (w : World) (hm : MaxW w) (h64 : 64 ∉ s.data.toList) (hl : 64 < s.size) (hs : s.size ≤ 140737488355328) (h5 : sub.size = 5) (h0 : sub.data.toList.getD 0 0 = 64) :
    Calls Tryz.prog 64 #[.string s, .string sub] w fun e w' => e = .returned (.tuple #[.string s, .string ⟨#[]⟩, .bool false]) ∧ w' = w := by
  have HIX := Lib.hid (cutl_big s sub w hm h64 hl hs h5 h0)
  clear hm h64 hl hs h5 h0
  go_enter Tryz.func64, Tryz.ntmps64
  go_wp2_with fail
  refine HIX.out.mono ?_
  rintro e w1 ⟨rfl, rfl⟩
  go_wp2_with fail
  refine bodyPost_ret (results_three rfl _ _) rfl ?_
  exact ⟨rfl, rfl⟩
set_option maxHeartbeats 8000000 in
theorem replaced_big (s out : ByteArray) (m : Nat) (w : World) (hm : MaxW w) (h64 : 64 ∉ s.data.toList) (hl : 64 < s.size) (hs : s.size ≤ 140737488355328) (hM : m ≤ 1125899906842624) :
    Calls Tryz.prog 69 #[.string s, .string out, .int .i64 (m : Int)] w fun e w' => e = .returned (.string ⟨(s.data.toList.take (m + 1)).toArray⟩) ∧ Below w.heap.size w w' := by
  have HM := Lib.hid hM
  have HMX := Lib.hid hm
  obtain ⟨G, hG⟩ : ∃ G, G = w.heap.size := ⟨_, rfl⟩
  obtain ⟨w1, hw1⟩ : ∃ w1, w1 = w.alloc (.cells #[.int .i64 (m : Int)] 3) := ⟨_, rfl⟩
  have b1 : Below G w w1 := by rw [hw1, hG]; exact (Below.refl _ _).alloc (Nat.le_refl _) _
  have z1 : Has w1 G [.int .i64 (m : Int)] 3 := by rw [hw1, hG]; exact Has.new w _ _
  have s1 : w1.heap.size = G + 1 := by rw [hw1, hG]; simp
  obtain ⟨w2, hw2⟩ : ∃ w2, w2 = w1.alloc (.cells #[.pointer none, .slice none 0 0] 128) := ⟨_, rfl⟩
  have b2 : Below (G + 1) w1 w2 := by rw [hw2, ← s1]; exact (Below.refl _ _).alloc (Nat.le_refl _) _
  have z2 : BuF (G + 1) (G + 1) [] w2 := by rw [hw2, ← s1]; exact buF_new w1
  obtain ⟨R, hR⟩ : ∃ R, R = s.data.toList.take (m + 1) := ⟨_, rfl⟩
  rw [← hR, ← hG]
  have HR := Lib.hid hR
  have HG := Lib.hid hG
  have HW1 := Lib.hid hw1
  have HW2 := Lib.hid hw2
  have HS1 := Lib.hid s1
  have B1 := Lib.hid b1
  have B2 := Lib.hid b2
  have Z1 := Lib.hid z1
  have Z2 := Lib.hid z2
  have HCUT : Hid (∀ v : World, MaxW v → Calls Tryz.prog 64 #[.string s, .string ⟨#[64, 111, 117, 116, 64]⟩] v fun e w' => e = .returned (.tuple #[.string s, .string ⟨#[]⟩, .bool false]) ∧ w' = v) := Lib.hid (fun v hv => cut_big s ⟨#[64, 111, 117, 116, 64]⟩ v hv h64 hl hs rfl rfl)
  have HSS := Lib.hid hs
  clear hM h64 hl hs hm hG hw1 hw2 b1 b2 z1 z2 s1 hR
  go_enter Tryz.func69, Tryz.ntmps69
  go_upto_region 2 with fail
  rw [← HW1.out, ← HG.out, ← HW2.out]
  clear HW1 HW2
  have hmf : ∀ (fn : Fn) (first cap : Array Value) (w : World), (Instr.makeFunc fn first cap).run Tryz.prog w = .ok (.func fn first cap) w := fun _ _ _ _ => rfl
  go_wp2_with fail
  go_loopg [0, 9] 1 (fun gk v0 v9 wr => ∃ (t : ByteArray) (T : List UInt8) (mo : Bool), v0 = .string t ∧ v9 = .bool mo ∧ Hid (BuF (G + 1) (G + 1) T wr) ∧ Hid (if mo = true then gk = 1 ∧ t = s ∧ T = [] else T = R) ∧ Hid (Below (G + 1) w1 wr))
  case atStart => exact ⟨s, [], true, rfl, rfl, Z2, Lib.hid (by rw [if_pos rfl]; exact ⟨rfl, rfl, rfl⟩), B2⟩
  case round =>
    obtain ⟨t, T, mo, rfl, rfl, HX, HQ, HB⟩ := hrel
    clear B2 Z2
    have HMC : Hid (wr.cell? ⟨G, 0, none⟩ = some (.int .i64 (m : Int))) := Lib.hid ((Z1.out.below HB.out (by omega)).cellAt (i := 0) rfl)
    have HBS : Hid (G + 1 ≤ wr.heap.size) := Lib.hid (by have := HB.out.size; rw [HS1.out] at this; exact this)
    cases mo with
    | false =>
      have HRR : Hid (T = R) := Lib.hid (by have := HQ.out; simpa using this)
      clear HQ
      go_upto_region 4 with fail
      go_quiet (fail)
      obtain ⟨wd, hwd⟩ : ∃ wd, wd = wr.drewN nq := ⟨_, rfl⟩
      have hbd : Below wr.heap.size wr wd := by rw [hwd]; exact drewN_below wr nq
      have HXD : Hid (BuF (G + 1) (G + 1) T wd) := Lib.hid (isBuilder_below HX.out hbd)
      have HBD : Hid (Below (G + 1) w1 wd) := Lib.hid (HB.out.trans (hbd.mono HBS.out))
      have HBZ : Hid (G + 1 ≤ wd.heap.size) := Lib.hid (Nat.le_trans HBS.out hbd.size)
      rw [← hwd]
      clear hbd hwd
      go_wp2_with fail
      refine (Tryz.Builder_String_any (G + 1) (G + 1) T wd HXD.out HBZ.out).mono ?_
      rintro e w3 ⟨rfl, h3⟩
      have HE : Hid (Below G w w3) := Lib.hid (B1.out.trans ((HBD.out.trans h3).mono (Nat.le_succ G)))
      clear h3
      rw [HRR.out]
      go_wp2_with fail
      refine bodyPost_ret (results_tmp rfl _ _ _) rfl ?_
      exact ⟨rfl, HE.out⟩
    | true =>
      obtain ⟨hg1, hts, hT⟩ : gk = 1 ∧ t = s ∧ T = [] := by have := HQ.out; simpa using this
      subst hg1 hts hT
      have HLEN : Hid (∀ q, Calls Tryz.prog 86 #[.pointer (some ⟨G + 1, 0, none⟩)] (wr.drewN q) fun e w' => e = .returned (.int .i64 0) ∧ w' = wr.drewN q) := Lib.hid (fun q => by
        have h := Tryz.Builder_Len (G + 1) (G + 1) _ (wr.drewN q) (isBuilder_below HX.out (drewN_below wr q))
        rw [Lib.byteCells_length] at h
        exact h)
      have hmc := HMC.out
      have hle' : (0 : Int) ≤ (m : Int) := by omega
      clear HQ
      go_upto_region 4 with fail
      go_quiet ((go_at_call 86; exact Calls.quiet_of_same (HLEN.out _)))
      obtain ⟨wd, hwd⟩ : ∃ wd, wd = wr.drewN nq := ⟨_, rfl⟩
      have hbd : Below wr.heap.size wr wd := by rw [hwd]; exact drewN_below wr nq
      have HBD : Hid (Below (G + 1) w1 wd) := Lib.hid (HB.out.trans (hbd.mono HBS.out))
      have hbw : Below G w wd := B1.out.trans (HBD.out.mono (Nat.le_succ G))
      have HXD : Hid (BuF (G + 1) (G + 1) [] wd) := Lib.hid (isBuilder_below HX.out hbd)
      have HBZ : Hid (G + 1 ≤ wd.heap.size) := Lib.hid (Nat.le_trans HBS.out hbd.size)
      have hmw : MaxW wd := HMX.out.later (by rw [← HG.out]; exact hbw)
      have HCC := Lib.hid (HCUT.out wd hmw)
      have HM4 : Hid (wd.cell? ⟨G, 0, none⟩ = some (.int .i64 (m : Int))) := Lib.hid ((Z1.out.below HBD.out (by omega)).cellAt (i := 0) rfl)
      rw [← hwd]
      clear hbd hbw hwd hmw hmc
      go_wp2_with fail
      refine HCC.out.mono ?_
      rintro e w4 ⟨rfl, rfl⟩
      go_wp2_with fail
      refine (add_any _ (G + 1) (G + 1) G m [] t HXD.out HM4.out HM.out (Nat.zero_le _) (by have := HSS.out; simpa using this) HBZ.out).mono ?_
      rintro e w5 ⟨rfl, hx5, hb5⟩
      have HX5 := Lib.hid hx5
      have HB5 : Hid (Below (G + 1) w1 w5) := Lib.hid (HBD.out.trans hb5)
      clear hx5 hb5
      have HR5 : Hid (([] ++ t.data.toList).take (m + 1) = R) := Lib.hid (by rw [HR.out]; rfl)
      go_wp2_with fail
      go_roundg 0
      case rel => exact ⟨⟨#[]⟩, _, false, rfl, rfl, HX5, Lib.hid (by simpa using HR5.out), HB5⟩
      case measure => omega
/-- A word that replaced may take: it is short, or has no @. -/
def WB (x : List UInt8) : Prop := x.length ≤ 1000000 ∨ (64 ∉ x ∧ x.length ≤ 140737488355328)
theorem WB.short {x : List UInt8} (h : x.length ≤ 1000000) : WB x := .inl h
theorem rep_take (m : Nat) (out a : List UInt8) (ha : 64 ∉ a) : repF m out a = a.take (m + 1) := by
  unfold repF
  have h0 : ([] : List UInt8).length ≤ m := Nat.zero_le _
  rw [repN, if_pos h0, cut_no a ha]
  rfl
theorem replaced_gen (s out : ByteArray) (m : Nat) (w : World) (hm : MaxW w) (hs : WB s.data.toList) (ho : out.size ≤ 1000000) (hM : m ≤ 1125899906842624) :
    Calls Tryz.prog 69 #[.string s, .string out, .int .i64 (m : Int)] w fun e w' => e = .returned (.string ⟨(repF m out.data.toList s.data.toList).toArray⟩) ∧ Below w.heap.size w w' := by
  have hz : s.data.toList.length = s.size := by simp
  by_cases h1 : s.size ≤ 1000000
  · exact replaced_any s out m w hm h1 ho hM
  · rcases hs with h | ⟨h2, h3⟩
    · omega
    · rw [rep_take m _ _ h2]
      exact replaced_big s out m w hm h2 (by omega) (by omega) hM
end Go.Proofs.YtlccdenafnekjaaGreatDoor
namespace Go.Proofs.YtlccdenafnekjaaGreatDoor
open Go.RowKit
set_option linter.unusedVariables false
set_option maxRecDepth 100000

theorem own_below {w w' : World} {B size n : Nat} {e : TypeId} {v : Value} {xs : List Value} (h : w.ownsRow B e size v n xs) (hb : Below w.heap.size w w') : w'.ownsRow B e size v n xs :=
  h.kept (row := none) ⟨hb.os, hb.tape, hb.output, hb.size, fun k hk _ => hb.block k hk⟩ (Classical.em _)
/-- The words, each replaced. -/
def filF (m : Nat) (out : List UInt8) (ws : List (List UInt8)) : List (List UInt8) := ws.map (repF m out)
theorem fil_take (m : Nat) (out : List UInt8) (ws : List (List UInt8)) (k : Nat) (hk : k < ws.length) : (filF m out (ws.take (k + 1))).map strV = (filF m out (ws.take k)).map strV ++ [.string ⟨(repF m out (ws.getD k [])).toArray⟩] := by
  unfold filF
  rw [← List.take_append_getElem hk, List.map_append, List.map_append]
  congr 1
  rw [List.getD_eq_getElem?_getD, List.getElem?_eq_getElem hk]
  rfl
set_option maxHeartbeats 8000000 in
theorem filled_any (w : World) (pb m : Nat) (out : ByteArray) (b off n c : Nat) (ws : List (List UInt8)) (h : WdS w b off n c ws) (hn : n ≤ 1000000) (hws : ∀ x ∈ ws, WB x) (hm : MaxW w) (hM : m ≤ 1125899906842624) (ho : out.size ≤ 1000000)
    (h5 : w.cell? ⟨pb, 5, none⟩ = some (.string out)) (h7 : w.cell? ⟨pb, 7, none⟩ = some (.int .i64 (m : Int))) :
    Calls Tryz.prog 43 #[.pointer (some ⟨pb, 0, none⟩), .slice (some ⟨b, off, none⟩) n c] w fun e w' => ∃ u, e = .returned u ∧ w'.ownsRow w.heap.size 9 1 u n ((filF m out.data.toList ws).map strV) ∧ Below w.heap.size w w' := by
  obtain ⟨i0, hi0, hz0, hz1, hz2⟩ := info_p (P := Tryz.prog) (t := 9) (z := .string ByteArray.empty) (s := 1) (b := 16) (by kernel_rfl)
  have HI := Lib.hid hi0
  have HZ0 := Lib.hid hz0
  have HZ1 := Lib.hid hz1
  have HZ2 := Lib.hid hz2
  have HH := Lib.hid h
  have HN := Lib.hid hn
  have HWS := Lib.hid hws
  have HMX := Lib.hid hm
  have HM := Lib.hid hM
  have HO := Lib.hid ho
  have H5 := Lib.hid h5
  have H7 := Lib.hid h7
  have hnc : (n : Int) ≤ (c : Int) := by have := h.2.2.1; omega
  clear hi0 hz0 hz1 hz2 h hn hws hm hM ho h5 h7
  go_enter Tryz.func43, Tryz.ntmps43
  go_wp2_with fail
  go_loopw [5, 10] (fun v5 v10 wr => ∃ k : Nat, k ≤ n ∧ v10 = .int .i64 k ∧ Hid (wr.ownsRow w.heap.size 9 1 v5 k ((filF m out.data.toList (ws.take k)).map strV)) ∧ Hid (Below w.heap.size w wr)) (fun _ v10 _ => n - (intOf v10).toNat)
  case atStart => exact ⟨0, Nat.zero_le _, rfl, Lib.hid (World.ownsRow_nil _ _ _ _), Lib.hid (Below.refl _ _)⟩
  case round =>
    obtain ⟨k, hk, rfl, HR, HB⟩ := hrel
    by_cases hlt : k < n
    · have hki : (k : Int) < (n : Int) := by omega
      have hkb : (k : Int) ≤ 1000000 := by have := HN.out; omega
      have hkc : k < c := by have := HH.out.2.2.1; omega
      obtain ⟨wb, hwb⟩ : ∃ wb : ByteArray, wb = ⟨(ws.getD k []).toArray⟩ := ⟨_, rfl⟩
      have hx : wr.cell? ⟨b, off + k, none⟩ = some (.string wb) := by
        have := (HB.out.cell (p := ⟨b, off + k, none⟩) HH.out.1).trans (HH.out.2.2.2.2 k hlt)
        rw [this, hwb]; rfl
      have HWL : Hid (wb.data.toList = ws.getD k []) := Lib.hid (by rw [hwb])
      have HWZ : Hid (WB wb.data.toList) := Lib.hid (by
        rw [HWL.out]
        have hkl : k < ws.length := by rw [HH.out.2.1]; exact hlt
        rw [List.getD_eq_getElem?_getD, List.getElem?_eq_getElem hkl]
        exact HWS.out _ (List.getElem_mem hkl))
      have HLT := Lib.hid hlt
      have HBS : Hid (w.heap.size ≤ wr.heap.size) := Lib.hid HB.out.size
      clear hwb
      go_upto_region 5 with fail
      refine wp_region_held_drew (S := fun _ => True) (by kernel_rfl) trivial (fun hHeld => ?_)
      obtain ⟨v0, hv0⟩ : ∃ v0, v0 = wr.drew := ⟨_, rfl⟩
      have hbv : Below wr.heap.size wr v0 := by rw [hv0]; exact (Below.refl _ _).drew
      have BV : Hid (Below w.heap.size w v0) := Lib.hid (HB.out.trans (hbv.mono HBS.out))
      have RV : Hid (v0.ownsRow w.heap.size 9 1 u5 k ((filF m out.data.toList (ws.take k)).map strV)) := Lib.hid (own_below HR.out hbv)
      have HMV : Hid (MaxW v0) := Lib.hid (HMX.out.later BV.out)
      have V5 : Hid (v0.cell? ⟨pb, 5, none⟩ = some (.string out)) := Lib.hid ((BV.out.cell (p := ⟨pb, 5, none⟩) (World.block_lt_of_cell? w ⟨pb, 5, none⟩ H5.out)).trans H5.out)
      have V7 : Hid (v0.cell? ⟨pb, 7, none⟩ = some (.int .i64 (m : Int))) := Lib.hid ((BV.out.cell (p := ⟨pb, 7, none⟩) (World.block_lt_of_cell? w ⟨pb, 7, none⟩ H7.out)).trans H7.out)
      rw [← hv0]
      clear hbv hv0
      refine wpAnyH_take (i := 0) (v := u5) rfl (by kernel_rfl) (by kernel_rfl) (by kernel_rfl) (fun _ _ _ h => h)
        (Or.inl ⟨by rfl, by intro w hSw;  clear hSw; go_simp⟩) hHeld ?_
      refine wpAnyH_take (i := 1) (v := .string wb) rfl (by kernel_rfl) (by kernel_rfl) (by kernel_rfl) (fun _ _ _ h => h)
        (Or.inl ⟨by rfl, by intro w hSw;  clear hSw; go_simp⟩) hHeld ?_
      refine wpAnyH_take (i := 2) (v := .pointer (some ⟨pb, 0, none⟩)) rfl (by kernel_rfl) (by kernel_rfl) (by kernel_rfl) (fun _ _ _ h => h)
        (Or.inl ⟨by rfl, by intro w hSw;  clear hSw; go_simp⟩) hHeld ?_
      refine wpAnyH_take (i := 3) (v := .pointer (some ⟨pb, 0, none⟩)) rfl (by kernel_rfl) (by kernel_rfl) (by kernel_rfl) (fun _ _ _ h => h)
        (Or.inl ⟨by rfl, by intro w hSw;  clear hSw; go_simp⟩) hHeld ?_
      refine wpAnyH_take (i := 4) (v := .pointer (some ⟨pb, 5, none⟩)) rfl (by kernel_rfl) (by kernel_rfl) (by kernel_rfl) (fun _ _ _ h => h)
        (Or.inl ⟨by rfl, by intro w hSw;  clear hSw; go_simp⟩) hHeld ?_
      refine wpAnyH_take (i := 6) (v := .pointer (some ⟨pb, 0, none⟩)) rfl (by kernel_rfl) (by kernel_rfl) (by kernel_rfl) (fun _ _ _ h => h)
        (Or.inl ⟨by rfl, by intro w hSw;  clear hSw; go_simp⟩) hHeld ?_
      refine wpAnyH_take (i := 7) (v := .pointer (some ⟨pb, 0, none⟩)) rfl (by kernel_rfl) (by kernel_rfl) (by kernel_rfl) (fun _ _ _ h => h)
        (Or.inl ⟨by rfl, by intro w hSw;  clear hSw; go_simp⟩) hHeld ?_
      refine wpAnyH_take (i := 8) (v := .pointer (some ⟨pb, 7, none⟩)) rfl (by kernel_rfl) (by kernel_rfl) (by kernel_rfl) (fun _ _ _ h => h)
        (Or.inl ⟨by rfl, by intro w hSw;  clear hSw; go_simp⟩) hHeld ?_
      refine wpAnyH_ready (rs := [5, 9]) (by kernel_rfl) (by simp) ?_
      refine AllReadyH.cons rfl (fun K hK => ?_) (AllReadyH.cons rfl (fun K hK => ?_) AllReadyH.nil)
      · have hc := V5.out
        go_simp
        refine hK.out _ _ trivial (fun hHw1 => ?_)
        clear hK K hc hHeld
        refine wpAnyH_ready (rs := [9]) (by kernel_rfl) (by simp) ?_
        refine AllReadyH.cons rfl (fun K hK => ?_) AllReadyH.nil
        have hc := V7.out
        go_simp
        refine hK.out _ _ trivial (fun hHw2 => ?_)
        clear hK K hc hHw1
        refine wpAnyH_ready (rs := [10]) (by kernel_rfl) (by simp) ?_
        refine AllReadyH.cons rfl (fun K hK => ?_) AllReadyH.nil
        go_simp
        refine (replaced_gen wb out m v0 HMV.out HWZ.out HO.out HM.out).mono ?_
        intro e w3 hq
        obtain ⟨rfl, hb3⟩ := hq
        rw [HWL.out]
        obtain ⟨rs, hrs⟩ : ∃ rs : ByteArray, rs = ⟨(repF m out.data.toList (ws.getD k [])).toArray⟩ := ⟨_, rfl⟩
        rw [← hrs]
        have HRS := Lib.hid hrs
        have R3 : Hid (w3.ownsRow w.heap.size 9 1 u5 k ((filF m out.data.toList (ws.take k)).map strV)) := Lib.hid (own_below RV.out hb3)
        have B3 : Hid (Below w.heap.size w w3) := Lib.hid (BV.out.trans (hb3.mono BV.out.size))
        clear hb3 hrs
        go_simp
        refine hK.out _ _ trivial (fun hHw3 => ?_)
        clear hK K hHw2
        refine wpAnyH_ready (rs := [11]) (by kernel_rfl) (by simp) ?_
        refine AllReadyH.cons rfl (fun K hK => ?_) AllReadyH.nil
        go_simp
        obtain ⟨w4, hw4⟩ : ∃ w4, w4 = w3.alloc (.cells #[.string rs] 9) := ⟨_, rfl⟩
        have b4 : Below w3.heap.size w3 w4 := by rw [hw4]; exact (Below.refl _ _).alloc (Nat.le_refl _) _
        have P4 : Hid (Has w4 w3.heap.size [.string rs] 9) := Lib.hid (by rw [hw4]; exact Has.new w3 _ _)
        have R4 : Hid (w4.ownsRow w.heap.size 9 1 u5 k ((filF m out.data.toList (ws.take k)).map strV)) := Lib.hid (own_below R3.out b4)
        have B4 : Hid (Below w.heap.size w w4) := Lib.hid (B3.out.trans (b4.mono B3.out.size))
        rw [← hw4]
        clear hw4 b4
        refine hK.out _ _ trivial (fun hHw4 => ?_)
        clear hK K hHw3
        refine wpAnyH_ready (rs := [12]) (by kernel_rfl) (by simp) ?_
        refine AllReadyH.cons rfl (fun K hK => ?_) AllReadyH.nil
        rw [if_pos (by rfl)]
        refine wp_append_lies _ (.tmp 14) (.tmp 25) 34 rfl w.heap.size 9 i0 (.string ByteArray.empty) 1 16 Tryz.underlying34 HI.out HZ0.out HZ1.out HZ2.out rfl (by omega) u5 k _ rfl R4.out ⟨w3.heap.size, 0, none⟩ 1 1 [.string rs] rfl rfl (fun j u hj => ?_) (fun u hu => ?_) (by omega) (by unfold maxLen; have := HN.out; have := HLT.out; omega) (by have := HN.out; have := HLT.out; omega) B4.out.size w4.heap.size rfl (fun ga capa w5 h5o h5g h5b h5s => ?_)
        · match j, hj with
          | 0, hj => cases hj; rw [Addr.add_lit]; exact P4.out.cellAt (i := 0) rfl
          | j + 1, hj => simp at hj
        · simp at hu; subst hu; rfl
        have R5 : Hid (w5.ownsRow w.heap.size 9 1 (.slice (some ⟨ga, 0, none⟩) (k + 1) capa) (k + 1) ((filF m out.data.toList (ws.take (k + 1))).map strV)) := Lib.hid (by
          rw [fil_take m out.data.toList ws k (by rw [HH.out.2.1]; exact HLT.out), ← HRS.out]; exact h5o)
        have B5 : Hid (Below w.heap.size w w5) := Lib.hid (B4.out.grown h5g B4.out.size (fun q hq => (R4.out.lt q hq).1))
        clear h5o h5g h5b h5s
        refine hK.out _ _ trivial (fun hHw5 => ?_)
        clear hK K hHw4
        refine wpAnyH_ready (rs := [13]) (by kernel_rfl) (by simp) ?_
        refine AllReadyH.cons rfl (fun K hK => ?_) AllReadyH.nil
        go_simp
        refine hK.out _ _ trivial (fun hHw6 => ?_)
        clear hK K hHw5
        refine wpAnyH_done (by kernel_rfl) ?_ _
        clear hHw6
        go_wp2_with fail
        go_roundw
        case rel => exact ⟨k + 1, HLT.out, by go_num, R5, B5⟩
        case measure => have := HLT.out; simp [intOf]; omega
      · have hc := V7.out
        go_simp
        refine hK.out _ _ trivial (fun hHw1 => ?_)
        clear hK K hc hHeld
        refine wpAnyH_ready (rs := [5]) (by kernel_rfl) (by simp) ?_
        refine AllReadyH.cons rfl (fun K hK => ?_) AllReadyH.nil
        have hc := V5.out
        go_simp
        refine hK.out _ _ trivial (fun hHw2 => ?_)
        clear hK K hc hHw1
        refine wpAnyH_ready (rs := [10]) (by kernel_rfl) (by simp) ?_
        refine AllReadyH.cons rfl (fun K hK => ?_) AllReadyH.nil
        go_simp
        refine (replaced_gen wb out m v0 HMV.out HWZ.out HO.out HM.out).mono ?_
        intro e w3 hq
        obtain ⟨rfl, hb3⟩ := hq
        rw [HWL.out]
        obtain ⟨rs, hrs⟩ : ∃ rs : ByteArray, rs = ⟨(repF m out.data.toList (ws.getD k [])).toArray⟩ := ⟨_, rfl⟩
        rw [← hrs]
        have HRS := Lib.hid hrs
        have R3 : Hid (w3.ownsRow w.heap.size 9 1 u5 k ((filF m out.data.toList (ws.take k)).map strV)) := Lib.hid (own_below RV.out hb3)
        have B3 : Hid (Below w.heap.size w w3) := Lib.hid (BV.out.trans (hb3.mono BV.out.size))
        clear hb3 hrs
        go_simp
        refine hK.out _ _ trivial (fun hHw3 => ?_)
        clear hK K hHw2
        refine wpAnyH_ready (rs := [11]) (by kernel_rfl) (by simp) ?_
        refine AllReadyH.cons rfl (fun K hK => ?_) AllReadyH.nil
        go_simp
        obtain ⟨w4, hw4⟩ : ∃ w4, w4 = w3.alloc (.cells #[.string rs] 9) := ⟨_, rfl⟩
        have b4 : Below w3.heap.size w3 w4 := by rw [hw4]; exact (Below.refl _ _).alloc (Nat.le_refl _) _
        have P4 : Hid (Has w4 w3.heap.size [.string rs] 9) := Lib.hid (by rw [hw4]; exact Has.new w3 _ _)
        have R4 : Hid (w4.ownsRow w.heap.size 9 1 u5 k ((filF m out.data.toList (ws.take k)).map strV)) := Lib.hid (own_below R3.out b4)
        have B4 : Hid (Below w.heap.size w w4) := Lib.hid (B3.out.trans (b4.mono B3.out.size))
        rw [← hw4]
        clear hw4 b4
        refine hK.out _ _ trivial (fun hHw4 => ?_)
        clear hK K hHw3
        refine wpAnyH_ready (rs := [12]) (by kernel_rfl) (by simp) ?_
        refine AllReadyH.cons rfl (fun K hK => ?_) AllReadyH.nil
        rw [if_pos (by rfl)]
        refine wp_append_lies _ (.tmp 14) (.tmp 25) 34 rfl w.heap.size 9 i0 (.string ByteArray.empty) 1 16 Tryz.underlying34 HI.out HZ0.out HZ1.out HZ2.out rfl (by omega) u5 k _ rfl R4.out ⟨w3.heap.size, 0, none⟩ 1 1 [.string rs] rfl rfl (fun j u hj => ?_) (fun u hu => ?_) (by omega) (by unfold maxLen; have := HN.out; have := HLT.out; omega) (by have := HN.out; have := HLT.out; omega) B4.out.size w4.heap.size rfl (fun ga capa w5 h5o h5g h5b h5s => ?_)
        · match j, hj with
          | 0, hj => cases hj; rw [Addr.add_lit]; exact P4.out.cellAt (i := 0) rfl
          | j + 1, hj => simp at hj
        · simp at hu; subst hu; rfl
        have R5 : Hid (w5.ownsRow w.heap.size 9 1 (.slice (some ⟨ga, 0, none⟩) (k + 1) capa) (k + 1) ((filF m out.data.toList (ws.take (k + 1))).map strV)) := Lib.hid (by
          rw [fil_take m out.data.toList ws k (by rw [HH.out.2.1]; exact HLT.out), ← HRS.out]; exact h5o)
        have B5 : Hid (Below w.heap.size w w5) := Lib.hid (B4.out.grown h5g B4.out.size (fun q hq => (R4.out.lt q hq).1))
        clear h5o h5g h5b h5s
        refine hK.out _ _ trivial (fun hHw5 => ?_)
        clear hK K hHw4
        refine wpAnyH_ready (rs := [13]) (by kernel_rfl) (by simp) ?_
        refine AllReadyH.cons rfl (fun K hK => ?_) AllReadyH.nil
        go_simp
        refine hK.out _ _ trivial (fun hHw6 => ?_)
        clear hK K hHw5
        refine wpAnyH_done (by kernel_rfl) ?_ _
        clear hHw6
        go_wp2_with fail
        go_roundw
        case rel => exact ⟨k + 1, HLT.out, by go_num, R5, B5⟩
        case measure => have := HLT.out; simp [intOf]; omega
    · obtain rfl : k = n := by omega
      have hki : ¬ (k : Int) < (k : Int) := by omega
      have HE : Hid ((filF m out.data.toList (ws.take k)).map strV = (filF m out.data.toList ws).map strV) := Lib.hid (by rw [List.take_of_length_le (by rw [HH.out.2.1]; exact Nat.le_refl _)])
      go_wp2_with fail
      refine bodyPost_ret (results_tmp rfl _ _ _) rfl ?_
      exact ⟨_, rfl, by rw [← HE.out]; exact HR.out, HB.out⟩
end Go.Proofs.YtlccdenafnekjaaGreatDoor
namespace Go.Proofs.YtlccdenafnekjaaGreatDoor
open Go.RowKit
set_option linter.unusedVariables false
set_option maxRecDepth 100000

theorem wp_app_str {P : Program} {w : World} {o : Oper} {a : Act} {K : Act → World → Prop} {Q : Exit → Act → World → Prop} (sl x : Operand) (t u : TypeId)
    (ho : o.op = .call { callee := .builtin .append, args := #[sl, x], argTypes := #[t, u] })
    (base : Nat) (e : TypeId) (i : TypeInfo) (ht : P.underlying t = some (.slice e)) (hu : P.underlying u = some .string) (hi : P.info? e = some i) (hz : i.zero = some (.int .u8 0))
    (hsize : i.size = 1) (hby : i.bytes = 1)
    (v : Value) (n : Nat) (xs : List Value) (hs : a.eval sl = v) (hown : w.ownsRow base e 1 v n xs) (s : ByteArray) (hx : a.eval x = .string s)
    (h63 : n + s.size ≤ maxLen) (hbytes : n + s.size ≤ 140737488355328) (hbase : base ≤ w.heap.size)
    (h : ∀ v' w', w'.ownsRow base e 1 v' (n + s.size) (xs ++ Lib.strCells s) → w.grownBy w' v.ownBlock → K (a.put o.dst v') w') : o.wp P a w K Q := by
  obtain ⟨v', w', hr, h2, h3, h4⟩ := Lib.run_append_own_string (P := P) w base t u o.type e i ht hu hi hz hsize hby v n xs hown s h63 hbytes hbase
  unfold Oper.wp execOp
  simp only [ho, resolve, invoke, builtin, Sem.run_bind, Sem.run_pure, Result.andThen_ok, List.map_toArray, List.map_cons, List.map_nil, hs, hx, hr]
  exact h v' w' h2 h3
theorem own_block {w : World} {B n size : Nat} {t : TypeId} {v : Value} {xs : List Value} (h : w.ownsRow B t size v n xs) {g : Nat} (hg : v.ownBlock = some g) : ∃ cur, w.heap[g]? = some (.cells cur t (0, 0)) := by
  rcases h.2 with ⟨rfl, _⟩ | ⟨g', cap, cur, rfl, _, h1, _⟩
  · cases hg
  · simp only [Value.ownBlock, Option.some.injEq] at hg
    subst hg
    exact ⟨cur, h1⟩
theorem own_apart {w : World} {B n size n' size' : Nat} {t t' : TypeId} {v v' : Value} {xs xs' : List Value} (h : w.ownsRow B t size v n xs) (h' : w.ownsRow B t' size' v' n' xs') (ht : t ≠ t') : v.ownBlock = none ∨ v.ownBlock ≠ v'.ownBlock := by
  cases hv : v.ownBlock with
  | none => exact .inl rfl
  | some g =>
    refine .inr fun e => ?_
    obtain ⟨c1, h1⟩ := own_block h hv
    obtain ⟨c2, h2⟩ := own_block h' e.symm
    rw [h1] at h2
    injection h2 with h3
    injection h3 with _ h4
    exact ht h4
theorem own_app {w : World} {B : Nat} {v : Value} {d : List UInt8} {s : ByteArray} (h : w.ownsRow B 5 1 v (d.length + s.size) (d.map bv ++ Lib.strCells s)) : w.ownsRow B 5 1 v (d ++ s.data.toList).length ((d ++ s.data.toList).map bv) := by
  have e1 : (d ++ s.data.toList).length = d.length + s.size := by rw [List.length_append]; simp
  have e2 : (d ++ s.data.toList).map bv = d.map bv ++ Lib.strCells s := by rw [List.map_append]; rfl
  rw [e1, e2]; exact h
theorem own_fr {w w' : World} {B n size fb : Nat} {t t' : TypeId} {v : Value} {xs L : List Value} (h : w.ownsRow B t size v n xs) (hf : Fr [fb] w w') (hg : Has w fb L t') (ht : t ≠ t') : w'.ownsRow B t size v n xs :=
  h.kept (row := some fb) ⟨hf.os, hf.tape, hf.output, hf.size, fun k hk hne => hf.block k hk (fun hm => hne (by rw [List.mem_singleton.1 hm]))⟩ (by
    cases hv : v.ownBlock with
    | none => exact .inl rfl
    | some g =>
      refine .inr fun e => ?_
      obtain ⟨c1, h1⟩ := own_block h hv
      obtain rfl : g = fb := by injection e
      have h2 : w.heap[g]? = some (.cells L.toArray t' (0, 0)) := hg
      rw [h1] at h2
      injection h2 with h3
      injection h3 with _ h4
      exact ht h4)
set_option maxHeartbeats 8000000 in
theorem append_do (w : World) (B fb cb wb woff wn wc : Nat) (cy : List Value) (x : Bool) (d : List UInt8) (S : List Nat) (s : ByteArray) (hmt : MT w B cy (.mk 1 x d [] []) S) (hg : Has w fb cy 37) (hB : B ≤ fb) (hnS : fb ∉ S)
    (hcb : w.cell? ⟨cb, 0, none⟩ = some (.slice (some ⟨wb, woff, none⟩) wn wc)) (hwn : 1 < wn) (hs : w.cell? ⟨wb, woff + 1, none⟩ = some (.string s)) (hds : d.length + s.size ≤ 1000000000) :
    Calls Tryz.prog 48 #[.pointer (some ⟨fb, 0, none⟩), .pointer (some ⟨cb, 0, none⟩)] w (DoP B fb 0 (.mk 1 x (d ++ s.data.toList) [] []) w) := by
  obtain ⟨i0, hi0, hz0, hz1, hz2⟩ := info_p (P := Tryz.prog) (t := 5) (z := .int .u8 0) (s := 1) (b := 1) (by kernel_rfl)
  obtain ⟨vd, vn, vk, L, Ss, hcs, hS, hd, hn, hk, hks, hnd⟩ := mt_inv hmt
  have hlt := hg.lt
  have HNK : Hid (vk.ownBlock ≠ some fb) := Lib.hid (fun e => hnS (by rw [hS]; exact mem_S.2 (.inr (.inl (mem_blk.2 e)))))
  have HND := Lib.hid hnd
  have HI := Lib.hid hi0
  have HZ0 := Lib.hid hz0
  have HZ1 := Lib.hid hz1
  have HZ2 := Lib.hid hz2
  have HG := Lib.hid hg
  have HB := Lib.hid hB
  have HD := Lib.hid hd
  have HN := Lib.hid hn
  have HK := Lib.hid hk
  have HCS := Lib.hid hcs
  have HCB := Lib.hid hcb
  have HS := Lib.hid hs
  have HDS := Lib.hid hds
  have HWN := Lib.hid hwn
  have HLT := Lib.hid hlt
  have hwn2 : (1 : Int) < (wn : Int) := by omega
  clear hmt hg hB hnS hcb hs hds hi0 hz0 hz1 hz2 hcs hS hd hn hk hks hnd hlt
  go_enter Tryz.func48, Tryz.ntmps48
  go_upto_region 1 with fail
  refine wp_region_held_drew (S := fun _ => True) (by kernel_rfl) trivial (fun hHeld => ?_)
  obtain ⟨v0, hv0⟩ : ∃ v0, v0 = w.drew := ⟨_, rfl⟩
  have hbv : Below w.heap.size w v0 := by rw [hv0]; exact (Below.refl _ _).drew
  have hBw : B ≤ w.heap.size := by have := HB.out; have := HLT.out; omega
  have BV : Hid (Below B w v0) := Lib.hid (hbv.mono hBw)
  have HBV : Hid (B ≤ v0.heap.size) := Lib.hid (Nat.le_trans hBw hbv.size)
  have VG : Hid (Has v0 fb cy 37) := Lib.hid (HG.out.below hbv HLT.out)
  have V2 : Hid (v0.cell? ⟨fb, 2, none⟩ = some vd) := Lib.hid (VG.out.cellAt (i := 2) (by rw [HCS.out]; rfl))
  have VD := Lib.hid (own_below HD.out hbv)
  have VN := Lib.hid (own_below HN.out hbv)
  have VK := Lib.hid (own_below HK.out hbv)
  have VCB : Hid (v0.cell? ⟨cb, 0, none⟩ = some (.slice (some ⟨wb, woff, none⟩) wn wc)) := Lib.hid ((hbv.cell (p := ⟨cb, 0, none⟩) (World.block_lt_of_cell? w ⟨cb, 0, none⟩ HCB.out)).trans HCB.out)
  have VS : Hid (v0.cell? ⟨wb, woff + 1, none⟩ = some (.string s)) := Lib.hid ((hbv.cell (p := ⟨wb, woff + 1, none⟩) (World.block_lt_of_cell? w ⟨wb, woff + 1, none⟩ HS.out)).trans HS.out)
  rw [← hv0]
  clear hbv hv0 hBw
  refine wpAnyH_take (i := 0) (v := .pointer (some ⟨fb, 0, none⟩)) rfl (by kernel_rfl) (by kernel_rfl) (by kernel_rfl) (fun _ _ _ h => h)
    (Or.inl ⟨by rfl, by intro w hSw;  clear hSw; go_simp⟩) hHeld ?_
  refine wpAnyH_take (i := 1) (v := .pointer (some ⟨fb, 0, none⟩)) rfl (by kernel_rfl) (by kernel_rfl) (by kernel_rfl) (fun _ _ _ h => h)
    (Or.inl ⟨by rfl, by intro w hSw;  clear hSw; go_simp⟩) hHeld ?_
  refine wpAnyH_take (i := 2) (v := .pointer (some ⟨fb, 0, none⟩)) rfl (by kernel_rfl) (by kernel_rfl) (by kernel_rfl) (fun _ _ _ h => h)
    (Or.inl ⟨by rfl, by intro w hSw;  clear hSw; go_simp⟩) hHeld ?_
  refine wpAnyH_take (i := 3) (v := .pointer (some ⟨fb, 2, none⟩)) rfl (by kernel_rfl) (by kernel_rfl) (by kernel_rfl) (fun _ _ _ h => h)
    (Or.inl ⟨by rfl, by intro w hSw;  clear hSw; go_simp⟩) hHeld ?_
  refine wpAnyH_ready (rs := [4, 5]) (by kernel_rfl) (by simp) ?_
  refine AllReadyH.cons rfl (fun K hK => ?_) (AllReadyH.cons rfl (fun K hK => ?_) AllReadyH.nil)
  · have hc := V2.out
    go_simp
    refine hK.out _ _ trivial (fun hHw1 => ?_)
    clear hK K hc hHeld
    refine wpAnyH_ready (rs := [5]) (by kernel_rfl) (by simp) ?_
    refine AllReadyH.cons rfl (fun K hK => ?_) AllReadyH.nil
    have hc := VCB.out
    go_simp
    refine hK.out _ _ trivial (fun hHw2 => ?_)
    clear hK K hc hHw1
    refine wpAnyH_take (i := 6) (v := .pointer (some ⟨wb, woff + 1, none⟩)) rfl (by kernel_rfl) (by kernel_rfl) (by kernel_rfl) (fun _ _ _ h => h)
      (Or.inl ⟨by rfl, by intro w hSw;  clear hSw; go_simp⟩) hHw2 ?_
    refine wpAnyH_ready (rs := [7]) (by kernel_rfl) (by simp) ?_
    refine AllReadyH.cons rfl (fun K hK => ?_) AllReadyH.nil
    have hc := VS.out
    go_simp
    refine hK.out _ _ trivial (fun hHw3 => ?_)
    clear hK K hc hHw2
    refine wpAnyH_ready (rs := [8]) (by kernel_rfl) (by simp) ?_
    refine AllReadyH.cons rfl (fun K hK => ?_) AllReadyH.nil
    rw [if_pos (by rfl)]
    refine wp_app_str (.tmp 8) (.tmp 11) 33 9 rfl B 5 i0 Tryz.underlying33 Tryz.underlying9 HI.out HZ0.out HZ1.out HZ2.out vd d.length (d.map bv) rfl VD.out s rfl (by unfold maxLen; have := HDS.out; omega) (by have := HDS.out; omega) HBV.out (fun vq w3 h3o h3g => ?_)
    obtain ⟨qa, qn, qm, rfl⟩ := slice_owned h3o
    have D3 := Lib.hid h3o
    have N3 : Hid (w3.ownsRow B 9 1 vn ([] : List ByteArray).length (([] : List ByteArray).map Value.string)) := Lib.hid (VN.out.kept h3g (own_apart VN.out VD.out (by decide)))
    have K3 : Hid (w3.ownsRow B 37 5 vk ([] : List T).length L) := Lib.hid (VK.out.kept h3g (own_apart VK.out VD.out (by decide)))
    have G3 : Hid (Has w3 fb cy 37) := Lib.hid ((h3g.block fb VG.out.lt (fun e => by
      obtain ⟨c1, h1⟩ := own_block VD.out e.symm
      have h2 : v0.heap[fb]? = some (.cells cy.toArray 37 (0, 0)) := VG.out
      rw [h1] at h2
      injection h2 with h3
      injection h3 with _ h4
      exact absurd h4 (by decide))).trans VG.out)
    have B3 : Hid (Below B w w3) := Lib.hid (BV.out.grown h3g HBV.out (fun q hq => (VD.out.lt q hq).1))
    clear h3o h3g
    refine hK.out _ _ trivial (fun hHw4 => ?_)
    clear hK K hHw3
    refine wpAnyH_take (i := 9) (v := .pointer (some ⟨fb, 0, none⟩)) rfl (by kernel_rfl) (by kernel_rfl) (by kernel_rfl) (fun _ _ _ h => h)
      (Or.inl ⟨by rfl, by intro w hSw;  clear hSw; go_simp⟩) hHw4 ?_
    refine wpAnyH_take (i := 10) (v := .pointer (some ⟨fb, 2, none⟩)) rfl (by kernel_rfl) (by kernel_rfl) (by kernel_rfl) (fun _ _ _ h => h)
      (Or.inl ⟨by rfl, by intro w hSw;  clear hSw; go_simp⟩) hHw4 ?_
    refine wpAnyH_ready (rs := [11]) (by kernel_rfl) (by simp) ?_
    refine AllReadyH.cons rfl (fun K hK => ?_) AllReadyH.nil
    have hc := G3.out.cellAt (i := 2) (by rw [HCS.out]; rfl)
    have hf := G3.out.frozen 2
    go_simp
    obtain ⟨w4, hw4⟩ : ∃ w4, w4 = w3.setCell ⟨fb, 2, none⟩ (.slice qa qn qm) := ⟨_, rfl⟩
    have F4 : Fr [fb] w3 w4 := by rw [hw4]; exact (Fr.refl [fb] w3).setCell (.inl List.mem_cons_self) 2 _
    have G4 : Hid (Has w4 fb (cy.set 2 (.slice qa qn qm)) 37) := Lib.hid (by rw [hw4]; exact G3.out.set 2 (.slice qa qn qm))
    have D4 := Lib.hid (own_fr D3.out F4 G3.out (by decide))
    have N4 := Lib.hid (own_fr N3.out F4 G3.out (by decide))
    have K4 : Hid (w4.ownsRow B 37 5 vk ([] : List T).length L) := Lib.hid (K3.out.kept (row := some fb) ⟨F4.os, F4.tape, F4.output, F4.size, fun k hk hne => F4.block k hk (fun hm => hne (by rw [List.mem_singleton.1 hm]))⟩ (.inr HNK.out))
    have B4 : Hid (Below B w w4) := Lib.hid (by rw [hw4]; exact B3.out.setCell (p := ⟨fb, 2, none⟩) HB.out _)
    rw [← hw4]
    clear hw4 hc hf F4
    refine hK.out _ _ trivial (fun hHw5 => ?_)
    clear hK K hHw4
    try simp only [Act.put]
    refine wpAnyH_done (by kernel_rfl) ?_ _
    clear hHw5
    go_wp2_with fail
    refine bodyPost_ret (results_tmp rfl _ _ _) rfl ?_
    have hx : MT w4 B [.int .u8 (((1 : UInt8).toNat : Nat) : Int), .bool x, .slice qa qn qm, vn, vk] (.mk 1 x (d ++ s.data.toList) [] []) _ := MT.mk (L := L) (Ss := fun _ => []) (own_app D4.out) N4.out K4.out (fun i hi => by simp at hi) (by have := HND.out; simpa using this)
    refine ⟨rfl, B4.out, fun _ => ⟨_, _, ?_, hx.isT _ (Nat.le_refl _) (Small.mk (fun i hi => by simp at hi) (fun i hi => by simp at hi) ⟨by have := HDS.out; have hz : s.data.toList.length = s.size := (by simp); rw [List.length_append, hz]; omega, by simp, by simp⟩)⟩⟩
    have h := G4.out
    rw [HCS.out] at h
    exact h
  · have hc := VCB.out
    go_simp
    refine hK.out _ _ trivial (fun hHw1 => ?_)
    clear hK K hc hHeld
    refine wpAnyH_take (i := 6) (v := .pointer (some ⟨wb, woff + 1, none⟩)) rfl (by kernel_rfl) (by kernel_rfl) (by kernel_rfl) (fun _ _ _ h => h)
      (Or.inl ⟨by rfl, by intro w hSw;  clear hSw; go_simp⟩) hHw1 ?_
    refine wpAnyH_ready (rs := [4, 7]) (by kernel_rfl) (by simp) ?_
    refine AllReadyH.cons rfl (fun K hK => ?_) (AllReadyH.cons rfl (fun K hK => ?_) AllReadyH.nil)
    · have hc := V2.out
      go_simp
      refine hK.out _ _ trivial (fun hHw2 => ?_)
      clear hK K hc hHw1
      refine wpAnyH_ready (rs := [7]) (by kernel_rfl) (by simp) ?_
      refine AllReadyH.cons rfl (fun K hK => ?_) AllReadyH.nil
      have hc := VS.out
      go_simp
      refine hK.out _ _ trivial (fun hHw3 => ?_)
      clear hK K hc hHw2
      refine wpAnyH_ready (rs := [8]) (by kernel_rfl) (by simp) ?_
      refine AllReadyH.cons rfl (fun K hK => ?_) AllReadyH.nil
      rw [if_pos (by rfl)]
      refine wp_app_str (.tmp 8) (.tmp 11) 33 9 rfl B 5 i0 Tryz.underlying33 Tryz.underlying9 HI.out HZ0.out HZ1.out HZ2.out vd d.length (d.map bv) rfl VD.out s rfl (by unfold maxLen; have := HDS.out; omega) (by have := HDS.out; omega) HBV.out (fun vq w3 h3o h3g => ?_)
      obtain ⟨qa, qn, qm, rfl⟩ := slice_owned h3o
      have D3 := Lib.hid h3o
      have N3 : Hid (w3.ownsRow B 9 1 vn ([] : List ByteArray).length (([] : List ByteArray).map Value.string)) := Lib.hid (VN.out.kept h3g (own_apart VN.out VD.out (by decide)))
      have K3 : Hid (w3.ownsRow B 37 5 vk ([] : List T).length L) := Lib.hid (VK.out.kept h3g (own_apart VK.out VD.out (by decide)))
      have G3 : Hid (Has w3 fb cy 37) := Lib.hid ((h3g.block fb VG.out.lt (fun e => by
        obtain ⟨c1, h1⟩ := own_block VD.out e.symm
        have h2 : v0.heap[fb]? = some (.cells cy.toArray 37 (0, 0)) := VG.out
        rw [h1] at h2
        injection h2 with h3
        injection h3 with _ h4
        exact absurd h4 (by decide))).trans VG.out)
      have B3 : Hid (Below B w w3) := Lib.hid (BV.out.grown h3g HBV.out (fun q hq => (VD.out.lt q hq).1))
      clear h3o h3g
      refine hK.out _ _ trivial (fun hHw4 => ?_)
      clear hK K hHw3
      refine wpAnyH_take (i := 9) (v := .pointer (some ⟨fb, 0, none⟩)) rfl (by kernel_rfl) (by kernel_rfl) (by kernel_rfl) (fun _ _ _ h => h)
        (Or.inl ⟨by rfl, by intro w hSw;  clear hSw; go_simp⟩) hHw4 ?_
      refine wpAnyH_take (i := 10) (v := .pointer (some ⟨fb, 2, none⟩)) rfl (by kernel_rfl) (by kernel_rfl) (by kernel_rfl) (fun _ _ _ h => h)
        (Or.inl ⟨by rfl, by intro w hSw;  clear hSw; go_simp⟩) hHw4 ?_
      refine wpAnyH_ready (rs := [11]) (by kernel_rfl) (by simp) ?_
      refine AllReadyH.cons rfl (fun K hK => ?_) AllReadyH.nil
      have hc := G3.out.cellAt (i := 2) (by rw [HCS.out]; rfl)
      have hf := G3.out.frozen 2
      go_simp
      obtain ⟨w4, hw4⟩ : ∃ w4, w4 = w3.setCell ⟨fb, 2, none⟩ (.slice qa qn qm) := ⟨_, rfl⟩
      have F4 : Fr [fb] w3 w4 := by rw [hw4]; exact (Fr.refl [fb] w3).setCell (.inl List.mem_cons_self) 2 _
      have G4 : Hid (Has w4 fb (cy.set 2 (.slice qa qn qm)) 37) := Lib.hid (by rw [hw4]; exact G3.out.set 2 (.slice qa qn qm))
      have D4 := Lib.hid (own_fr D3.out F4 G3.out (by decide))
      have N4 := Lib.hid (own_fr N3.out F4 G3.out (by decide))
      have K4 : Hid (w4.ownsRow B 37 5 vk ([] : List T).length L) := Lib.hid (K3.out.kept (row := some fb) ⟨F4.os, F4.tape, F4.output, F4.size, fun k hk hne => F4.block k hk (fun hm => hne (by rw [List.mem_singleton.1 hm]))⟩ (.inr HNK.out))
      have B4 : Hid (Below B w w4) := Lib.hid (by rw [hw4]; exact B3.out.setCell (p := ⟨fb, 2, none⟩) HB.out _)
      rw [← hw4]
      clear hw4 hc hf F4
      refine hK.out _ _ trivial (fun hHw5 => ?_)
      clear hK K hHw4
      try simp only [Act.put]
      refine wpAnyH_done (by kernel_rfl) ?_ _
      clear hHw5
      go_wp2_with fail
      refine bodyPost_ret (results_tmp rfl _ _ _) rfl ?_
      have hx : MT w4 B [.int .u8 (((1 : UInt8).toNat : Nat) : Int), .bool x, .slice qa qn qm, vn, vk] (.mk 1 x (d ++ s.data.toList) [] []) _ := MT.mk (L := L) (Ss := fun _ => []) (own_app D4.out) N4.out K4.out (fun i hi => by simp at hi) (by have := HND.out; simpa using this)
      refine ⟨rfl, B4.out, fun _ => ⟨_, _, ?_, hx.isT _ (Nat.le_refl _) (Small.mk (fun i hi => by simp at hi) (fun i hi => by simp at hi) ⟨by have := HDS.out; have hz : s.data.toList.length = s.size := (by simp); rw [List.length_append, hz]; omega, by simp, by simp⟩)⟩⟩
      have h := G4.out
      rw [HCS.out] at h
      exact h
    · have hc := VS.out
      go_simp
      refine hK.out _ _ trivial (fun hHw2 => ?_)
      clear hK K hc hHw1
      refine wpAnyH_ready (rs := [4]) (by kernel_rfl) (by simp) ?_
      refine AllReadyH.cons rfl (fun K hK => ?_) AllReadyH.nil
      have hc := V2.out
      go_simp
      refine hK.out _ _ trivial (fun hHw3 => ?_)
      clear hK K hc hHw2
      refine wpAnyH_ready (rs := [8]) (by kernel_rfl) (by simp) ?_
      refine AllReadyH.cons rfl (fun K hK => ?_) AllReadyH.nil
      rw [if_pos (by rfl)]
      refine wp_app_str (.tmp 8) (.tmp 11) 33 9 rfl B 5 i0 Tryz.underlying33 Tryz.underlying9 HI.out HZ0.out HZ1.out HZ2.out vd d.length (d.map bv) rfl VD.out s rfl (by unfold maxLen; have := HDS.out; omega) (by have := HDS.out; omega) HBV.out (fun vq w3 h3o h3g => ?_)
      obtain ⟨qa, qn, qm, rfl⟩ := slice_owned h3o
      have D3 := Lib.hid h3o
      have N3 : Hid (w3.ownsRow B 9 1 vn ([] : List ByteArray).length (([] : List ByteArray).map Value.string)) := Lib.hid (VN.out.kept h3g (own_apart VN.out VD.out (by decide)))
      have K3 : Hid (w3.ownsRow B 37 5 vk ([] : List T).length L) := Lib.hid (VK.out.kept h3g (own_apart VK.out VD.out (by decide)))
      have G3 : Hid (Has w3 fb cy 37) := Lib.hid ((h3g.block fb VG.out.lt (fun e => by
        obtain ⟨c1, h1⟩ := own_block VD.out e.symm
        have h2 : v0.heap[fb]? = some (.cells cy.toArray 37 (0, 0)) := VG.out
        rw [h1] at h2
        injection h2 with h3
        injection h3 with _ h4
        exact absurd h4 (by decide))).trans VG.out)
      have B3 : Hid (Below B w w3) := Lib.hid (BV.out.grown h3g HBV.out (fun q hq => (VD.out.lt q hq).1))
      clear h3o h3g
      refine hK.out _ _ trivial (fun hHw4 => ?_)
      clear hK K hHw3
      refine wpAnyH_take (i := 9) (v := .pointer (some ⟨fb, 0, none⟩)) rfl (by kernel_rfl) (by kernel_rfl) (by kernel_rfl) (fun _ _ _ h => h)
        (Or.inl ⟨by rfl, by intro w hSw;  clear hSw; go_simp⟩) hHw4 ?_
      refine wpAnyH_take (i := 10) (v := .pointer (some ⟨fb, 2, none⟩)) rfl (by kernel_rfl) (by kernel_rfl) (by kernel_rfl) (fun _ _ _ h => h)
        (Or.inl ⟨by rfl, by intro w hSw;  clear hSw; go_simp⟩) hHw4 ?_
      refine wpAnyH_ready (rs := [11]) (by kernel_rfl) (by simp) ?_
      refine AllReadyH.cons rfl (fun K hK => ?_) AllReadyH.nil
      have hc := G3.out.cellAt (i := 2) (by rw [HCS.out]; rfl)
      have hf := G3.out.frozen 2
      go_simp
      obtain ⟨w4, hw4⟩ : ∃ w4, w4 = w3.setCell ⟨fb, 2, none⟩ (.slice qa qn qm) := ⟨_, rfl⟩
      have F4 : Fr [fb] w3 w4 := by rw [hw4]; exact (Fr.refl [fb] w3).setCell (.inl List.mem_cons_self) 2 _
      have G4 : Hid (Has w4 fb (cy.set 2 (.slice qa qn qm)) 37) := Lib.hid (by rw [hw4]; exact G3.out.set 2 (.slice qa qn qm))
      have D4 := Lib.hid (own_fr D3.out F4 G3.out (by decide))
      have N4 := Lib.hid (own_fr N3.out F4 G3.out (by decide))
      have K4 : Hid (w4.ownsRow B 37 5 vk ([] : List T).length L) := Lib.hid (K3.out.kept (row := some fb) ⟨F4.os, F4.tape, F4.output, F4.size, fun k hk hne => F4.block k hk (fun hm => hne (by rw [List.mem_singleton.1 hm]))⟩ (.inr HNK.out))
      have B4 : Hid (Below B w w4) := Lib.hid (by rw [hw4]; exact B3.out.setCell (p := ⟨fb, 2, none⟩) HB.out _)
      rw [← hw4]
      clear hw4 hc hf F4
      refine hK.out _ _ trivial (fun hHw5 => ?_)
      clear hK K hHw4
      try simp only [Act.put]
      refine wpAnyH_done (by kernel_rfl) ?_ _
      clear hHw5
      go_wp2_with fail
      refine bodyPost_ret (results_tmp rfl _ _ _) rfl ?_
      have hx : MT w4 B [.int .u8 (((1 : UInt8).toNat : Nat) : Int), .bool x, .slice qa qn qm, vn, vk] (.mk 1 x (d ++ s.data.toList) [] []) _ := MT.mk (L := L) (Ss := fun _ => []) (own_app D4.out) N4.out K4.out (fun i hi => by simp at hi) (by have := HND.out; simpa using this)
      refine ⟨rfl, B4.out, fun _ => ⟨_, _, ?_, hx.isT _ (Nat.le_refl _) (Small.mk (fun i hi => by simp at hi) (fun i hi => by simp at hi) ⟨by have := HDS.out; have hz : s.data.toList.length = s.size := (by simp); rw [List.length_append, hz]; omega, by simp, by simp⟩)⟩⟩
      have h := G4.out
      rw [HCS.out] at h
      exact h
end Go.Proofs.YtlccdenafnekjaaGreatDoor
namespace Go.Proofs.YtlccdenafnekjaaGreatDoor
open Go.RowKit
set_option linter.unusedVariables false
set_option maxRecDepth 100000

theorem step_bad (w : World) (pb mx q n c : Nat) (a : Option Addr) (cs : List Value) (t : T) (out : ByteArray) (iv : Value) (h : Has w pb (blC cs out iv mx) 71) (h5 : cs.length = 5) (hq : q < 256) (hL : LaidR w) (hok : okF q n = false) :
    Calls Tryz.prog 32 #[.pointer (some ⟨pb, 0, none⟩), .agg #[.int .u8 (q : Int), .slice a n c]] w (ChP pb out iv mx (3, t) w) := by
  obtain ⟨G, hG⟩ : ∃ G, G = w.heap.size := ⟨_, rfl⟩
  obtain ⟨w1, hw1⟩ : ∃ w1, w1 = w.alloc (.cells #[.int .u8 (q : Int), .slice a n c] 49) := ⟨_, rfl⟩
  have b1 : Below w.heap.size w w1 := by rw [hw1]; exact (Below.refl _ _).alloc (Nat.le_refl _) _
  have g1 : Has w1 G [.int .u8 (q : Int), .slice a n c] 49 := by rw [hw1, hG]; exact Has.new w [.int .u8 (q : Int), .slice a n c] _
  have HF := Lib.hid (stepok_any w1 q n a c hq (hL.later b1))
  rw [hok] at HF
  have HP := Lib.hid h
  have H5 := Lib.hid h5
  have HW1 := Lib.hid hw1
  have HG := Lib.hid hG
  have B1 := Lib.hid b1
  have G1 := Lib.hid g1
  clear h h5 hq hL hok hG hw1 b1 g1
  go_enter Tryz.func32, Tryz.ntmps32
  go_upto_region 1 with fail
  rw [← HW1.out, ← HG.out]
  clear HW1
  go_wp2_with (refine wpList_load_row rfl 49 _ rfl G rfl 49 #[.int .u8 (q : Int), .slice a n c] (0, 0) _ (show _ from G1.out) Tryz.underlying49 rfl info_stp ?_)
  refine HF.out.mono ?_
  rintro e w2 ⟨rfl, hb⟩
  have B2 : Hid (Below w.heap.size w w2) := Lib.hid (B1.out.trans (hb.mono B1.out.size))
  clear hb
  go_wp2_with fail
  refine bodyPost_ret (results_tmp rfl _ _ _) rfl ?_
  exact ⟨cs, rfl, H5.out, HP.out.below B2.out HP.out.lt, Fr.of_below B2.out, fun h0 => by cases h0⟩
end Go.Proofs.YtlccdenafnekjaaGreatDoor
namespace Go.Proofs.YtlccdenafnekjaaGreatDoor
open Go.RowKit
set_option linter.unusedVariables false
set_option maxRecDepth 100000

/-- A word, replaced, as a text. -/
def repS (m : Nat) (out : ByteArray) (x : List UInt8) : ByteArray := ⟨(repF m out.data.toList x).toArray⟩
set_option maxHeartbeats 20000000 in
theorem step_exec (w : World) (pb mx n b off c : Nat) (cs : List Value) (t : T) (out : ByteArray) (iv : Value) (x0 : List UInt8) (h : Has w pb (blC cs out iv mx) 71) (ht : IsT w n cs t) (hsm : Small t) (hN : sizeN t ≤ 1000000)
    (hbr : ∀ (p : List UInt8) y, atT p t = .inr y → kindT y = 1 → ∃ x d, y = .mk 1 x d [] [] ∧ d.length ≤ 65536)
    (hw : WdS w b off 1 c [x0]) (hx : WB x0) (hM : mx ≤ 1125899906842624) (ho : out.size ≤ 1000000) (hL : LaidR w) (hm : MaxW w) (hmx : 1 < w.heap.size) :
    Calls Tryz.prog 32 #[.pointer (some ⟨pb, 0, none⟩), .agg #[.int .u8 6, .slice (some ⟨b, off, none⟩) 1 c]] w (ChP pb out iv mx (chF t (repS mx out x0) (fun _ => 0) execT) w) := by
  have h5 := isT_five ht
  obtain ⟨G, hG⟩ : ∃ G, G = w.heap.size := ⟨_, rfl⟩
  obtain ⟨w1, hw1⟩ : ∃ w1, w1 = w.alloc (.cells #[.int .u8 6, .slice (some ⟨b, off, none⟩) 1 c] 49) := ⟨_, rfl⟩
  have b1 : Below w.heap.size w w1 := by rw [hw1]; exact (Below.refl _ _).alloc (Nat.le_refl _) _
  have g1 : Has w1 G [.int .u8 6, .slice (some ⟨b, off, none⟩) 1 c] 49 := by rw [hw1, hG]; exact Has.new w [.int .u8 6, .slice (some ⟨b, off, none⟩) 1 c] _
  have HF := Lib.hid (stepok_any w1 6 1 (some ⟨b, off, none⟩) c (by decide) (hL.later b1))
  rw [show okF 6 1 = true by decide] at HF
  have HP := Lib.hid h
  have H5 := Lib.hid h5
  have HT := Lib.hid ht
  have HSM := Lib.hid hsm
  have HNN := Lib.hid hN
  have HBR := Lib.hid hbr
  have HWD := Lib.hid hw
  have HXL := Lib.hid hx
  have HMM := Lib.hid hM
  have HOO := Lib.hid ho
  have HM := Lib.hid hm
  have HMX := Lib.hid hmx
  have HW1 := Lib.hid hw1
  have HG := Lib.hid hG
  have B1 := Lib.hid b1
  have G1 := Lib.hid g1
  clear h h5 ht hsm hN hbr hw hx hM ho hL hm hmx hG hw1 b1 g1
  go_enter Tryz.func32, Tryz.ntmps32
  go_upto_region 1 with fail
  rw [← HW1.out, ← HG.out]
  clear HW1
  go_wp2_with (refine wpList_load_row rfl 49 _ rfl G rfl 49 #[.int .u8 6, .slice (some ⟨b, off, none⟩) 1 c] (0, 0) _ (show _ from G1.out) Tryz.underlying49 rfl info_stp ?_)
  refine HF.out.mono ?_
  rintro e w2 ⟨rfl, hb⟩
  have G2 : Hid (Has w2 G [.int .u8 6, .slice (some ⟨b, off, none⟩) 1 c] 49) := Lib.hid (G1.out.below hb G1.out.lt)
  have B2 : Hid (Below w.heap.size w w2) := Lib.hid (B1.out.trans (hb.mono B1.out.size))
  have hc1 : w2.cell? ⟨G, 1, none⟩ = some (.slice (some ⟨b, off, none⟩) 1 c) := G2.out.cellAt (i := 1) rfl
  have HFI := Lib.hid (filled_any w2 pb mx out b off 1 c [x0] (HWD.out.later B2.out) (by decide) (fun y hy => by rw [List.mem_singleton.1 hy]; exact HXL.out) (HM.out.below B2.out HMX.out) HMM.out HOO.out
    ((HP.out.below B2.out HP.out.lt).cellAt (i := 5) (by obtain ⟨c0, c1, c2, c3, c4, hc⟩ := five_list H5.out; rw [hc]; rfl)) ((HP.out.below B2.out HP.out.lt).cellAt (i := 7) (by obtain ⟨c0, c1, c2, c3, c4, hc⟩ := five_list H5.out; rw [hc]; rfl)))
  clear hb
  go_wp2_with fail
  refine HFI.out.mono ?_
  intro e w3 hq
  obtain ⟨u, rfl, hown, hb3⟩ := hq
  have hnil : u ≠ .slice none 0 0 := fun e => by
    have h1 := hown.2
    rcases h1 with ⟨_, h0⟩ | ⟨g, cap, cur, e2, _⟩
    · omega
    · rw [e] at e2; cases e2
  obtain ⟨g, cap, rfl⟩ : ∃ g cap, u = .slice (some ⟨g, 0, none⟩) 1 cap := by
    rcases hown.2 with ⟨e, _⟩ | ⟨g, cap, cur, e2, _⟩
    · exact absurd e hnil
    · exact ⟨g, cap, e2⟩
  have hcell : w3.cell? ⟨g, 0, none⟩ = some (.string (repS mx out x0)) := by
    have := hown.cells (g := g) rfl 0 (.string (repS mx out x0)) rfl
    rw [Addr.add_lit] at this
    exact this
  obtain ⟨sb, hsb⟩ : ∃ sb, sb = w3.heap.size := ⟨_, rfl⟩
  obtain ⟨w4, hw4⟩ : ∃ w4, w4 = w3.alloc (.cells #[.slice (some ⟨g, 0, none⟩) 1 cap] 34) := ⟨_, rfl⟩
  have b4 : Below w3.heap.size w3 w4 := by rw [hw4]; exact (Below.refl _ _).alloc (Nat.le_refl _) _
  have g4 : Has w4 sb [.slice (some ⟨g, 0, none⟩) 1 cap] 34 := by rw [hw4, hsb]; exact Has.new w3 [.slice (some ⟨g, 0, none⟩) 1 cap] _
  have B4 : Hid (Below w.heap.size w w4) := Lib.hid (B2.out.trans ((hb3.trans (b4.mono hb3.size)).mono B2.out.size))
  have HC4 : Hid (w4.cell? ⟨g, 0, none⟩ = some (.string (repS mx out x0))) := Lib.hid ((b4.cell (p := ⟨g, 0, none⟩) (World.block_lt_of_cell? w3 ⟨g, 0, none⟩ hcell)).trans hcell)
  have HS4 : Hid (w4.cell? ⟨sb, 0, none⟩ = some (.slice (some ⟨g, 0, none⟩) 1 cap)) := Lib.hid (g4.cellAt (i := 0) rfl)
  have HG4 : Hid (w4.cell? ⟨G, 0, none⟩ = some (.int .u8 6)) := Lib.hid (((G2.out.below hb3 G2.out.lt).below b4 (Nat.lt_of_lt_of_le G2.out.lt hb3.size)).cellAt (i := 0) rfl)
  have HSB := Lib.hid hsb
  have HW4 := Lib.hid hw4
  have HCH := Lib.hid (change_rc w4 pb n mx 49 cs t out iv (repS mx out x0) #[] (fun _ => 0) execT (HP.out.below B4.out HP.out.lt) (IsT.later B4.out _ _ _ HT.out) HSM.out HNN.out (HM.out.below B4.out HMX.out) (Nat.lt_of_lt_of_le HMX.out B4.out.size) (HBR.out _)
    (enters_of Tryz.func49 (by kernel_rfl) rfl)
    (fun W fb cy y S hb hmt hg hB hn hy hs _ => exec_do W w4.heap.size fb cy y S hmt hg hB hn hs))
  have hmf : ∀ (fn : Fn) (first cap : Array Value) (w : World), (Instr.makeFunc fn first cap).run Tryz.prog w = .ok (.func fn first cap) w := fun _ _ _ _ => rfl
  clear hown hnil hcell b4 g4 hsb hw4 hb3 HFI hc1
  go_upto_region 4 with fail
  rw [← HSB.out, ← HW4.out]
  clear HW4
  have y0 := HG4.out
  have y1 := HS4.out
  have y2 := HC4.out
  go_wp2_with fail
  refine HCH.out.mono ?_
  intro e w5 hq
  obtain ⟨cs', rfl, h5', hp, hf, ho⟩ := hq
  go_wp2_with fail
  refine bodyPost_ret (results_tmp rfl _ _ _) rfl ?_
  exact ⟨cs', rfl, h5', hp, (Fr.of_below (S := [pb]) B4.out).trans hf (fun g hg _ => hg), ho⟩
end Go.Proofs.YtlccdenafnekjaaGreatDoor
namespace Go.Proofs.YtlccdenafnekjaaGreatDoor
open Go.RowKit
set_option linter.unusedVariables false
set_option maxRecDepth 100000

/-- A file that has grown. -/
def appT (s : ByteArray) : T → T
  | .mk k x d ns ks => .mk k x (d ++ s.data.toList) ns ks
set_option maxHeartbeats 20000000 in
theorem step_append (w : World) (pb mx n b off c : Nat) (cs : List Value) (t : T) (out : ByteArray) (iv : Value) (x0 x1 : List UInt8) (h : Has w pb (blC cs out iv mx) 71) (ht : IsT w n cs t) (hsm : Small t) (hN : sizeN t ≤ 1000000)
    (hbr : ∀ (p : List UInt8) y, atT p t = .inr y → kindT y = 1 → ∃ x d, y = .mk 1 x d [] [] ∧ d.length ≤ 65536)
    (hw : WdS w b off 2 c [x0, x1]) (hx : WB x0 ∧ WB x1) (hx1 : (repS mx out x1).size ≤ 900000000) (hM : mx ≤ 1125899906842624) (ho : out.size ≤ 1000000) (hL : LaidR w) (hm : MaxW w) (hmx : 1 < w.heap.size) :
    Calls Tryz.prog 32 #[.pointer (some ⟨pb, 0, none⟩), .agg #[.int .u8 3, .slice (some ⟨b, off, none⟩) 2 c]] w (ChP pb out iv mx (chF t (repS mx out x0) (fun _ => 0) (appT (repS mx out x1))) w) := by
  have h5 := isT_five ht
  obtain ⟨G, hG⟩ : ∃ G, G = w.heap.size := ⟨_, rfl⟩
  obtain ⟨w1, hw1⟩ : ∃ w1, w1 = w.alloc (.cells #[.int .u8 3, .slice (some ⟨b, off, none⟩) 2 c] 49) := ⟨_, rfl⟩
  have b1 : Below w.heap.size w w1 := by rw [hw1]; exact (Below.refl _ _).alloc (Nat.le_refl _) _
  have g1 : Has w1 G [.int .u8 3, .slice (some ⟨b, off, none⟩) 2 c] 49 := by rw [hw1, hG]; exact Has.new w [.int .u8 3, .slice (some ⟨b, off, none⟩) 2 c] _
  have HF := Lib.hid (stepok_any w1 3 2 (some ⟨b, off, none⟩) c (by decide) (hL.later b1))
  rw [show okF 3 2 = true by decide] at HF
  have HP := Lib.hid h
  have H5 := Lib.hid h5
  have HT := Lib.hid ht
  have HSM := Lib.hid hsm
  have HNN := Lib.hid hN
  have HBR := Lib.hid hbr
  have HWD := Lib.hid hw
  have HXL := Lib.hid hx
  have HX1 := Lib.hid hx1
  have HMM := Lib.hid hM
  have HOO := Lib.hid ho
  have HM := Lib.hid hm
  have HMX := Lib.hid hmx
  have HW1 := Lib.hid hw1
  have HG := Lib.hid hG
  have B1 := Lib.hid b1
  have G1 := Lib.hid g1
  clear h h5 ht hsm hN hbr hw hx hx1 hM ho hL hm hmx hG hw1 b1 g1
  go_enter Tryz.func32, Tryz.ntmps32
  go_upto_region 1 with fail
  rw [← HW1.out, ← HG.out]
  clear HW1
  go_wp2_with (refine wpList_load_row rfl 49 _ rfl G rfl 49 #[.int .u8 3, .slice (some ⟨b, off, none⟩) 2 c] (0, 0) _ (show _ from G1.out) Tryz.underlying49 rfl info_stp ?_)
  refine HF.out.mono ?_
  rintro e w2 ⟨rfl, hb⟩
  have G2 : Hid (Has w2 G [.int .u8 3, .slice (some ⟨b, off, none⟩) 2 c] 49) := Lib.hid (G1.out.below hb G1.out.lt)
  have B2 : Hid (Below w.heap.size w w2) := Lib.hid (B1.out.trans (hb.mono B1.out.size))
  have hc1 : w2.cell? ⟨G, 1, none⟩ = some (.slice (some ⟨b, off, none⟩) 2 c) := G2.out.cellAt (i := 1) rfl
  have HFI := Lib.hid (filled_any w2 pb mx out b off 2 c [x0, x1] (HWD.out.later B2.out) (by decide) (fun y hy => by
      rcases List.mem_cons.1 hy with h1 | h1
      · rw [h1]; exact HXL.out.1
      · rw [List.mem_singleton.1 h1]; exact HXL.out.2) (HM.out.below B2.out HMX.out) HMM.out HOO.out
    ((HP.out.below B2.out HP.out.lt).cellAt (i := 5) (by obtain ⟨c0, c1, c2, c3, c4, hc⟩ := five_list H5.out; rw [hc]; rfl)) ((HP.out.below B2.out HP.out.lt).cellAt (i := 7) (by obtain ⟨c0, c1, c2, c3, c4, hc⟩ := five_list H5.out; rw [hc]; rfl)))
  clear hb
  go_wp2_with fail
  refine HFI.out.mono ?_
  intro e w3 hq
  obtain ⟨u, rfl, hown, hb3⟩ := hq
  have hnil : u ≠ .slice none 0 0 := fun e => by
    have h1 := hown.2
    rcases h1 with ⟨_, h0⟩ | ⟨g, cap, cur, e2, _⟩
    · omega
    · rw [e] at e2; cases e2
  obtain ⟨g, cap, rfl⟩ : ∃ g cap, u = .slice (some ⟨g, 0, none⟩) 2 cap := by
    rcases hown.2 with ⟨e, _⟩ | ⟨g, cap, cur, e2, _⟩
    · exact absurd e hnil
    · exact ⟨g, cap, e2⟩
  have hcell : w3.cell? ⟨g, 0, none⟩ = some (.string (repS mx out x0)) := by
    have := hown.cells (g := g) rfl 0 (.string (repS mx out x0)) rfl
    rw [Addr.add_lit] at this
    exact this
  have hcell1 : w3.cell? ⟨g, 1, none⟩ = some (.string (repS mx out x1)) := by
    have := hown.cells (g := g) rfl 1 (.string (repS mx out x1)) rfl
    rw [Addr.add_lit] at this
    exact this
  obtain ⟨sb, hsb⟩ : ∃ sb, sb = w3.heap.size := ⟨_, rfl⟩
  obtain ⟨w4, hw4⟩ : ∃ w4, w4 = w3.alloc (.cells #[.slice (some ⟨g, 0, none⟩) 2 cap] 34) := ⟨_, rfl⟩
  have b4 : Below w3.heap.size w3 w4 := by rw [hw4]; exact (Below.refl _ _).alloc (Nat.le_refl _) _
  have g4 : Has w4 sb [.slice (some ⟨g, 0, none⟩) 2 cap] 34 := by rw [hw4, hsb]; exact Has.new w3 [.slice (some ⟨g, 0, none⟩) 2 cap] _
  have B4 : Hid (Below w.heap.size w w4) := Lib.hid (B2.out.trans ((hb3.trans (b4.mono hb3.size)).mono B2.out.size))
  have HC4 : Hid (w4.cell? ⟨g, 0, none⟩ = some (.string (repS mx out x0))) := Lib.hid ((b4.cell (p := ⟨g, 0, none⟩) (World.block_lt_of_cell? w3 ⟨g, 0, none⟩ hcell)).trans hcell)
  have HC41 : Hid (w4.cell? ⟨g, 1, none⟩ = some (.string (repS mx out x1))) := Lib.hid ((b4.cell (p := ⟨g, 1, none⟩) (World.block_lt_of_cell? w3 ⟨g, 1, none⟩ hcell1)).trans hcell1)
  have HS4 : Hid (w4.cell? ⟨sb, 0, none⟩ = some (.slice (some ⟨g, 0, none⟩) 2 cap)) := Lib.hid (g4.cellAt (i := 0) rfl)
  have HG4 : Hid (w4.cell? ⟨G, 0, none⟩ = some (.int .u8 3)) := Lib.hid (((G2.out.below hb3 G2.out.lt).below b4 (Nat.lt_of_lt_of_le G2.out.lt hb3.size)).cellAt (i := 0) rfl)
  have HSB := Lib.hid hsb
  have HW4 := Lib.hid hw4
  have HCH := Lib.hid (change_rc w4 pb n mx 48 cs t out iv (repS mx out x0) #[.pointer (some ⟨sb, 0, none⟩)] (fun _ => 0) (appT (repS mx out x1)) (HP.out.below B4.out HP.out.lt) (IsT.later B4.out _ _ _ HT.out) HSM.out HNN.out (HM.out.below B4.out HMX.out) (Nat.lt_of_lt_of_le HMX.out B4.out.size) (HBR.out _)
    (enters_of Tryz.func48 (by kernel_rfl) rfl)
    (fun W fb cy y S hb hmt hg hB hn hy hs _ => by
      obtain ⟨x, d, rfl, hd⟩ := hy
      refine append_do W w4.heap.size fb sb g 0 2 cap cy x d S (repS mx out x1) hmt hg hB hn ?_ (by decide) ?_ (by have := HX1.out; omega)
      · exact (hb.cell (p := ⟨sb, 0, none⟩) (World.block_lt_of_cell? w4 ⟨sb, 0, none⟩ HS4.out)).trans HS4.out
      · exact (hb.cell (p := ⟨g, 1, none⟩) (World.block_lt_of_cell? w4 ⟨g, 1, none⟩ HC41.out)).trans HC41.out))
  have hmf : ∀ (fn : Fn) (first cap : Array Value) (w : World), (Instr.makeFunc fn first cap).run Tryz.prog w = .ok (.func fn first cap) w := fun _ _ _ _ => rfl
  clear hown hnil hcell hcell1 b4 g4 hsb hw4 hb3 HFI hc1
  go_upto_region 4 with fail
  rw [← HSB.out, ← HW4.out]
  clear HW4
  have y0 := HG4.out
  have y1 := HS4.out
  have y2 := HC4.out
  go_wp2_with fail
  refine HCH.out.mono ?_
  intro e w5 hq
  obtain ⟨cs', rfl, h5', hp, hf, ho⟩ := hq
  go_wp2_with fail
  refine bodyPost_ret (results_tmp rfl _ _ _) rfl ?_
  exact ⟨cs', rfl, h5', hp, (Fr.of_below (S := [pb]) B4.out).trans hf (fun g hg _ => hg), ho⟩
end Go.Proofs.YtlccdenafnekjaaGreatDoor
namespace Go.Proofs.YtlccdenafnekjaaGreatDoor
open Go.RowKit
set_option linter.unusedVariables false
set_option maxRecDepth 100000

set_option maxHeartbeats 20000000 in
theorem step_fail (w : World) (pb mx n b off c : Nat) (cs : List Value) (t : T) (out : ByteArray) (iv : Value) (x0 : List UInt8) (h : Has w pb (blC cs out iv mx) 71) (ht : IsT w n cs t) 
    (hw : WdS w b off 1 c [x0]) (hx : WB x0) (hM : mx ≤ 1125899906842624) (ho : out.size ≤ 1000000) (hL : LaidR w) (hm : MaxW w) (hmx : 1 < w.heap.size) :
    Calls Tryz.prog 32 #[.pointer (some ⟨pb, 0, none⟩), .agg #[.int .u8 8, .slice (some ⟨b, off, none⟩) 1 c]] w (ChP pb out iv mx (12, t) w) := by
  have h5 := isT_five ht
  obtain ⟨G, hG⟩ : ∃ G, G = w.heap.size := ⟨_, rfl⟩
  obtain ⟨w1, hw1⟩ : ∃ w1, w1 = w.alloc (.cells #[.int .u8 8, .slice (some ⟨b, off, none⟩) 1 c] 49) := ⟨_, rfl⟩
  have b1 : Below w.heap.size w w1 := by rw [hw1]; exact (Below.refl _ _).alloc (Nat.le_refl _) _
  have g1 : Has w1 G [.int .u8 8, .slice (some ⟨b, off, none⟩) 1 c] 49 := by rw [hw1, hG]; exact Has.new w [.int .u8 8, .slice (some ⟨b, off, none⟩) 1 c] _
  have HF := Lib.hid (stepok_any w1 8 1 (some ⟨b, off, none⟩) c (by decide) (hL.later b1))
  rw [show okF 8 1 = true by decide] at HF
  have HP := Lib.hid h
  have H5 := Lib.hid h5
  have HT := Lib.hid ht
  have HWD := Lib.hid hw
  have HXL := Lib.hid hx
  have HMM := Lib.hid hM
  have HOO := Lib.hid ho
  have HM := Lib.hid hm
  have HMX := Lib.hid hmx
  have HW1 := Lib.hid hw1
  have HG := Lib.hid hG
  have B1 := Lib.hid b1
  have G1 := Lib.hid g1
  clear h h5 ht hw hx hM ho hL hm hmx hG hw1 b1 g1
  go_enter Tryz.func32, Tryz.ntmps32
  go_upto_region 1 with fail
  rw [← HW1.out, ← HG.out]
  clear HW1
  go_wp2_with (refine wpList_load_row rfl 49 _ rfl G rfl 49 #[.int .u8 8, .slice (some ⟨b, off, none⟩) 1 c] (0, 0) _ (show _ from G1.out) Tryz.underlying49 rfl info_stp ?_)
  refine HF.out.mono ?_
  rintro e w2 ⟨rfl, hb⟩
  have G2 : Hid (Has w2 G [.int .u8 8, .slice (some ⟨b, off, none⟩) 1 c] 49) := Lib.hid (G1.out.below hb G1.out.lt)
  have B2 : Hid (Below w.heap.size w w2) := Lib.hid (B1.out.trans (hb.mono B1.out.size))
  have hc1 : w2.cell? ⟨G, 1, none⟩ = some (.slice (some ⟨b, off, none⟩) 1 c) := G2.out.cellAt (i := 1) rfl
  have HFI := Lib.hid (filled_any w2 pb mx out b off 1 c [x0] (HWD.out.later B2.out) (by decide) (fun y hy => by rw [List.mem_singleton.1 hy]; exact HXL.out) (HM.out.below B2.out HMX.out) HMM.out HOO.out
    ((HP.out.below B2.out HP.out.lt).cellAt (i := 5) (by obtain ⟨c0, c1, c2, c3, c4, hc⟩ := five_list H5.out; rw [hc]; rfl)) ((HP.out.below B2.out HP.out.lt).cellAt (i := 7) (by obtain ⟨c0, c1, c2, c3, c4, hc⟩ := five_list H5.out; rw [hc]; rfl)))
  clear hb
  go_wp2_with fail
  refine HFI.out.mono ?_
  intro e w3 hq
  obtain ⟨u, rfl, hown, hb3⟩ := hq
  have hnil : u ≠ .slice none 0 0 := fun e => by
    have h1 := hown.2
    rcases h1 with ⟨_, h0⟩ | ⟨g, cap, cur, e2, _⟩
    · omega
    · rw [e] at e2; cases e2
  obtain ⟨g, cap, rfl⟩ : ∃ g cap, u = .slice (some ⟨g, 0, none⟩) 1 cap := by
    rcases hown.2 with ⟨e, _⟩ | ⟨g, cap, cur, e2, _⟩
    · exact absurd e hnil
    · exact ⟨g, cap, e2⟩
  have hcell : w3.cell? ⟨g, 0, none⟩ = some (.string (repS mx out x0)) := by
    have := hown.cells (g := g) rfl 0 (.string (repS mx out x0)) rfl
    rw [Addr.add_lit] at this
    exact this
  obtain ⟨sb, hsb⟩ : ∃ sb, sb = w3.heap.size := ⟨_, rfl⟩
  obtain ⟨w4, hw4⟩ : ∃ w4, w4 = w3.alloc (.cells #[.slice (some ⟨g, 0, none⟩) 1 cap] 34) := ⟨_, rfl⟩
  have b4 : Below w3.heap.size w3 w4 := by rw [hw4]; exact (Below.refl _ _).alloc (Nat.le_refl _) _
  have g4 : Has w4 sb [.slice (some ⟨g, 0, none⟩) 1 cap] 34 := by rw [hw4, hsb]; exact Has.new w3 [.slice (some ⟨g, 0, none⟩) 1 cap] _
  have B4 : Hid (Below w.heap.size w w4) := Lib.hid (B2.out.trans ((hb3.trans (b4.mono hb3.size)).mono B2.out.size))
  have HC4 : Hid (w4.cell? ⟨g, 0, none⟩ = some (.string (repS mx out x0))) := Lib.hid ((b4.cell (p := ⟨g, 0, none⟩) (World.block_lt_of_cell? w3 ⟨g, 0, none⟩ hcell)).trans hcell)
  have HS4 : Hid (w4.cell? ⟨sb, 0, none⟩ = some (.slice (some ⟨g, 0, none⟩) 1 cap)) := Lib.hid (g4.cellAt (i := 0) rfl)
  have HG4 : Hid (w4.cell? ⟨G, 0, none⟩ = some (.int .u8 8)) := Lib.hid (((G2.out.below hb3 G2.out.lt).below b4 (Nat.lt_of_lt_of_le G2.out.lt hb3.size)).cellAt (i := 0) rfl)
  have HSB := Lib.hid hsb
  have HW4 := Lib.hid hw4
  have hmf : ∀ (fn : Fn) (first cap : Array Value) (w : World), (Instr.makeFunc fn first cap).run Tryz.prog w = .ok (.func fn first cap) w := fun _ _ _ _ => rfl
  clear hown hnil hcell b4 g4 hsb hw4 hb3 HFI hc1
  go_upto_region 4 with fail
  rw [← HSB.out, ← HW4.out]
  clear HW4
  have y0 := HG4.out
  have y1 := HS4.out
  have y2 := HC4.out
  go_wp2_with fail
  refine bodyPost_ret (results_tmp rfl _ _ _) rfl ?_
  exact ⟨cs, rfl, H5.out, HP.out.below B4.out HP.out.lt, Fr.of_below B4.out, fun h0 => by cases h0⟩
end Go.Proofs.YtlccdenafnekjaaGreatDoor
namespace Go.Proofs.YtlccdenafnekjaaGreatDoor
open Go.RowKit
set_option linter.unusedVariables false
set_option maxRecDepth 100000

theorem zero_mt (w : World) (B : Nat) : MT w B zT zeroT [] :=
  MT.mk (k := 0) (x := false) (d := []) (ns := []) (ks := []) (L := []) (Ss := fun _ => []) (World.ownsRow_nil _ _ _ _) (World.ownsRow_nil _ _ _ _) (World.ownsRow_nil _ _ _ _) (fun i hi => by simp at hi) (by simp [blk, Value.ownBlock])
theorem zero_isT (w : World) : IsT w 1 zT zeroT := (zero_mt w 0).isT 1 (by unfold zeroT; rw [sizeN_mk]; decide) (Small.mk (fun i hi => by simp at hi) (fun i hi => by simp at hi) ⟨by simp, by simp, by simp⟩)
/-- An edit that makes a directory. -/
def mkX (path : ByteArray) : EdD := { kind := 1, path := path, src := ⟨#[]⟩, tree := zeroT }
set_option maxHeartbeats 20000000 in
theorem step_mkdir (w : World) (pb mx n b off c : Nat) (cs : List Value) (t : T) (out : ByteArray) (iv : Value) (x0 : List UInt8) (h : Has w pb (blC cs out iv mx) 71) (ht : IsT w n cs t) 
    (hw : WdS w b off 1 c [x0]) (hx : WB x0) (hM : mx ≤ 1125899906842624) (ho : out.size ≤ 1000000) (hL : LaidR w) (hm : MaxW w) (hmx : 1 < w.heap.size) :
    Calls Tryz.prog 32 #[.pointer (some ⟨pb, 0, none⟩), .agg #[.int .u8 1, .slice (some ⟨b, off, none⟩) 1 c]] w (ChP pb out iv mx (((runE t [mkX (repS mx out x0)]).1 : Int), (runE t [mkX (repS mx out x0)]).2.1) w) := by
  have h5 := isT_five ht
  obtain ⟨G, hG⟩ : ∃ G, G = w.heap.size := ⟨_, rfl⟩
  obtain ⟨w1, hw1⟩ : ∃ w1, w1 = w.alloc (.cells #[.int .u8 1, .slice (some ⟨b, off, none⟩) 1 c] 49) := ⟨_, rfl⟩
  have b1 : Below w.heap.size w w1 := by rw [hw1]; exact (Below.refl _ _).alloc (Nat.le_refl _) _
  have g1 : Has w1 G [.int .u8 1, .slice (some ⟨b, off, none⟩) 1 c] 49 := by rw [hw1, hG]; exact Has.new w [.int .u8 1, .slice (some ⟨b, off, none⟩) 1 c] _
  have HF := Lib.hid (stepok_any w1 1 1 (some ⟨b, off, none⟩) c (by decide) (hL.later b1))
  rw [show okF 1 1 = true by decide] at HF
  have HP := Lib.hid h
  have H5 := Lib.hid h5
  have HT := Lib.hid ht
  have HWD := Lib.hid hw
  have HXL := Lib.hid hx
  have HMM := Lib.hid hM
  have HOO := Lib.hid ho
  have HM := Lib.hid hm
  have HMX := Lib.hid hmx
  have HW1 := Lib.hid hw1
  have HG := Lib.hid hG
  have B1 := Lib.hid b1
  have G1 := Lib.hid g1
  clear h h5 ht hw hx hM ho hL hm hmx hG hw1 b1 g1
  go_enter Tryz.func32, Tryz.ntmps32
  go_upto_region 1 with fail
  rw [← HW1.out, ← HG.out]
  clear HW1
  go_wp2_with (refine wpList_load_row rfl 49 _ rfl G rfl 49 #[.int .u8 1, .slice (some ⟨b, off, none⟩) 1 c] (0, 0) _ (show _ from G1.out) Tryz.underlying49 rfl info_stp ?_)
  refine HF.out.mono ?_
  rintro e w2 ⟨rfl, hb⟩
  have G2 : Hid (Has w2 G [.int .u8 1, .slice (some ⟨b, off, none⟩) 1 c] 49) := Lib.hid (G1.out.below hb G1.out.lt)
  have B2 : Hid (Below w.heap.size w w2) := Lib.hid (B1.out.trans (hb.mono B1.out.size))
  have hc1 : w2.cell? ⟨G, 1, none⟩ = some (.slice (some ⟨b, off, none⟩) 1 c) := G2.out.cellAt (i := 1) rfl
  have HFI := Lib.hid (filled_any w2 pb mx out b off 1 c [x0] (HWD.out.later B2.out) (by decide) (fun y hy => by rw [List.mem_singleton.1 hy]; exact HXL.out) (HM.out.below B2.out HMX.out) HMM.out HOO.out
    ((HP.out.below B2.out HP.out.lt).cellAt (i := 5) (by obtain ⟨c0, c1, c2, c3, c4, hc⟩ := five_list H5.out; rw [hc]; rfl)) ((HP.out.below B2.out HP.out.lt).cellAt (i := 7) (by obtain ⟨c0, c1, c2, c3, c4, hc⟩ := five_list H5.out; rw [hc]; rfl)))
  clear hb
  go_wp2_with fail
  refine HFI.out.mono ?_
  intro e w3 hq
  obtain ⟨u, rfl, hown, hb3⟩ := hq
  have hnil : u ≠ .slice none 0 0 := fun e => by
    have h1 := hown.2
    rcases h1 with ⟨_, h0⟩ | ⟨g, cap, cur, e2, _⟩
    · omega
    · rw [e] at e2; cases e2
  obtain ⟨g, cap, rfl⟩ : ∃ g cap, u = .slice (some ⟨g, 0, none⟩) 1 cap := by
    rcases hown.2 with ⟨e, _⟩ | ⟨g, cap, cur, e2, _⟩
    · exact absurd e hnil
    · exact ⟨g, cap, e2⟩
  have hcell : w3.cell? ⟨g, 0, none⟩ = some (.string (repS mx out x0)) := by
    have := hown.cells (g := g) rfl 0 (.string (repS mx out x0)) rfl
    rw [Addr.add_lit] at this
    exact this
  obtain ⟨sb, hsb⟩ : ∃ sb, sb = w3.heap.size := ⟨_, rfl⟩
  obtain ⟨w4, hw4⟩ : ∃ w4, w4 = w3.alloc (.cells #[.slice (some ⟨g, 0, none⟩) 1 cap] 34) := ⟨_, rfl⟩
  have b4 : Below w3.heap.size w3 w4 := by rw [hw4]; exact (Below.refl _ _).alloc (Nat.le_refl _) _
  have g4 : Has w4 sb [.slice (some ⟨g, 0, none⟩) 1 cap] 34 := by rw [hw4, hsb]; exact Has.new w3 [.slice (some ⟨g, 0, none⟩) 1 cap] _
  have B4 : Hid (Below w.heap.size w w4) := Lib.hid (B2.out.trans ((hb3.trans (b4.mono hb3.size)).mono B2.out.size))
  have HC4 : Hid (w4.cell? ⟨g, 0, none⟩ = some (.string (repS mx out x0))) := Lib.hid ((b4.cell (p := ⟨g, 0, none⟩) (World.block_lt_of_cell? w3 ⟨g, 0, none⟩ hcell)).trans hcell)
  have HS4 : Hid (w4.cell? ⟨sb, 0, none⟩ = some (.slice (some ⟨g, 0, none⟩) 1 cap)) := Lib.hid (g4.cellAt (i := 0) rfl)
  have HG4 : Hid (w4.cell? ⟨G, 0, none⟩ = some (.int .u8 1)) := Lib.hid (((G2.out.below hb3 G2.out.lt).below b4 (Nat.lt_of_lt_of_le G2.out.lt hb3.size)).cellAt (i := 0) rfl)
  have HSB := Lib.hid hsb
  have HW4 := Lib.hid hw4
  have HCH := Lib.hid (edit_any w4 pb n 1 mx cs [.int .u8 1, .string (repS mx out x0), .string ⟨#[]⟩, .int .u8 0, .bool false, .slice none 0 0, .slice none 0 0, .slice none 0 0] t out iv (mkX (repS mx out x0)) (HP.out.below B4.out HP.out.lt) (IsT.later B4.out _ _ _ HT.out) ⟨zT, rfl, zero_isT w4⟩ (HM.out.below B4.out HMX.out) (Nat.lt_of_lt_of_le HMX.out B4.out.size))
  have hmf : ∀ (fn : Fn) (first cap : Array Value) (w : World), (Instr.makeFunc fn first cap).run Tryz.prog w = .ok (.func fn first cap) w := fun _ _ _ _ => rfl
  clear hown hnil hcell b4 g4 hsb hw4 hb3 HFI hc1
  go_upto_region 4 with fail
  rw [← HSB.out, ← HW4.out]
  clear HW4
  have y0 := HG4.out
  have y1 := HS4.out
  have y2 := HC4.out
  go_wp2_with fail
  refine HCH.out.mono ?_
  intro e w5 hq
  obtain ⟨cs', rfl, h5', hp, hf, ho⟩ := hq
  go_wp2_with fail
  refine bodyPost_ret (results_tmp rfl _ _ _) rfl ?_
  exact ⟨cs', rfl, h5', hp, (Fr.of_below (S := [pb]) B4.out).trans hf (fun g hg _ => hg), fun h0 => ho (Int.ofNat.inj h0)⟩
end Go.Proofs.YtlccdenafnekjaaGreatDoor
namespace Go.Proofs.YtlccdenafnekjaaGreatDoor
open Go.RowKit
set_option linter.unusedVariables false
set_option maxRecDepth 100000

/-- What stands while copy's words are read. -/
def StS (sb g cap mx : Nat) (out : ByteArray) (x0 x1 x2 : List UInt8) (v : World) : Prop := v.cell? ⟨sb, 0, none⟩ = some (.slice (some ⟨g, 0, none⟩) 3 cap) ∧ v.cell? ⟨g, 0, none⟩ = some (.string (repS mx out x0)) ∧ v.cell? ⟨g, 1, none⟩ = some (.string (repS mx out x1)) ∧ v.cell? ⟨g, 2, none⟩ = some (.string (repS mx out x2))
theorem stS_fr {sb g cap mx pb : Nat} {out : ByteArray} {x0 x1 x2 : List UInt8} {v v' : World} (h : StS sb g cap mx out x0 x1 x2 v) (hf : Fr [pb] v v') (h1 : sb ≠ pb) (h2 : g ≠ pb) (l1 : sb < v.heap.size) (l2 : g < v.heap.size) : StS sb g cap mx out x0 x1 x2 v' := by
  have e1 : ∀ i, v'.cell? ⟨sb, i, none⟩ = v.cell? ⟨sb, i, none⟩ := fun i => World.cell?_of_block (w := v) (a := ⟨sb, i, none⟩) (hf.block sb l1 (by simpa using h1))
  have e2 : ∀ i, v'.cell? ⟨g, i, none⟩ = v.cell? ⟨g, i, none⟩ := fun i => World.cell?_of_block (w := v) (a := ⟨g, i, none⟩) (hf.block g l2 (by simpa using h2))
  exact ⟨(e1 0).trans h.1, (e2 0).trans h.2.1, (e2 1).trans h.2.2.1, (e2 2).trans h.2.2.2⟩
set_option maxHeartbeats 20000000 in
theorem step_copy (w : World) (pb mx n b off c : Nat) (cs : List Value) (t : T) (out : ByteArray) (ai : Option Addr) (ni ci mi : Nat) (il : List (ByteArray × T)) (x0 x1 x2 : List UInt8) (h : Has w pb (blC cs out (.slice ai ni ci) mx) 71) (ht : IsT w n cs t)
    (hw : WdS w b off 3 c [x0, x1, x2]) (hx : WB x0 ∧ WB x1 ∧ WB x2) (hin : InS w mi ai ni ci il) (hni : ni ≤ 1000000) (hsi : ∀ i, i < ni → Small (il.getD i inD).2 ∧ sizeN (il.getD i inD).2 ≤ 1000000) (hM : mx ≤ 1125899906842624) (ho : out.size ≤ 1000000) (hL : LaidR w) (hm : MaxW w) (hmx : 1 < w.heap.size) :
    Calls Tryz.prog 32 #[.pointer (some ⟨pb, 0, none⟩), .agg #[.int .u8 4, .slice (some ⟨b, off, none⟩) 3 c]] w (ChP pb out (.slice ai ni ci) mx (tkF t (repS mx out x0) (repS mx out x1) (repS mx out x2) il) w) := by
  have h5 := isT_five ht
  obtain ⟨G, hG⟩ : ∃ G, G = w.heap.size := ⟨_, rfl⟩
  obtain ⟨w1, hw1⟩ : ∃ w1, w1 = w.alloc (.cells #[.int .u8 4, .slice (some ⟨b, off, none⟩) 3 c] 49) := ⟨_, rfl⟩
  have b1 : Below w.heap.size w w1 := by rw [hw1]; exact (Below.refl _ _).alloc (Nat.le_refl _) _
  have g1 : Has w1 G [.int .u8 4, .slice (some ⟨b, off, none⟩) 3 c] 49 := by rw [hw1, hG]; exact Has.new w [.int .u8 4, .slice (some ⟨b, off, none⟩) 3 c] _
  have HF := Lib.hid (stepok_any w1 4 3 (some ⟨b, off, none⟩) c (by decide) (hL.later b1))
  rw [show okF 4 3 = true by decide] at HF
  have HP := Lib.hid h
  have H5 := Lib.hid h5
  have HT := Lib.hid ht
  have HWD := Lib.hid hw
  have HXL := Lib.hid hx
  have HIN := Lib.hid hin
  have HNI := Lib.hid hni
  have HSI := Lib.hid hsi
  have HMM := Lib.hid hM
  have HOO := Lib.hid ho
  have HM := Lib.hid hm
  have HMX := Lib.hid hmx
  have HW1 := Lib.hid hw1
  have HG := Lib.hid hG
  have B1 := Lib.hid b1
  have G1 := Lib.hid g1
  clear h h5 ht hw hx hin hni hsi hM ho hL hm hmx hG hw1 b1 g1
  go_enter Tryz.func32, Tryz.ntmps32
  go_upto_region 1 with fail
  rw [← HW1.out, ← HG.out]
  clear HW1
  go_wp2_with (refine wpList_load_row rfl 49 _ rfl G rfl 49 #[.int .u8 4, .slice (some ⟨b, off, none⟩) 3 c] (0, 0) _ (show _ from G1.out) Tryz.underlying49 rfl info_stp ?_)
  refine HF.out.mono ?_
  rintro e w2 ⟨rfl, hb⟩
  have G2 : Hid (Has w2 G [.int .u8 4, .slice (some ⟨b, off, none⟩) 3 c] 49) := Lib.hid (G1.out.below hb G1.out.lt)
  have B2 : Hid (Below w.heap.size w w2) := Lib.hid (B1.out.trans (hb.mono B1.out.size))
  have hc1 : w2.cell? ⟨G, 1, none⟩ = some (.slice (some ⟨b, off, none⟩) 3 c) := G2.out.cellAt (i := 1) rfl
  have HFI := Lib.hid (filled_any w2 pb mx out b off 3 c [x0, x1, x2] (HWD.out.later B2.out) (by decide) (fun y hy => by
      rcases List.mem_cons.1 hy with h1 | h1
      · rw [h1]; exact HXL.out.1
      · rcases List.mem_cons.1 h1 with h2 | h2
        · rw [h2]; exact HXL.out.2.1
        · rw [List.mem_singleton.1 h2]; exact HXL.out.2.2) (HM.out.below B2.out HMX.out) HMM.out HOO.out
    ((HP.out.below B2.out HP.out.lt).cellAt (i := 5) (by obtain ⟨c0, c1, c2, c3, c4, hc⟩ := five_list H5.out; rw [hc]; rfl)) ((HP.out.below B2.out HP.out.lt).cellAt (i := 7) (by obtain ⟨c0, c1, c2, c3, c4, hc⟩ := five_list H5.out; rw [hc]; rfl)))
  clear hb
  go_wp2_with fail
  refine HFI.out.mono ?_
  intro e w3 hq
  obtain ⟨u, rfl, hown, hb3⟩ := hq
  have hnil : u ≠ .slice none 0 0 := fun e => by
    have h1 := hown.2
    rcases h1 with ⟨_, h0⟩ | ⟨g, cap, cur, e2, _⟩
    · omega
    · rw [e] at e2; cases e2
  obtain ⟨g, cap, rfl⟩ : ∃ g cap, u = .slice (some ⟨g, 0, none⟩) 3 cap := by
    rcases hown.2 with ⟨e, _⟩ | ⟨g, cap, cur, e2, _⟩
    · exact absurd e hnil
    · exact ⟨g, cap, e2⟩
  have hcell : w3.cell? ⟨g, 0, none⟩ = some (.string (repS mx out x0)) := by
    have := hown.cells (g := g) rfl 0 (.string (repS mx out x0)) rfl
    rw [Addr.add_lit] at this
    exact this
  have hcell1 : w3.cell? ⟨g, 1, none⟩ = some (.string (repS mx out x1)) := by
    have := hown.cells (g := g) rfl 1 (.string (repS mx out x1)) rfl
    rw [Addr.add_lit] at this
    exact this
  have hcell2 : w3.cell? ⟨g, 2, none⟩ = some (.string (repS mx out x2)) := by
    have := hown.cells (g := g) rfl 2 (.string (repS mx out x2)) rfl
    rw [Addr.add_lit] at this
    exact this
  obtain ⟨sb, hsb⟩ : ∃ sb, sb = w3.heap.size := ⟨_, rfl⟩
  obtain ⟨w4, hw4⟩ : ∃ w4, w4 = w3.alloc (.cells #[.slice (some ⟨g, 0, none⟩) 3 cap] 34) := ⟨_, rfl⟩
  have b4 : Below w3.heap.size w3 w4 := by rw [hw4]; exact (Below.refl _ _).alloc (Nat.le_refl _) _
  have g4 : Has w4 sb [.slice (some ⟨g, 0, none⟩) 3 cap] 34 := by rw [hw4, hsb]; exact Has.new w3 [.slice (some ⟨g, 0, none⟩) 3 cap] _
  have B4 : Hid (Below w.heap.size w w4) := Lib.hid (B2.out.trans ((hb3.trans (b4.mono hb3.size)).mono B2.out.size))
  have HC4 : Hid (w4.cell? ⟨g, 0, none⟩ = some (.string (repS mx out x0))) := Lib.hid ((b4.cell (p := ⟨g, 0, none⟩) (World.block_lt_of_cell? w3 ⟨g, 0, none⟩ hcell)).trans hcell)
  have HC41 : Hid (w4.cell? ⟨g, 1, none⟩ = some (.string (repS mx out x1))) := Lib.hid ((b4.cell (p := ⟨g, 1, none⟩) (World.block_lt_of_cell? w3 ⟨g, 1, none⟩ hcell1)).trans hcell1)
  have HC42 : Hid (w4.cell? ⟨g, 2, none⟩ = some (.string (repS mx out x2))) := Lib.hid ((b4.cell (p := ⟨g, 2, none⟩) (World.block_lt_of_cell? w3 ⟨g, 2, none⟩ hcell2)).trans hcell2)
  have HS4 : Hid (w4.cell? ⟨sb, 0, none⟩ = some (.slice (some ⟨g, 0, none⟩) 3 cap)) := Lib.hid (g4.cellAt (i := 0) rfl)
  have HG4 : Hid (w4.cell? ⟨G, 0, none⟩ = some (.int .u8 4)) := Lib.hid (((G2.out.below hb3 G2.out.lt).below b4 (Nat.lt_of_lt_of_le G2.out.lt hb3.size)).cellAt (i := 0) rfl)
  have HSB := Lib.hid hsb
  have HW4 := Lib.hid hw4
  obtain ⟨v0, hv0⟩ : ∃ v0, v0 = w4.drew := ⟨_, rfl⟩
  have hbv : Below w4.heap.size w4 v0 := by rw [hv0]; exact (Below.refl _ _).drew
  have BV : Hid (Below w.heap.size w v0) := Lib.hid (B4.out.trans (hbv.mono B4.out.size))
  have HV0 := Lib.hid hv0
  have SV : Hid (StS sb g cap mx out x0 x1 x2 w4.drew) := Lib.hid ⟨HS4.out, HC4.out, HC41.out, HC42.out⟩
  have hSv : Hid (StS sb g cap mx out x0 x1 x2 v0) := Lib.hid (by rw [hv0]; exact SV.out)
  have HPG : Hid (sb ≠ pb ∧ g ≠ pb) := Lib.hid ⟨by have := HP.out.lt; have := B2.out.size; have := hb3.size; omega, by have := (hown.lt g rfl).1; have := HP.out.lt; have := B2.out.size; omega⟩
  have HSL : Hid (sb < v0.heap.size ∧ g < v0.heap.size) := Lib.hid ⟨World.block_lt_of_cell? v0 ⟨sb, 0, none⟩ hSv.out.1, World.block_lt_of_cell? v0 ⟨g, 0, none⟩ hSv.out.2.1⟩
  obtain ⟨R, hR⟩ : ∃ R, R = tkF t (repS mx out x0) (repS mx out x1) (repS mx out x2) il := ⟨_, rfl⟩
  have HCH := Lib.hid (take_rc v0 pb n mx mi ni ci ai cs t out (repS mx out x0) (repS mx out x1) (repS mx out x2) il (HP.out.below BV.out HP.out.lt) (IsT.later BV.out _ _ _ HT.out) (HIN.out.later BV.out) HNI.out HSI.out (HM.out.below BV.out HMX.out) (Nat.lt_of_lt_of_le HMX.out BV.out.size))
  rw [← hR] at HCH
  have HRR := Lib.hid hR
  clear hv0 hbv hR
  have hmf : ∀ (fn : Fn) (first cap : Array Value) (w : World), (Instr.makeFunc fn first cap).run Tryz.prog w = .ok (.func fn first cap) w := fun _ _ _ _ => rfl
  clear hown hnil hcell hcell1 hcell2 b4 g4 hsb hw4 hb3 HFI hc1
  go_upto_region 4 with fail
  rw [← HSB.out, ← HW4.out]
  clear HW4
  have y0 := HG4.out
  have y1 := HS4.out
  have y2 := HC4.out
  have y3 := HC41.out
  have y4 := HC42.out
  go_upto_region 12 with fail
  clear y0 y1 y2 y3 y4
  refine wp_region_held_drew (S := StS sb g cap mx out x0 x1 x2) (by kernel_rfl) SV.out (fun hHeld => ?_)
  rw [← HV0.out] at hHeld ⊢
  refine wpAnyH_take (i := 0) (v := .pointer (some ⟨pb, 0, none⟩)) rfl (by kernel_rfl) (by kernel_rfl) (by kernel_rfl) (fun _ _ _ h => h)
    (Or.inl ⟨by rfl, by intro w hSw;  clear hSw; go_simp⟩) hHeld ?_
  refine wpAnyH_take (i := 1) (v := .slice (some ⟨g, 0, none⟩) 3 cap) rfl (by kernel_rfl) (by kernel_rfl) (by kernel_rfl) (fun _ _ _ h => h)
    (Or.inl ⟨by rfl, by intro w hSw; have hq := hSw.1; clear hSw; go_simp⟩) hHeld ?_
  refine wpAnyH_take (i := 2) (v := .pointer (some ⟨g, 0, none⟩)) rfl (by kernel_rfl) (by kernel_rfl) (by kernel_rfl) (fun _ _ _ h => h)
    (Or.inl ⟨by rfl, by intro w hSw;  clear hSw; go_simp⟩) hHeld ?_
  refine wpAnyH_take (i := 3) (v := .string (repS mx out x0)) rfl (by kernel_rfl) (by kernel_rfl) (by kernel_rfl) (fun _ _ _ h => h)
    (Or.inl ⟨by rfl, by intro w hSw; have hq := hSw.2.1; clear hSw; go_simp⟩) hHeld ?_
  refine wpAnyH_take (i := 4) (v := .slice (some ⟨g, 0, none⟩) 3 cap) rfl (by kernel_rfl) (by kernel_rfl) (by kernel_rfl) (fun _ _ _ h => h)
    (Or.inl ⟨by rfl, by intro w hSw; have hq := hSw.1; clear hSw; go_simp⟩) hHeld ?_
  refine wpAnyH_take (i := 5) (v := .pointer (some ⟨g, 1, none⟩)) rfl (by kernel_rfl) (by kernel_rfl) (by kernel_rfl) (fun _ _ _ h => h)
    (Or.inl ⟨by rfl, by intro w hSw;  clear hSw; go_simp⟩) hHeld ?_
  refine wpAnyH_take (i := 6) (v := .string (repS mx out x1)) rfl (by kernel_rfl) (by kernel_rfl) (by kernel_rfl) (fun _ _ _ h => h)
    (Or.inl ⟨by rfl, by intro w hSw; have hq := hSw.2.2.1; clear hSw; go_simp⟩) hHeld ?_
  refine wpAnyH_take (i := 7) (v := .slice (some ⟨g, 0, none⟩) 3 cap) rfl (by kernel_rfl) (by kernel_rfl) (by kernel_rfl) (fun _ _ _ h => h)
    (Or.inl ⟨by rfl, by intro w hSw; have hq := hSw.1; clear hSw; go_simp⟩) hHeld ?_
  refine wpAnyH_take (i := 8) (v := .pointer (some ⟨g, 2, none⟩)) rfl (by kernel_rfl) (by kernel_rfl) (by kernel_rfl) (fun _ _ _ h => h)
    (Or.inl ⟨by rfl, by intro w hSw;  clear hSw; go_simp⟩) hHeld ?_
  refine wpAnyH_take (i := 9) (v := .string (repS mx out x2)) rfl (by kernel_rfl) (by kernel_rfl) (by kernel_rfl) (fun _ _ _ h => h)
    (Or.inl ⟨by rfl, by intro w hSw; have hq := hSw.2.2.2; clear hSw; go_simp⟩) hHeld ?_
  refine wpAnyH_ready (rs := [10]) (by kernel_rfl) (by simp) ?_
  refine AllReadyH.cons rfl (fun K hK => ?_) AllReadyH.nil
  go_simp
  refine HCH.out.mono ?_
  intro e w5 hq
  obtain ⟨cs', rfl, h5', hp, hf, ho⟩ := hq
  have SN : StS sb g cap mx out x0 x1 x2 w5 := stS_fr hSv.out hf HPG.out.1 HPG.out.2 HSL.out.1 HSL.out.2
  go_simp
  refine hK.out _ _ SN (fun hHw1 => ?_)
  clear hK K SN hHeld
  refine wpAnyH_take (i := 11) (v := .int .i64 R.1) rfl (by kernel_rfl) (by kernel_rfl) (by kernel_rfl) (fun _ _ _ h => h)
    (Or.inl ⟨by rfl, by intro w hSw;  clear hSw; go_simp⟩) hHw1 ?_
  refine wpAnyH_done (by kernel_rfl) ?_ _
  clear hHw1
  go_wp2_with fail
  refine bodyPost_ret (results_tmp rfl _ _ _) rfl ?_
  rw [← HRR.out]
  exact ⟨cs', rfl, h5', hp, (Fr.of_below (S := [pb]) BV.out).trans hf (fun g hg _ => hg), ho⟩
end Go.Proofs.YtlccdenafnekjaaGreatDoor
namespace Go.Proofs.YtlccdenafnekjaaGreatDoor
open Go.RowKit
set_option linter.unusedVariables false

theorem findT_fm : ∀ (l : List ByteArray) (t x : T), findT l t = .inr x → fmA t → fmA x ∧ bytesT x ≤ bytesT t
  | [], t, x, h, hs => by rw [findT] at h; cases h; exact ⟨hs, Nat.le_refl _⟩
  | nm :: r, .mk k e d ns ks, x, h, hs => by
    rw [findT] at h
    split at h
    · cases h
    · split at h
      · cases h
      · rename_i h1 h2
        have hj : (Lib.idxOfS ns nm).toNat < ks.length := by omega
        have h4 := findT_fm r _ x h (fmL_getD ((fmA_mk k e d ns ks).1 hs).2 hj)
        have h3 := bytesL_kid hj
        rw [bytesT_mk]
        exact ⟨h4.1, by omega⟩
theorem file_at {t : T} (ht : (sizeT t).isSome = true) (p : List UInt8) (y : T) (h : atT p t = .inr y) (hk : kindT y = 1) : ∃ x d, y = .mk 1 x d [] [] ∧ d.length ≤ 65536 := by
  obtain ⟨h1, h2, h3, h4⟩ := sizeT_get ht
  have hb := ((sizeT_iff t _ _).1 h1).2.2.2.1
  have hf : fmA y ∧ bytesT y ≤ bytesT t := by
    unfold atT at h
    split at h
    · exact findT_fm _ _ _ h h2
    · cases h
  obtain ⟨k, x, d, ns, ks⟩ := y
  have hk1 : k = 1 := hk
  subst hk1
  have hfo := ((fmA_mk _ _ _ _ _).1 hf.1).1
  rw [formedT_other (by decide)] at hfo
  simp only [Bool.and_eq_true, List.isEmpty_iff] at hfo
  obtain ⟨⟨rfl, rfl⟩, _⟩ := hfo
  have h5 := hf.2
  rw [bytesT_mk] at h5
  exact ⟨x, d, rfl, by omega⟩
/-- A file, or a link. -/
def fileT (k : UInt8) (s : ByteArray) : T := .mk k false s.data.toList [] []
/-- What stands at a path then: the error's number, the tree. -/
def putF (t : T) (p : ByteArray) (y : T) : Int × T := (((runE t [putX p y]).1 : Int), (runE t [putX p y]).2.1)
def mkF (t : T) (p : ByteArray) : Int × T := (((runE t [mkX p]).1 : Int), (runE t [mkX p]).2.1)
theorem run_ok {t : T} {l : List EdD} (h : (((runE t l).1 : Nat) : Int) = 0) : (sizeT (runE t l).2.1).isSome = true := (run_small (Int.ofNat.inj h)).2
theorem put_ok {t : T} {p : ByteArray} {y : T} (h : (putF t p y).1 = 0) : (sizeT (putF t p y).2).isSome = true := run_ok h
theorem mk_ok {t : T} {p : ByteArray} (h : (mkF t p).1 = 0) : (sizeT (mkF t p).2).isSome = true := run_ok h
theorem ch_ok {t : T} {p : ByteArray} {code : T → Int} {g : T → T} (h : (chF t p code g).1 = 0) : (sizeT (chF t p code g).2).isSome = true := by
  unfold chF at h ⊢
  cases hr : atT p.data.toList t with
  | inl c =>
    rw [hr] at h
    have := atT_code hr
    have h0 : c = 0 := h
    omega
  | inr y =>
    rw [hr] at h
    dsimp only at h ⊢
    by_cases h1 : kindT y ≠ 1
    · rw [if_pos h1] at h; cases h
    · rw [if_neg h1] at h ⊢
      by_cases h2 : code y ≠ 0
      · rw [if_pos h2] at h; exact absurd h h2
      · rw [if_neg h2] at h ⊢; exact run_ok h
theorem tk_ok {t : T} {a b c : ByteArray} : ∀ {l : List (ByteArray × T)}, (tkF t a b c l).1 = 0 → (sizeT (tkF t a b c l).2).isSome = true
  | [], h => by cases h
  | (p, y) :: r, h => by
    unfold tkF at h ⊢
    by_cases h1 : p = a
    · rw [if_pos h1] at h ⊢
      cases hr : atT b.data.toList y with
      | inl c =>
        rw [hr] at h
        have := atT_code hr
        have h0 : c = 0 := h
        omega
      | inr z => rw [hr] at h; exact run_ok h
    · rw [if_neg h1] at h ⊢; exact tk_ok h
/-! A step, but for swap's two functions. -/
structure SwF where
  code : ByteArray → ByteArray → T → Int
  made : ByteArray → ByteArray → T → T
abbrev StD := Nat × List (List UInt8)
def stF (sw : SwF) (mx : Nat) (out : ByteArray) (il : List (ByteArray × T)) (t : T) (s : StD) : Int × T :=
  if okF s.1 s.2.length = false then (3, t) else
  let a := fun i => repS mx out (s.2.getD i [])
  match s.1 with
  | 1 => mkF t (a 0)
  | 2 => putF t (a 0) (fileT 1 (a 1))
  | 3 => chF t (a 0) (fun _ => 0) (appT (a 1))
  | 4 => tkF t (a 0) (a 1) (a 2) il
  | 5 => putF t (a 0) (fileT 2 (a 1))
  | 6 => chF t (a 0) (fun _ => 0) execT
  | 7 => chF t (a 0) (sw.code (a 1) (a 2)) (sw.made (a 1) (a 2))
  | _ => (12, t)
theorem st_ok {sw : SwF} {mx : Nat} {out : ByteArray} {il : List (ByteArray × T)} {t : T} {s : StD} (h : (stF sw mx out il t s).1 = 0) : (sizeT (stF sw mx out il t s).2).isSome = true := by
  obtain ⟨k, l⟩ := s
  unfold stF at h ⊢
  dsimp only at h ⊢
  by_cases h1 : okF k l.length = false
  · rw [if_pos h1] at h; cases h
  · rw [if_neg h1] at h ⊢
    split at h
    · exact mk_ok h
    · exact put_ok h
    · exact ch_ok h
    · exact tk_ok h
    · exact put_ok h
    · exact ch_ok h
    · exact ch_ok h
    · cases h
/-- Steps: the error's number, how many were done, the tree. -/
def rnF (sw : SwF) (mx : Nat) (out : ByteArray) (il : List (ByteArray × T)) : List StD → Nat → T → Int × Nat × T
  | [], i, t => (0, i, t)
  | s :: r, i, t => if (stF sw mx out il t s).1 = 0 then rnF sw mx out il r (i + 1) (stF sw mx out il t s).2 else ((stF sw mx out il t s).1, i, zeroT)
end Go.Proofs.YtlccdenafnekjaaGreatDoor
namespace Go.Proofs.YtlccdenafnekjaaGreatDoor
open Go.RowKit
set_option linter.unusedVariables false
set_option maxRecDepth 100000

/-- The bytes of a string that is no constant. -/
theorem cv_isB (w : World) (s : ByteArray) (h : s.size ≤ 900000000) : IsB (Lib.bytesWorld w 5 s) (some ⟨w.heap.size, 0, none⟩) s.size (grownCap w s.size 0 5) s.data.toList := by
  refine ⟨by simp, .inr ⟨_, 0, rfl, by rw [Lib.bytesWorld_size]; omega, fun i hi => ?_⟩, (fun e => by cases e), ⟨grownCap_ge _ _ _ _, grownCap_le_maxLen _ _ _ _ (by unfold maxLen; omega)⟩, by omega⟩
  rw [Nat.zero_add]
  exact Lib.bytesWorld_cell w 5 s i hi
theorem cv_below (w : World) (s : ByteArray) : Below w.heap.size w (Lib.bytesWorld w 5 s) :=
  have hb := Below.refl w.heap.size w
  ⟨hb.os, hb.tape, hb.output, by rw [Lib.bytesWorld_size]; omega, fun k hk => (Lib.bytesWorld_at_old w _ s k (by omega)).trans (hb.block k hk)⟩
/-- What stands while two words are read. -/
def StW (sb g cap mx : Nat) (out : ByteArray) (x0 x1 : List UInt8) (v : World) : Prop := v.cell? ⟨sb, 0, none⟩ = some (.slice (some ⟨g, 0, none⟩) 2 cap) ∧ v.cell? ⟨g, 0, none⟩ = some (.string (repS mx out x0)) ∧ v.cell? ⟨g, 1, none⟩ = some (.string (repS mx out x1))
theorem stW_fr {sb g cap mx pb : Nat} {out : ByteArray} {x0 x1 : List UInt8} {v v' : World} (h : StW sb g cap mx out x0 x1 v) (hf : Fr [pb] v v') (h1 : sb ≠ pb) (h2 : g ≠ pb) (l1 : sb < v.heap.size) (l2 : g < v.heap.size) : StW sb g cap mx out x0 x1 v' := by
  have e1 : ∀ i, v'.cell? ⟨sb, i, none⟩ = v.cell? ⟨sb, i, none⟩ := fun i => World.cell?_of_block (w := v) (a := ⟨sb, i, none⟩) (hf.block sb l1 (by simpa using h1))
  have e2 : ∀ i, v'.cell? ⟨g, i, none⟩ = v.cell? ⟨g, i, none⟩ := fun i => World.cell?_of_block (w := v) (a := ⟨g, i, none⟩) (hf.block g l2 (by simpa using h2))
  exact ⟨(e1 0).trans h.1, (e2 0).trans h.2.1, (e2 1).trans h.2.2⟩
theorem stW_below {sb g cap mx : Nat} {out : ByteArray} {x0 x1 : List UInt8} {v v' : World} (h : StW sb g cap mx out x0 x1 v) (hb : Below v.heap.size v v') (l1 : sb < v.heap.size) (l2 : g < v.heap.size) : StW sb g cap mx out x0 x1 v' :=
  ⟨(hb.cell (p := ⟨sb, 0, none⟩) l1).trans h.1, (hb.cell (p := ⟨g, 0, none⟩) l2).trans h.2.1, (hb.cell (p := ⟨g, 1, none⟩) l2).trans h.2.2⟩
set_option maxHeartbeats 20000000 in
theorem step_write (w : World) (pb mx n b off c : Nat) (cs : List Value) (t : T) (out : ByteArray) (iv : Value) (x0 x1 : List UInt8) (h : Has w pb (blC cs out iv mx) 71) (ht : IsT w n cs t)
    (hw : WdS w b off 2 c [x0, x1]) (hx : WB x0 ∧ WB x1) (hx1 : (repS mx out x1).size ≤ 900000000) (hM : mx ≤ 1125899906842624) (ho : out.size ≤ 1000000) (hL : LaidR w) (hm : MaxW w) (hmx : 1 < w.heap.size) :
    Calls Tryz.prog 32 #[.pointer (some ⟨pb, 0, none⟩), .agg #[.int .u8 2, .slice (some ⟨b, off, none⟩) 2 c]] w (ChP pb out iv mx (putF t (repS mx out x0) (fileT 1 (repS mx out x1))) w) := by
  have h5 := isT_five ht
  obtain ⟨G, hG⟩ : ∃ G, G = w.heap.size := ⟨_, rfl⟩
  obtain ⟨w1, hw1⟩ : ∃ w1, w1 = w.alloc (.cells #[.int .u8 2, .slice (some ⟨b, off, none⟩) 2 c] 49) := ⟨_, rfl⟩
  have b1 : Below w.heap.size w w1 := by rw [hw1]; exact (Below.refl _ _).alloc (Nat.le_refl _) _
  have g1 : Has w1 G [.int .u8 2, .slice (some ⟨b, off, none⟩) 2 c] 49 := by rw [hw1, hG]; exact Has.new w [.int .u8 2, .slice (some ⟨b, off, none⟩) 2 c] _
  have HF := Lib.hid (stepok_any w1 2 2 (some ⟨b, off, none⟩) c (by decide) (hL.later b1))
  rw [show okF 2 2 = true by decide] at HF
  have HP := Lib.hid h
  have H5 := Lib.hid h5
  have HT := Lib.hid ht
  have HWD := Lib.hid hw
  have HXL := Lib.hid hx
  have HX1 := Lib.hid hx1
  have HMM := Lib.hid hM
  have HOO := Lib.hid ho
  have HM := Lib.hid hm
  have HMX := Lib.hid hmx
  have HW1 := Lib.hid hw1
  have HG := Lib.hid hG
  have B1 := Lib.hid b1
  have G1 := Lib.hid g1
  clear h h5 ht hw hx hx1 hM ho hL hm hmx hG hw1 b1 g1
  go_enter Tryz.func32, Tryz.ntmps32
  go_upto_region 1 with fail
  rw [← HW1.out, ← HG.out]
  clear HW1
  go_wp2_with (refine wpList_load_row rfl 49 _ rfl G rfl 49 #[.int .u8 2, .slice (some ⟨b, off, none⟩) 2 c] (0, 0) _ (show _ from G1.out) Tryz.underlying49 rfl info_stp ?_)
  refine HF.out.mono ?_
  rintro e w2 ⟨rfl, hb⟩
  have G2 : Hid (Has w2 G [.int .u8 2, .slice (some ⟨b, off, none⟩) 2 c] 49) := Lib.hid (G1.out.below hb G1.out.lt)
  have B2 : Hid (Below w.heap.size w w2) := Lib.hid (B1.out.trans (hb.mono B1.out.size))
  have hc1 : w2.cell? ⟨G, 1, none⟩ = some (.slice (some ⟨b, off, none⟩) 2 c) := G2.out.cellAt (i := 1) rfl
  have HFI := Lib.hid (filled_any w2 pb mx out b off 2 c [x0, x1] (HWD.out.later B2.out) (by decide) (fun y hy => by
      rcases List.mem_cons.1 hy with h1 | h1
      · rw [h1]; exact HXL.out.1
      · rw [List.mem_singleton.1 h1]; exact HXL.out.2) (HM.out.below B2.out HMX.out) HMM.out HOO.out
    ((HP.out.below B2.out HP.out.lt).cellAt (i := 5) (by obtain ⟨c0, c1, c2, c3, c4, hc⟩ := five_list H5.out; rw [hc]; rfl)) ((HP.out.below B2.out HP.out.lt).cellAt (i := 7) (by obtain ⟨c0, c1, c2, c3, c4, hc⟩ := five_list H5.out; rw [hc]; rfl)))
  clear hb
  go_wp2_with fail
  refine HFI.out.mono ?_
  intro e w3 hq
  obtain ⟨u, rfl, hown, hb3⟩ := hq
  have hnil : u ≠ .slice none 0 0 := fun e => by
    have h1 := hown.2
    rcases h1 with ⟨_, h0⟩ | ⟨g, cap, cur, e2, _⟩
    · omega
    · rw [e] at e2; cases e2
  obtain ⟨g, cap, rfl⟩ : ∃ g cap, u = .slice (some ⟨g, 0, none⟩) 2 cap := by
    rcases hown.2 with ⟨e, _⟩ | ⟨g, cap, cur, e2, _⟩
    · exact absurd e hnil
    · exact ⟨g, cap, e2⟩
  have hcell : w3.cell? ⟨g, 0, none⟩ = some (.string (repS mx out x0)) := by
    have := hown.cells (g := g) rfl 0 (.string (repS mx out x0)) rfl
    rw [Addr.add_lit] at this
    exact this
  have hcell1 : w3.cell? ⟨g, 1, none⟩ = some (.string (repS mx out x1)) := by
    have := hown.cells (g := g) rfl 1 (.string (repS mx out x1)) rfl
    rw [Addr.add_lit] at this
    exact this
  obtain ⟨sb, hsb⟩ : ∃ sb, sb = w3.heap.size := ⟨_, rfl⟩
  obtain ⟨w4, hw4⟩ : ∃ w4, w4 = w3.alloc (.cells #[.slice (some ⟨g, 0, none⟩) 2 cap] 34) := ⟨_, rfl⟩
  have b4 : Below w3.heap.size w3 w4 := by rw [hw4]; exact (Below.refl _ _).alloc (Nat.le_refl _) _
  have g4 : Has w4 sb [.slice (some ⟨g, 0, none⟩) 2 cap] 34 := by rw [hw4, hsb]; exact Has.new w3 [.slice (some ⟨g, 0, none⟩) 2 cap] _
  have B4 : Hid (Below w.heap.size w w4) := Lib.hid (B2.out.trans ((hb3.trans (b4.mono hb3.size)).mono B2.out.size))
  have HC4 : Hid (w4.cell? ⟨g, 0, none⟩ = some (.string (repS mx out x0))) := Lib.hid ((b4.cell (p := ⟨g, 0, none⟩) (World.block_lt_of_cell? w3 ⟨g, 0, none⟩ hcell)).trans hcell)
  have HC41 : Hid (w4.cell? ⟨g, 1, none⟩ = some (.string (repS mx out x1))) := Lib.hid ((b4.cell (p := ⟨g, 1, none⟩) (World.block_lt_of_cell? w3 ⟨g, 1, none⟩ hcell1)).trans hcell1)
  have HS4 : Hid (w4.cell? ⟨sb, 0, none⟩ = some (.slice (some ⟨g, 0, none⟩) 2 cap)) := Lib.hid (g4.cellAt (i := 0) rfl)
  have HG4 : Hid (w4.cell? ⟨G, 0, none⟩ = some (.int .u8 2)) := Lib.hid (((G2.out.below hb3 G2.out.lt).below b4 (Nat.lt_of_lt_of_le G2.out.lt hb3.size)).cellAt (i := 0) rfl)
  have HSB := Lib.hid hsb
  have HW4 := Lib.hid hw4
  obtain ⟨v0, hv0⟩ : ∃ v0, v0 = w4.drew := ⟨_, rfl⟩
  have hbv : Below w4.heap.size w4 v0 := by rw [hv0]; exact (Below.refl _ _).drew
  have BV : Hid (Below w.heap.size w v0) := Lib.hid (B4.out.trans (hbv.mono B4.out.size))
  have HV0 := Lib.hid hv0
  have SV : Hid (StW sb g cap mx out x0 x1 w4.drew) := Lib.hid ⟨HS4.out, HC4.out, HC41.out⟩
  have hSv : Hid (StW sb g cap mx out x0 x1 v0) := Lib.hid (by rw [hv0]; exact SV.out)
  have HPG : Hid (sb ≠ pb ∧ g ≠ pb) := Lib.hid ⟨by have := HP.out.lt; have := B2.out.size; have := hb3.size; omega, by have := (hown.lt g rfl).1; have := HP.out.lt; have := B2.out.size; omega⟩
  have HSL : Hid (sb < v0.heap.size ∧ g < v0.heap.size) := Lib.hid ⟨World.block_lt_of_cell? v0 ⟨sb, 0, none⟩ hSv.out.1, World.block_lt_of_cell? v0 ⟨g, 0, none⟩ hSv.out.2.1⟩
  obtain ⟨X, hX⟩ : ∃ X, X = repS mx out x1 := ⟨_, rfl⟩
  have HXX := Lib.hid hX
  have hcv : ∀ (S : ByteArray) (W : World), (convert 9 33 (.string S)).run Tryz.prog W = .ok (.slice (some ⟨W.heap.size, 0, none⟩) S.size (grownCap W S.size 0 5)) (Lib.bytesWorld W 5 S) := fun S W =>
    Lib.run_convert_string_bytes W _ _ _ S Tryz.underlying9 Tryz.underlying33 Tryz.underlying5
  have HCV := Lib.hid hcv
  obtain ⟨v1, hv1⟩ : ∃ v1, v1 = Lib.bytesWorld v0 5 X := ⟨_, rfl⟩
  obtain ⟨gb, hgb⟩ : ∃ gb, gb = v0.heap.size := ⟨_, rfl⟩
  obtain ⟨cb, hcb⟩ : ∃ cb, cb = grownCap v0 X.size 0 5 := ⟨_, rfl⟩
  have hIB := cv_isB v0 X (by rw [hX]; exact HX1.out)
  rw [← hgb, ← hcb, ← hv1] at hIB
  have hb1 : Below v0.heap.size v0 v1 := by rw [hv1]; exact cv_below v0 X
  have SN : Hid (StW sb g cap mx out x0 x1 v1) := Lib.hid (stW_below hSv.out hb1 HSL.out.1 HSL.out.2)
  have BV1 : Hid (Below w.heap.size w v1) := Lib.hid (BV.out.trans (hb1.mono BV.out.size))
  have HIT : Hid (IsT v1 1 [.int .u8 1, .bool false, .slice (some ⟨gb, 0, none⟩) X.size cb, .slice none 0 0, .slice none 0 0] (fileT 1 X)) := Lib.hid ⟨_, _, _, _, _, _, _, _, _, rfl, hIB, isS_none v1, isK_none _ v1⟩
  have HV1 := Lib.hid hv1
  have HGB := Lib.hid hgb
  have HCB := Lib.hid hcb
  obtain ⟨R, hR⟩ : ∃ R, R = putF t (repS mx out x0) (fileT 1 X) := ⟨_, rfl⟩
  have HCH : Hid (Calls Tryz.prog 45 #[.pointer (some ⟨pb, 0, none⟩), .string (repS mx out x0), .agg #[.int .u8 1, .bool false, .slice (some ⟨gb, 0, none⟩) X.size cb, .slice none 0 0, .slice none 0 0]] v1 (ChP pb out iv mx R v1)) := Lib.hid (by
    rw [hR]
    refine (put_rc v1 pb n 1 mx cs [.int .u8 1, .bool false, .slice (some ⟨gb, 0, none⟩) X.size cb, .slice none 0 0, .slice none 0 0] t (fileT 1 X) out iv (repS mx out x0) (HP.out.below BV1.out HP.out.lt) (IsT.later BV1.out _ _ _ HT.out) HIT.out (HM.out.below BV1.out HMX.out) (Nat.lt_of_lt_of_le HMX.out BV1.out.size)).mono ?_
    rintro e w5 ⟨cs', he, h5', hp, hf, ho⟩
    exact ⟨cs', he, h5', hp, hf, fun h0 => ho (Int.ofNat.inj h0)⟩)
  have HRR := Lib.hid hR
  clear hv0 hbv hR hv1 hgb hcb hIB hb1 hX
  have hmf : ∀ (fn : Fn) (first cap : Array Value) (w : World), (Instr.makeFunc fn first cap).run Tryz.prog w = .ok (.func fn first cap) w := fun _ _ _ _ => rfl
  clear hown hnil hcell hcell1 b4 g4 hsb hw4 hb3 HFI hc1 hcv
  go_upto_region 4 with fail
  rw [← HSB.out, ← HW4.out]
  clear HW4
  have y0 := HG4.out
  have y1 := HS4.out
  have y2 := HC4.out
  have y3 := HC41.out
  go_upto_region 8 with fail
  clear y0 y1 y2 y3
  refine wp_region_held_drew (S := StW sb g cap mx out x0 x1) (by kernel_rfl) SV.out (fun hHeld => ?_)
  rw [← HV0.out] at hHeld ⊢
  refine wpAnyH_take (i := 0) (v := .pointer (some ⟨pb, 0, none⟩)) rfl (by kernel_rfl) (by kernel_rfl) (by kernel_rfl) (fun _ _ _ h => h)
    (Or.inl ⟨by rfl, by intro w hSw;  clear hSw; go_simp⟩) hHeld ?_
  refine wpAnyH_take (i := 1) (v := .slice (some ⟨g, 0, none⟩) 2 cap) rfl (by kernel_rfl) (by kernel_rfl) (by kernel_rfl) (fun _ _ _ h => h)
    (Or.inl ⟨by rfl, by intro w hSw; have hq := hSw.1; clear hSw; go_simp⟩) hHeld ?_
  refine wpAnyH_take (i := 2) (v := .pointer (some ⟨g, 0, none⟩)) rfl (by kernel_rfl) (by kernel_rfl) (by kernel_rfl) (fun _ _ _ h => h)
    (Or.inl ⟨by rfl, by intro w hSw;  clear hSw; go_simp⟩) hHeld ?_
  refine wpAnyH_take (i := 3) (v := .string (repS mx out x0)) rfl (by kernel_rfl) (by kernel_rfl) (by kernel_rfl) (fun _ _ _ h => h)
    (Or.inl ⟨by rfl, by intro w hSw; have hq := hSw.2.1; clear hSw; go_simp⟩) hHeld ?_
  refine wpAnyH_take (i := 4) (v := .slice (some ⟨g, 0, none⟩) 2 cap) rfl (by kernel_rfl) (by kernel_rfl) (by kernel_rfl) (fun _ _ _ h => h)
    (Or.inl ⟨by rfl, by intro w hSw; have hq := hSw.1; clear hSw; go_simp⟩) hHeld ?_
  refine wpAnyH_take (i := 5) (v := .pointer (some ⟨g, 1, none⟩)) rfl (by kernel_rfl) (by kernel_rfl) (by kernel_rfl) (fun _ _ _ h => h)
    (Or.inl ⟨by rfl, by intro w hSw;  clear hSw; go_simp⟩) hHeld ?_
  refine wpAnyH_take (i := 6) (v := .string (repS mx out x1)) rfl (by kernel_rfl) (by kernel_rfl) (by kernel_rfl) (fun _ _ _ h => h)
    (Or.inl ⟨by rfl, by intro w hSw; have hq := hSw.2.2; clear hSw; go_simp⟩) hHeld ?_
  refine wpAnyH_ready (rs := [7]) (by kernel_rfl) (by simp) ?_
  refine AllReadyH.cons rfl (fun K hK => ?_) AllReadyH.nil
  rw [← HXX.out]
  have hcv := HCV.out X v0
  go_simp
  rw [← HV1.out, ← HGB.out, ← HCB.out]
  clear hcv
  refine hK.out _ _ SN.out (fun hHw1 => ?_)
  clear hK K hHeld
  refine wpAnyH_take (i := 8) (v := .agg #[.int .u8 1, .bool false, .slice (some ⟨gb, 0, none⟩) X.size cb, .slice none 0 0, .slice none 0 0]) rfl (by kernel_rfl) (by kernel_rfl) (by kernel_rfl) (fun _ _ _ h => h)
    (Or.inl ⟨by rfl, by intro w hSw;  clear hSw; go_simp⟩) hHw1 ?_
  refine wpAnyH_ready (rs := [9]) (by kernel_rfl) (by simp) ?_
  refine AllReadyH.cons rfl (fun K hK => ?_) AllReadyH.nil
  go_simp
  refine HCH.out.mono ?_
  intro e w5 hq
  obtain ⟨cs', rfl, h5', hp, hf, ho⟩ := hq
  have SN5 : StW sb g cap mx out x0 x1 w5 := stW_fr SN.out hf HPG.out.1 HPG.out.2 (Nat.lt_of_lt_of_le HSL.out.1 (by rw [HV1.out]; rw [Lib.bytesWorld_size]; omega)) (Nat.lt_of_lt_of_le HSL.out.2 (by rw [HV1.out]; rw [Lib.bytesWorld_size]; omega))
  go_simp
  refine hK.out _ _ SN5 (fun hHw2 => ?_)
  clear hK K SN5 hHw1
  refine wpAnyH_take (i := 10) (v := .int .i64 R.1) rfl (by kernel_rfl) (by kernel_rfl) (by kernel_rfl) (fun _ _ _ h => h)
    (Or.inl ⟨by rfl, by intro w hSw;  clear hSw; go_simp⟩) hHw2 ?_
  refine wpAnyH_done (by kernel_rfl) ?_ _
  clear hHw2
  go_wp2_with fail
  refine bodyPost_ret (results_tmp rfl _ _ _) rfl ?_
  rw [← HXX.out, ← HRR.out]
  exact ⟨cs', rfl, h5', hp, (Fr.of_below (S := [pb]) BV1.out).trans hf (fun g hg _ => hg), ho⟩
set_option maxHeartbeats 20000000 in
theorem step_link (w : World) (pb mx n b off c : Nat) (cs : List Value) (t : T) (out : ByteArray) (iv : Value) (x0 x1 : List UInt8) (h : Has w pb (blC cs out iv mx) 71) (ht : IsT w n cs t)
    (hw : WdS w b off 2 c [x0, x1]) (hx : WB x0 ∧ WB x1) (hx1 : (repS mx out x1).size ≤ 900000000) (hM : mx ≤ 1125899906842624) (ho : out.size ≤ 1000000) (hL : LaidR w) (hm : MaxW w) (hmx : 1 < w.heap.size) :
    Calls Tryz.prog 32 #[.pointer (some ⟨pb, 0, none⟩), .agg #[.int .u8 5, .slice (some ⟨b, off, none⟩) 2 c]] w (ChP pb out iv mx (putF t (repS mx out x0) (fileT 2 (repS mx out x1))) w) := by
  have h5 := isT_five ht
  obtain ⟨G, hG⟩ : ∃ G, G = w.heap.size := ⟨_, rfl⟩
  obtain ⟨w1, hw1⟩ : ∃ w1, w1 = w.alloc (.cells #[.int .u8 5, .slice (some ⟨b, off, none⟩) 2 c] 49) := ⟨_, rfl⟩
  have b1 : Below w.heap.size w w1 := by rw [hw1]; exact (Below.refl _ _).alloc (Nat.le_refl _) _
  have g1 : Has w1 G [.int .u8 5, .slice (some ⟨b, off, none⟩) 2 c] 49 := by rw [hw1, hG]; exact Has.new w [.int .u8 5, .slice (some ⟨b, off, none⟩) 2 c] _
  have HF := Lib.hid (stepok_any w1 5 2 (some ⟨b, off, none⟩) c (by decide) (hL.later b1))
  rw [show okF 5 2 = true by decide] at HF
  have HP := Lib.hid h
  have H5 := Lib.hid h5
  have HT := Lib.hid ht
  have HWD := Lib.hid hw
  have HXL := Lib.hid hx
  have HX1 := Lib.hid hx1
  have HMM := Lib.hid hM
  have HOO := Lib.hid ho
  have HM := Lib.hid hm
  have HMX := Lib.hid hmx
  have HW1 := Lib.hid hw1
  have HG := Lib.hid hG
  have B1 := Lib.hid b1
  have G1 := Lib.hid g1
  clear h h5 ht hw hx hx1 hM ho hL hm hmx hG hw1 b1 g1
  go_enter Tryz.func32, Tryz.ntmps32
  go_upto_region 1 with fail
  rw [← HW1.out, ← HG.out]
  clear HW1
  go_wp2_with (refine wpList_load_row rfl 49 _ rfl G rfl 49 #[.int .u8 5, .slice (some ⟨b, off, none⟩) 2 c] (0, 0) _ (show _ from G1.out) Tryz.underlying49 rfl info_stp ?_)
  refine HF.out.mono ?_
  rintro e w2 ⟨rfl, hb⟩
  have G2 : Hid (Has w2 G [.int .u8 5, .slice (some ⟨b, off, none⟩) 2 c] 49) := Lib.hid (G1.out.below hb G1.out.lt)
  have B2 : Hid (Below w.heap.size w w2) := Lib.hid (B1.out.trans (hb.mono B1.out.size))
  have hc1 : w2.cell? ⟨G, 1, none⟩ = some (.slice (some ⟨b, off, none⟩) 2 c) := G2.out.cellAt (i := 1) rfl
  have HFI := Lib.hid (filled_any w2 pb mx out b off 2 c [x0, x1] (HWD.out.later B2.out) (by decide) (fun y hy => by
      rcases List.mem_cons.1 hy with h1 | h1
      · rw [h1]; exact HXL.out.1
      · rw [List.mem_singleton.1 h1]; exact HXL.out.2) (HM.out.below B2.out HMX.out) HMM.out HOO.out
    ((HP.out.below B2.out HP.out.lt).cellAt (i := 5) (by obtain ⟨c0, c1, c2, c3, c4, hc⟩ := five_list H5.out; rw [hc]; rfl)) ((HP.out.below B2.out HP.out.lt).cellAt (i := 7) (by obtain ⟨c0, c1, c2, c3, c4, hc⟩ := five_list H5.out; rw [hc]; rfl)))
  clear hb
  go_wp2_with fail
  refine HFI.out.mono ?_
  intro e w3 hq
  obtain ⟨u, rfl, hown, hb3⟩ := hq
  have hnil : u ≠ .slice none 0 0 := fun e => by
    have h1 := hown.2
    rcases h1 with ⟨_, h0⟩ | ⟨g, cap, cur, e2, _⟩
    · omega
    · rw [e] at e2; cases e2
  obtain ⟨g, cap, rfl⟩ : ∃ g cap, u = .slice (some ⟨g, 0, none⟩) 2 cap := by
    rcases hown.2 with ⟨e, _⟩ | ⟨g, cap, cur, e2, _⟩
    · exact absurd e hnil
    · exact ⟨g, cap, e2⟩
  have hcell : w3.cell? ⟨g, 0, none⟩ = some (.string (repS mx out x0)) := by
    have := hown.cells (g := g) rfl 0 (.string (repS mx out x0)) rfl
    rw [Addr.add_lit] at this
    exact this
  have hcell1 : w3.cell? ⟨g, 1, none⟩ = some (.string (repS mx out x1)) := by
    have := hown.cells (g := g) rfl 1 (.string (repS mx out x1)) rfl
    rw [Addr.add_lit] at this
    exact this
  obtain ⟨sb, hsb⟩ : ∃ sb, sb = w3.heap.size := ⟨_, rfl⟩
  obtain ⟨w4, hw4⟩ : ∃ w4, w4 = w3.alloc (.cells #[.slice (some ⟨g, 0, none⟩) 2 cap] 34) := ⟨_, rfl⟩
  have b4 : Below w3.heap.size w3 w4 := by rw [hw4]; exact (Below.refl _ _).alloc (Nat.le_refl _) _
  have g4 : Has w4 sb [.slice (some ⟨g, 0, none⟩) 2 cap] 34 := by rw [hw4, hsb]; exact Has.new w3 [.slice (some ⟨g, 0, none⟩) 2 cap] _
  have B4 : Hid (Below w.heap.size w w4) := Lib.hid (B2.out.trans ((hb3.trans (b4.mono hb3.size)).mono B2.out.size))
  have HC4 : Hid (w4.cell? ⟨g, 0, none⟩ = some (.string (repS mx out x0))) := Lib.hid ((b4.cell (p := ⟨g, 0, none⟩) (World.block_lt_of_cell? w3 ⟨g, 0, none⟩ hcell)).trans hcell)
  have HC41 : Hid (w4.cell? ⟨g, 1, none⟩ = some (.string (repS mx out x1))) := Lib.hid ((b4.cell (p := ⟨g, 1, none⟩) (World.block_lt_of_cell? w3 ⟨g, 1, none⟩ hcell1)).trans hcell1)
  have HS4 : Hid (w4.cell? ⟨sb, 0, none⟩ = some (.slice (some ⟨g, 0, none⟩) 2 cap)) := Lib.hid (g4.cellAt (i := 0) rfl)
  have HG4 : Hid (w4.cell? ⟨G, 0, none⟩ = some (.int .u8 5)) := Lib.hid (((G2.out.below hb3 G2.out.lt).below b4 (Nat.lt_of_lt_of_le G2.out.lt hb3.size)).cellAt (i := 0) rfl)
  have HSB := Lib.hid hsb
  have HW4 := Lib.hid hw4
  obtain ⟨v0, hv0⟩ : ∃ v0, v0 = w4.drew := ⟨_, rfl⟩
  have hbv : Below w4.heap.size w4 v0 := by rw [hv0]; exact (Below.refl _ _).drew
  have BV : Hid (Below w.heap.size w v0) := Lib.hid (B4.out.trans (hbv.mono B4.out.size))
  have HV0 := Lib.hid hv0
  have SV : Hid (StW sb g cap mx out x0 x1 w4.drew) := Lib.hid ⟨HS4.out, HC4.out, HC41.out⟩
  have hSv : Hid (StW sb g cap mx out x0 x1 v0) := Lib.hid (by rw [hv0]; exact SV.out)
  have HPG : Hid (sb ≠ pb ∧ g ≠ pb) := Lib.hid ⟨by have := HP.out.lt; have := B2.out.size; have := hb3.size; omega, by have := (hown.lt g rfl).1; have := HP.out.lt; have := B2.out.size; omega⟩
  have HSL : Hid (sb < v0.heap.size ∧ g < v0.heap.size) := Lib.hid ⟨World.block_lt_of_cell? v0 ⟨sb, 0, none⟩ hSv.out.1, World.block_lt_of_cell? v0 ⟨g, 0, none⟩ hSv.out.2.1⟩
  obtain ⟨X, hX⟩ : ∃ X, X = repS mx out x1 := ⟨_, rfl⟩
  have HXX := Lib.hid hX
  have hcv : ∀ (S : ByteArray) (W : World), (convert 9 33 (.string S)).run Tryz.prog W = .ok (.slice (some ⟨W.heap.size, 0, none⟩) S.size (grownCap W S.size 0 5)) (Lib.bytesWorld W 5 S) := fun S W =>
    Lib.run_convert_string_bytes W _ _ _ S Tryz.underlying9 Tryz.underlying33 Tryz.underlying5
  have HCV := Lib.hid hcv
  obtain ⟨v1, hv1⟩ : ∃ v1, v1 = Lib.bytesWorld v0 5 X := ⟨_, rfl⟩
  obtain ⟨gb, hgb⟩ : ∃ gb, gb = v0.heap.size := ⟨_, rfl⟩
  obtain ⟨cb, hcb⟩ : ∃ cb, cb = grownCap v0 X.size 0 5 := ⟨_, rfl⟩
  have hIB := cv_isB v0 X (by rw [hX]; exact HX1.out)
  rw [← hgb, ← hcb, ← hv1] at hIB
  have hb1 : Below v0.heap.size v0 v1 := by rw [hv1]; exact cv_below v0 X
  have SN : Hid (StW sb g cap mx out x0 x1 v1) := Lib.hid (stW_below hSv.out hb1 HSL.out.1 HSL.out.2)
  have BV1 : Hid (Below w.heap.size w v1) := Lib.hid (BV.out.trans (hb1.mono BV.out.size))
  have HIT : Hid (IsT v1 1 [.int .u8 2, .bool false, .slice (some ⟨gb, 0, none⟩) X.size cb, .slice none 0 0, .slice none 0 0] (fileT 2 X)) := Lib.hid ⟨_, _, _, _, _, _, _, _, _, rfl, hIB, isS_none v1, isK_none _ v1⟩
  have HV1 := Lib.hid hv1
  have HGB := Lib.hid hgb
  have HCB := Lib.hid hcb
  obtain ⟨R, hR⟩ : ∃ R, R = putF t (repS mx out x0) (fileT 2 X) := ⟨_, rfl⟩
  have HCH : Hid (Calls Tryz.prog 45 #[.pointer (some ⟨pb, 0, none⟩), .string (repS mx out x0), .agg #[.int .u8 2, .bool false, .slice (some ⟨gb, 0, none⟩) X.size cb, .slice none 0 0, .slice none 0 0]] v1 (ChP pb out iv mx R v1)) := Lib.hid (by
    rw [hR]
    refine (put_rc v1 pb n 1 mx cs [.int .u8 2, .bool false, .slice (some ⟨gb, 0, none⟩) X.size cb, .slice none 0 0, .slice none 0 0] t (fileT 2 X) out iv (repS mx out x0) (HP.out.below BV1.out HP.out.lt) (IsT.later BV1.out _ _ _ HT.out) HIT.out (HM.out.below BV1.out HMX.out) (Nat.lt_of_lt_of_le HMX.out BV1.out.size)).mono ?_
    rintro e w5 ⟨cs', he, h5', hp, hf, ho⟩
    exact ⟨cs', he, h5', hp, hf, fun h0 => ho (Int.ofNat.inj h0)⟩)
  have HRR := Lib.hid hR
  clear hv0 hbv hR hv1 hgb hcb hIB hb1 hX
  have hmf : ∀ (fn : Fn) (first cap : Array Value) (w : World), (Instr.makeFunc fn first cap).run Tryz.prog w = .ok (.func fn first cap) w := fun _ _ _ _ => rfl
  clear hown hnil hcell hcell1 b4 g4 hsb hw4 hb3 HFI hc1 hcv
  go_upto_region 4 with fail
  rw [← HSB.out, ← HW4.out]
  clear HW4
  have y0 := HG4.out
  have y1 := HS4.out
  have y2 := HC4.out
  have y3 := HC41.out
  go_upto_region 10 with fail
  clear y0 y1 y2 y3
  refine wp_region_held_drew (S := StW sb g cap mx out x0 x1) (by kernel_rfl) SV.out (fun hHeld => ?_)
  rw [← HV0.out] at hHeld ⊢
  refine wpAnyH_take (i := 0) (v := .pointer (some ⟨pb, 0, none⟩)) rfl (by kernel_rfl) (by kernel_rfl) (by kernel_rfl) (fun _ _ _ h => h)
    (Or.inl ⟨by rfl, by intro w hSw;  clear hSw; go_simp⟩) hHeld ?_
  refine wpAnyH_take (i := 1) (v := .slice (some ⟨g, 0, none⟩) 2 cap) rfl (by kernel_rfl) (by kernel_rfl) (by kernel_rfl) (fun _ _ _ h => h)
    (Or.inl ⟨by rfl, by intro w hSw; have hq := hSw.1; clear hSw; go_simp⟩) hHeld ?_
  refine wpAnyH_take (i := 2) (v := .pointer (some ⟨g, 0, none⟩)) rfl (by kernel_rfl) (by kernel_rfl) (by kernel_rfl) (fun _ _ _ h => h)
    (Or.inl ⟨by rfl, by intro w hSw;  clear hSw; go_simp⟩) hHeld ?_
  refine wpAnyH_take (i := 3) (v := .string (repS mx out x0)) rfl (by kernel_rfl) (by kernel_rfl) (by kernel_rfl) (fun _ _ _ h => h)
    (Or.inl ⟨by rfl, by intro w hSw; have hq := hSw.2.1; clear hSw; go_simp⟩) hHeld ?_
  refine wpAnyH_take (i := 4) (v := .slice (some ⟨g, 0, none⟩) 2 cap) rfl (by kernel_rfl) (by kernel_rfl) (by kernel_rfl) (fun _ _ _ h => h)
    (Or.inl ⟨by rfl, by intro w hSw; have hq := hSw.1; clear hSw; go_simp⟩) hHeld ?_
  refine wpAnyH_take (i := 5) (v := .pointer (some ⟨g, 1, none⟩)) rfl (by kernel_rfl) (by kernel_rfl) (by kernel_rfl) (fun _ _ _ h => h)
    (Or.inl ⟨by rfl, by intro w hSw;  clear hSw; go_simp⟩) hHeld ?_
  refine wpAnyH_take (i := 6) (v := .string (repS mx out x1)) rfl (by kernel_rfl) (by kernel_rfl) (by kernel_rfl) (fun _ _ _ h => h)
    (Or.inl ⟨by rfl, by intro w hSw; have hq := hSw.2.2; clear hSw; go_simp⟩) hHeld ?_
  refine wpAnyH_ready (rs := [7]) (by kernel_rfl) (by simp) ?_
  refine AllReadyH.cons rfl (fun K hK => ?_) AllReadyH.nil
  rw [← HXX.out]
  have hcv := HCV.out X v0
  go_simp
  rw [← HV1.out, ← HGB.out, ← HCB.out]
  clear hcv
  refine hK.out _ _ SN.out (fun hHw1 => ?_)
  clear hK K hHeld
  refine wpAnyH_take (i := 8) (v := .agg #[.int .u8 2, .bool false, .slice (some ⟨gb, 0, none⟩) X.size cb, .slice none 0 0, .slice none 0 0]) rfl (by kernel_rfl) (by kernel_rfl) (by kernel_rfl) (fun _ _ _ h => h)
    (Or.inl ⟨by rfl, by intro w hSw;  clear hSw; go_simp⟩) hHw1 ?_
  refine wpAnyH_ready (rs := [9]) (by kernel_rfl) (by simp) ?_
  refine AllReadyH.cons rfl (fun K hK => ?_) AllReadyH.nil
  go_simp
  refine HCH.out.mono ?_
  intro e w5 hq
  obtain ⟨cs', rfl, h5', hp, hf, ho⟩ := hq
  have SN5 : StW sb g cap mx out x0 x1 w5 := stW_fr SN.out hf HPG.out.1 HPG.out.2 (Nat.lt_of_lt_of_le HSL.out.1 (by rw [HV1.out]; rw [Lib.bytesWorld_size]; omega)) (Nat.lt_of_lt_of_le HSL.out.2 (by rw [HV1.out]; rw [Lib.bytesWorld_size]; omega))
  go_simp
  refine hK.out _ _ SN5 (fun hHw2 => ?_)
  clear hK K SN5 hHw1
  refine wpAnyH_take (i := 10) (v := .int .i64 R.1) rfl (by kernel_rfl) (by kernel_rfl) (by kernel_rfl) (fun _ _ _ h => h)
    (Or.inl ⟨by rfl, by intro w hSw;  clear hSw; go_simp⟩) hHw2 ?_
  refine wpAnyH_done (by kernel_rfl) ?_ _
  clear hHw2
  go_wp2_with fail
  refine bodyPost_ret (results_tmp rfl _ _ _) rfl ?_
  rw [← HXX.out, ← HRR.out]
  exact ⟨cs', rfl, h5', hp, (Fr.of_below (S := [pb]) BV1.out).trans hf (fun g hg _ => hg), ho⟩
end Go.Proofs.YtlccdenafnekjaaGreatDoor
namespace Go.Proofs.YtlccdenafnekjaaGreatDoor
open Go.RowKit
set_option linter.unusedVariables false
set_option maxRecDepth 100000

/-- A step's two cells: its kind, and its words. -/
def SpC (w : World) (cs : List Value) (s : StD) : Prop := ∃ a n c, cs = [.int .u8 (s.1 : Int), .slice a n c] ∧ s.1 < 256 ∧ s.2.length = n ∧ (n = 0 ∨ ∃ b off, a = some ⟨b, off, none⟩ ∧ WdS w b off n c s.2)
theorem SpC.later {w w' : World} {cs : List Value} {s : StD} (h : SpC w cs s) (hb : Below w.heap.size w w') : SpC w' cs s := by
  obtain ⟨a, n, c, h1, h2, h3, h4⟩ := h
  exact ⟨a, n, c, h1, h2, h3, h4.imp id (fun ⟨b, off, h5, h6⟩ => ⟨b, off, h5, h6.later hb⟩)⟩
/-- Steps. -/
structure SpS (w : World) (a : Option Addr) (n c : Nat) (l : List StD) : Prop where
  length : l.length = n
  at_ : n = 0 ∨ ∃ b off, a = some ⟨b, off, none⟩ ∧ b < w.heap.size ∧ ∀ i, i < n → ∃ cs, SpC w cs (l.getD i (0, [])) ∧ w.rangeAt b (off + i * 2) cs
  room : n ≤ c
theorem SpS.later {w w' : World} {a : Option Addr} {n c : Nat} {l : List StD} (h : SpS w a n c l) (hb : Below w.heap.size w w') : SpS w' a n c l := by
  refine ⟨h.length, ?_, h.room⟩
  rcases h.at_ with h0 | ⟨b, off, ha, hlt, hi⟩
  · exact .inl h0
  · refine .inr ⟨b, off, ha, Nat.lt_of_lt_of_le hlt hb.size, fun i hn => ?_⟩
    obtain ⟨cs, h1, h2⟩ := hi i hn
    exact ⟨cs, h1.later hb, fun j v hj => (hb.cell (p := ⟨b, off + i * 2 + j, none⟩) hlt).trans (h2 j v hj)⟩
/-- What Run tells. -/
def RnP (r : Int × Nat × T) (w : World) (e : Ending) (w' : World) : Prop :=
  ∃ cs S, e = .returned (.tuple #[.agg cs.toArray, .int .i64 (r.2.1 : Int), .int .i64 r.1]) ∧ MT w' w.heap.size cs r.2.2 S ∧ Below w.heap.size w w'
theorem empty_size : (sizeT emptyDir).isSome = true := by decide +kernel
theorem rn_ok {sw : SwF} {mx : Nat} {out : ByteArray} {il : List (ByteArray × T)} : ∀ {l : List StD} {i : Nat} {t : T}, (sizeT t).isSome = true → (rnF sw mx out il l i t).1 = 0 → (sizeT (rnF sw mx out il l i t).2.2).isSome = true
  | [], i, t, ht, h => ht
  | s :: r, i, t, ht, h => by
    rw [rnF] at h ⊢
    by_cases h0 : (stF sw mx out il t s).1 = 0
    · rw [if_pos h0] at h ⊢; exact rn_ok (st_ok h0) h
    · rw [if_neg h0] at h; exact absurd h h0
theorem rn_at {sw : SwF} {mx : Nat} {out : ByteArray} {il : List (ByteArray × T)} {l : List StD} {k : Nat} {t : T} (hk : k < l.length) : rnF sw mx out il (l.drop k) k t = if (stF sw mx out il t (l.getD k (0, []))).1 = 0 then rnF sw mx out il (l.drop (k + 1)) (k + 1) (stF sw mx out il t (l.getD k (0, []))).2 else ((stF sw mx out il t (l.getD k (0, []))).1, k, zeroT) := by
  rw [List.drop_eq_getElem_cons hk, rnF, List.getD_eq_getElem?_getD, List.getElem?_eq_getElem hk]
  rfl
theorem run_ret {fn : Func} {P : Program} {p u v : Tmp} {ty : TypeId} (h : fn.results = #[.cell p ty, .tmp u, .tmp v]) (tmps : Array Value) (w : World) (g : Nat) (t : TypeId) (cs : Array Value) (fr : Nat × Nat) (d : TypeDesc)
    (hp : tmps.getD p undef = .pointer (some ⟨g, 0, none⟩)) (hg : w.heap[g]? = some (.cells cs t fr))
    (hu : P.underlying ty = some d) (hd : (match d with | .struct _ | .array _ _ => true | _ => false) = true) (hi : (P.info? ty).map (·.size) = some cs.size) :
    (results fn tmps).run P w = .ok (.tuple #[.agg cs, tmps.getD u undef, tmps.getD v undef]) w := by
  have hp' : tmps[p]?.getD undef = .pointer (some ⟨g, 0, none⟩) := by simpa using hp
  simp [results, h, hp', asAddr, run_loadVar_row w g t ty cs fr d hg hu hd hi]
theorem info_st : (Tryz.prog.info? 49).map (·.size) = some 2 := by kernel_rfl
set_option maxHeartbeats 20000000 in
theorem run_any (sw : SwF) (w : World) (out : ByteArray) (a : Option Addr) (n c : Nat) (l : List StD) (mi : Nat) (ai : Option Addr) (ni ci : Nat) (il : List (ByteArray × T)) (hS : SpS w a n c l) (hn : n ≤ 1000000) (hin : InS w mi ai ni ci il) (hni : ni ≤ 1000000)
    (hst : ∀ (i : Nat), i < n → ∀ (W : World) (pb m : Nat) (cs : List Value) (t : T) (ka : Option Addr) (kn kc : Nat), Below w.heap.size w W → Has W pb (blC cs out (.slice ai ni ci) (mostF il)) 71 → IsT W m cs t → (sizeT t).isSome = true → SpC W [.int .u8 ((l.getD i (0, [])).1 : Int), .slice ka kn kc] (l.getD i (0, [])) →
      Calls Tryz.prog 32 #[.pointer (some ⟨pb, 0, none⟩), .agg #[.int .u8 ((l.getD i (0, [])).1 : Int), .slice ka kn kc]] W (ChP pb out (.slice ai ni ci) (mostF il) (stF sw (mostF il) out il t (l.getD i (0, []))) W)) :
    Calls Tryz.prog 16 #[.slice a n c, .string out, .slice ai ni ci] w (RnP (rnF sw (mostF il) out il l 0 emptyDir) w) := by
  have HZO : Hid (zT.toArray.all (·.oneCell') = true) := Lib.hid (by simp [zT, Value.oneCell'])
  have HZI : Hid ((Tryz.prog.info? 37).map (·.size) = some zT.toArray.size) := Lib.hid (by rw [info5]; rfl)
  obtain ⟨G, hG⟩ : ∃ G, G = w.heap.size := ⟨_, rfl⟩
  obtain ⟨w1, hw1⟩ : ∃ w1, w1 = w.alloc (.cells #[.int .u8 0, .bool false, .slice none 0 0, .slice none 0 0, .slice none 0 0] 37) := ⟨_, rfl⟩
  have b1 : Below w.heap.size w w1 := by rw [hw1]; exact (Below.refl _ _).alloc (Nat.le_refl _) _
  have g1 : Has w1 G zT 37 := by rw [hw1, hG]; exact Has.new w zT _
  obtain ⟨pb, hpb⟩ : ∃ pb, pb = w1.heap.size := ⟨_, rfl⟩
  have hNW := new_rc w1 out mi ai ni ci il (hin.later b1) hni
  rw [← hpb] at hNW
  have hGp : G < pb := by rw [hpb, hw1, hG]; simp
  obtain ⟨R, hR⟩ : ∃ R, R = rnF sw (mostF il) out il l 0 emptyDir := ⟨_, rfl⟩
  obtain ⟨mx, hmx⟩ : ∃ mx, mx = mostF il := ⟨_, rfl⟩
  rw [← hR]
  rw [← hmx] at hR hNW hst
  have HNW := Lib.hid hNW
  have HR := Lib.hid hR
  have HGP := Lib.hid hGp
  have HGW : Hid (w.heap.size ≤ G) := Lib.hid (by rw [hG]; exact Nat.le_refl _)
  have HST := Lib.hid hst
  have HSS := Lib.hid hS
  have HN := Lib.hid hn
  have HW1 := Lib.hid hw1
  have HG := Lib.hid hG
  have B1 := Lib.hid b1
  have G1 := Lib.hid g1
  have HPB : Hid (pb = w1.heap.size) := Lib.hid hpb
  clear hS hn hin hni hst hR hNW hGp hG hw1 b1 g1 hpb hmx
  go_enter Tryz.func16, Tryz.ntmps16
  go_upto_region 1 with fail
  rw [← HW1.out, ← HG.out]
  clear HW1
  go_wp2_with fail
  refine HNW.out.mono ?_
  rintro e w2 ⟨rfl, hp, hb⟩
  have B2 : Hid (Below w.heap.size w w2) := Lib.hid (B1.out.trans (hb.mono (by rw [HPB.out]; exact B1.out.size)))
  have P2 := Lib.hid hp
  have G2 : Hid (Has w2 G zT 37) := Lib.hid (G1.out.below hb HGP.out)
  have T2 : Hid (MT w2 (pb + 1) dK emptyDir []) := Lib.hid (MT.mk (k := 3) (x := false) (d := []) (ns := []) (ks := []) (L := []) (Ss := fun _ => []) (World.ownsRow_nil _ _ _ _) (World.ownsRow_nil _ _ _ _) (World.ownsRow_nil _ _ _ _) (fun i hi => by simp at hi) (by simp [blk, Value.ownBlock]))
  clear hp hb HNW G1 B1
  go_wp2_with fail
  go_loopw [18] (fun v18 wr => ∃ (k B : Nat) (cs : List Value) (t : T) (S : List Nat), k ≤ n ∧ v18 = .int .i64 k ∧ Hid (rnF sw mx out il (l.drop k) k t = R) ∧ Hid (Has wr pb (blC cs out (.slice ai ni ci) mx) 71) ∧ Hid (pb < B ∧ MT wr B cs t S) ∧ Hid ((sizeT t).isSome = true) ∧ Hid (Has wr G zT 37) ∧ Hid (Below w.heap.size w wr)) (fun v18 _ => n - (intOf v18).toNat)
  case atStart => exact ⟨0, pb + 1, dK, emptyDir, [], Nat.zero_le _, rfl, Lib.hid (by rw [List.drop_zero]; exact HR.out.symm), P2, Lib.hid ⟨Nat.lt_succ_self _, T2.out⟩, Lib.hid empty_size, G2, B2⟩
  case round =>
    obtain ⟨k, B, cs, t, S, hk, rfl, HQ, HP, HMT, HSZ, HGR, HB⟩ := hrel
    clear P2 T2 G2 B2
    obtain ⟨m, hm⟩ : ∃ m, m = sizeN t := ⟨_, rfl⟩
    have HT : Hid (IsT wr m cs t) := Lib.hid (by rw [hm]; exact HMT.out.2.isT _ (Nat.le_refl _) (sizeT_get HSZ.out).2.2.1)
    clear hm
    have HC5 := Lib.hid (isT_five HT.out)
    by_cases hlt : k < n
    · have hki : (k : Int) < (n : Int) := by omega
      have hkb : (k : Int) ≤ 1000000 := by have := HN.out; omega
      have hkc : k < c := by have := HSS.out.room; omega
      have HLT := Lib.hid hlt
      rcases HSS.out.at_ with h0 | ⟨b, off, ha, hbl, hi⟩
      · omega
      subst ha
      obtain ⟨cx, hcx, hr⟩ := hi k hlt
      obtain ⟨s, hs⟩ : ∃ s, s = l.getD k (0, []) := ⟨_, rfl⟩
      have hTK := rn_at (sw := sw) (mx := mx) (out := out) (il := il) (l := l) (k := k) (t := t) (by rw [HSS.out.length]; exact hlt)
      rw [HQ.out] at hTK
      obtain ⟨ka, kn, kc, hcs, hs8, hsl, hsw⟩ := hcx
      have hST := HST.out k hlt
      rw [← hs] at hTK hcs hs8 hsl hsw hST
      subst hcs
      have HTK := Lib.hid hTK
      have HRG : Hid (wr.rangeAt b (off + k * 2) [.int .u8 (s.1 : Int), .slice ka kn kc]) := Lib.hid (fun j v hj => (HB.out.cell (p := ⟨b, off + k * 2 + j, none⟩) hbl).trans (hr j v hj))
      have HO1 : Hid ((#[.int .u8 (s.1 : Int), .slice ka kn kc] : Array Value).all (·.oneCell') = true) := Lib.hid (by simp [Value.oneCell'])
      obtain ⟨tb, htb⟩ : ∃ tb, tb = wr.heap.size := ⟨_, rfl⟩
      obtain ⟨w3, hw3⟩ : ∃ w3, w3 = (wr.alloc (.cells #[.int .u8 0, .slice none 0 0] 49)).setRow tb #[.int .u8 (s.1 : Int), .slice ka kn kc] := ⟨_, rfl⟩
      have b3 : Below wr.heap.size wr w3 := by rw [hw3]; exact below_setRow ((Below.refl _ _).alloc (Nat.le_refl _) _) (by rw [htb]; exact Nat.le_refl _) _
      have g3 : Has w3 tb [.int .u8 (s.1 : Int), .slice ka kn kc] 49 := by
        rw [hw3, htb]; exact (Has.new wr [.int .u8 0, .slice none 0 0] 49).row [.int .u8 (s.1 : Int), .slice ka kn kc]
      have B3 : Hid (Below w.heap.size w w3) := Lib.hid (HB.out.trans (b3.mono HB.out.size))
      have G3 := Lib.hid g3
      have HP3 : Hid (Has w3 pb (blC cs out (.slice ai ni ci) mx) 71) := Lib.hid (HP.out.below b3 HP.out.lt)
      have HG3 : Hid (Has w3 G zT 37) := Lib.hid (HGR.out.below b3 HGR.out.lt)
      have HCS := Lib.hid (hST w3 pb m cs t ka kn kc B3.out HP3.out (IsT.later b3 _ _ _ HT.out) HSZ.out ⟨ka, kn, kc, rfl, hs8, hsl, hsw.imp id (fun ⟨b', off', h5, h6⟩ => ⟨b', off', h5, h6.later B3.out⟩)⟩)
      have HTB := Lib.hid htb
      have HW3 := Lib.hid hw3
      obtain ⟨q, hq⟩ : ∃ q, q = stF sw mx out il t s := ⟨_, rfl⟩
      rw [← hq] at HTK HCS
      have HOKQ : Hid (q.1 = 0 → (sizeT q.2).isSome = true) := Lib.hid (fun h0 => by rw [hq] at h0 ⊢; exact st_ok h0)
      clear hi hr hTK hs8 hsl hsw hST htb hw3 b3 g3 hs hbl HQ hq
      obtain ⟨qc, qt⟩ := q
      dsimp only at HTK HOKQ
      go_upto_region 5 with (first
        | (refine wpList_load_mid rfl 49 _ rfl b (off + k * 2) rfl [.int .u8 (s.1 : Int), .slice ka kn kc] _ HRG.out Tryz.underlying49 rfl info_st ?_)
        | (refine wpList_store_row rfl 49 _ _ rfl wr.heap.size #[.int .u8 (s.1 : Int), .slice ka kn kc] rfl rfl 49 _ (heap_alloc_new wr _) info_st rfl HO1.out ?_))
      rw [← HTB.out, ← HW3.out]
      clear HW3
      go_wp2_with (refine wpList_load_row rfl 49 _ rfl tb rfl 49 #[.int .u8 (s.1 : Int), .slice ka kn kc] (0, 0) _ (show _ from G3.out) Tryz.underlying49 rfl info_st ?_)
      refine HCS.out.mono ?_
      intro e w5 hq5
      obtain ⟨cs', rfl, h5', hp5, hf5, ho5⟩ := hq5
      have B5 : Hid (Below w.heap.size w w5) := Lib.hid (B3.out.trans (hf5.below B3.out.size (fun g hg => by
        obtain rfl : g = pb := by simpa using hg
        have := HGP.out; have := HGW.out; omega)))
      have G5 : Hid (Has w5 G zT 37) := Lib.hid ((hf5.block G HG3.out.lt (by have := HGP.out; simp; omega)).trans HG3.out)
      have HP5 := Lib.hid hp5
      have HO5 := Lib.hid ho5
      clear h5' hp5 hf5 ho5
      dsimp only at HO5 ⊢
      by_cases h0 : qc = 0
      · subst h0
        obtain ⟨B', S', hBB, hT'⟩ := HO5.out rfl
        have HT' : Hid (pb < B' ∧ MT w5 B' cs' qt S') := Lib.hid ⟨hBB, hT'⟩
        have HQ' : Hid (rnF sw mx out il (l.drop (k + 1)) (k + 1) qt = R) := Lib.hid (by have := HTK.out; rw [if_pos rfl] at this; exact this.symm)
        have HSZ' := Lib.hid (HOKQ.out rfl)
        clear hT' hBB HTK HOKQ HO5
        go_wp2_with fail
        go_roundw
        case rel => exact ⟨k + 1, B', cs', qt, S', HLT.out, by go_num, HQ', HP5, HT', HSZ', G5, B5⟩
        case measure => have := HLT.out; simp [intOf]; omega
      · have hc1 : (qc != 0) = true := by rw [bne_iff_ne]; exact h0
        have HE : Hid (R = (qc, k, zeroT)) := Lib.hid (by have := HTK.out; rw [if_neg h0] at this; exact this)
        clear HTK HOKQ HO5 h0
        go_wp2_with (refine wpList_store_row rfl 37 _ _ rfl G zT.toArray rfl rfl 37 _ (show _ from G5.out) HZI.out rfl HZO.out ?_)
        refine bodyPost_ret (run_ret (fn := Tryz.f16) (p := 6) (u := 7) (v := 8) (ty := 37) Tryz.results16 _ _ G 37 zT.toArray (0, 0) _ rfl (setRow_heap _ _ _ _ _ _ G5.out) Tryz.underlying37 rfl HZI.out) rfl ?_
        exact ⟨zT, [], by rw [HE.out]; rfl, by rw [HE.out]; exact zero_mt _ _, below_setRow B5.out HGW.out _⟩
    · obtain rfl : k = n := by omega
      have hki : ¬ (k : Int) < (k : Int) := by omega
      have HE : Hid (R = (0, k, t)) := Lib.hid (by rw [← HQ.out, List.drop_of_length_le (by rw [HSS.out.length]; exact Nat.le_refl _)]; rfl)
      have HI5 : Hid ((Tryz.prog.info? 37).map (·.size) = some cs.length) := Lib.hid (by rw [infoL HC5.out, List.size_toArray])
      have HI5A := Lib.hid (infoL HC5.out)
      have HONE := Lib.hid (isT_one HT.out)
      have HSC : Hid (zT.toArray.size = cs.toArray.size) := Lib.hid (by rw [List.size_toArray, List.size_toArray, HC5.out]; rfl)
      clear HQ
      go_wp2_with (first
        | (refine wpList_load_mid rfl 37 _ rfl pb 0 rfl cs _ (range_bl HP.out) Tryz.underlying37 rfl HI5.out ?_)
        | (refine wpList_store_row rfl 37 _ _ rfl G cs.toArray rfl rfl 37 _ (show _ from HGR.out) HI5A.out HSC.out HONE.out ?_))
      refine bodyPost_ret (run_ret (fn := Tryz.f16) (p := 6) (u := 7) (v := 8) (ty := 37) Tryz.results16 _ _ G 37 cs.toArray (0, 0) _ rfl (setRow_heap _ _ _ _ _ _ HGR.out) Tryz.underlying37 rfl HI5A.out) rfl ?_
      have hm2 := MT.frame (S := [G]) ((Fr.refl [G] wr).setRow (.inl List.mem_cons_self) cs.toArray) (Rows.cons HGR.out (by decide) (fun _ h => by cases h)) HMT.out.2 (fun g hg h1 => by
        obtain rfl : g = G := by simpa using h1
        have h2 := HMT.out.2.from _ hg
        have h3 := HMT.out.1
        have h4 := HGP.out
        omega)
      exact ⟨cs, S, by rw [HE.out]; rfl, by rw [HE.out]; exact hm2.low (by have := HMT.out.1; have := HGP.out; have := HGW.out; omega), below_setRow HB.out HGW.out _⟩
end Go.Proofs.YtlccdenafnekjaaGreatDoor
namespace Go.Proofs.YtlccdenafnekjaaGreatDoor
open Go.RowKit
set_option linter.unusedVariables false

/-- The lines of a text. -/
def linesF (l : List UInt8) : List (List UInt8) := Lib.splitK [10] 0 (Lib.count l [10]) l
/-- What Parse tells: the steps, the line, the error. -/
def parF (l : List UInt8) : List (Nat × List (List UInt8)) × Nat × Nat := if 6000 < l.length then ([], 0, 2) else parN (linesF l) 0 []
theorem splitK_size (sep : List UInt8) : ∀ (k : Nat) (s p : List UInt8), p ∈ Lib.splitK sep 0 k s → p.length ≤ s.length
  | 0, s, p, h => by
    rw [Lib.splitK, List.mem_singleton] at h
    rw [h]; exact Nat.le_refl _
  | k + 1, s, p, h => by
    rw [Lib.splitK] at h
    split at h
    · rw [List.mem_singleton] at h
      rw [h]; exact Nat.le_refl _
    · rcases List.mem_cons.1 h with h1 | h1
      · rw [h1, List.length_take]; omega
      · have := splitK_size sep k _ p h1
        rw [List.length_drop] at this
        omega
theorem splN_len : ∀ (n : Nat) (s : List UInt8) (acc ws : List (List UInt8)), splN n s acc = some ws → ws.length ≤ acc.length + s.length
  | 0, _, _, _, h => by cases h
  | n + 1, s, acc, ws, h => by
    have hd := dropWhile_len (fun c => c == 32) s
    unfold splN at h
    cases hs : dropBl s with
    | nil =>
      rw [hs] at h
      cases h
      omega
    | cons c t =>
      rw [hs] at h
      cases hr : readW (c :: t) with
      | none => simp only [hr] at h; cases h
      | some p =>
        obtain ⟨w, r⟩ := p
        simp only [hr] at h
        have h3 := readW_len (by rw [← hs]; exact dropBl_head s) hr
        have h4 : (c :: t).length ≤ s.length := by rw [← hs]; exact hd
        have := splN_len n r _ ws h
        rw [List.length_append, List.length_singleton] at this
        omega
theorem words_len {l : List UInt8} {ws : List (List UInt8)} (h : wordsF l = some ws) : ws.length ≤ l.length := by
  have := splN_len _ _ _ _ h
  simpa using this
theorem owns_down {w : World} {B B' size n : Nat} {e : TypeId} {v : Value} {xs : List Value} (h : w.ownsRow B e size v n xs) (hB : B' ≤ B) : w.ownsRow B' e size v n xs := by
  refine ⟨h.1, ?_⟩
  rcases h.2 with h0 | ⟨g, cap, cur, h1, h2, h3⟩
  · exact .inl h0
  · exact .inr ⟨g, cap, cur, h1, Nat.le_trans hB h2, h3⟩
/-- A slice of texts, and that its block is one of texts. -/
def WT (w : World) (b off n c : Nat) (ws : List (List UInt8)) : Prop := WdS w b off n c ws ∧ ∃ cur fr, w.heap[b]? = some (.cells cur 9 fr)
theorem WT.later {w w' : World} {b off n c : Nat} {ws : List (List UInt8)} (h : WT w b off n c ws) (hb : Below w.heap.size w w') : WT w' b off n c ws := by
  obtain ⟨h1, cur, fr, h2⟩ := h
  exact ⟨h1.later hb, cur, fr, (hb.block _ h1.1).trans h2⟩
theorem WT.kept {w w' : World} {b off n c : Nat} {ws : List (List UInt8)} {row : Option Nat} (h : WT w b off n c ws) (hg : w.grownBy w' row) (hr : ∀ g, row = some g → ∃ cur fr, w.heap[g]? = some (.cells cur 49 fr)) : WT w' b off n c ws := by
  obtain ⟨h1, cur, fr, h2⟩ := h
  have hne : some b ≠ row := by
    intro e
    obtain ⟨cur2, fr2, h3⟩ := hr b e.symm
    rw [h2] at h3
    have h4 := Option.some.inj h3
    injection h4 with _ h5
    exact absurd h5 (by decide)
  have hbl : w'.heap[b]? = w.heap[b]? := hg.block b h1.1 hne
  refine ⟨⟨Nat.lt_of_lt_of_le h1.1 hg.size, h1.2.1, h1.2.2.1, h1.2.2.2.1, fun i hi => ?_⟩, cur, fr, hbl.trans h2⟩
  exact (World.cell?_of_block (w := w) (a := ⟨b, off + i, none⟩) hbl).trans (h1.2.2.2.2 i hi)
/-- A step's two cells: its args stand somewhere. -/
def StC (w : World) (cs : List Value) (s : Nat × List (List UInt8)) : Prop := ∃ b off n c, cs = [.int .u8 (s.1 : Int), .slice (some ⟨b, off, none⟩) n c] ∧ WT w b off n c s.2
theorem StC.later {w w' : World} {cs : List Value} {s : Nat × List (List UInt8)} (h : StC w cs s) (hb : Below w.heap.size w w') : StC w' cs s := by
  obtain ⟨b, off, n, c, h4, h5⟩ := h
  exact ⟨b, off, n, c, h4, h5.later hb⟩
theorem WT.tail {w : World} {b n c : Nat} {x : List UInt8} {xs : List (List UInt8)} (h : WT w b 0 n c (x :: xs)) : WT w b 1 (n - 1) (c - 1) xs := by
  obtain ⟨⟨h1, h2, h3, h4, h5⟩, h6⟩ := h
  rw [List.length_cons] at h2
  refine ⟨⟨h1, by omega, by omega, by omega, fun i hi => ?_⟩, h6⟩
  have := h5 (i + 1) (by omega)
  rw [Nat.zero_add] at this
  rw [Nat.add_comm 1 i, this]
  rfl
/-- Steps in a row of the call's own. -/
def StP (w : World) (B : Nat) (u : Value) (st : List (Nat × List (List UInt8))) : Prop := ∃ cs : List (List Value), w.ownsRow B 49 2 u st.length cs.flatten ∧ cs.length = st.length ∧ ∀ i, i < st.length → StC w (cs.getD i []) (st.getD i (0, []))
theorem StP.later {w w' : World} {B : Nat} {u : Value} {st : List (Nat × List (List UInt8))} (h : StP w B u st) (hb : Below w.heap.size w w') : StP w' B u st := by
  obtain ⟨cs, h1, h2, h3⟩ := h
  refine ⟨cs, h1.kept (row := none) ⟨hb.os, hb.tape, hb.output, hb.size, fun k hk _ => hb.block k hk⟩ (by
    cases hv : u.ownBlock with
    | none => exact .inl rfl
    | some g => exact .inr (by simp)), h2, fun i hi => ?_⟩
  obtain ⟨b, off, n, c, h4, h5⟩ := h3 i hi
  exact ⟨b, off, n, c, h4, h5.later hb⟩
theorem StP.grow {w w' : World} {B : Nat} {u u' : Value} {st : List (Nat × List (List UInt8))} {s : Nat × List (List UInt8)} {cs : List (List Value)} {c : List Value} (h : w.ownsRow B 49 2 u st.length cs.flatten) (h2 : cs.length = st.length) (h3 : ∀ i, i < st.length → StC w (cs.getD i []) (st.getD i (0, []))) (hc : StC w c s) (hg : w.grownBy w' u.ownBlock) (ho : w'.ownsRow B 49 2 u' (st.length + 1) (cs.flatten ++ c)) : StP w' B u' (st ++ [s]) := by
  have hr : ∀ g, u.ownBlock = some g → ∃ cur fr, w.heap[g]? = some (.cells cur 49 fr) := by
    intro g hgu
    rcases h.2 with ⟨rfl, _⟩ | ⟨g', cap, cur, rfl, _, hgg, _⟩
    · cases hgu
    · simp only [Value.ownBlock, Option.some.injEq] at hgu
      subst hgu
      exact ⟨cur, _, hgg⟩
  have kp : ∀ {c : List Value} {s : Nat × List (List UInt8)}, StC w c s → StC w' c s := by
    rintro c s ⟨b, off, n, k, h4, h5⟩
    exact ⟨b, off, n, k, h4, h5.kept hg hr⟩
  refine ⟨cs ++ [c], by rw [List.length_append, List.flatten_append]; simpa using ho, by rw [List.length_append, List.length_append, h2]; rfl, fun i hi => ?_⟩
  rw [List.length_append, List.length_singleton] at hi
  by_cases h1 : i < st.length
  · have e1 : (cs ++ [c]).getD i [] = cs.getD i [] := by rw [List.getD_eq_getElem?_getD, List.getElem?_append_left (by omega), ← List.getD_eq_getElem?_getD]
    have e2 : (st ++ [s]).getD i (0, []) = st.getD i (0, []) := by rw [List.getD_eq_getElem?_getD, List.getElem?_append_left h1, ← List.getD_eq_getElem?_getD]
    rw [e1, e2]; exact kp (h3 i h1)
  · obtain rfl : i = st.length := by omega
    have e1 : (cs ++ [c]).getD st.length [] = c := by rw [List.getD_eq_getElem?_getD, ← h2, List.getElem?_concat_length]; rfl
    have e2 : (st ++ [s]).getD st.length (0, []) = s := by rw [List.getD_eq_getElem?_getD, List.getElem?_concat_length]; rfl
    rw [e1, e2]; exact kp hc
theorem StP.nil (w : World) (B : Nat) : StP w B (.slice none 0 0) [] := ⟨[], World.ownsRow_nil _ _ _ _, rfl, fun i hi => by cases hi⟩
/-- What Parse answers. -/
def PP (w w' : World) (r : List (Nat × List (List UInt8)) × Nat × Nat) (u : Value) (at_ e : Int) : Prop := at_ = (r.2.1 : Int) ∧ e = (r.2.2 : Int) ∧ (if r.2.2 = 0 then StP w' w.heap.size u r.1 else u = .slice none 0 0)
theorem parN_words {l : List UInt8} {ls : List (List UInt8)} {i : Nat} {acc : List (Nat × List (List UInt8))} (h : wordsF l = none) : parN (l :: ls) i acc = ([], i, 4) := by
  rw [parN, h]
theorem parN_empty {l : List UInt8} {ls : List (List UInt8)} {i : Nat} {acc : List (Nat × List (List UInt8))} (h : wordsF l = some []) : parN (l :: ls) i acc = parN ls (i + 1) acc := by
  rw [parN, h]
theorem parN_step {l w : List UInt8} {ws ls : List (List UInt8)} {i : Nat} {acc : List (Nat × List (List UInt8))} (h : wordsF l = some (w :: ws)) : parN (l :: ls) i acc = if (meanF (w :: ws)).2 = 0 then (if acc.length = 200 then ([], i, 2) else parN ls (i + 1) (acc ++ [((meanF (w :: ws)).1, ws)])) else ([], i, (meanF (w :: ws)).2) := by
  rw [parN, h]
theorem info_step2 : (Tryz.prog.info? 49).map (fun i => (i.zero, i.size, i.bytes)) = some (some (.agg #[.int .u8 0, .slice none 0 0]), 2, 32) := by kernel_rfl
set_option maxRecDepth 100000 in
set_option maxHeartbeats 8000000 in
theorem parse_any (s : ByteArray) (w : World) (hm : MaxW w) (hL : LaidR w) : Calls Tryz.prog 12 #[.string s] w fun e w' => ∃ (u : Value) (at_ er : Int), e = .returned (.tuple #[u, .int .i64 at_, .int .i64 er]) ∧ PP w w' (parF s.data.toList) u at_ er ∧ Below w.heap.size w w' := by
  obtain ⟨i0, hi0, hz0, hz1, hz2⟩ := info_p info_step2
  have HI := Lib.hid hi0
  have HZ0 := Lib.hid hz0
  have HZ1 := Lib.hid hz1
  have HZ2 := Lib.hid hz2
  have HM := Lib.hid hm
  have HL := Lib.hid hL
  have hsl : s.data.toList.length = s.size := by simp
  by_cases hbig : 6000 < s.size
  · have hb' : (6000 : Int) < (s.size : Int) := by omega
    have HP : Hid (parF s.data.toList = ([], 0, 2)) := Lib.hid (by unfold parF; rw [hsl, if_pos hbig])
    clear hsl hbig hm hL
    go_enter Tryz.func12, Tryz.ntmps12
    go_wp2_with fail
    refine bodyPost_ret (results_tmp3 rfl _ _ _) rfl ?_
    exact ⟨_, _, _, rfl, by rw [HP.out]; exact ⟨rfl, rfl, rfl⟩, Below.refl _ _⟩
  have hb' : ¬ (6000 : Int) < (s.size : Int) := by omega
  have HP : Hid (parF s.data.toList = parN (linesF s.data.toList) 0 []) := Lib.hid (by unfold parF; rw [hsl, if_neg hbig])
  obtain ⟨m, hmx⟩ := hm
  have HSPL := Lib.hid (Tryz.strings_Split s ⟨#[10]⟩ m w (by omega) hmx (by decide))
  obtain ⟨lines, hli⟩ : ∃ lines, lines = Lib.splitB ⟨#[10]⟩ 0 (Lib.countB s ⟨#[10]⟩) s := ⟨_, rfl⟩
  have hlen : lines.length = Lib.countB s ⟨#[10]⟩ + 1 := by rw [hli]; exact Lib.splitB_all ⟨#[10]⟩ (by decide) 0 _ s rfl
  have hcnt := Lib.countB_le ⟨#[10]⟩ (by decide) s.size s (Nat.le_refl _)
  have hdata : lines.map (·.data.toList) = linesF s.data.toList := by
    rw [hli, Lib.splitB_data]; rfl
  rw [← hli, ← hlen] at HSPL
  rw [← hdata] at HP
  have HLS : Hid (∀ l ∈ lines, l.size ≤ 6000) := Lib.hid (fun l hl => by
    have h1 : l.data.toList ∈ linesF s.data.toList := by rw [← hdata]; exact List.mem_map.2 ⟨l, hl, rfl⟩
    have h2 := splitK_size _ _ _ _ h1
    have h3 : l.data.toList.length = l.size := by simp
    omega)
  have HLN : Hid (lines.length ≤ 6001) := Lib.hid (by omega)
  obtain ⟨R, hR⟩ : ∃ R, R = parF s.data.toList := ⟨_, rfl⟩
  rw [← hR] at HP ⊢
  clear hmx hli hlen hcnt hdata hsl hbig hR hL hi0 hz0 hz1 hz2
  go_enter Tryz.func12, Tryz.ntmps12
  go_wp2_with fail
  refine HSPL.out.mono ?_
  rintro e w1 ⟨rfl, hw1⟩
  have HX1 : Hid (Has w1 w.heap.size (lines.map Value.string) 9) := Lib.hid (by rw [hw1]; exact Has.new w _ _)
  have B1 : Hid (Below w.heap.size w w1) := Lib.hid (by rw [hw1]; exact (Below.refl _ _).alloc (Nat.le_refl _) _)
  have hnl : (lines.length : Int) ≤ 6001 := by have := HLN.out; omega
  have HW := Lib.hid HX1.out.lt
  clear hw1 HSPL
  go_wp2_with fail
  go_loopg [5, 18] lines.length (fun gk v5 v18 wr => ∃ (i : Nat) (acc : List (Nat × List (List UInt8))), gk = lines.length - i ∧ i ≤ lines.length ∧ v18 = .int .i64 (i : Int) ∧ Hid (parN ((lines.map (·.data.toList)).drop i) i acc = R) ∧ Hid (acc.length ≤ i) ∧ StP wr w1.heap.size v5 acc ∧ Below w1.heap.size w1 wr)
  case atStart => exact ⟨0, [], rfl, Nat.zero_le _, rfl, Lib.hid HP.out.symm, Lib.hid (Nat.zero_le _), StP.nil _ _, Below.refl _ _⟩
  case round =>
    obtain ⟨i, acc, rfl, hi, rfl, HQ, HA, hst, hb⟩ := hrel
    have HST := Lib.hid hst
    have HB := Lib.hid hb
    have HBW : Hid (Below w.heap.size w wr) := Lib.hid (B1.out.trans (hb.mono B1.out.size))
    clear hst hb
    by_cases hlt : i < lines.length
    · have hki : (i : Int) < (lines.length : Int) := by omega
      have hk0 : (0 : Int) ≤ (i : Int) := by omega
      have HLT := Lib.hid hlt
      obtain ⟨l, hl⟩ : ∃ l, l = lines.getD i ⟨#[]⟩ := ⟨_, rfl⟩
      have hlg : lines[i] = l := by rw [hl, List.getD_eq_getElem?_getD, List.getElem?_eq_getElem hlt]; rfl
      have HLZ : Hid (l.size ≤ 100000) := Lib.hid (by have := HLS.out l (by rw [← hlg]; exact List.getElem_mem hlt); omega)
      have HDR : Hid ((lines.map (·.data.toList)).drop i = l.data.toList :: (lines.map (·.data.toList)).drop (i + 1)) := Lib.hid (by
        rw [List.drop_eq_getElem_cons (by rw [List.length_map]; exact hlt), List.getElem_map]
        exact congrArg (fun x : ByteArray => x.data.toList :: (lines.map (·.data.toList)).drop (i + 1)) hlg)
      have c1 : wr.cell? ⟨w.heap.size, i, none⟩ = some (.string l) := by
        have h := (HX1.out.below HB.out HX1.out.lt).cellAt (i := i) (v := .string l) (by rw [List.getElem?_map, List.getElem?_eq_getElem hlt]; exact congrArg (fun x => some (Value.string x)) hlg)
        exact h
      have HMW := Lib.hid (HM.out.later HBW.out)
      rw [HDR.out] at HQ
      clear hl hlg hlt HDR
      go_wp2_with fail
      refine (split_words l wr HMW.out HLZ.out).mono ?_
      rintro e w2 ⟨u, v, rfl, hsp, hb⟩
      have HST2 := Lib.hid (HST.out.later hb)
      have HB2 : Hid (Below w1.heap.size w1 w2) := Lib.hid (HB.out.trans (hb.mono HB.out.size))
      have HBW2 : Hid (Below w.heap.size w w2) := Lib.hid (HBW.out.trans (hb.mono HBW.out.size))
      cases hws : wordsF l.data.toList with
      | none =>
        rw [hws] at hsp
        obtain ⟨rfl, rfl⟩ := hsp
        have HEND : Hid (R = ([], i, 4)) := Lib.hid (by rw [← HQ.out]; exact parN_words hws)
        clear hws hb HQ
        go_wp2_with fail
        refine bodyPost_ret (results_tmp3 rfl _ _ _) rfl ?_
        exact ⟨_, _, _, rfl, by rw [HEND.out]; exact ⟨rfl, rfl, rfl⟩, HBW2.out⟩
      | some ws =>
        rw [hws] at hsp
        obtain ⟨rfl, how⟩ := hsp
        cases ws with
        | nil =>
          have HQ2 : Hid (parN ((lines.map (·.data.toList)).drop (i + 1)) (i + 1) acc = R) := Lib.hid (by rw [← HQ.out]; exact (parN_empty hws).symm)
          obtain ⟨ua, uc, rfl⟩ : ∃ ua uc, u = .slice ua 0 uc := by
            rcases how.2 with ⟨h1, _⟩ | ⟨g, cap, cur, h1, _⟩
            · exact ⟨_, _, h1⟩
            · exact ⟨_, _, h1⟩
          clear hws hb HQ how
          go_wp2_with fail
          go_roundg (lines.length - (i + 1))
          case rel => exact ⟨i + 1, acc, rfl, HLT.out, by go_num, HQ2, Lib.hid (by have := HA.out; omega), HST2.out, HB2.out⟩
          case measure => have := HLT.out; omega
        | cons x xs =>
          obtain ⟨n, hn⟩ : ∃ n, n = (x :: xs).length := ⟨_, rfl⟩
          rw [← hn] at how
          have hn1 : 1 ≤ n := by rw [hn]; simp
          obtain ⟨g, c, rfl, HWT⟩ : ∃ g c, u = .slice (some ⟨g, 0, none⟩) n c ∧ Hid (WT w2 g 0 n c (x :: xs)) := by
            rcases how.2 with ⟨_, h1⟩ | ⟨g, cap, cur, h1, hgb, hgg, hnc, hcm, _⟩
            · omega
            · subst h1
              refine ⟨g, cap, rfl, Lib.hid ⟨⟨(Array.getElem?_eq_some_iff.1 hgg).1, hn.symm, hnc, hcm, fun j hj => ?_⟩, cur, _, hgg⟩⟩
              have h2 := how.cells (g := g) rfl j (strV ((x :: xs).getD j [])) (by rw [List.getElem?_map, List.getElem?_eq_getElem (by omega), List.getD_eq_getElem?_getD, List.getElem?_eq_getElem (by omega)]; rfl)
              rw [Addr.add_lit] at h2
              exact h2
          have HST3 := HST2
          have hstp := parN_step (ls := (lines.map (·.data.toList)).drop (i + 1)) (i := i) (acc := acc) hws
          rw [HQ.out] at hstp
          have HSTP := Lib.hid hstp
          obtain ⟨r, hr⟩ : ∃ r, r = meanF (x :: xs) := ⟨_, rfl⟩
          rw [← hr] at HSTP
          have hnz : ((n : Int) == 0) = false := by rw [beq_eq_false_iff_ne]; omega
          have HNL : Hid (xs.length + 1 = n) := Lib.hid (by rw [hn]; rfl)
          have hwl := words_len hws
          have hll : l.data.toList.length = l.size := by simp
          have HNB : Hid (n ≤ 100000) := Lib.hid (by have := HLZ.out; omega)
          have HL2 := Lib.hid (HL.out.later HBW2.out)
          clear hws hb HQ how hstp hn hwl hll
          go_wp2_with fail
          refine (meant_any w2 g 0 n c (x :: xs) HWT.out.1 hn1 (by have := HNB.out; omega) HL2.out).mono ?_
          rintro e w3 ⟨hmp, hb⟩
          rw [← hr] at hmp
          have HB3 : Hid (Below w1.heap.size w1 w3) := Lib.hid (HB2.out.trans (hb.mono HB2.out.size))
          have HBW3 : Hid (Below w.heap.size w w3) := Lib.hid (HBW2.out.trans (hb.mono HBW2.out.size))
          have HST4 := Lib.hid (HST2.out.later hb)
          have HWT3 := Lib.hid (HWT.out.later hb)
          obtain ⟨cs, ho, hcl, hcs⟩ := HST4.out
          obtain ⟨oa, oc, rfl⟩ : ∃ oa oc, u5 = .slice oa acc.length oc := by
            rcases ho.2 with ⟨h1, h2⟩ | ⟨g, cap, cur, h1, _⟩
            · exact ⟨none, 0, by rw [h2]; exact h1⟩
            · exact ⟨_, _, h1⟩
          have HO := Lib.hid ho
          have HCL := Lib.hid hcl
          have HCS := Lib.hid hcs
          clear hr hb ho hcl hcs HST HST2 HST3 HST4 HWT HB HBW HB2 HBW2
          unfold MP at hmp
          by_cases h0 : r.2 = 0
          · rw [if_pos h0] at hmp
            subst hmp
            rw [if_pos h0] at HSTP
            by_cases h200 : acc.length = 200
            · rw [if_pos h200] at HSTP
              have h200' : ((acc.length : Int) == 200) = true := by rw [beq_iff_eq]; omega
              clear h0 h200
              go_wp2_with fail
              refine bodyPost_ret (results_tmp3 rfl _ _ _) rfl ?_
              exact ⟨_, _, _, rfl, by rw [HSTP.out]; exact ⟨rfl, rfl, rfl⟩, HBW3.out.alloc HBW3.out.size _⟩
            · rw [if_neg h200] at HSTP
              have h200' : ((acc.length : Int) == 200) = false := by rw [beq_eq_false_iff_ne]; omega
              clear h0 h200
              obtain ⟨N, hN⟩ : ∃ N, N = w3.heap.size := ⟨_, rfl⟩
              obtain ⟨w4, hw4⟩ : ∃ w4, w4 = w3.alloc (.cells #[.int .u8 (r.1 : Int), .slice (some ⟨g, 0 + 1, none⟩) (n - 1) (c - 1)] 49) := ⟨_, rfl⟩
              have X4 : Hid (Has w4 N [.int .u8 (r.1 : Int), .slice (some ⟨g, 0 + 1, none⟩) (n - 1) (c - 1)] 49) := Lib.hid (by rw [hw4, hN]; exact Has.new w3 _ _)
              have A4 : Hid (Below w3.heap.size w3 w4) := Lib.hid (by rw [hw4]; exact (Below.refl _ _).alloc (Nat.le_refl _) _)
              have HW4 := Lib.hid hw4
              have HN4 := Lib.hid hN
              have HXS : Hid ((w4.alloc (.cells #[.int .u8 (r.1 : Int), .slice (some ⟨g, 0 + 1, none⟩) (n - 1) (c - 1)] 49)).heap.size = w4.heap.size + 1) := Lib.hid (by simp)
              have HO4 : Hid (w4.ownsRow w1.heap.size 49 2 (.slice oa acc.length oc) acc.length cs.flatten) := Lib.hid (by rw [hw4]; exact HO.out.alloc _)
              clear hN hw4
              go_upto_region 16 with fail
              rw [← HW4.out, ← HN4.out]
              clear HW4
              go_wp2_with (first | (refine wpList_load_row rfl 49 _ rfl N rfl 49 #[.int .u8 (r.1 : Int), .slice (some ⟨g, 0 + 1, none⟩) (n - 1) (c - 1)] (0, 0) _ X4.out Tryz.underlying49 rfl info_stp ?_) | (at_builtin; go_must (refine wpList_append_lies _ rfl (.tmp 47) (.tmp 49) 23 rfl w1.heap.size 49 i0 (.agg #[.int .u8 0, .slice none 0 0]) 2 32 Tryz.underlying23 HI.out HZ0.out HZ1.out HZ2.out rfl (by omega) _ acc.length cs.flatten rfl (HO4.out.alloc _) ⟨w4.heap.size, 0, none⟩ 1 1 [.int .u8 (r.1 : Int), .slice (some ⟨g, 1, none⟩) (n - 1) (c - 1)] rfl rfl ?a1 ?a2 ?a3 ?a4 ?a5 ?a6 _ rfl ?a7)))
              try (case a1 => (intro j u hj; rw [Addr.add_lit]; exact (Has.new w4 [.int .u8 (r.1 : Int), .slice (some ⟨g, 1, none⟩) (n - 1) (c - 1)] _).cellAt (by rw [Nat.zero_add]; exact hj)))
              try (case a2 => first | rfl | (intro u hu; simp only [List.mem_cons, List.not_mem_nil, or_false] at hu; rcases hu with rfl | rfl <;> rfl))
              try (case a3 => omega)
              try (case a4 => (have := HA.out; have := HLN.out; have := HLT.out; unfold maxLen; omega))
              try (case a5 => (have := HA.out; have := HLN.out; have := HLT.out; omega))
              try (case a6 => (have := HB3.out.size; have := A4.out.size; simp; omega))
              intro g5 cap5 w5 how hgr hat hlt5
              have A5 : Hid (Below w4.heap.size w4 (w4.alloc (.cells #[.int .u8 (r.1 : Int), .slice (some ⟨g, 1, none⟩) (n - 1) (c - 1)] 49))) := Lib.hid ((Below.refl _ _).alloc (Nat.le_refl _) _)
              have A35 := Lib.hid (A4.out.trans (A5.out.mono A4.out.size))
              have HST5 : Hid (StP w5 w1.heap.size (.slice (some ⟨g5, 0, none⟩) (acc.length + 1) cap5) (acc ++ [(r.1, xs)])) := Lib.hid (StP.grow (HO4.out.alloc _) HCL.out (fun j hj => (HCS.out j hj).later A35.out) ⟨g, 1, n - 1, c - 1, rfl, (HWT3.out.tail).later A35.out⟩ hgr how)
              have HB5 : Hid (Below w1.heap.size w1 w5) := Lib.hid ((HB3.out.trans (A35.out.mono HB3.out.size)).grown hgr (by have := HB3.out.size; have := A35.out.size; omega) (fun k hk => (HO4.out.lt k hk).1))
              have HLA : Hid ((acc ++ [(r.1, xs)]).length ≤ i + 1) := Lib.hid (by rw [List.length_append, List.length_singleton]; have := HA.out; omega)
              clear how hgr hat hlt5
              go_wp2_with fail
              go_roundg (lines.length - (i + 1))
              case rel => exact ⟨i + 1, acc ++ [(r.1, xs)], rfl, HLT.out, by go_num, Lib.hid HSTP.out.symm, HLA, HST5.out, HB5.out⟩
              case measure => have := HLT.out; omega
          · rw [if_neg h0] at hmp
            subst hmp
            rw [if_neg h0] at HSTP
            have hne : ((r.2 : Int) != 0) = true := by rw [bne_iff_ne]; omega
            have HR0 := Lib.hid h0
            clear h0
            go_wp2_with fail
            refine bodyPost_ret (results_tmp3 rfl _ _ _) rfl ?_
            refine ⟨_, _, _, rfl, ?_, HBW3.out.alloc HBW3.out.size _⟩
            rw [HSTP.out]
            exact ⟨rfl, rfl, (by rw [if_neg HR0.out]; rfl)⟩
    · obtain rfl : i = lines.length := by omega
      have hki : ¬ (lines.length : Int) < (lines.length : Int) := by omega
      have HEND : Hid (R = (acc, 0, 0)) := Lib.hid (by
        rw [← HQ.out, List.drop_of_length_le (by rw [List.length_map]; exact Nat.le_refl _)]; rfl)
      clear HQ
      go_wp2_with fail
      refine bodyPost_ret (results_tmp3 rfl _ _ _) rfl ?_
      obtain ⟨cs, q1, q2, q3⟩ := HST.out
      exact ⟨_, _, _, rfl, by rw [HEND.out]; exact ⟨rfl, rfl, ⟨cs, owns_down q1 B1.out.size, q2, q3⟩⟩, HBW.out⟩
end Go.Proofs.YtlccdenafnekjaaGreatDoor
namespace Go.Proofs.YtlccdenafnekjaaGreatDoor
open Go.RowKit
set_option linter.unusedVariables false
set_option maxRecDepth 100000

theorem ok_cases {k n : Nat} (h : okF k n = true) : (k = 1 ∧ n = 1) ∨ (k = 2 ∧ n = 2) ∨ (k = 3 ∧ n = 2) ∨ (k = 4 ∧ n = 3) ∨ (k = 5 ∧ n = 2) ∨ (k = 6 ∧ n = 1) ∨ (k = 7 ∧ n = 3) ∨ (k = 8 ∧ n = 1) := by
  by_cases h9 : k ≤ 8
  · match k, h9, h with
    | 0, _, h => simp [okF, formsF] at h
    | 1, _, h => simp [okF, formsF] at h; omega
    | 2, _, h => simp [okF, formsF] at h; omega
    | 3, _, h => simp [okF, formsF] at h; omega
    | 4, _, h => simp [okF, formsF] at h; omega
    | 5, _, h => simp [okF, formsF] at h; omega
    | 6, _, h => simp [okF, formsF] at h; omega
    | 7, _, h => simp [okF, formsF] at h; omega
    | 8, _, h => simp [okF, formsF] at h; omega
    | k + 9, h9, _ => omega
  · rw [ok_no k n (fun j hj => by have := (fm_small j).2; omega)] at h; cases h
theorem one_of {α : Type} {l : List α} (h : l.length = 1) : ∃ a, l = [a] := by
  match l, h with
  | [a], _ => exact ⟨a, rfl⟩
theorem two_of {α : Type} {l : List α} (h : l.length = 2) : ∃ a b, l = [a, b] := by
  match l, h with
  | [a, b], _ => exact ⟨a, b, rfl⟩
theorem three_of {α : Type} {l : List α} (h : l.length = 3) : ∃ a b c, l = [a, b, c] := by
  match l, h with
  | [a, b, c], _ => exact ⟨a, b, c, rfl⟩
theorem step_some (sw : SwF) (w : World) (pb mx m : Nat) (cs : List Value) (t : T) (out : ByteArray) (ai : Option Addr) (ni ci mi : Nat) (il : List (ByteArray × T)) (s : StD) (ka : Option Addr) (kn kc : Nat)
    (h : Has w pb (blC cs out (.slice ai ni ci) mx) 71) (ht : IsT w m cs t) (hsz : (sizeT t).isSome = true) (hc : SpC w [.int .u8 (s.1 : Int), .slice ka kn kc] s) (hx : ∀ x ∈ s.2, WB x ∧ (repS mx out x).size ≤ 900000000)
    (hin : InS w mi ai ni ci il) (hni : ni ≤ 1000000) (hsi : ∀ i, i < ni → Small (il.getD i inD).2 ∧ sizeN (il.getD i inD).2 ≤ 1000000) (hM : mx ≤ 1125899906842624) (ho : out.size ≤ 1000000) (hL : LaidR w) (hm : MaxW w) (hmx : 1 < w.heap.size)
    (h7 : okF s.1 s.2.length = true → s.1 = 7 → Calls Tryz.prog 32 #[.pointer (some ⟨pb, 0, none⟩), .agg #[.int .u8 (s.1 : Int), .slice ka kn kc]] w (ChP pb out (.slice ai ni ci) mx (stF sw mx out il t s) w)) :
    Calls Tryz.prog 32 #[.pointer (some ⟨pb, 0, none⟩), .agg #[.int .u8 (s.1 : Int), .slice ka kn kc]] w (ChP pb out (.slice ai ni ci) mx (stF sw mx out il t s) w) := by
  obtain ⟨k, l⟩ := s
  obtain ⟨a', n', c', e1, hk8, hl, hw⟩ := hc
  simp only [List.cons.injEq, and_true, true_and, Value.slice.injEq] at e1
  obtain ⟨rfl, rfl, rfl⟩ := e1
  dsimp only at hk8 hl hw hx h7 ⊢
  have hS := (sizeT_get hsz).2.2.1
  have hN : sizeN t ≤ 1000000 := by have := (sizeT_get hsz).2.2.2; omega
  have hbr := file_at hsz
  rcases hok : okF k l.length with _ | _
  · have e : stF sw mx out il t (k, l) = (3, t) := by
      unfold stF
      dsimp only
      rw [if_pos hok]
    rw [e]
    rw [hl] at hok
    exact step_bad w pb mx k kn kc ka cs t out _ h (isT_five ht) hk8 hL hok
  · have hw1 : kn ≠ 0 → ∃ b off, ka = some ⟨b, off, none⟩ ∧ WdS w b off kn kc l := fun h0 => hw.resolve_left h0
    rcases ok_cases hok with ⟨rfl, h1⟩ | ⟨rfl, h1⟩ | ⟨rfl, h1⟩ | ⟨rfl, h1⟩ | ⟨rfl, h1⟩ | ⟨rfl, h1⟩ | ⟨rfl, h1⟩ | ⟨rfl, h1⟩
    · obtain ⟨x0, rfl⟩ := one_of h1
      obtain rfl : 1 = kn := hl
      obtain ⟨b, off, rfl, hwd⟩ := hw1 (by decide)
      have hx0 := hx x0 (by simp)
      exact step_mkdir w pb mx m b off kc cs t out _ x0 h ht hwd hx0.1 hM ho hL hm hmx
    · obtain ⟨x0, x1, rfl⟩ := two_of h1
      obtain rfl : 2 = kn := hl
      obtain ⟨b, off, rfl, hwd⟩ := hw1 (by decide)
      have hx0 := hx x0 (by simp)
      have hx1 := hx x1 (by simp)
      exact step_write w pb mx m b off kc cs t out _ x0 x1 h ht hwd ⟨hx0.1, hx1.1⟩ hx1.2 hM ho hL hm hmx
    · obtain ⟨x0, x1, rfl⟩ := two_of h1
      obtain rfl : 2 = kn := hl
      obtain ⟨b, off, rfl, hwd⟩ := hw1 (by decide)
      have hx0 := hx x0 (by simp)
      have hx1 := hx x1 (by simp)
      exact step_append w pb mx m b off kc cs t out _ x0 x1 h ht hS hN hbr hwd ⟨hx0.1, hx1.1⟩ hx1.2 hM ho hL hm hmx
    · obtain ⟨x0, x1, x2, rfl⟩ := three_of h1
      obtain rfl : 3 = kn := hl
      obtain ⟨b, off, rfl, hwd⟩ := hw1 (by decide)
      have hx0 := hx x0 (by simp)
      have hx1 := hx x1 (by simp)
      have hx2 := hx x2 (by simp)
      exact step_copy w pb mx m b off kc cs t out ai ni ci mi il x0 x1 x2 h ht hwd ⟨hx0.1, hx1.1, hx2.1⟩ hin hni hsi hM ho hL hm hmx
    · obtain ⟨x0, x1, rfl⟩ := two_of h1
      obtain rfl : 2 = kn := hl
      obtain ⟨b, off, rfl, hwd⟩ := hw1 (by decide)
      have hx0 := hx x0 (by simp)
      have hx1 := hx x1 (by simp)
      exact step_link w pb mx m b off kc cs t out _ x0 x1 h ht hwd ⟨hx0.1, hx1.1⟩ hx1.2 hM ho hL hm hmx
    · obtain ⟨x0, rfl⟩ := one_of h1
      obtain rfl : 1 = kn := hl
      obtain ⟨b, off, rfl, hwd⟩ := hw1 (by decide)
      have hx0 := hx x0 (by simp)
      exact step_exec w pb mx m b off kc cs t out _ x0 h ht hS hN hbr hwd hx0.1 hM ho hL hm hmx
    · exact h7 hok rfl
    · obtain ⟨x0, rfl⟩ := one_of h1
      obtain rfl : 1 = kn := hl
      obtain ⟨b, off, rfl, hwd⟩ := hw1 (by decide)
      have hx0 := hx x0 (by simp)
      exact step_fail w pb mx m b off kc cs t out _ x0 h ht hwd hx0.1 hM ho hL hm hmx
/-! The steps that Parse told. -/
theorem flat_at : ∀ (cs : List (List Value)) (i j : Nat), (∀ k, k < cs.length → (cs.getD k []).length = 2) → i < cs.length → j < 2 → cs.flatten[i * 2 + j]? = (cs.getD i [])[j]?
  | [], i, j, _, hi, _ => by simp at hi
  | c :: r, 0, j, h, _, hj => by
    have h0 : c.length = 2 := h 0 (by simp)
    rw [List.flatten_cons, Nat.zero_mul, Nat.zero_add, List.getElem?_append_left (by omega)]
    rfl
  | c :: r, i + 1, j, h, hi, hj => by
    have h0 : c.length = 2 := h 0 (by simp)
    rw [List.flatten_cons, List.getElem?_append_right (by omega), h0, show (i + 1) * 2 + j - 2 = i * 2 + j by omega]
    exact flat_at r i j (fun k hk => by have := h (k + 1) (by simpa using hk); simpa using this) (by simpa using hi) hj
theorem sp_of {w : World} {B : Nat} {u : Value} {st : List StD} (h : StP w B u st) (hk : ∀ s ∈ st, s.1 < 256) : ∃ a c, u = .slice a st.length c ∧ SpS w a st.length c st := by
  obtain ⟨cs, hown, hl, hc⟩ := h
  have h2 : ∀ k, k < cs.length → (cs.getD k []).length = 2 := fun k hk2 => by
    obtain ⟨b, off, n, c, he, _⟩ := hc k (by omega)
    rw [he]; rfl
  rcases hown.2 with ⟨rfl, h0⟩ | ⟨g, cap, cur, rfl, hB, hg, hcap, _⟩
  · rw [h0]; exact ⟨none, 0, rfl, h0, .inl rfl, Nat.le_refl _⟩
  · refine ⟨_, _, rfl, rfl, .inr ⟨g, 0, rfl, (Array.getElem?_eq_some_iff.1 hg).1, fun i hi => ⟨cs.getD i [], ?_, fun j v hj => ?_⟩⟩, hcap⟩
    · obtain ⟨b, off, n, c, he, hw⟩ := hc i hi
      refine ⟨_, n, c, he, hk _ ?_, hw.1.2.1, .inr ⟨b, off, rfl, hw.1⟩⟩
      rw [List.getD_eq_getElem?_getD, List.getElem?_eq_getElem hi]
      exact List.getElem_mem hi
    · have hj2 : j < 2 := by
        have := (List.getElem?_eq_some_iff.1 hj).1
        rw [h2 i (by omega)] at this
        exact this
      have h3 := hown.cells (g := g) rfl (i * 2 + j) v (by rw [flat_at cs i j h2 (by omega) hj2]; exact hj)
      rw [Addr.add_lit, Nat.zero_add] at h3
      rw [Nat.zero_add]
      exact h3
end Go.Proofs.YtlccdenafnekjaaGreatDoor

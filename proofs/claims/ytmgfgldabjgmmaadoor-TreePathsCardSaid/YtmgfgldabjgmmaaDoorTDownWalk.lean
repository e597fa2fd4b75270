/-
  The walk of the law TreeDown: it returns true. Conditions: a global's kind; names, lists and texts are no longer than memory.
-/
import Derived.Test.YtmgfgldabjgmmaaDoorTDown
namespace Go.Proofs.YtmgfgldabjgmmaaDoor
open Go.RowKit
set_option linter.unusedVariables false

theorem slash_cat (a b : ByteArray) : (a ++ ⟨#[47]⟩ ++ b).data.toList = a.data.toList ++ 47 :: b.data.toList := by simp

/-- A whole row is loaded, guarded or not. -/
theorem wpList_load_rowG {P : Program} {ops : Array Oper} {rest : List Oper} {o : Oper} {a : Act} {w : World} {Q : Exit → Act → World → Prop} (hw : Region.wanted o (yielded ops a.tmps) = true) (ty : TypeId) (x : Operand) (ho : o.op = .load ty x)
    (g : Nat) (hx : a.eval x = .pointer (some ⟨g, 0, none⟩)) (t : TypeId) (cs : Array Value) (fr : Nat × Nat) (d : TypeDesc) (hg : w.heap[g]? = some (.cells cs t fr))
    (hu : P.underlying ty = some d) (hd : (match d with | .struct _ | .array _ _ => true | _ => false) = true) (hi : (P.info? ty).map (·.size) = some cs.size)
    (h : wpList P ops Q rest (a.put o.dst (.agg cs)) w) : wpList P ops Q (o :: rest) a w :=
  BigFrame.wpList_want hw fun _ hK => wp_load_row ty x ho g hx t cs fr d hg hu hd hi (hK _ _ h)

theorem zT_info : (Tryd.prog.info? 26).map (·.size) = some zT.toArray.size := by rw [info5]; rfl

/-- A new variable that is given a tree at once. -/
theorem var_tree {w : World} {cs : List Value} (h5 : cs.length = 5) :
    Has ((w.alloc (.cells #[.int .u8 0, .bool false, .slice none 0 0, .slice none 0 0, .slice none 0 0] 26)).setRow w.heap.size cs.toArray) w.heap.size cs 26 ∧
    Below w.heap.size w ((w.alloc (.cells #[.int .u8 0, .bool false, .slice none 0 0, .slice none 0 0, .slice none 0 0] 26)).setRow w.heap.size cs.toArray) :=
  ⟨(Has.new w zT _).row cs, below_setRow ((Below.refl _ _).alloc (Nat.le_refl _) _) (Nat.le_refl _) _⟩

set_option maxRecDepth 100000 in
set_option maxHeartbeats 20000000 in
theorem walk_TreeDown (w : World) (n : Nat) (cs : List Value) (t : T) (ht : IsT w n cs t) (hs : Small t) (a : ByteArray) (ha : a.size ≤ 140737488355328) (b : ByteArray) (hb : b.size ≤ 140737488355328) (hm : MaxW w) :
    Calls Tryd.prog 8 #[.agg cs.toArray, .string a, .string b] w fun e w' => e = .returned (.bool true) ∧ Below w.heap.size w w' := by
  have hmx : 0 < w.heap.size := by
    obtain ⟨m, h⟩ := hm
    exact World.block_lt_of_cell? w _ h
  have hI := Lib.hid (infoL (isT_five ht))
  have HT := Lib.hid ht
  have HSM := Lib.hid hs
  have HM := Lib.hid hm
  clear ht hs hm
  go_enter Tryd.func8, Tryd.ntmps8
  go_upto_region 1 with fail
  obtain ⟨w1, hw1⟩ : ∃ w1, w1 = w.alloc (.cells cs.toArray 26) := ⟨_, rfl⟩
  have g1 : Has w1 w.heap.size cs 26 := by rw [hw1]; exact Has.new w cs _
  have b1 : Below w.heap.size w w1 := by rw [hw1]; exact (Below.refl _ _).alloc (Nat.le_refl _) _
  have s1 : w1.heap.size = w.heap.size + 1 := by rw [hw1]; simp
  rw [← hw1]
  have H1 := Lib.hid g1
  have B1 := Lib.hid b1
  clear hw1 g1 b1
  go_wp2_with (refine wpList_load_row rfl 26 _ rfl w.heap.size rfl 26 cs.toArray (0, 0) _ H1.out Tryd.underlying26 rfl hI.out ?_)
  refine (great_any n cs t w1 (IsT.later B1.out _ _ _ HT.out) 500 (by omega) (by omega)).mono ?_
  rintro e w2 ⟨⟨gr, rfl⟩, b2⟩
  have H2 := Lib.hid (H1.out.below b2 (by omega))
  have B2 := Lib.hid (B1.out.trans (b2.mono (by omega)))
  have s2 := b2.size
  have HM2 := Lib.hid (HM.out.below B2.out hmx)
  clear b2 H1 B1
  cases gr
  · go_wp2_with fail
    refine (awake_any w2 HM2.out (by omega)).mono ?_
    rintro e w3 ⟨rfl, b3⟩
    have H3 := Lib.hid (H2.out.below b3 (by omega))
    have B3 := Lib.hid (B2.out.trans (b3.mono (by omega)))
    have s3 := b3.size
    have HM3 := Lib.hid (HM.out.below B3.out hmx)
    clear b3 H2 B2 HM2
    go_wp2_with (refine wpList_load_rowG (by rfl) 26 _ rfl w.heap.size rfl 26 cs.toArray (0, 0) _ H3.out Tryd.underlying26 rfl hI.out ?_)
    refine (rform_any n cs t w3 (IsT.later B3.out _ _ _ HT.out) HSM.out).mono ?_
    rintro e w4 ⟨rfl, b4⟩
    have H4 := Lib.hid (H3.out.below b4 (by omega))
    have B4 := Lib.hid (B3.out.trans (b4.mono (by omega)))
    have s4 := b4.size
    have HM4 := Lib.hid (HM.out.below B4.out hmx)
    clear b4 H3 B3 HM3
    cases hz : sizeT t with
    | none =>
      rw [show (none : Option (Nat × Nat)).isSome = false from rfl]
      clear hz
      go_wp2_with fail
      refine (awake_any w4 HM4.out (by omega)).mono ?_
      rintro e w5 ⟨rfl, b5⟩
      have B5 := Lib.hid (B4.out.trans (b5.mono (by omega)))
      clear b5
      go_wp2_with fail
      go_ret
      exact ⟨rfl, B5.out⟩
    | some q =>
      rw [show (some q).isSome = true from rfl]
      have HN := Lib.hid (size_most hz).2
      clear hz
      by_cases hae : a.toList = []
      · have hae2 : a.toList.isEmpty = true := by rw [hae]; rfl
        go_wp2_with fail
        refine (awake_any w4 HM4.out (by omega)).mono ?_
        rintro e w5 ⟨rfl, b5⟩
        have B5 := Lib.hid (B4.out.trans (b5.mono (by omega)))
        clear b5
        go_wp2_with fail
        go_ret
        exact ⟨rfl, B5.out⟩
      · have hae2 : a.toList.isEmpty = false := by rw [Bool.eq_false_iff]; intro h; exact hae (List.isEmpty_iff.1 h)
        by_cases hbe : b.toList = []
        · have hbe2 : b.toList.isEmpty = true := by rw [hbe]; rfl
          go_wp2_with fail
          refine (awake_any w4 HM4.out (by omega)).mono ?_
          rintro e w5 ⟨rfl, b5⟩
          have B5 := Lib.hid (B4.out.trans (b5.mono (by omega)))
          clear b5
          go_wp2_with fail
          go_ret
          exact ⟨rfl, B5.out⟩
        · have hbe2 : b.toList.isEmpty = false := by rw [Bool.eq_false_iff]; intro h; exact hbe (List.isEmpty_iff.1 h)
          by_cases hl : (300 : Int) < (a.size : Int) + (b.size : Int)
          · go_wp2_with fail
            refine (awake_any w4 HM4.out (by omega)).mono ?_
            rintro e w5 ⟨rfl, b5⟩
            have B5 := Lib.hid (B4.out.trans (b5.mono (by omega)))
            clear b5
            go_wp2_with fail
            go_ret
            exact ⟨rfl, B5.out⟩
          · have hc1 : ¬ 9223372036854775807 < a.size + 1 := by omega
            have hc2 : ¬ 9223372036854775807 < a.size + 1 + b.size := by omega
            have hc3 : ¬ 9223372036854775807 < (a ++ ⟨#[47]⟩).size + b.size := by
              have : (a ++ ⟨#[47]⟩ : ByteArray).size = a.size + 1 := ByteArray.size_append
              omega
            have hne1 : a.data.toList ≠ [] := by rw [← ByteArray.toList_eq]; exact hae
            have hne2 : b.data.toList ≠ [] := by rw [← ByteArray.toList_eq]; exact hbe
            have hcat := atT_cat t hne1 hne2 (by simp; omega)
            rw [← slash_cat] at hcat
            have HCAT := Lib.hid hcat
            clear hcat hne1 hne2
            go_wp2_with (refine wpList_load_rowG (by rfl) 26 _ rfl w.heap.size rfl 26 cs.toArray (0, 0) _ H4.out Tryd.underlying26 rfl hI.out ?_)
            obtain ⟨p, hp⟩ : ∃ p, p = a ++ ⟨#[47]⟩ ++ b := ⟨_, rfl⟩
            rw [← hp]
            have HP := Lib.hid hp
            clear hp hc1 hc2 hc3
            have K4 := at_uni n cs t p w4 (IsT.later B4.out _ _ _ HT.out) HSM.out (by have := HN.out; omega) HM4.out (by omega)
            have hC := HCAT.out
            rw [← HP.out] at hC
            rcases hC with ⟨hca, hcp⟩ | ⟨y, hya, hyp⟩
            · obtain ⟨c4, hc4⟩ : ∃ c, c = codeR (atT p.data.toList t) := ⟨_, rfl⟩
              obtain ⟨c6, hc6⟩ : ∃ c, c = codeR (atT a.data.toList t) := ⟨_, rfl⟩
              rw [← hc4] at hcp
              rw [← hc6] at hca
              have HC4 := Lib.hid hc4
              have HC6 := Lib.hid hc6
              have hq4 : (c4 != 0) = true := by rw [bne_iff_ne]; exact hcp
              have hq4' : (c4 == 0) = false := by rw [beq_eq_false_iff_ne]; exact hcp
              have hq6 : (c6 != 0) = true := by rw [bne_iff_ne]; exact hca
              have hq6' : (c6 == 0) = false := by rw [beq_eq_false_iff_ne]; exact hca
              clear hc4 hc6 hcp hca
              refine K4.mono ?_
              rintro e w5 ⟨n5, x5, rfl, t5, b5⟩
              rw [← HC4.out]
              have B5 := Lib.hid (B4.out.trans (b5.mono (by omega)))
              have s5 := b5.size
              have H5 := Lib.hid (H4.out.below b5 (by omega))
              have h5a := isT_five t5
              have HIa := Lib.hid (infoL h5a)
              have HSa : Hid ((#[.int .u8 0, .bool false, .slice none 0 0, .slice none 0 0, .slice none 0 0] : Array Value).size = x5.toArray.size) := Lib.hid (by simp [h5a])
              have HOa := Lib.hid (isT_one t5)
              obtain ⟨w6, hw6⟩ : ∃ w6, w6 = (((w5.alloc (.cells #[.int .u8 0, .bool false, .slice none 0 0, .slice none 0 0, .slice none 0 0] 26)).setRow w5.heap.size x5.toArray)) := ⟨_, rfl⟩
              obtain ⟨va, b6⟩ := var_tree (w := w5) h5a
              rw [← hw6] at va b6
              have Va := Lib.hid va
              have HTa := Lib.hid t5
              have HWa := Lib.hid hw6
              have B6 := Lib.hid (B5.out.trans (b6.mono (by omega)))
              have s6 := b6.size
              have H6 := Lib.hid (H5.out.below b6 (by omega))
              have H6' : Hid ((((w5.alloc (.cells #[.int .u8 0, .bool false, .slice none 0 0, .slice none 0 0, .slice none 0 0] 26)).setRow w5.heap.size x5.toArray)).heap[w.heap.size]? = some (.cells cs.toArray 26 (0, 0))) := Lib.hid (by rw [← hw6]; exact H6.out)
              have HM6 := Lib.hid (HM.out.below B6.out hmx)
              clear b5 b6 t5 h5a va hw6 K4
              go_wp2_with (first
                | (refine wpList_store_row rfl 26 _ _ rfl w5.heap.size x5.toArray rfl rfl 26 _ (heap_alloc_new w5 _) HIa.out HSa.out HOa.out ?_)
                | (refine wpList_load_rowG (by rfl) 26 _ rfl w.heap.size rfl 26 cs.toArray (0, 0) _ H6'.out Tryd.underlying26 rfl hI.out ?_))
              rw [← HWa.out]
              refine (at_uni n cs t a w6 (IsT.later B6.out _ _ _ HT.out) HSM.out (by have := HN.out; omega) HM6.out (by omega)).mono ?_
              rintro e w7 ⟨n7, y7, rfl, t7, b7⟩
              rw [← HC6.out]
              have B7 := Lib.hid (B6.out.trans (b7.mono (by omega)))
              have s7 := b7.size
              have h5b := isT_five t7
              have HIb := Lib.hid (infoL h5b)
              have HSb : Hid ((#[.int .u8 0, .bool false, .slice none 0 0, .slice none 0 0, .slice none 0 0] : Array Value).size = y7.toArray.size) := Lib.hid (by simp [h5b])
              have HOb := Lib.hid (isT_one t7)
              obtain ⟨w8, hw8⟩ : ∃ w8, w8 = (((w7.alloc (.cells #[.int .u8 0, .bool false, .slice none 0 0, .slice none 0 0, .slice none 0 0] 26)).setRow w7.heap.size y7.toArray)) := ⟨_, rfl⟩
              obtain ⟨vb, b8⟩ := var_tree (w := w7) h5b
              rw [← hw8] at vb b8
              have Vb := Lib.hid vb
              have HTb := Lib.hid t7
              have HWb := Lib.hid hw8
              have B8 := Lib.hid (B7.out.trans (b8.mono (by omega)))
              clear b7 b8 t7 h5b vb hw8
              go_wp2_with (refine wpList_store_row rfl 26 _ _ rfl w7.heap.size y7.toArray rfl rfl 26 _ (heap_alloc_new w7 _) HIb.out HSb.out HOb.out ?_)
              rw [← HWb.out]
              go_ret
              exact ⟨rfl, B8.out⟩
            · rw [hyp] at K4
              have hys := atT_small hya HSM.out
              have HYS := Lib.hid hys.1
              have HYN : Hid (sizeN y ≤ 1000000) := Lib.hid (by have := HN.out; have := hys.2; omega)
              have HYA := Lib.hid hya
              obtain ⟨r, hr⟩ : ∃ r, r = atT b.data.toList y := ⟨_, rfl⟩
              rw [← hr] at K4
              have HR := Lib.hid hr
              obtain ⟨c4, hc4⟩ : ∃ c, c = codeR r := ⟨_, rfl⟩
              have HC4 := Lib.hid hc4
              clear hc4 hr hya hyp hys
              refine K4.mono ?_
              rintro e w5 ⟨n5, x5, rfl, t5, b5⟩
              rw [← HC4.out]
              have B5 := Lib.hid (B4.out.trans (b5.mono (by omega)))
              have s5 := b5.size
              have H5 := Lib.hid (H4.out.below b5 (by omega))
              have h5a := isT_five t5
              have HIa := Lib.hid (infoL h5a)
              have HSa : Hid ((#[.int .u8 0, .bool false, .slice none 0 0, .slice none 0 0, .slice none 0 0] : Array Value).size = x5.toArray.size) := Lib.hid (by simp [h5a])
              have HOa := Lib.hid (isT_one t5)
              obtain ⟨w6, hw6⟩ : ∃ w6, w6 = (((w5.alloc (.cells #[.int .u8 0, .bool false, .slice none 0 0, .slice none 0 0, .slice none 0 0] 26)).setRow w5.heap.size x5.toArray)) := ⟨_, rfl⟩
              obtain ⟨va, b6⟩ := var_tree (w := w5) h5a
              rw [← hw6] at va b6
              have Va := Lib.hid va
              have HTa := Lib.hid t5
              have HWa := Lib.hid hw6
              have B6 := Lib.hid (B5.out.trans (b6.mono (by omega)))
              have s6 := b6.size
              have sv6 := va.lt
              have TX6 := Lib.hid (IsT.later b6 _ _ _ t5)
              have H6 := Lib.hid (H5.out.below b6 (by omega))
              have H6' : Hid ((((w5.alloc (.cells #[.int .u8 0, .bool false, .slice none 0 0, .slice none 0 0, .slice none 0 0] 26)).setRow w5.heap.size x5.toArray)).heap[w.heap.size]? = some (.cells cs.toArray 26 (0, 0))) := Lib.hid (by rw [← hw6]; exact H6.out)
              have HM6 := Lib.hid (HM.out.below B6.out hmx)
              clear b5 b6 t5 h5a va hw6 K4
              go_wp2_with (first
                | (refine wpList_store_row rfl 26 _ _ rfl w5.heap.size x5.toArray rfl rfl 26 _ (heap_alloc_new w5 _) HIa.out HSa.out HOa.out ?_)
                | (refine wpList_load_rowG (by rfl) 26 _ rfl w.heap.size rfl 26 cs.toArray (0, 0) _ H6'.out Tryd.underlying26 rfl hI.out ?_))
              rw [← HWa.out]
              have K6 := at_uni n cs t a w6 (IsT.later B6.out _ _ _ HT.out) HSM.out (by have := HN.out; omega) HM6.out (by omega)
              rw [HYA.out] at K6
              refine K6.mono ?_
              rintro e w7 ⟨n7, y7, rfl, t7, b7⟩
              rw [show codeR (.inr y) = 0 from rfl]
              rw [show resT (.inr y) = y from rfl] at t7
              have B7 := Lib.hid (B6.out.trans (b7.mono (by omega)))
              have s7 := b7.size
              have VX7 := Lib.hid (Va.out.below b7 (by omega))
              have TX7 := Lib.hid (IsT.later b7 _ _ _ TX6.out)
              have h5b := isT_five t7
              have HIb := Lib.hid (infoL h5b)
              have HSb : Hid ((#[.int .u8 0, .bool false, .slice none 0 0, .slice none 0 0, .slice none 0 0] : Array Value).size = y7.toArray.size) := Lib.hid (by simp [h5b])
              have HOb := Lib.hid (isT_one t7)
              obtain ⟨w8, hw8⟩ : ∃ w8, w8 = (((w7.alloc (.cells #[.int .u8 0, .bool false, .slice none 0 0, .slice none 0 0, .slice none 0 0] 26)).setRow w7.heap.size y7.toArray)) := ⟨_, rfl⟩
              obtain ⟨vb, b8⟩ := var_tree (w := w7) h5b
              rw [← hw8] at vb b8
              have Vb := Lib.hid vb
              have HTb := Lib.hid t7
              have HWb := Lib.hid hw8
              have B8 := Lib.hid (B7.out.trans (b8.mono (by omega)))
              have s8 := b8.size
              have sv8 := vb.lt
              have VX8 := Lib.hid (VX7.out.below b8 (by omega))
              have TX8 := Lib.hid (IsT.later b8 _ _ _ TX7.out)
              have TY8 := Lib.hid (IsT.later b8 _ _ _ t7)
              have VY8' : Hid ((((w7.alloc (.cells #[.int .u8 0, .bool false, .slice none 0 0, .slice none 0 0, .slice none 0 0] 26)).setRow w7.heap.size y7.toArray)).heap[w7.heap.size]? = some (.cells y7.toArray 26 (0, 0))) := Lib.hid (by rw [← hw8]; exact vb)
              have HM8 := Lib.hid (HM.out.below B8.out hmx)
              clear b7 b8 t7 h5b vb hw8 K6
              go_wp2_with (first
                | (refine wpList_store_row rfl 26 _ _ rfl w7.heap.size y7.toArray rfl rfl 26 _ (heap_alloc_new w7 _) HIb.out HSb.out HOb.out ?_)
                | (refine wpList_load_rowG (by rfl) 26 _ rfl w7.heap.size rfl 26 y7.toArray (0, 0) _ VY8'.out Tryd.underlying26 rfl HIb.out ?_))
              rw [← HWb.out]
              have K8 := at_uni n7 y7 y b w8 TY8.out HYS.out HYN.out HM8.out (by omega)
              rw [← HR.out] at K8
              refine K8.mono ?_
              rintro e w9 ⟨n9, z9, rfl, t9, b9⟩
              rw [← HC4.out]
              have B9 := Lib.hid (B8.out.trans (b9.mono (by omega)))
              have s9 := b9.size
              have VX9 := Lib.hid (VX8.out.below b9 (by omega))
              have TX9 := Lib.hid (IsT.later b9 _ _ _ TX8.out)
              have h5c := isT_five t9
              have HIc := Lib.hid (infoL h5c)
              have HSc : Hid ((#[.int .u8 0, .bool false, .slice none 0 0, .slice none 0 0, .slice none 0 0] : Array Value).size = z9.toArray.size) := Lib.hid (by simp [h5c])
              have HOc := Lib.hid (isT_one t9)
              obtain ⟨w10, hw10⟩ : ∃ w10, w10 = (((w9.alloc (.cells #[.int .u8 0, .bool false, .slice none 0 0, .slice none 0 0, .slice none 0 0] 26)).setRow w9.heap.size z9.toArray)) := ⟨_, rfl⟩
              obtain ⟨vc, b10⟩ := var_tree (w := w9) h5c
              rw [← hw10] at vc b10
              have Vc := Lib.hid vc
              have HTc := Lib.hid t9
              have HWc := Lib.hid hw10
              have B10 := Lib.hid (B9.out.trans (b10.mono (by omega)))
              have s10 := b10.size
              have VX10 := Lib.hid (VX9.out.below b10 (by omega))
              have TX10 := Lib.hid (IsT.later b10 _ _ _ TX9.out)
              have TZ10 := Lib.hid (IsT.later b10 _ _ _ t9)
              have VX10' : Hid ((((w9.alloc (.cells #[.int .u8 0, .bool false, .slice none 0 0, .slice none 0 0, .slice none 0 0] 26)).setRow w9.heap.size z9.toArray)).heap[w5.heap.size]? = some (.cells x5.toArray 26 (0, 0))) := Lib.hid (by rw [← hw10]; exact VX10.out)
              have VZ10' : Hid ((((w9.alloc (.cells #[.int .u8 0, .bool false, .slice none 0 0, .slice none 0 0, .slice none 0 0] 26)).setRow w9.heap.size z9.toArray)).heap[w9.heap.size]? = some (.cells z9.toArray 26 (0, 0))) := Lib.hid (by rw [← hw10]; exact vc)
              have KS := Lib.hid (rsame_any n5 x5 (resT r) n9 z9 (resT r) w10 TX10.out TZ10.out)
              clear b9 b10 t9 h5c vc hw10 K8
              go_wp2_with (first
                | (refine wpList_store_row rfl 26 _ _ rfl w9.heap.size z9.toArray rfl rfl 26 _ (heap_alloc_new w9 _) HIc.out HSc.out HOc.out ?_)
                | (refine wpList_load_rowG (by rfl) 26 _ rfl w5.heap.size rfl 26 x5.toArray (0, 0) _ VX10'.out Tryd.underlying26 rfl HIa.out ?_)
                | (refine wpList_load_rowG (by rfl) 26 _ rfl w9.heap.size rfl 26 z9.toArray (0, 0) _ VZ10'.out Tryd.underlying26 rfl HIc.out ?_))
              rw [← HWc.out]
              refine KS.out.mono ?_
              rintro e w11 ⟨⟨rb, rfl, hrb⟩, b11⟩
              obtain rfl := hrb.2 rfl
              have B11 := Lib.hid (B10.out.trans (b11.mono (by omega)))
              clear b11 hrb KS
              go_wp2_with fail
              go_ret
              exact ⟨rfl, B11.out⟩
  · go_wp2_with fail
    refine (awake_any w2 HM2.out (by omega)).mono ?_
    rintro e w3 ⟨rfl, b3⟩
    have B3 := Lib.hid (B2.out.trans (b3.mono (by omega)))
    clear b3
    go_wp2_with fail
    go_ret
    exact ⟨rfl, B3.out⟩

end Go.Proofs.YtmgfgldabjgmmaaDoor

/-
  The walk of the law TreeAt: it returns true. Conditions: a global's kind; names, lists and texts are no longer than memory.
-/
import Derived.Test.YtmgfgldabjgmmaaDoorTDownWalk
import Derived.Test.YtmgfgldabjgmmaaDoorTRPaths
namespace Go.Proofs.YtmgfgldabjgmmaaDoor
open Go.RowKit
set_option linter.unusedVariables false

set_option maxRecDepth 100000 in
set_option maxHeartbeats 20000000 in
theorem walk_TreeAt (w : World) (n : Nat) (cs : List Value) (t : T) (ht : IsT w n cs t) (hs : Small t) (p : ByteArray) (hp : p.size ≤ 140737488355328) (hm : MaxW w) :
    Calls Tryd.prog 5 #[.agg cs.toArray, .string p] w fun e w' => e = .returned (.bool true) ∧ Below w.heap.size w w' := by
  have hmx : 0 < w.heap.size := by
    obtain ⟨m, h⟩ := hm
    exact World.block_lt_of_cell? w _ h
  have hI := Lib.hid (infoL (isT_five ht))
  have HT := Lib.hid ht
  have HSM := Lib.hid hs
  have HM := Lib.hid hm
  clear ht hs hm
  go_enter Tryd.func5, Tryd.ntmps5
  go_upto_region 1 with fail
  obtain ⟨w1, hw1⟩ : ∃ w1, w1 = w.alloc (.cells cs.toArray 26) := ⟨_, rfl⟩
  have g1 : Has w1 w.heap.size cs 26 := by rw [hw1]; exact Has.new w cs _
  have b1 : Below w.heap.size w w1 := by rw [hw1]; exact (Below.refl _ _).alloc (Nat.le_refl _) _
  have s1 : w1.heap.size = w.heap.size + 1 := by rw [hw1]; simp
  rw [← hw1]
  have H1 := Lib.hid g1
  have B1 := Lib.hid b1
  clear hw1 g1 b1
  go_wp2_with (refine wpList_load_rowG (by rfl) 26 _ rfl w.heap.size rfl 26 cs.toArray (0, 0) _ H1.out Tryd.underlying26 rfl hI.out ?_)
  refine (great_any n cs t w1 (IsT.later B1.out _ _ _ HT.out) 1000 (by omega) (by omega)).mono ?_
  rintro e w2 ⟨⟨gr, rfl⟩, b2⟩
  have H2 := Lib.hid (H1.out.below b2 (by omega))
  have B2 := Lib.hid (B1.out.trans (b2.mono (by omega)))
  have s2 := b2.size
  have HM2 := Lib.hid (HM.out.below B2.out hmx)
  clear b2 H1 B1
  cases gr
  · go_wp2_with fail
    refine (awake_any w2 HM2.out (by omega)).mono ?_
    rintro e w3 ⟨rfl, b3⟩
    have H3 := Lib.hid (H2.out.below b3 (by omega))
    have B3 := Lib.hid (B2.out.trans (b3.mono (by omega)))
    have s3 := b3.size
    have HM3 := Lib.hid (HM.out.below B3.out hmx)
    clear b3 H2 B2 HM2
    go_wp2_with (refine wpList_load_rowG (by rfl) 26 _ rfl w.heap.size rfl 26 cs.toArray (0, 0) _ H3.out Tryd.underlying26 rfl hI.out ?_)
    refine (rform_any n cs t w3 (IsT.later B3.out _ _ _ HT.out) HSM.out).mono ?_
    rintro e w4 ⟨rfl, b4⟩
    have H4 := Lib.hid (H3.out.below b4 (by omega))
    have B4 := Lib.hid (B3.out.trans (b4.mono (by omega)))
    have s4 := b4.size
    have HM4 := Lib.hid (HM.out.below B4.out hmx)
    clear b4 H3 B3 HM3
    cases hz : sizeT t with
    | none =>
      rw [show (none : Option (Nat × Nat)).isSome = false from rfl]
      clear hz
      go_wp2_with fail
      refine (awake_any w4 HM4.out (by omega)).mono ?_
      rintro e w5 ⟨rfl, b5⟩
      have BE := Lib.hid (B4.out.trans (b5.mono (by omega)))
      clear b5
      go_wp2_with fail
      go_ret
      exact ⟨rfl, BE.out⟩
    | some q =>
      rw [show (some q).isSome = true from rfl]
      have HZ := Lib.hid hz
      have HN := Lib.hid (size_most hz).2
      have HGOOD := Lib.hid (Good.of hz)
      clear hz
      obtain ⟨r, hr⟩ : ∃ r, r = atT p.data.toList t := ⟨_, rfl⟩
      have HR := Lib.hid hr
      obtain ⟨c4, hc4⟩ : ∃ c, c = codeR r := ⟨_, rfl⟩
      have HC4 := Lib.hid hc4
      clear hr hc4
      go_wp2_with (refine wpList_load_rowG (by rfl) 26 _ rfl w.heap.size rfl 26 cs.toArray (0, 0) _ H4.out Tryd.underlying26 rfl hI.out ?_)
      have K4 := at_uni n cs t p w4 (IsT.later B4.out _ _ _ HT.out) HSM.out (by have := HN.out; omega) HM4.out (by omega)
      rw [← HR.out] at K4
      refine K4.mono ?_
      rintro e w5 ⟨n5, x5, rfl, t5, b5⟩
      rw [← HC4.out]
      have B5 := Lib.hid (B4.out.trans (b5.mono (by omega)))
      have s5 := b5.size
      have H5 := Lib.hid (H4.out.below b5 (by omega))
      have h5a := isT_five t5
      have HIa := Lib.hid (infoL h5a)
      have HSa : Hid ((#[.int .u8 0, .bool false, .slice none 0 0, .slice none 0 0, .slice none 0 0] : Array Value).size = x5.toArray.size) := Lib.hid (by simp [h5a])
      have HOa := Lib.hid (isT_one t5)
      obtain ⟨w6, hw6⟩ : ∃ w6, w6 = (((w5.alloc (.cells #[.int .u8 0, .bool false, .slice none 0 0, .slice none 0 0, .slice none 0 0] 26)).setRow w5.heap.size x5.toArray)) := ⟨_, rfl⟩
      obtain ⟨va, b6⟩ := var_tree (w := w5) h5a
      rw [← hw6] at va b6
      have Va := Lib.hid va
      have HTa := Lib.hid t5
      have HWa := Lib.hid hw6
      have B6 := Lib.hid (B5.out.trans (b6.mono (by omega)))
      have s6 := b6.size
      have sv6 := va.lt
      have TX6 := Lib.hid (IsT.later b6 _ _ _ t5)
      have H6 := Lib.hid (H5.out.below b6 (by omega))
      have H6' : Hid ((((w5.alloc (.cells #[.int .u8 0, .bool false, .slice none 0 0, .slice none 0 0, .slice none 0 0] 26)).setRow w5.heap.size x5.toArray)).heap[w.heap.size]? = some (.cells cs.toArray 26 (0, 0))) := Lib.hid (by rw [← hw6]; exact H6.out)
      clear b5 b6 t5 h5a va hw6 K4
      go_wp2_with (first
        | (refine wpList_store_row rfl 26 _ _ rfl w5.heap.size x5.toArray rfl rfl 26 _ (heap_alloc_new w5 _) HIa.out HSa.out HOa.out ?_)
        | (refine wpList_load_rowG (by rfl) 26 _ rfl w.heap.size rfl 26 cs.toArray (0, 0) _ H6'.out Tryd.underlying26 rfl hI.out ?_))
      rw [← HWa.out]
      have K6 := rat_any n cs t p w6 (IsT.later B6.out _ _ _ HT.out) HGOOD.out
      rw [← HR.out] at K6
      refine K6.mono ?_
      rintro e w7 ⟨n7, y7, rfl, t7, b7⟩
      rw [← HC4.out]
      have B7 := Lib.hid (B6.out.trans (b7.mono (by omega)))
      have s7 := b7.size
      have H7 := Lib.hid (H6.out.below b7 (by omega))
      have VX7 := Lib.hid (Va.out.below b7 (by omega))
      have TX7 := Lib.hid (IsT.later b7 _ _ _ TX6.out)
      have t7 := IsT.later b7 _ _ _ t7
      have h5b := isT_five t7
      have HIb := Lib.hid (infoL h5b)
      have HSb : Hid ((#[.int .u8 0, .bool false, .slice none 0 0, .slice none 0 0, .slice none 0 0] : Array Value).size = y7.toArray.size) := Lib.hid (by simp [h5b])
      have HOb := Lib.hid (isT_one t7)
      obtain ⟨w8, hw8⟩ : ∃ w8, w8 = (((w7.alloc (.cells #[.int .u8 0, .bool false, .slice none 0 0, .slice none 0 0, .slice none 0 0] 26)).setRow w7.heap.size y7.toArray)) := ⟨_, rfl⟩
      obtain ⟨vb, b8⟩ := var_tree (w := w7) h5b
      rw [← hw8] at vb b8
      have Vb := Lib.hid vb
      have HTb := Lib.hid t7
      have HWb := Lib.hid hw8
      have B8 := Lib.hid (B7.out.trans (b8.mono (by omega)))
      have s8 := b8.size
      have H8 := Lib.hid (H7.out.below b8 (by omega))
      have VX8 := Lib.hid (VX7.out.below b8 (by omega))
      have TX8 := Lib.hid (IsT.later b8 _ _ _ TX7.out)
      have TY8 := Lib.hid (IsT.later b8 _ _ _ t7)
      have VX8' : Hid ((((w7.alloc (.cells #[.int .u8 0, .bool false, .slice none 0 0, .slice none 0 0, .slice none 0 0] 26)).setRow w7.heap.size y7.toArray)).heap[w5.heap.size]? = some (.cells x5.toArray 26 (0, 0))) := Lib.hid (by rw [← hw8]; exact VX8.out)
      have VY8' : Hid ((((w7.alloc (.cells #[.int .u8 0, .bool false, .slice none 0 0, .slice none 0 0, .slice none 0 0] 26)).setRow w7.heap.size y7.toArray)).heap[w7.heap.size]? = some (.cells y7.toArray 26 (0, 0))) := Lib.hid (by rw [← hw8]; exact vb)
      have KS := Lib.hid (rsame_any n5 x5 (resT r) n7 y7 (resT r) w8 TX8.out TY8.out)
      clear b7 b8 t7 h5b vb hw8 K6
      go_wp2_with (first
        | (refine wpList_store_row rfl 26 _ _ rfl w7.heap.size y7.toArray rfl rfl 26 _ (heap_alloc_new w7 _) HIb.out HSb.out HOb.out ?_)
        | (refine wpList_load_rowG (by rfl) 26 _ rfl w5.heap.size rfl 26 x5.toArray (0, 0) _ VX8'.out Tryd.underlying26 rfl HIa.out ?_)
        | (refine wpList_load_rowG (by rfl) 26 _ rfl w7.heap.size rfl 26 y7.toArray (0, 0) _ VY8'.out Tryd.underlying26 rfl HIb.out ?_))
      rw [← HWb.out]
      refine KS.out.mono ?_
      rintro e w9 ⟨⟨rb, rfl, hrb⟩, b9⟩
      obtain rfl := hrb.2 rfl
      have B9 := Lib.hid (B8.out.trans (b9.mono (by omega)))
      have s9 := b9.size
      have H9 := Lib.hid (H8.out.below b9 (by omega))
      clear b9 hrb KS VX8' VY8' H6'
      go_wp2_with (refine wpList_load_rowG (by rfl) 26 _ rfl w.heap.size rfl 26 cs.toArray (0, 0) _ H9.out Tryd.underlying26 rfl hI.out ?_)
      refine (paths_any n cs t w9 (IsT.later B9.out _ _ _ HT.out) q HZ.out).mono ?_
      rintro e w10 ⟨v10, rfl, o10, b10⟩
      obtain ⟨PT, hPT⟩ : ∃ PT, PT = pathsT t ⟨#[]⟩ := ⟨_, rfl⟩
      have HPT := Lib.hid hPT
      rw [← hPT] at o10
      obtain ⟨Lp, hLp⟩ : ∃ Lp, Lp = PT.length := ⟨_, rfl⟩
      have HLP := Lib.hid hLp
      rw [← hLp] at o10
      obtain ⟨a10, c10, rfl, i10, _⟩ := isS_of_owns o10
      have hl1 := (HGOOD.out.paths ⟨#[]⟩)
      have hl2 := (size_most HZ.out).1
      rw [← hPT, ← hLp, hl2] at hl1
      have HQ1 : Hid (q.1 = Lp + 1) := Lib.hid (by omega)
      have hl4 : Lp ≤ 4095 := by omega
      have B10 := Lib.hid (B9.out.trans (b10.mono (by omega)))
      have s10 := b10.size
      have H10 := Lib.hid (H9.out.below b10 (by omega))
      have I10 := Lib.hid i10
      clear o10 b10 i10 hPT hLp hl1 hl2
      go_wp2_with (refine wpList_load_rowG (by rfl) 26 _ rfl w.heap.size rfl 26 cs.toArray (0, 0) _ H10.out Tryd.underlying26 rfl hI.out ?_)
      refine (rpaths_any n cs t w10 (IsT.later B10.out _ _ _ HT.out) HGOOD.out).mono ?_
      rintro e w11 ⟨v11, rfl, o11, b11⟩
      rw [← HPT.out, ← HLP.out] at o11
      obtain ⟨a11, c11, rfl, i11, _⟩ := isS_of_owns o11
      have B11 := Lib.hid (B10.out.trans (b11.mono (by omega)))
      have s11 := b11.size
      have H11 := Lib.hid (H10.out.below b11 (by omega))
      have I11 := Lib.hid i11
      have J11 := Lib.hid (I10.out.later b11)
      clear o11 b11 i11
      go_wp2_with (refine wpList_load_rowG (by rfl) 26 _ rfl w.heap.size rfl 26 cs.toArray (0, 0) _ H11.out Tryd.underlying26 rfl hI.out ?_)
      refine (rsize_any n cs t w11 (IsT.later B11.out _ _ _ HT.out) HSM.out).mono ?_
      rintro e w12 ⟨rfl, b12⟩
      have hv : rsizeV t = .tuple #[.int .i64 ((Lp + 1 : Nat) : Int), .int .i64 (q.2 : Int), .bool true] := by
        have h1 := HZ.out
        have h2 := HQ1.out
        unfold rsizeV; rw [h1, ← h2]
      rw [hv]
      have B12 := Lib.hid (B11.out.trans (b12.mono (by omega)))
      have I12 := Lib.hid (I11.out.later b12)
      have J12 := Lib.hid (J11.out.later b12)
      have hwr : wrap64 (((Lp + 1 : Nat) : Int) - 1) = (Lp : Int) := by
        rw [show ((Lp + 1 : Nat) : Int) - 1 = (Lp : Int) by omega]
        unfold wrap64; omega
      clear b12 hv
      go_wp2_with fail
      go_loopw [14] (fun ii wr => ∃ j : Nat, j ≤ Lp ∧ ii = .int .i64 j ∧ IsS wr a10 Lp c10 PT ∧ IsS wr a11 Lp c11 PT ∧ Below w.heap.size w wr) (fun ii _ => Lp - (intOf ii).toNat)
      case atStart => exact ⟨0, Nat.zero_le _, rfl, J12.out, I12.out, B12.out⟩
      case round =>
        clear J12 I12 B12
        obtain ⟨j, hj, rfl, hJ, hI', hbel⟩ := hrel
        have HJ := Lib.hid hJ
        have HI' := Lib.hid hI'
        have HBE := Lib.hid hbel
        by_cases hlt : j < Lp
        · rcases hJ.at_ with h0 | ⟨b1, o1, rfl, _, hc1⟩
          · omega
          rcases hI'.at_ with h0 | ⟨b2, o2, rfl, _, hc2⟩
          · omega
          obtain ⟨s, hs⟩ : ∃ s, s = PT.getD j ⟨#[]⟩ := ⟨_, rfl⟩
          have hx1 := hc1 j hlt
          have hx2 := hc2 j hlt
          rw [← hs] at hx1 hx2
          have hki : (j : Int) < (Lp : Int) := by omega
          have hni : (j : Int) + 1 ≤ 9223372036854775807 := by omega
          have HLT := Lib.hid hlt
          clear hs hc1 hc2 hJ hI' hbel
          go_upto_region 17 with fail
          go_quiet (fail)
          go_wp2_with fail
          go_roundw
          case rel => exact ⟨j + 1, by have := HLT.out; omega, by go_num, HJ.out.drewN _, HI'.out.drewN _, below_drewN HBE.out _⟩
          case measure =>
            have := HLT.out
            simp only [intOf]; omega
        · obtain rfl : Lp = j := by omega
          clear hJ hI' hbel
          go_wp2_with fail
          go_ret
          exact ⟨rfl, HBE.out⟩
  · skip
    go_wp2_with fail
    refine (awake_any w2 HM2.out (by omega)).mono ?_
    rintro e w3 ⟨rfl, b3⟩
    have BE := Lib.hid (B2.out.trans (b3.mono (by omega)))
    clear b3
    go_wp2_with fail
    go_ret
    exact ⟨rfl, BE.out⟩

end Go.Proofs.YtmgfgldabjgmmaaDoor

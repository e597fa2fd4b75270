/-
  The walk of the law NarTurned: it returns true. Conditions: names and lists are no longer than memory.
-/
import Derived.Test.YthjihibocobndaaNReadL
import Derived.Test.YthjihibocobndaaNSrc
import Derived.Deep.AppendLies
namespace Go.Proofs.Ythjihibocobndaa
open Go.RowKit
set_option linter.unusedVariables false

set_option maxRecDepth 100000 in
set_option maxHeartbeats 20000000 in
theorem walk_NarTurned (w : World) (n : Nat) (cs : List Value) (t : T) (ht : IsT w n cs t) (hs : Small t) (an : Nat) (han : an < 65536) (tz mz : UInt8) :
    Calls Try.prog 5 #[.agg cs.toArray, .int .u16 (an : Int), .int .u8 (tz.toNat : Int), .int .u8 (mz.toNat : Int)] w fun e w' => e = .returned (.bool true) ∧ Below w.heap.size w w' := by
  have hI := Lib.hid (infoL (isT_five ht))
  have hL5 : Hid ((Try.prog.info? 26).map (·.size) = some cs.length) := Lib.hid (by rw [info5, isT_five ht])
  have HT := Lib.hid ht
  have HSM := Lib.hid hs
  clear ht hs
  obtain ⟨i0, hi, hz0, hz1, hz2⟩ := info_u8w_parts
  have HI := Lib.hid hi
  have HZ0 := Lib.hid hz0
  have HZ1 := Lib.hid hz1
  have HZ2 := Lib.hid hz2
  have hani : (an : Int) < 65536 := by omega
  clear hi hz0 hz1 hz2
  go_enter Try.func5, Try.ntmps5
  go_upto_region 1 with fail
  obtain ⟨w1, hw1⟩ : ∃ w1, w1 = w.alloc (.cells cs.toArray 26) := ⟨_, rfl⟩
  have g1 : Has w1 w.heap.size cs 26 := by rw [hw1]; exact Has.new w cs _
  have b1 : Below w.heap.size w w1 := by rw [hw1]; exact (Below.refl _ _).alloc (Nat.le_refl _) _
  rw [← hw1]
  have H1 := Lib.hid g1
  have B1 := Lib.hid b1
  clear hw1 g1 b1
  go_wp2_with (refine wpList_load_rowG (by rfl) 26 _ rfl w.heap.size rfl 26 cs.toArray (0, 0) _ H1.out Try.underlying26 rfl hI.out ?_)
  refine (great_sum n cs t w1 (IsT.later B1.out _ _ _ HT.out) 500 (by omega) (by omega)).mono ?_
  rintro e w2 ⟨⟨gr, rfl, -⟩, b2⟩
  have H2 := Lib.hid (H1.out.below b2 H1.out.lt)
  have B2 := Lib.hid (B1.out.trans (b2.mono B1.out.size))
  clear b2 B1 H1 
  cases gr
  · skip
    go_wp2_with fail
    refine (awake_any w2).mono ?_
    rintro e w3 ⟨rfl, b3⟩
    have H3 := Lib.hid (H2.out.below b3 H2.out.lt)
    have B3 := Lib.hid (B2.out.trans (b3.mono B2.out.size))
    clear b3 B2 H2 
    go_wp2_with (refine wpList_load_rowG (by rfl) 26 _ rfl w.heap.size rfl 26 cs.toArray (0, 0) _ H3.out Try.underlying26 rfl hI.out ?_)
    refine (rform_any n cs t w3 (IsT.later B3.out _ _ _ HT.out) HSM.out).mono ?_
    rintro e w4 ⟨rfl, b4⟩
    have H4 := Lib.hid (H3.out.below b4 H3.out.lt)
    have B4 := Lib.hid (B3.out.trans (b4.mono B3.out.size))
    clear b4 B3 H3 
    cases hz : sizeT t with
    | none =>
      rw [show (none : Option (Nat × Nat)).isSome = false from rfl]
      clear hz
      go_wp2_with fail
      refine (awake_any w4).mono ?_
      rintro e w5 ⟨rfl, b5⟩
      have BE := Lib.hid (B4.out.trans (b5.mono B4.out.size))
      clear b5
      go_wp2_with fail
      go_ret
      exact ⟨rfl, BE.out⟩
    | some q =>
      rw [show (some q).isSome = true from rfl]
      have HZ := Lib.hid hz
      clear hz
      by_cases htz : tz = 0
      · have htt : ((tz.toNat : Int) == 0) = true := by rw [htz]; rfl
        clear htz
        go_wp2_with fail
        refine (awake_any w4).mono ?_
        rintro e w5 ⟨rfl, b5⟩
        have BE := Lib.hid (B4.out.trans (b5.mono B4.out.size))
        clear b5
        go_wp2_with fail
        go_ret
        exact ⟨rfl, BE.out⟩
      have htt : ((tz.toNat : Int) == 0) = false := by
        rw [beq_eq_false_iff_ne]; exact fun e => htz (UInt8.toNat_inj.mp (by have : (0 : UInt8).toNat = 0 := rfl; omega))
      have HTZ := Lib.hid htz
      clear htz
      have HGW0 := Lib.hid H4.out.lt
      go_wp2_with (refine wpList_load_rowG (by rfl) 26 _ rfl w.heap.size rfl 26 cs.toArray (0, 0) _ H4.out Try.underlying26 rfl hI.out ?_)
      refine (write_any n cs t w4 (IsT.later B4.out _ _ _ HT.out)).mono ?_
      rintro e w5 ⟨b5, hwp⟩
      obtain ⟨gp, capp, rfl, hop⟩ := wrote_good HZ.out hwp
      obtain ⟨lp, hlp⟩ : ∃ l, l = (archT t).length := ⟨_, rfl⟩
      rw [← hlp] at hop ⊢
      have LLp := Lib.hid hlp
      have ROp := Lib.hid hop
      clear hop hlp hwp
      have H5 := Lib.hid (H4.out.below b5 H4.out.lt)
      have B5 := Lib.hid (B4.out.trans (b5.mono B4.out.size))
      clear b5 B4 H4 
      clear htt
      have HGW : Hid (w.heap.size < w4.heap.size) := Lib.hid HGW0.out
      have hlp0 : 0 < lp := by rw [LLp.out]; exact arch_pos t
      have hlp9 : lp ≤ 900000000 := by rw [LLp.out]; exact arch_len2 HZ.out
      have hcp : lp ≤ capp ∧ capp ≤ maxLen := by
        rcases ROp.out.2 with ⟨h0, _⟩ | ⟨g', cap', cur', he, _, _, h1, h2, _⟩
        · cases h0
        · cases he; exact ⟨h1, h2⟩
      have hcp1 := hcp.1
      have hcp2 := hcp.2
      unfold maxLen at hcp2
      clear hcp
      go_upto_region 9 with fail
      obtain ⟨kk, hkk⟩ : ∃ kk, kk = an % lp := ⟨_, rfl⟩
      have hkl : kk < lp := by rw [hkk]; exact Nat.mod_lt _ hlp0
      rw [show ((an : Int) % (lp : Int)) = (kk : Int) from by rw [hkk]; exact (Int.natCast_emod _ _).symm]
      have HKK := Lib.hid hkk
      clear hkk
      have hki : (kk : Int) < (lp : Int) := by omega
      have hkc : (kk : Int) ≤ (capp : Int) := by omega
      have HLEN : Hid ((archT t).length = lp) := Lib.hid LLp.out.symm
      have hb1 : IsB w5 (some ⟨gp, 0, none⟩) kk capp ((archT t).take kk) := by
        have := row_sub ROp.out (by omega) 0 kk capp (by omega) (by omega) (by unfold maxLen; omega)
        rwa [List.drop_zero] at this
      have HB1 := Lib.hid hb1
      clear hb1
      have HK := Lib.hid (readn_any _ _ _ _ w5 HB1.out (by rw [List.length_take]; omega))
      go_wp2_with fail
      refine HK.out.mono ?_
      rintro e w6 ⟨b6, Z1, c1, rfl, n1, t1, hT1, h1⟩
      obtain rfl : c1 = 3 := by
        rcases h1 with ⟨_, h, _⟩ | ⟨h, _⟩
        · exact h
        · rw [read_cut HZ.out (by rw [HLEN.out]; exact hkl)] at h; cases h
      have hI1 := Lib.hid (infoL (isT_five hT1))
      have hS1 : Hid ((#[.int .u8 0, .bool false, .slice none 0 0, .slice none 0 0, .slice none 0 0] : Array Value).size = Z1.toArray.size) := Lib.hid (by simp [isT_five hT1])
      have hO1 := Lib.hid (isT_one hT1)
      have HT1 := Lib.hid hT1
      have HH1 := Lib.hid h1
      clear hT1 h1 HK
      have H6 := Lib.hid (H5.out.below b6 H5.out.lt)
      replace ROp := Lib.hid (owns_same ROp.out (fun k _ h => b6.block k h))
      have B6 := Lib.hid (B5.out.trans (b6.mono B5.out.size))
      clear b6 B5 H5 
      go_upto_region 10 with (refine wpList_store_row rfl 26 _ _ rfl w6.heap.size Z1.toArray rfl rfl 26 _ (heap_alloc_new w6 _) hI1.out hS1.out hO1.out ?_)
      obtain ⟨w7, hw⟩ : ∃ x, x = (w6.alloc (.cells #[.int .u8 0, .bool false, .slice none 0 0, .slice none 0 0, .slice none 0 0] 26)).setRow w6.heap.size Z1.toArray := ⟨_, rfl⟩
      have b7 := (var_treeN (w := w6) (cs := Z1)).2
      have hv1 := (var_treeN (w := w6) (cs := Z1)).1
      rw [← hw] at b7 hv1 ⊢
      have V1 := Lib.hid hv1
      have HT1' := Lib.hid (IsT.later b7 _ _ _ HT1.out)
      clear hw hv1 HT1
      have H7 := Lib.hid (H6.out.below b7 H6.out.lt)
      replace ROp := Lib.hid (owns_same ROp.out (fun k _ h => b7.block k h))
      have B7 := Lib.hid (B6.out.trans (b7.mono B6.out.size))
      clear b7 B6 H6 
      have HBP : Hid (IsB w7 (some ⟨gp, 0, none⟩) lp capp (archT t)) := Lib.hid (row_whole ROp.out (by omega))
      go_wp2_with (at_builtin; refine wpList_append_src rfl _ _ 22 rfl w7.heap.size 5 i0 (.int .u8 0) 1 1 Try.underlying22 HI.out HZ0.out HZ1.out HZ2.out rfl (by omega) (.slice none 0 0) 0 [] rfl (World.ownsRow_nil _ _ _ _) (some ⟨gp, 0, none⟩) lp capp ((archT t).map bv) rfl (by simp [HLEN.out]) HBP.out.nil (srcB HBP.out) (bv_one _) (by unfold maxLen; omega) (by omega) (Nat.le_refl _) ?_)
      have HPL := Lib.hid (ROp.out.lt gp rfl).2
      have HHL := Lib.hid H7.out.lt
      have HWL := Lib.hid B7.out.size
      intro vq w8 hownq hgr
      have b8 : Below w7.heap.size w7 w8 := (Below.refl _ _).grown hgr (Nat.le_refl _) (fun q hq => by cases hq)
      obtain ⟨gq, capq, rfl⟩ : ∃ g cap, vq = .slice (some ⟨g, 0, none⟩) lp cap := by
        rcases hownq.2 with ⟨_, h0⟩ | ⟨g, cap, cur, h, _⟩
        · omega
        · exact ⟨g, cap, h⟩
      have ROq := Lib.hid hownq
      clear hgr hownq HBP
      have H8 := Lib.hid (H7.out.below b8 H7.out.lt)
      replace ROp := Lib.hid (owns_same ROp.out (fun k _ h => b8.block k h))
      have B8 := Lib.hid (B7.out.trans (b8.mono B7.out.size))
      clear b8 B7 H7 
      go_upto_region 11 with fail
      go_wp2_with (at_builtin; go_must (refine wpList_append_lies _ rfl (.tmp 56) (.tmp 58) 22 rfl w7.heap.size 5 i0 (.int .u8 0) 1 1 Try.underlying22 HI.out HZ0.out HZ1.out HZ2.out rfl (by omega) (.slice (some ⟨gq, 0, none⟩) lp capq) lp ((archT t).map bv) rfl (ROq.out.alloc _) ⟨w8.heap.size, 0, none⟩ 1 1 [.int .u8 (mz.toNat : Int)] rfl rfl ?d1 ?d2 ?d3 ?d4 ?d5 ?d6 _ rfl ?d7))
      case d1 =>
        intro j u hj
        match j, hj with
        | 0, hj => simp at hj; subst hj; simp [Addr.add]
      case d2 => intro u hu; simp at hu; subst hu; rfl
      case d3 => omega
      case d4 => unfold maxLen; omega
      case d5 => omega
      case d6 => have := ROq.out.lt gq rfl; simp; omega
      intro gr capr w9 hownr hgr hlo hhi
      have hgq := ROq.out.lt gq rfl
      have hgp := ROp.out.lt gp rfl
      have e9 : ∀ j, j < w8.heap.size → j ≠ gq → w9.heap[j]? = w8.heap[j]? := fun j h1 h2 => (hgr.block j (by simp; omega) (fun e => h2 (Option.some.inj e))).trans (Below.heap_alloc w8 _ j h1)
      have hqw : w7.heap.size ≤ gq := hgq.1
      have b9 : Below w7.heap.size w8 w9 := ((Below.refl _ _).alloc (by have := hgq.2; omega) _).grown hgr (by simp; have := hgq.2; omega) (fun q hq => by cases hq; exact hqw)
      have hpl : gp < w7.heap.size := HPL.out
      have HBR : Hid (IsB w9 (some ⟨gr, 0, none⟩) (lp + 1) capr (archT t ++ [mz])) := Lib.hid (row_whole (by rw [List.map_append]; exact hownr) (by omega))
      have H9 := Lib.hid ((H8.out.below (b9) (HHL.out)))
      have B9 := Lib.hid (B8.out.trans (b9.mono HWL.out))
      replace ROp := Lib.hid (owns_keep ROp.out (fun g hg => by cases hg; exact b9.block gp hpl))
      clear hgr hlo hhi hownr e9 hqw b9 hpl ROq H8 B8 hgq hgp
      have HK := Lib.hid (readn_any _ _ _ _ w9 HBR.out (by rw [List.length_append, HLEN.out]; simp; omega))
      go_wp2_with fail
      refine HK.out.mono ?_
      rintro e w10 ⟨b10, Z2, c2, rfl, n2, t2, hT2, h2⟩
      obtain rfl : c2 = 3 := by
        rcases h2 with ⟨_, h, _⟩ | ⟨h, _⟩
        · exact h
        · rw [read_more HZ.out] at h; cases h
      have hI2 := Lib.hid (infoL (isT_five hT2))
      have hS2 : Hid ((#[.int .u8 0, .bool false, .slice none 0 0, .slice none 0 0, .slice none 0 0] : Array Value).size = Z2.toArray.size) := Lib.hid (by simp [isT_five hT2])
      have hO2 := Lib.hid (isT_one hT2)
      have HT2 := Lib.hid hT2
      have HH2 := Lib.hid h2
      clear hT2 h2 HK
      have H10 := Lib.hid (H9.out.below b10 H9.out.lt)
      replace ROp := Lib.hid (owns_same ROp.out (fun k _ h => b10.block k h))
      have B10 := Lib.hid (B9.out.trans (b10.mono B9.out.size))
      clear b10 B9 H9 
      go_upto_region 12 with (refine wpList_store_row rfl 26 _ _ rfl w10.heap.size Z2.toArray rfl rfl 26 _ (heap_alloc_new w10 _) hI2.out hS2.out hO2.out ?_)
      obtain ⟨w11, hw⟩ : ∃ x, x = (w10.alloc (.cells #[.int .u8 0, .bool false, .slice none 0 0, .slice none 0 0, .slice none 0 0] 26)).setRow w10.heap.size Z2.toArray := ⟨_, rfl⟩
      have b11 := (var_treeN (w := w10) (cs := Z2)).2
      have hv2 := (var_treeN (w := w10) (cs := Z2)).1
      rw [← hw] at b11 hv2 ⊢
      have V2 := Lib.hid hv2
      have HT2' := Lib.hid (IsT.later b11 _ _ _ HT2.out)
      clear hw hv2 HT2
      have H11 := Lib.hid (H10.out.below b11 H10.out.lt)
      replace ROp := Lib.hid (owns_same ROp.out (fun k _ h => b11.block k h))
      have B11 := Lib.hid (B10.out.trans (b11.mono B10.out.size))
      clear b11 B10 H10 
      obtain ⟨z, hz⟩ : ∃ z, z = (archT t).getD kk 0 := ⟨_, rfl⟩
      have hck : w11.cell? ⟨gp, kk, none⟩ = some (.int .u8 (z.toNat : Int)) := by
        rw [World.ownsRow.cellAt ROp.out kk (by omega), List.getElem?_map, List.getElem?_eq_getElem (by rw [HLEN.out]; exact hkl), hz, List.getD_eq_getElem?_getD, List.getElem?_eq_getElem (by rw [HLEN.out]; exact hkl)]; rfl
      have hfk := World.ownsRow.frozenAt ROp.out kk
      obtain ⟨zx, hzx⟩ : ∃ zx : UInt8, zx = z ^^^ tz := ⟨_, rfl⟩
      have hxr : bits .xor .u8 (z.toNat : Int) (tz.toNat : Int) = (zx.toNat : Int) := by
        rw [hzx, u8_xor_nat _ _ (UInt8.toNat_lt z) (UInt8.toNat_lt tz), UInt8.toNat_xor]
      have HZZ := Lib.hid hz
      have HZX := Lib.hid hzx
      clear hz hzx
      go_upto_region 13 with fail
      obtain ⟨w12, hw⟩ : ∃ x, x = w11.setCell ⟨gp, kk, none⟩ (.int .u8 (zx.toNat : Int)) := ⟨_, rfl⟩
      rw [← hw]
      have hgp := ROp.out.lt gp rfl
      have hst := (World.ownsRow.stored ROp.out kk (.int .u8 (zx.toNat : Int))).1
      rw [← hw, show ((archT t).map bv).set kk (.int .u8 (zx.toNat : Int)) = ((archT t).set kk zx).map bv from by rw [List.map_set]; rfl] at hst
      have HBT : Hid (IsB w12 (some ⟨gp, 0, none⟩) lp capp ((archT t).set kk zx)) := Lib.hid (row_whole hst (by omega))
      have hgw : w.heap.size < gp := by have := hgp.1; have := HGW.out; omega
      have H12 : Hid (Has w12 w.heap.size cs 26) := Lib.hid (by rw [hw]; exact H11.out.setOther (by show w.heap.size ≠ gp; omega) _)
      have B12 : Hid (Below w.heap.size w w12) := Lib.hid (by rw [hw]; exact B11.out.setCell (p := ⟨gp, kk, none⟩) (by show w.heap.size ≤ gp; omega) _)
      clear hw hck hfk hxr hst hgp hgw ROp H11 B11
      have HK := Lib.hid (readn_any _ _ _ _ w12 HBT.out (by rw [List.length_set, HLEN.out]; omega))
      go_wp2_with fail
      refine HK.out.mono ?_
      rintro e w13 ⟨b13, Z3, c3, rfl, n3, t3, hT3, h3⟩
      have hI3 := Lib.hid (infoL (isT_five hT3))
      have hS3 : Hid ((#[.int .u8 0, .bool false, .slice none 0 0, .slice none 0 0, .slice none 0 0] : Array Value).size = Z3.toArray.size) := Lib.hid (by simp [isT_five hT3])
      have hO3 := Lib.hid (isT_one hT3)
      have HT3 := Lib.hid hT3
      have HH3 := Lib.hid h3
      clear hT3 h3 HK
      have H13 := Lib.hid (H12.out.below b13 H12.out.lt)
      have B13 := Lib.hid (B12.out.trans (b13.mono B12.out.size))
      clear b13 B12 H12 
      go_upto_region 14 with (refine wpList_store_row rfl 26 _ _ rfl w13.heap.size Z3.toArray rfl rfl 26 _ (heap_alloc_new w13 _) hI3.out hS3.out hO3.out ?_)
      obtain ⟨w14, hw⟩ : ∃ x, x = (w13.alloc (.cells #[.int .u8 0, .bool false, .slice none 0 0, .slice none 0 0, .slice none 0 0] 26)).setRow w13.heap.size Z3.toArray := ⟨_, rfl⟩
      have b14 := (var_treeN (w := w13) (cs := Z3)).2
      have hv3 := (var_treeN (w := w13) (cs := Z3)).1
      rw [← hw] at b14 hv3 ⊢
      have V3 := Lib.hid hv3
      have HT3' := Lib.hid (IsT.later b14 _ _ _ HT3.out)
      clear hw hv3 HT3
      have H14 := Lib.hid (H13.out.below b14 H13.out.lt)
      have B14 := Lib.hid (B13.out.trans (b14.mono B13.out.size))
      clear b14 B13 H13 
      rcases HH3.out with ⟨h, rfl, _⟩ | ⟨h, rfl⟩
      · clear h
        go_wp2_with fail
        go_ret
        exact ⟨rfl, B14.out⟩
      · have hne : t3 ≠ t := read_turn HZ.out (by rw [HLEN.out]; exact hkl) HTZ.out (by rw [← HZZ.out, ← HZX.out]; exact h)
        have HNE := Lib.hid hne
        clear h hne
        go_wp2_with (first
          | (refine wpList_load_rowG (by rfl) 26 _ rfl w13.heap.size rfl 26 Z3.toArray (0, 0) _ V3.out Try.underlying26 rfl hI3.out ?_)
          | (refine wpList_load_rowG (by rfl) 26 _ rfl w.heap.size rfl 26 cs.toArray (0, 0) _ H14.out Try.underlying26 rfl hI.out ?_))
        refine (rsame_any n3 Z3 t3 n cs t w14 HT3'.out (IsT.later B14.out _ _ _ HT.out)).mono ?_
        rintro e w15 ⟨⟨r, rfl, hr⟩, b15⟩
        obtain rfl : r = false := by
          cases r
          · rfl
          · exact absurd (hr.1 rfl) HNE.out
        have BE := Lib.hid (B14.out.trans (b15.mono B14.out.size))
        clear b15 hr
        go_wp2_with fail
        go_ret
        exact ⟨rfl, BE.out⟩
  · skip
    go_wp2_with fail
    refine (awake_any w2).mono ?_
    rintro e w3 ⟨rfl, b3⟩
    have BE := Lib.hid (B2.out.trans (b3.mono B2.out.size))
    clear b3
    go_wp2_with fail
    go_ret
    exact ⟨rfl, BE.out⟩

end Go.Proofs.Ythjihibocobndaa

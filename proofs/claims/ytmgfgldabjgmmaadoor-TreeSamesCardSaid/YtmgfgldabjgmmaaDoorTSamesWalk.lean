/-
  The walk of the law TreeSames: it returns true. Conditions: a global's kind; names and lists are no longer than memory.
-/
import Derived.Test.YtmgfgldabjgmmaaDoorTDownWalk
import Derived.Test.YtmgfgldabjgmmaaDoorTSame
import Derived.Test.YtmgfgldabjgmmaaDoorTGreat2
import Derived.Test.YtmgfgldabjgmmaaDoorTRAt
import Derived.Deep.RegionHeld3
namespace Go.Proofs.YtmgfgldabjgmmaaDoor
open Go.RowKit
set_option linter.unusedVariables false

set_option maxRecDepth 100000 in
set_option maxHeartbeats 20000000 in
theorem walk_TreeSames (w : World) (n : Nat) (cs : List Value) (t : T) (ht : IsT w n cs t) (hs : Small t) (n' : Nat) (ds : List Value) (t' : T) (ht' : IsT w n' ds t') (hs' : Small t') (hm : MaxW w) :
    Calls Tryd.prog 6 #[.agg cs.toArray, .agg ds.toArray] w fun e w' => e = .returned (.bool true) ∧ Below w.heap.size w w' := by
  have hmx : 0 < w.heap.size := by
    obtain ⟨m, h⟩ := hm
    exact World.block_lt_of_cell? w _ h
  have hI := Lib.hid (infoL (isT_five ht))
  have hI' := Lib.hid (infoL (isT_five ht'))
  have hL5 : Hid ((Tryd.prog.info? 26).map (·.size) = some cs.length) := Lib.hid (by rw [info5, isT_five ht])
  have hL5' : Hid ((Tryd.prog.info? 26).map (·.size) = some ds.length) := Lib.hid (by rw [info5, isT_five ht'])
  have HT := Lib.hid ht
  have HSM := Lib.hid hs
  have HT' := Lib.hid ht'
  have HM := Lib.hid hm
  clear ht hs ht' hs' hm
  go_enter Tryd.func6, Tryd.ntmps6
  go_upto_region 1 with fail
  obtain ⟨w0, hw0⟩ : ∃ w0, w0 = w.alloc (.cells cs.toArray 26) := ⟨_, rfl⟩
  have g0 : Has w0 w.heap.size cs 26 := by rw [hw0]; exact Has.new w cs _
  have b0 : Below w.heap.size w w0 := by rw [hw0]; exact (Below.refl _ _).alloc (Nat.le_refl _) _
  have s0 : w0.heap.size = w.heap.size + 1 := by rw [hw0]; simp
  rw [← hw0]
  obtain ⟨w1, hw1⟩ : ∃ w1, w1 = w0.alloc (.cells ds.toArray 26) := ⟨_, rfl⟩
  have k1 : Has w1 (w.heap.size + 1) ds 26 := by rw [hw1, ← s0]; exact Has.new w0 ds _
  have g1 : Has w1 w.heap.size cs 26 := by rw [hw1]; exact g0.alloc _
  have b1 : Below w.heap.size w w1 := by rw [hw1]; exact b0.alloc b0.size _
  have s1 : w1.heap.size = w.heap.size + 1 + 1 := by rw [hw1, ← s0]; simp
  rw [← hw1]
  have H1 := Lib.hid g1
  have J1 := Lib.hid k1
  have B1 := Lib.hid b1
  clear hw0 hw1 g0 b0 g1 k1 b1
  go_wp2_with (refine wpList_load_rowG (by rfl) 26 _ rfl w.heap.size rfl 26 cs.toArray (0, 0) _ H1.out Tryd.underlying26 rfl hI.out ?_)
  refine (great_sum n cs t w1 (IsT.later B1.out _ _ _ HT.out) 1000 (by omega) (by omega)).mono ?_
  rintro e w2 ⟨⟨gr, rfl, hgr⟩, b2⟩
  have HGR := Lib.hid hgr
  have H2 := Lib.hid (H1.out.below b2 (by omega))
  have J2 := Lib.hid (J1.out.below b2 (by omega))
  have B2 := Lib.hid (B1.out.trans (b2.mono (by omega)))
  have s2 := b2.size
  have HM2 := Lib.hid (HM.out.below B2.out hmx)
  clear b2 H1 B1 J1 hgr
  cases gr
  · go_wp2_with (refine wpList_load_rowG (by rfl) 26 _ rfl (w.heap.size + 1) rfl 26 ds.toArray (0, 0) _ J2.out Tryd.underlying26 rfl hI'.out ?_)
    refine (great_sum n' ds t' w2 (IsT.later B2.out _ _ _ HT'.out) 1000 (by omega) (by omega)).mono ?_
    rintro e w3 ⟨⟨gr, rfl, hgr⟩, b3⟩
    have HGR' := Lib.hid hgr
    have H3 := Lib.hid (H2.out.below b3 (by omega))
    have J3 := Lib.hid (J2.out.below b3 (by omega))
    have B3 := Lib.hid (B2.out.trans (b3.mono (by omega)))
    have s3 := b3.size
    have HM3 := Lib.hid (HM.out.below B3.out hmx)
    clear b3 H2 B2 J2 HM2 hgr
    cases gr
    · have hN : sizeN t ≤ 1000 := by have := HGR.out (by simp); omega
      go_upto_region 3 with fail
      refine wp_region_held_drew (S := fun W => Has W w.heap.size cs 26 ∧ Has W (w.heap.size + 1) ds 26) (by kernel_rfl) ⟨H3.out.drew, J3.out.drew⟩ (fun hHeld => ?_)
      have hu26 := Tryd.underlying26
      refine wpAnyH_ready (rs := [0]) (by kernel_rfl) (by simp) ?_
      refine AllReadyH.cons (o := { dst := some 13, op := Op.call { callee := Callee.value (Operand.func 11), args := #[], argTypes := #[] }, type := 4, pos := "law.go:81", after := #[], guard := none }) rfl (fun K hK => ?_) AllReadyH.nil
      go_simp
      refine (awake_any w3.drew (HM3.out.below (below_drewT (Below.refl w3.heap.size _)) (by omega)) (by show _ < w3.heap.size; omega)).mono ?_
      rintro e w4 ⟨rfl, b4⟩
      go_wp2_with fail
      have HS34 : Hid (Below w3.heap.size w3 w4) := Lib.hid ⟨b4.os.trans rfl, b4.tape.trans rfl, b4.output, b4.size, b4.block⟩
      have s4 : w3.heap.size ≤ w4.heap.size := HS34.out.size
      have H4 := Lib.hid (H3.out.below HS34.out H3.out.lt)
      have J4 := Lib.hid (J3.out.below HS34.out J3.out.lt)
      have B4 := Lib.hid (B3.out.trans (HS34.out.mono (by omega)))
      refine hK.out _ _ ⟨H4.out, J4.out⟩ (fun hHeld2 => ?_)
      clear hK K hHeld b4
      try simp only [Act.put, List.setIfInBounds_toArray, List.set_cons_zero, List.set_cons_succ]
      refine wpAnyH_take (i := 1) (oi := { dst := some 14, op := Op.unOp UnOp.not 4 (Operand.tmp 13), type := 4, pos := "law.go:81", after := #[{ on := 0, ground := Ground.data }], guard := none }) (v := .bool false) rfl (by kernel_rfl) (by kernel_rfl) (by kernel_rfl) (fun _ _ _ h => h)
        (Or.inl ⟨by rfl, by intro w hSw;  clear hSw; go_simp⟩) hHeld2 ?_
      try simp only [Act.put, List.setIfInBounds_toArray, List.set_cons_zero, List.set_cons_succ]
      refine wpAnyH_take (i := 2) (oi := { dst := some 15, op := Op.move (Operand.tmp 14), type := 4, pos := "law.go:81", after := #[{ on := 1, ground := Ground.data }, { on := 0, ground := Ground.chain }], guard := none }) (v := .bool false) rfl (by kernel_rfl) (by kernel_rfl) (by kernel_rfl) (fun _ _ _ h => h)
        (Or.inl ⟨by rfl, by intro w hSw;  clear hSw; go_simp⟩) hHeld2 ?_
      try simp only [Act.put, List.setIfInBounds_toArray, List.set_cons_zero, List.set_cons_succ]
      refine wpAnyH_take (i := 3) (oi := { dst := some 16, op := Op.load 26 (Operand.tmp 2), type := 26, pos := "law.go:81", after := #[{ on := 2, ground := Ground.guard }], guard := some (2, false) }) rfl (by kernel_rfl) (by kernel_rfl) (by kernel_rfl) (fun _ _ _ h => h)
        (yieldsIf_load_mid (by rfl) 26 (.tmp 2) rfl w.heap.size (0) rfl cs _ (fun _ h => rangeAt_has h.1) hu26 rfl hL5.out) hHeld2 ?_
      try simp only [Act.put, List.setIfInBounds_toArray, List.set_cons_zero, List.set_cons_succ]
      refine wpAnyH_take (i := 4) (oi := { dst := some 17, op := Op.load 26 (Operand.tmp 3), type := 26, pos := "law.go:81", after := #[{ on := 2, ground := Ground.guard }], guard := some (2, false) }) rfl (by kernel_rfl) (by kernel_rfl) (by kernel_rfl) (fun _ _ _ h => h)
        (yieldsIf_load_mid (by rfl) 26 (.tmp 3) rfl (w.heap.size + 1) (0) rfl ds _ (fun _ h => rangeAt_has h.2) hu26 rfl hL5'.out) hHeld2 ?_
      try simp only [Act.put, List.setIfInBounds_toArray, List.set_cons_zero, List.set_cons_succ]
      refine wpAnyH_take (i := 6) (oi := { dst := some 19, op := Op.load 26 (Operand.tmp 2), type := 26, pos := "law.go:81", after := #[{ on := 2, ground := Ground.guard }], guard := some (2, false) }) rfl (by kernel_rfl) (by kernel_rfl) (by kernel_rfl) (fun _ _ _ h => h)
        (yieldsIf_load_mid (by rfl) 26 (.tmp 2) rfl w.heap.size (0) rfl cs _ (fun _ h => rangeAt_has h.1) hu26 rfl hL5.out) hHeld2 ?_
      try simp only [Act.put, List.setIfInBounds_toArray, List.set_cons_zero, List.set_cons_succ]
      refine wpAnyH_take (i := 7) (oi := { dst := some 20, op := Op.load 26 (Operand.tmp 3), type := 26, pos := "law.go:81", after := #[{ on := 2, ground := Ground.guard }], guard := some (2, false) }) rfl (by kernel_rfl) (by kernel_rfl) (by kernel_rfl) (fun _ _ _ h => h)
        (yieldsIf_load_mid (by rfl) 26 (.tmp 3) rfl (w.heap.size + 1) (0) rfl ds _ (fun _ h => rangeAt_has h.2) hu26 rfl hL5'.out) hHeld2 ?_
      try simp only [Act.put, List.setIfInBounds_toArray, List.set_cons_zero, List.set_cons_succ]
      refine wpAnyH_ready (rs := [5]) (by kernel_rfl) (by simp) ?_
      refine AllReadyH.cons (o := { dst := some 18, op := Op.call { callee := Callee.value (Operand.func 25), args := #[Operand.tmp 16, Operand.tmp 17], argTypes := #[26, 26] }, type := 4, pos := "law.go:81", after := #[{ on := 3, ground := Ground.data }, { on := 4, ground := Ground.data }, { on := 2, ground := Ground.chain }, { on := 2, ground := Ground.guard }], guard := some (2, false) }) rfl (fun K hK => ?_) AllReadyH.nil
      go_simp
      refine (same_any n cs t n' ds t' w4 (IsT.later B4.out _ _ _ HT.out) (IsT.later B4.out _ _ _ HT'.out) (by omega)).mono ?_
      rintro e w5 ⟨⟨r1, rfl, hr1⟩, b5⟩
      go_wp2_with fail
      have s5 : w4.heap.size ≤ w5.heap.size := b5.size
      have H5 := Lib.hid (H4.out.below b5 H4.out.lt)
      have J5 := Lib.hid (J4.out.below b5 J4.out.lt)
      have B5 := Lib.hid (B4.out.trans (b5.mono (by omega)))
      refine hK.out _ _ ⟨H5.out, J5.out⟩ (fun hHeld3 => ?_)
      clear hK K hHeld2 b5
      try simp only [Act.put, List.setIfInBounds_toArray, List.set_cons_zero, List.set_cons_succ]
      refine wpAnyH_ready (rs := [8]) (by kernel_rfl) (by simp) ?_
      refine AllReadyH.cons (o := { dst := some 21, op := Op.call { callee := Callee.value (Operand.func 22), args := #[Operand.tmp 19, Operand.tmp 20], argTypes := #[26, 26] }, type := 4, pos := "law.go:81", after := #[{ on := 6, ground := Ground.data }, { on := 7, ground := Ground.data }, { on := 5, ground := Ground.chain }, { on := 2, ground := Ground.guard }], guard := some (2, false) }) rfl (fun K hK => ?_) AllReadyH.nil
      go_simp
      refine (rsame_any n cs t n' ds t' w5 (IsT.later B5.out _ _ _ HT.out) (IsT.later B5.out _ _ _ HT'.out)).mono ?_
      rintro e w6 ⟨⟨r2, rfl, hr2⟩, b6⟩
      obtain rfl : r1 = r2 := by rw [Bool.eq_iff_iff, hr1, hr2]
      go_wp2_with fail
      have s6 : w5.heap.size ≤ w6.heap.size := b6.size
      have H6 := Lib.hid (H5.out.below b6 H5.out.lt)
      have J6 := Lib.hid (J5.out.below b6 J5.out.lt)
      have B6 := Lib.hid (B5.out.trans (b6.mono (by omega)))
      refine hK.out _ _ ⟨H6.out, J6.out⟩ (fun hHeld4 => ?_)
      clear hK K hHeld3 b6 hr1 hr2
      try simp only [Act.put, List.setIfInBounds_toArray, List.set_cons_zero, List.set_cons_succ]
      refine wpAnyH_take (i := 9) (oi := { dst := some 22, op := Op.binOp BinOp.neq 4 (Operand.tmp 18) (Operand.tmp 21) 4, type := 4, pos := "law.go:81", after := #[{ on := 5, ground := Ground.data }, { on := 8, ground := Ground.data }, { on := 2, ground := Ground.guard }], guard := some (2, false) }) (v := .bool false) rfl (by kernel_rfl) (by kernel_rfl) (by kernel_rfl) (fun _ _ _ h => h)
        (Or.inl ⟨by rfl, by intro w hSw;  clear hSw; go_simp⟩) hHeld4 ?_
      try simp only [Act.put, List.setIfInBounds_toArray, List.set_cons_zero, List.set_cons_succ]
      refine wpAnyH_take (i := 10) (oi := { dst := some 23, op := Op.pick (Operand.tmp 15) (Operand.const (Value.bool true)) (Operand.tmp 22), type := 4, pos := "law.go:81", after := #[{ on := 2, ground := Ground.data }, { on := 9, ground := Ground.data }], guard := none }) (v := .bool false) rfl (by kernel_rfl) (by kernel_rfl) (by kernel_rfl) (fun _ _ _ h => h)
        (Or.inl ⟨by rfl, by intro w hSw;  clear hSw; go_simp⟩) hHeld4 ?_
      try simp only [Act.put, List.setIfInBounds_toArray, List.set_cons_zero, List.set_cons_succ]
      refine wpAnyH_done (by kernel_rfl) ?_ _
      clear hHeld4 hu26
      go_wp2_with (refine wpList_load_rowG (by rfl) 26 _ rfl w.heap.size rfl 26 cs.toArray (0, 0) _ H6.out Tryd.underlying26 rfl hI.out ?_)
      refine (copy_any n cs t w6 (IsT.later B6.out _ _ _ HT.out) HSM.out (by omega)).mono ?_
      rintro e w7 ⟨x7, G7, rfl, cl7, b7⟩
      have t7 := cl7.isT HSM.out
      have s7 := b7.size
      have h5a := isT_five t7
      have HIa := Lib.hid (infoL h5a)
      have HSa : Hid ((#[.int .u8 0, .bool false, .slice none 0 0, .slice none 0 0, .slice none 0 0] : Array Value).size = x7.toArray.size) := Lib.hid (by simp [h5a])
      have HOa := Lib.hid (isT_one t7)
      obtain ⟨w8, hw8⟩ : ∃ w8, w8 = (((w7.alloc (.cells #[.int .u8 0, .bool false, .slice none 0 0, .slice none 0 0, .slice none 0 0] 26)).setRow w7.heap.size x7.toArray)) := ⟨_, rfl⟩
      obtain ⟨va, b8⟩ := var_tree (w := w7) h5a
      rw [← hw8] at va b8
      have Va := Lib.hid va
      have HTa := Lib.hid t7
      have HWa := Lib.hid hw8
      have s8 := b8.size
      have sva := va.lt
      have Q8 := Lib.hid (b7.trans (b8.mono s7))
      have B8 := Lib.hid (B6.out.trans (Q8.out.mono (by omega)))
      have TX8 := Lib.hid (IsT.later b8 _ _ _ t7)
      have H8 := Lib.hid (H6.out.below Q8.out (by omega))
      have VX8 := Lib.hid va
      have H8' : Hid ((((w7.alloc (.cells #[.int .u8 0, .bool false, .slice none 0 0, .slice none 0 0, .slice none 0 0] 26)).setRow w7.heap.size x7.toArray)).heap[w.heap.size]? = some (.cells cs.toArray 26 (0, 0))) := Lib.hid (by rw [← hw8]; exact H8.out)
      have VX8' : Hid ((((w7.alloc (.cells #[.int .u8 0, .bool false, .slice none 0 0, .slice none 0 0, .slice none 0 0] 26)).setRow w7.heap.size x7.toArray)).heap[w7.heap.size]? = some (.cells x7.toArray 26 (0, 0))) := Lib.hid (by rw [← hw8]; exact va)
      clear b7 b8 t7 cl7 h5a va hw8
      go_wp2_with (first
        | (refine wpList_store_row rfl 26 _ _ rfl w7.heap.size x7.toArray rfl rfl 26 _ (heap_alloc_new w7 _) HIa.out HSa.out HOa.out ?_)
        | (refine wpList_load_rowG (by rfl) 26 _ rfl w7.heap.size rfl 26 x7.toArray (0, 0) _ VX8'.out Tryd.underlying26 rfl HIa.out ?_)
        | (refine wpList_load_rowG (by rfl) 26 _ rfl w.heap.size rfl 26 cs.toArray (0, 0) _ H8'.out Tryd.underlying26 rfl hI.out ?_))
      rw [← HWa.out]
      refine (rsame_any _ x7 t n cs t w8 TX8.out (IsT.later B8.out _ _ _ HT.out)).mono ?_
      rintro e w9 ⟨⟨rb, rfl, hrb⟩, b9⟩
      obtain rfl := hrb.2 rfl
      have s9 := b9.size
      have B9 := Lib.hid (B8.out.trans (b9.mono (by omega)))
      have H9 := Lib.hid (H8.out.below b9 (by omega))
      have VX9 := Lib.hid (VX8.out.below b9 (by omega))
      have TX9 := Lib.hid (IsT.later b9 _ _ _ TX8.out)
      clear b9 hrb H8' VX8'
      go_wp2_with (first
        | (refine wpList_load_rowG (by rfl) 26 _ rfl w.heap.size rfl 26 cs.toArray (0, 0) _ H9.out Tryd.underlying26 rfl hI.out ?_)
        | (refine wpList_load_rowG (by rfl) 26 _ rfl w7.heap.size rfl 26 x7.toArray (0, 0) _ VX9.out Tryd.underlying26 rfl HIa.out ?_))
      refine (same_any n cs t _ x7 t w9 (IsT.later B9.out _ _ _ HT.out) TX9.out (by omega)).mono ?_
      rintro e w10 ⟨⟨rb, rfl, hrb⟩, b10⟩
      obtain rfl := hrb.2 rfl
      have B10 := Lib.hid (B9.out.trans (b10.mono (by omega)))
      clear b10 hrb
      go_wp2_with fail
      go_ret
      exact ⟨rfl, B10.out⟩
    · skip
      go_wp2_with fail
      refine (awake_any w3 HM3.out (by omega)).mono ?_
      rintro e w4 ⟨rfl, b4⟩
      have BE := Lib.hid (B3.out.trans (b4.mono (by omega)))
      clear b4
      go_wp2_with fail
      go_ret
      exact ⟨rfl, BE.out⟩
  · skip
    go_wp2_with fail
    refine (awake_any w2 HM2.out (by omega)).mono ?_
    rintro e w3 ⟨rfl, b3⟩
    have BE := Lib.hid (B2.out.trans (b3.mono (by omega)))
    clear b3
    go_wp2_with fail
    go_ret
    exact ⟨rfl, BE.out⟩

end Go.Proofs.YtmgfgldabjgmmaaDoor

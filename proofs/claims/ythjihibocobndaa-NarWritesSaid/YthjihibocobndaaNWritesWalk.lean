/-
  The walk of the law NarWrites: it returns true. Conditions: names and lists are no longer than memory.
-/
import Derived.Test.YthjihibocobndaaNReadL
import Derived.Test.YthjihibocobndaaNNodeDir
import Derived.Deep.RegionHeld3
namespace Go.Proofs.Ythjihibocobndaa
open Go.RowKit
set_option linter.unusedVariables false

set_option maxRecDepth 100000 in
set_option maxHeartbeats 20000000 in
theorem walk_NarWrites (w : World) (n : Nat) (cs : List Value) (t : T) (ht : IsT w n cs t) (hs : Small t)  :
    Calls Try.prog 3 #[.agg cs.toArray] w fun e w' => e = .returned (.bool true) ∧ Below w.heap.size w w' := by
  have hI := Lib.hid (infoL (isT_five ht))
  have hL5 : Hid ((Try.prog.info? 26).map (·.size) = some cs.length) := Lib.hid (by rw [info5, isT_five ht])
  have HT := Lib.hid ht
  have HSM := Lib.hid hs
  clear ht hs
  go_enter Try.func3, Try.ntmps3
  go_upto_region 1 with fail
  obtain ⟨w1, hw1⟩ : ∃ w1, w1 = w.alloc (.cells cs.toArray 26) := ⟨_, rfl⟩
  have g1 : Has w1 w.heap.size cs 26 := by rw [hw1]; exact Has.new w cs _
  have b1 : Below w.heap.size w w1 := by rw [hw1]; exact (Below.refl _ _).alloc (Nat.le_refl _) _
  rw [← hw1]
  have H1 := Lib.hid g1
  have B1 := Lib.hid b1
  clear hw1 g1 b1
  go_wp2_with (refine wpList_load_rowG (by rfl) 26 _ rfl w.heap.size rfl 26 cs.toArray (0, 0) _ H1.out Try.underlying26 rfl hI.out ?_)
  refine (great_sum n cs t w1 (IsT.later B1.out _ _ _ HT.out) 5000 (by omega) (by omega)).mono ?_
  rintro e w2 ⟨⟨gr, rfl, -⟩, b2⟩
  have H2 := Lib.hid (H1.out.below b2 H1.out.lt)
  have B2 := Lib.hid (B1.out.trans (b2.mono B1.out.size))
  clear b2 B1 H1 
  cases gr
  · skip
    go_wp2_with fail
    refine (awake_any w2).mono ?_
    rintro e w3 ⟨rfl, b3⟩
    have H3 := Lib.hid (H2.out.below b3 H2.out.lt)
    have B3 := Lib.hid (B2.out.trans (b3.mono B2.out.size))
    clear b3 B2 H2 
    go_wp2_with (refine wpList_load_rowG (by rfl) 26 _ rfl w.heap.size rfl 26 cs.toArray (0, 0) _ H3.out Try.underlying26 rfl hI.out ?_)
    refine (write_any n cs t w3 (IsT.later B3.out _ _ _ HT.out)).mono ?_
    rintro e w4 ⟨b4, hwp⟩
    rcases hwp with ⟨hz0, rfl⟩ | ⟨hz1, gp, capp, rfl, hop⟩
    · have HZ0 := Lib.hid hz0
      clear hz0
      have H4 := Lib.hid (H3.out.below b4 H3.out.lt)
      have B4 := Lib.hid (B3.out.trans (b4.mono B3.out.size))
      clear b4 B3 H3 
      go_wp2_with (refine wpList_load_rowG (by rfl) 26 _ rfl w.heap.size rfl 26 cs.toArray (0, 0) _ H4.out Try.underlying26 rfl hI.out ?_)
      refine (rform_any n cs t w4 (IsT.later B4.out _ _ _ HT.out) HSM.out).mono ?_
      rintro e w5 ⟨rfl, b5⟩
      have H5 := Lib.hid (H4.out.below b5 H4.out.lt)
      have B5 := Lib.hid (B4.out.trans (b5.mono B4.out.size))
      clear b5 B4 H4 
      rw [HZ0.out, show (none : Option (Nat × Nat)).isSome = false from rfl]
      go_wp2_with fail
      go_ret
      exact ⟨rfl, B5.out⟩
    have HZ1 := Lib.hid hz1
    obtain ⟨q, hq⟩ : ∃ q, sizeT t = some q := Option.isSome_iff_exists.1 hz1
    have HZ := Lib.hid hq
    obtain ⟨lp, hlp⟩ : ∃ l, l = (archT t).length := ⟨_, rfl⟩
    rw [← hlp] at hop ⊢
    have LLp := Lib.hid hlp
    have ROp := Lib.hid hop
    have hlp9 : lp ≤ 900000000 := by rw [hlp]; exact arch_len2 hq
    clear hq hlp hop hz1
    have H4 := Lib.hid (H3.out.below b4 H3.out.lt)
    have B4 := Lib.hid (B3.out.trans (b4.mono B3.out.size))
    clear b4 B3 H3 
    go_wp2_with (refine wpList_load_rowG (by rfl) 26 _ rfl w.heap.size rfl 26 cs.toArray (0, 0) _ H4.out Try.underlying26 rfl hI.out ?_)
    refine (rform_any n cs t w4 (IsT.later B4.out _ _ _ HT.out) HSM.out).mono ?_
    rintro e w5 ⟨rfl, b5⟩
    have H5 := Lib.hid (H4.out.below b5 H4.out.lt)
    replace ROp := Lib.hid (owns_same ROp.out (fun k _ h => b5.block k h))
    have B5 := Lib.hid (B4.out.trans (b5.mono B4.out.size))
    clear b5 B4 H4 
    rw [HZ1.out]
    have HK := Lib.hid (readn_any _ _ _ _ w5 (row_whole ROp.out (by omega)) (by rw [← LLp.out]; omega))
    go_wp2_with fail
    refine HK.out.mono ?_
    rintro e w6 ⟨b6, Z3, c3, rfl, n3, t3, hT3, h3⟩
    obtain ⟨rfl, rfl⟩ : t3 = t ∧ c3 = 0 := by
      have hr := readL_of HZ.out
      rcases h3 with ⟨h, _⟩ | ⟨h, rfl⟩
      · rw [hr] at h; cases h
      · rw [hr] at h; cases h; exact ⟨rfl, rfl⟩
    have hI3 := Lib.hid (infoL (isT_five hT3))
    have hL53 : Hid ((Try.prog.info? 26).map (·.size) = some Z3.length) := Lib.hid (by rw [info5, isT_five hT3])
    have hS3 : Hid ((#[.int .u8 0, .bool false, .slice none 0 0, .slice none 0 0, .slice none 0 0] : Array Value).size = Z3.toArray.size) := Lib.hid (by simp [isT_five hT3])
    have hO3 := Lib.hid (isT_one hT3)
    have HT3 := Lib.hid hT3
    clear hT3 h3 HK
    have H6 := Lib.hid (H5.out.below b6 H5.out.lt)
    replace ROp := Lib.hid (owns_same ROp.out (fun k _ h => b6.block k h))
    have B6 := Lib.hid (B5.out.trans (b6.mono B5.out.size))
    clear b6 B5 H5 
    go_upto_region 9 with (refine wpList_store_row rfl 26 _ _ rfl w6.heap.size Z3.toArray rfl rfl 26 _ (heap_alloc_new w6 _) hI3.out hS3.out hO3.out ?_)
    obtain ⟨w7, hw⟩ : ∃ x, x = (w6.alloc (.cells #[.int .u8 0, .bool false, .slice none 0 0, .slice none 0 0, .slice none 0 0] 26)).setRow w6.heap.size Z3.toArray := ⟨_, rfl⟩
    have b7 := (var_treeN (w := w6) (cs := Z3)).2
    have hv3 := (var_treeN (w := w6) (cs := Z3)).1
    rw [← hw] at b7 hv3 ⊢
    obtain ⟨A, hA⟩ : ∃ A, A = w6.heap.size := ⟨_, rfl⟩
    rw [← hA] at hv3 ⊢
    have V3 := Lib.hid hv3
    replace HT3 := Lib.hid (IsT.later b7 _ _ _ HT3.out)
    clear hw hv3 hA
    have H7 := Lib.hid (H6.out.below b7 H6.out.lt)
    replace ROp := Lib.hid (owns_same ROp.out (fun k _ h => b7.block k h))
    have B7 := Lib.hid (B6.out.trans (b7.mono B6.out.size))
    clear b7 B6 H6 
    have HBP : Hid (IsB w7 (some ⟨gp, 0, none⟩) lp capp (archT t3)) := Lib.hid (row_whole ROp.out (by omega))
    obtain ⟨sp, hsp⟩ : ∃ sp : ByteArray, sp = ⟨(archT t3).toArray⟩ := ⟨_, rfl⟩
    have HSP := Lib.hid hsp
    clear hsp
    refine wp_region_held_drew (S := fun W => Has W w.heap.size cs 26 ∧ Has W A Z3 26 ∧ IsB W (some ⟨gp, 0, none⟩) lp capp (archT t3)) (by kernel_rfl) ⟨H7.out.drew, V3.out.drew, HBP.out.later (below_drewT (Below.refl _ _))⟩ (fun hHeld => ?_)
    have hu26 := Try.underlying26
    refine wpAnyH_take (i := 0) (oi := { dst := some 32, op := Op.move (Operand.tmp 4), type := 29, pos := "law.go:31", after := #[], guard := none }) (v := .int .i64 0) rfl (by kernel_rfl) (by kernel_rfl) (by kernel_rfl) (fun _ _ _ h => h)
      (Or.inl ⟨by rfl, by intro w hSw;  clear hSw; go_simp⟩) hHeld ?_
    try simp only [Act.put, List.setIfInBounds_toArray, List.set_cons_zero, List.set_cons_succ]
    refine wpAnyH_take (i := 1) (oi := { dst := some 33, op := Op.binOp BinOp.eql 29 (Operand.tmp 32) (Operand.const (Value.int IntKind.i64 0)) 29, type := 4, pos := "law.go:31", after := #[{ on := 0, ground := Ground.data }], guard := none }) (v := .bool true) rfl (by kernel_rfl) (by kernel_rfl) (by kernel_rfl) (fun _ _ _ h => h)
      (Or.inl ⟨by rfl, by intro w hSw;  clear hSw; go_simp⟩) hHeld ?_
    try simp only [Act.put, List.setIfInBounds_toArray, List.set_cons_zero, List.set_cons_succ]
    refine wpAnyH_take (i := 2) (oi := { dst := some 34, op := Op.move (Operand.tmp 33), type := 4, pos := "law.go:31", after := #[{ on := 1, ground := Ground.data }], guard := none }) (v := .bool true) rfl (by kernel_rfl) (by kernel_rfl) (by kernel_rfl) (fun _ _ _ h => h)
      (Or.inl ⟨by rfl, by intro w hSw;  clear hSw; go_simp⟩) hHeld ?_
    try simp only [Act.put, List.setIfInBounds_toArray, List.set_cons_zero, List.set_cons_succ]
    refine wpAnyH_take (i := 3) (oi := { dst := some 35, op := Op.move (Operand.tmp 3), type := 22, pos := "law.go:31", after := #[{ on := 2, ground := Ground.guard }], guard := some (2, true) }) (v := .slice (some ⟨gp, 0, none⟩) lp capp) rfl (by kernel_rfl) (by kernel_rfl) (by kernel_rfl) (fun _ _ _ h => h)
      (Or.inl ⟨by rfl, by intro w hSw;  clear hSw; go_simp⟩) hHeld ?_
    try simp only [Act.put, List.setIfInBounds_toArray, List.set_cons_zero, List.set_cons_succ]
    refine wpAnyH_take (i := 4) (oi := { dst := some 36, op := Op.convert 22 9 (Operand.tmp 35), type := 9, pos := "law.go:31", after := #[{ on := 3, ground := Ground.data }, { on := 2, ground := Ground.guard }], guard := some (2, true) }) (v := .string sp) rfl (by kernel_rfl) (by kernel_rfl) (by kernel_rfl) (fun _ _ _ h => h)
      (Or.inl ⟨by rfl, by intro w hSw; have hcv := convert_b hSw.2.2; rw [← HSP.out] at hcv; clear hSw; go_simp⟩) hHeld ?_
    try simp only [Act.put, List.setIfInBounds_toArray, List.set_cons_zero, List.set_cons_succ]
    refine wpAnyH_take (i := 5) (oi := { dst := some 37, op := Op.load 26 (Operand.tmp 1), type := 26, pos := "law.go:31", after := #[{ on := 2, ground := Ground.guard }], guard := some (2, true) }) rfl (by kernel_rfl) (by kernel_rfl) (by kernel_rfl) (fun _ _ _ h => h)
      (yieldsIf_load_mid (by rfl) 26 (.tmp 1) rfl w.heap.size (0) rfl cs _ (fun _ h => rangeAt_has h.1) hu26 rfl hL5.out) hHeld ?_
    try simp only [Act.put, List.setIfInBounds_toArray, List.set_cons_zero, List.set_cons_succ]
    refine wpAnyH_ready (rs := [6]) (by kernel_rfl) (by simp) ?_
    refine AllReadyH.cons (o := { dst := some 38, op := Op.call { callee := Callee.value (Operand.func 11), args := #[Operand.tmp 37], argTypes := #[26] }, type := 22, pos := "law.go:31", after := #[{ on := 5, ground := Ground.data }, { on := 2, ground := Ground.chain }, { on := 2, ground := Ground.guard }], guard := some (2, true) }) rfl (fun K hK => ?_) AllReadyH.nil
    go_simp
    refine ((rwrite_any n cs t3 w7.drew (IsT.later (B7.out.drew) _ _ _ HT.out) (.of HZ.out)).mono fun e w' h => src_own h (arch_pos t3) (by rw [← LLp.out]; omega)).mono ?_
    rintro e w8 ⟨g2, n2, c2, rfl, hB2, b8⟩
    have b8' : Below w7.heap.size w7 w8 := ⟨b8.os.trans rfl, b8.tape.trans rfl, b8.output, b8.size, b8.block⟩
    have hcv2 := convert_b hB2
    rw [← HSP.out] at hcv2
    go_wp2_with fail
    have HS8 := Lib.hid (show Has w8 w.heap.size cs 26 ∧ Has w8 A Z3 26 ∧ IsB w8 (some ⟨gp, 0, none⟩) lp capp (archT t3) from ⟨H7.out.below b8' H7.out.lt, V3.out.below b8' V3.out.lt, HBP.out.later b8'⟩)
    refine hK.out _ _ HS8.out (fun hHeld2 => ?_)
    have B8 := Lib.hid (B7.out.trans (b8'.mono B7.out.size))
    have HT4 := Lib.hid (IsT.later b8' _ _ _ HT3.out)
    clear hK K hHeld b8 b8' hB2
    try simp only [Act.put, List.setIfInBounds_toArray, List.set_cons_zero, List.set_cons_succ]
    refine wpAnyH_ready (rs := [7]) (by kernel_rfl) (by simp) ?_
    refine AllReadyH.cons (o := { dst := some 39, op := Op.convert 22 9 (Operand.tmp 38), type := 9, pos := "law.go:31", after := #[{ on := 6, ground := Ground.data }, { on := 2, ground := Ground.guard }], guard := some (2, true) }) rfl (fun K hK => ?_) AllReadyH.nil
    go_simp
    clear hcv2
    refine hK.out _ _ HS8.out (fun hHeld3 => ?_)
    clear hK K hHeld2
    try simp only [Act.put, List.setIfInBounds_toArray, List.set_cons_zero, List.set_cons_succ]
    refine wpAnyH_take (i := 8) (oi := { dst := some 40, op := Op.binOp BinOp.eql 9 (Operand.tmp 36) (Operand.tmp 39) 9, type := 4, pos := "law.go:31", after := #[{ on := 4, ground := Ground.data }, { on := 7, ground := Ground.data }, { on := 2, ground := Ground.guard }], guard := some (2, true) }) (v := .bool true) rfl (by kernel_rfl) (by kernel_rfl) (by kernel_rfl) (fun _ _ _ h => h)
      (Or.inl ⟨by rfl, by intro w hSw;  clear hSw; go_simp⟩) hHeld3 ?_
    try simp only [Act.put, List.setIfInBounds_toArray, List.set_cons_zero, List.set_cons_succ]
    refine wpAnyH_take (i := 9) (oi := { dst := some 41, op := Op.pick (Operand.tmp 34) (Operand.tmp 40) (Operand.const (Value.bool false)), type := 4, pos := "law.go:31", after := #[{ on := 2, ground := Ground.data }, { on := 8, ground := Ground.data }], guard := none }) (v := .bool true) rfl (by kernel_rfl) (by kernel_rfl) (by kernel_rfl) (fun _ _ _ h => h)
      (Or.inl ⟨by rfl, by intro w hSw;  clear hSw; go_simp⟩) hHeld3 ?_
    try simp only [Act.put, List.setIfInBounds_toArray, List.set_cons_zero, List.set_cons_succ]
    refine wpAnyH_take (i := 10) (oi := { dst := some 42, op := Op.move (Operand.tmp 41), type := 4, pos := "law.go:31", after := #[{ on := 9, ground := Ground.data }, { on := 6, ground := Ground.chain }], guard := none }) (v := .bool true) rfl (by kernel_rfl) (by kernel_rfl) (by kernel_rfl) (fun _ _ _ h => h)
      (Or.inl ⟨by rfl, by intro w hSw;  clear hSw; go_simp⟩) hHeld3 ?_
    try simp only [Act.put, List.setIfInBounds_toArray, List.set_cons_zero, List.set_cons_succ]
    refine wpAnyH_take (i := 11) (oi := { dst := some 43, op := Op.move (Operand.tmp 6), type := 29, pos := "law.go:31", after := #[{ on := 10, ground := Ground.guard }], guard := some (10, true) }) (v := .int .i64 0) rfl (by kernel_rfl) (by kernel_rfl) (by kernel_rfl) (fun _ _ _ h => h)
      (Or.inl ⟨by rfl, by intro w hSw;  clear hSw; go_simp⟩) hHeld3 ?_
    try simp only [Act.put, List.setIfInBounds_toArray, List.set_cons_zero, List.set_cons_succ]
    refine wpAnyH_take (i := 12) (oi := { dst := some 44, op := Op.binOp BinOp.eql 29 (Operand.tmp 43) (Operand.const (Value.int IntKind.i64 0)) 29, type := 4, pos := "law.go:31", after := #[{ on := 11, ground := Ground.data }, { on := 10, ground := Ground.guard }], guard := some (10, true) }) (v := .bool true) rfl (by kernel_rfl) (by kernel_rfl) (by kernel_rfl) (fun _ _ _ h => h)
      (Or.inl ⟨by rfl, by intro w hSw;  clear hSw; go_simp⟩) hHeld3 ?_
    try simp only [Act.put, List.setIfInBounds_toArray, List.set_cons_zero, List.set_cons_succ]
    refine wpAnyH_take (i := 13) (oi := { dst := some 45, op := Op.pick (Operand.tmp 42) (Operand.tmp 44) (Operand.const (Value.bool false)), type := 4, pos := "law.go:31", after := #[{ on := 10, ground := Ground.data }, { on := 12, ground := Ground.data }], guard := none }) (v := .bool true) rfl (by kernel_rfl) (by kernel_rfl) (by kernel_rfl) (fun _ _ _ h => h)
      (Or.inl ⟨by rfl, by intro w hSw;  clear hSw; go_simp⟩) hHeld3 ?_
    try simp only [Act.put, List.setIfInBounds_toArray, List.set_cons_zero, List.set_cons_succ]
    refine wpAnyH_take (i := 14) (oi := { dst := some 46, op := Op.move (Operand.tmp 45), type := 4, pos := "law.go:31", after := #[{ on := 13, ground := Ground.data }, { on := 10, ground := Ground.chain }], guard := none }) (v := .bool true) rfl (by kernel_rfl) (by kernel_rfl) (by kernel_rfl) (fun _ _ _ h => h)
      (Or.inl ⟨by rfl, by intro w hSw;  clear hSw; go_simp⟩) hHeld3 ?_
    try simp only [Act.put, List.setIfInBounds_toArray, List.set_cons_zero, List.set_cons_succ]
    refine wpAnyH_take (i := 15) (oi := { dst := some 47, op := Op.load 26 (Operand.tmp 5), type := 26, pos := "law.go:31", after := #[{ on := 14, ground := Ground.guard }], guard := some (14, true) }) rfl (by kernel_rfl) (by kernel_rfl) (by kernel_rfl) (fun _ _ _ h => h)
      (yieldsIf_load_mid (by rfl) 26 (.tmp 5) rfl A (0) rfl Z3 _ (fun _ h => rangeAt_has h.2.1) hu26 rfl hL53.out) hHeld3 ?_
    try simp only [Act.put, List.setIfInBounds_toArray, List.set_cons_zero, List.set_cons_succ]
    refine wpAnyH_take (i := 16) (oi := { dst := some 48, op := Op.load 26 (Operand.tmp 1), type := 26, pos := "law.go:31", after := #[{ on := 14, ground := Ground.guard }], guard := some (14, true) }) rfl (by kernel_rfl) (by kernel_rfl) (by kernel_rfl) (fun _ _ _ h => h)
      (yieldsIf_load_mid (by rfl) 26 (.tmp 1) rfl w.heap.size (0) rfl cs _ (fun _ h => rangeAt_has h.1) hu26 rfl hL5.out) hHeld3 ?_
    try simp only [Act.put, List.setIfInBounds_toArray, List.set_cons_zero, List.set_cons_succ]
    refine wpAnyH_ready (rs := [17]) (by kernel_rfl) (by simp) ?_
    refine AllReadyH.cons (o := { dst := some 49, op := Op.call { callee := Callee.value (Operand.func 12), args := #[Operand.tmp 47, Operand.tmp 48], argTypes := #[26, 26] }, type := 4, pos := "law.go:31", after := #[{ on := 15, ground := Ground.data }, { on := 16, ground := Ground.data }, { on := 14, ground := Ground.chain }, { on := 14, ground := Ground.guard }], guard := some (14, true) }) rfl (fun K hK => ?_) AllReadyH.nil
    go_simp
    refine (rsame_any n3 Z3 t3 n cs t3 w8 HT4.out (IsT.later B8.out _ _ _ HT.out)).mono ?_
    rintro e w9 ⟨⟨r, rfl, hr⟩, b9⟩
    obtain rfl : r = true := hr.2 rfl
    go_wp2_with fail
    have hs2 := HS8.out
    refine hK.out _ _ ⟨hs2.1.below b9 hs2.1.lt, hs2.2.1.below b9 hs2.2.1.lt, hs2.2.2.later b9⟩ (fun hHeld4 => ?_)
    have BE := Lib.hid (B8.out.trans (b9.mono B8.out.size))
    clear hK K hHeld3 b9 hr hs2
    try simp only [Act.put, List.setIfInBounds_toArray, List.set_cons_zero, List.set_cons_succ]
    refine wpAnyH_take (i := 18) (oi := { dst := some 50, op := Op.pick (Operand.tmp 46) (Operand.tmp 49) (Operand.const (Value.bool false)), type := 4, pos := "law.go:31", after := #[{ on := 14, ground := Ground.data }, { on := 17, ground := Ground.data }], guard := none }) (v := .bool true) rfl (by kernel_rfl) (by kernel_rfl) (by kernel_rfl) (fun _ _ _ h => h)
      (Or.inl ⟨by rfl, by intro w hSw;  clear hSw; go_simp⟩) hHeld4 ?_
    try simp only [Act.put, List.setIfInBounds_toArray, List.set_cons_zero, List.set_cons_succ]
    refine wpAnyH_take (i := 19) (oi := { dst := some 2, op := Op.assign (Operand.tmp 50), type := 4, pos := "law.go:31", after := #[{ on := 18, ground := Ground.data }, { on := 17, ground := Ground.chain }, { on := 0, ground := Ground.phase }, { on := 1, ground := Ground.phase }, { on := 2, ground := Ground.phase }, { on := 3, ground := Ground.phase }, { on := 4, ground := Ground.phase }, { on := 5, ground := Ground.phase }, { on := 6, ground := Ground.phase }, { on := 7, ground := Ground.phase }, { on := 8, ground := Ground.phase }, { on := 9, ground := Ground.phase }, { on := 10, ground := Ground.phase }, { on := 11, ground := Ground.phase }, { on := 12, ground := Ground.phase }, { on := 13, ground := Ground.phase }, { on := 14, ground := Ground.phase }, { on := 15, ground := Ground.phase }, { on := 16, ground := Ground.phase }, { on := 17, ground := Ground.phase }, { on := 18, ground := Ground.phase }], guard := none }) (v := .bool true) rfl (by kernel_rfl) (by kernel_rfl) (by kernel_rfl) (fun _ _ _ h => h)
      (Or.inl ⟨by rfl, by intro w hSw;  clear hSw; go_simp⟩) hHeld4 ?_
    try simp only [Act.put, List.setIfInBounds_toArray, List.set_cons_zero, List.set_cons_succ]
    refine wpAnyH_done (by kernel_rfl) ?_ _
    clear hHeld4 hu26
    go_wp2_with fail
    go_ret
    exact ⟨rfl, BE.out⟩
  · skip
    go_wp2_with fail
    refine (awake_any w2).mono ?_
    rintro e w3 ⟨rfl, b3⟩
    have BE := Lib.hid (B2.out.trans (b3.mono B2.out.size))
    clear b3
    go_wp2_with fail
    go_ret
    exact ⟨rfl, BE.out⟩

end Go.Proofs.Ythjihibocobndaa

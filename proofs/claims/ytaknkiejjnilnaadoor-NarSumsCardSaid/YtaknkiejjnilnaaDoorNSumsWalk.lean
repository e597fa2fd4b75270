/-
  The walk of the law NarSums: it returns true. Conditions: a tree; hash's two tables as the program's text lays them.
-/
import Derived.Test.YtaknkiejjnilnaaDoorNSum
import Derived.Test.YtaknkiejjnilnaaDoorNNodeDir
import Derived.Test.YtaknkiejjnilnaaDoorRSum
import Derived.Deep.RegionHeld3
namespace Go.Proofs.YtaknkiejjnilnaaDoor
open Go.RowKit
set_option linter.unusedVariables false

theorem sumE_cases {t : T} {e : Ending} (h : SumE t e) : ∃ (R : List Nat) (c k : Int), e = .returned (.tuple #[.agg (R.map byv).toArray, .int .i64 c, .int .i64 k]) ∧ R.length = 32 ∧
    ((sizeT t = none ∧ R = zeroN ∧ c = 0 ∧ k = 3) ∨ ((sizeT t).isSome = true ∧ R = dig (natsT t) ∧ c = ((archT t).length : Int) ∧ k = 0)) := by
  rcases h with ⟨h, rfl⟩ | ⟨h, rfl⟩
  · exact ⟨_, _, _, rfl, rfl, .inl ⟨h, rfl, rfl, rfl⟩⟩
  · exact ⟨_, _, _, rfl, dig_length _, .inr ⟨h, rfl, rfl, rfl⟩⟩

set_option maxRecDepth 100000 in
set_option maxHeartbeats 20000000 in
theorem walk_NarSums (w : World) (n : Nat) (cs : List Value) (t : T) (ht : IsT w n cs t) (hs : Small t) (hl : LaidW w) :
    Calls Tryd.prog 3 #[.agg cs.toArray] w fun e w' => e = .returned (.bool true) ∧ Below w.heap.size w w' := by
  have hI := Lib.hid (infoL (isT_five ht))
  have hL5 : Hid ((Tryd.prog.info? 26).map (·.size) = some cs.length) := Lib.hid (by rw [info5, isT_five ht])
  have HT := Lib.hid ht
  have HSM := Lib.hid hs
  have HL0 := Lib.hid hl
  have HNOT : ∀ (x : Bool) (w : World), (Op.unary .not (.bool x)).run Tryd.prog w = .ok (.bool (!x)) w := fun _ _ => rfl
  clear ht hs hl
  go_enter Tryd.func3, Tryd.ntmps3
  go_upto_region 1 with fail
  obtain ⟨w1, hw1⟩ : ∃ w1, w1 = w.alloc (.cells cs.toArray 26) := ⟨_, rfl⟩
  have g1 : Has w1 w.heap.size cs 26 := by rw [hw1]; exact Has.new w cs _
  have b1 : Below w.heap.size w w1 := by rw [hw1]; exact (Below.refl _ _).alloc (Nat.le_refl _) _
  rw [← hw1]
  have H1 := Lib.hid g1
  have B1 := Lib.hid b1
  clear hw1 g1 b1
  have HL := Lib.hid (HL0.out.later B1.out)
  clear HL0
  go_wp2_with (refine wpList_load_rowG (by rfl) 26 _ rfl w.heap.size rfl 26 cs.toArray (0, 0) _ H1.out Tryd.underlying26 rfl hI.out ?_)
  refine (great_sum n cs t w1 (IsT.later B1.out _ _ _ HT.out) 500 (by omega) (by omega)).mono ?_
  rintro e w2 ⟨⟨gr, rfl, -⟩, b2⟩
  have H2 := Lib.hid (H1.out.below b2 H1.out.lt)
  replace HL := Lib.hid (HL.out.later b2)
  have B2 := Lib.hid (B1.out.trans (b2.mono B1.out.size))
  clear b2 B1 H1 
  cases gr
  · skip
    go_wp2_with fail
    refine (awake_any w2).mono ?_
    rintro e w3 ⟨rfl, b3⟩
    have H3 := Lib.hid (H2.out.below b3 H2.out.lt)
    replace HL := Lib.hid (HL.out.later b3)
    have B3 := Lib.hid (B2.out.trans (b3.mono B2.out.size))
    clear b3 B2 H2 
    go_wp2_with (refine wpList_load_rowG (by rfl) 26 _ rfl w.heap.size rfl 26 cs.toArray (0, 0) _ H3.out Tryd.underlying26 rfl hI.out ?_)
    refine (nsum_any n cs t w3 (IsT.later B3.out _ _ _ HT.out) HL.out).mono ?_
    rintro e w4 ⟨b4, hse⟩
    obtain ⟨R, c, m, rfl, hR, hcase⟩ := sumE_cases hse
    obtain ⟨LC, hLC⟩ : ∃ L, L = R.map byv := ⟨_, rfl⟩
    have HR := Lib.hid hR
    have HLC := Lib.hid hLC
    have HCASE := Lib.hid hcase
    have p1 := info_32 R hR
    have p2 := size_zeros 32 R hR
    have p3 := one_bytes R
    rw [← hLC] at p1 p2 p3 ⊢
    have P1 := Lib.hid p1
    have P2 := Lib.hid p2
    have P3 := Lib.hid p3
    have hiC : Hid ((Tryd.prog.info? 29).map (·.size) = some LC.length) := Lib.hid (by rw [← List.size_toArray]; exact p1)
    clear hse hR hLC hcase p1 p2 p3
    have H4 := Lib.hid (H3.out.below b4 H3.out.lt)
    replace HL := Lib.hid (HL.out.later b4)
    have B4 := Lib.hid (B3.out.trans (b4.mono B3.out.size))
    clear b4 B3 H3 
    go_upto_region 6 with (rw [zeros32]; refine wpList_store_row rfl 29 _ _ rfl w4.heap.size LC.toArray rfl rfl 29 _ (heap_alloc_last _ _) P1.out P2.out P3.out ?_)
    obtain ⟨w5, hw⟩ : ∃ x, x = (w4.alloc (.cells #[byv 0, byv 0, byv 0, byv 0, byv 0, byv 0, byv 0, byv 0, byv 0, byv 0, byv 0, byv 0, byv 0, byv 0, byv 0, byv 0, byv 0, byv 0, byv 0, byv 0, byv 0, byv 0, byv 0, byv 0, byv 0, byv 0, byv 0, byv 0, byv 0, byv 0, byv 0, byv 0] 29)).setRow w4.heap.size LC.toArray := ⟨_, rfl⟩
    have hw2 : w5 = w4.alloc (.cells LC.toArray 29) := by rw [hw]; exact World.setRow_alloc_new w4 _ _ _
    have hd : Has w5 w4.heap.size LC 29 := by rw [hw2]; exact Has.new w4 _ _
    have b5 : Below w4.heap.size w4 w5 := by rw [hw2]; exact (Below.refl _ _).alloc (Nat.le_refl _) _
    rw [← hw]
    obtain ⟨A, hA⟩ : ∃ A, A = w4.heap.size := ⟨_, rfl⟩
    rw [← hA] at hd ⊢
    have D5 := Lib.hid hd
    clear hw hw2 hA hd
    have H5 := Lib.hid (H4.out.below b5 H4.out.lt)
    replace HL := Lib.hid (HL.out.later b5)
    have B5 := Lib.hid (B4.out.trans (b5.mono B4.out.size))
    clear b5 B4 H4 
    go_wp2_with (refine wpList_load_rowG (by rfl) 26 _ rfl w.heap.size rfl 26 cs.toArray (0, 0) _ H5.out Tryd.underlying26 rfl hI.out ?_)
    refine (rform_any n cs t w5 (IsT.later B5.out _ _ _ HT.out) HSM.out).mono ?_
    rintro e w6 ⟨rfl, b6⟩
    have H6 := Lib.hid (H5.out.below b6 H5.out.lt)
    have D6 := Lib.hid (D5.out.below b6 D5.out.lt)
    replace HL := Lib.hid (HL.out.later b6)
    have B6 := Lib.hid (B5.out.trans (b6.mono B5.out.size))
    clear b6 B5 H5 D5 
    rcases HCASE.out with ⟨hz0, rfl, rfl, rfl⟩ | ⟨hz1, hRR, rfl, rfl⟩
    · rw [hz0, show (none : Option (Nat × Nat)).isSome = false from rfl]
      have hgd := guard_32
      have heq : ∀ W, (Op.equalIn 10000 29 (.agg LC.toArray) (.agg ((List.replicate 32 0).map byv).toArray)).run Tryd.prog W = .ok true W := by
        intro W
        have := eql_32 W (List.replicate 32 0) (List.replicate 32 0) (by simp) (by simp)
        rw [HLC.out, show zeroN = List.replicate 32 0 from rfl]
        simpa using this
      rw [← zeros32] at heq
      clear hz0 HCASE
      go_wp2_with (refine wpList_load_rowG (by rfl) 29 _ rfl A rfl 29 LC.toArray (0, 0) _ D6.out Tryd.underlying29 rfl P1.out ?_)
      go_ret
      exact ⟨rfl, B6.out⟩
    · have HZ1 := Lib.hid hz1
      have HRR := Lib.hid hRR
      obtain ⟨q, hq⟩ : ∃ q, sizeT t = some q := Option.isSome_iff_exists.1 hz1
      have HZ := Lib.hid hq
      rw [hz1]
      obtain ⟨lp, hlp⟩ : ∃ l, l = (archT t).length := ⟨_, rfl⟩
      rw [← hlp]
      have hlp9 : lp ≤ 1000000000 := by rw [hlp]; exact arch_len hq
      have LLp := Lib.hid hlp
      clear hz1 hRR hq hlp HCASE
      go_wp2_with (refine wpList_load_rowG (by rfl) 26 _ rfl w.heap.size rfl 26 cs.toArray (0, 0) _ H6.out Tryd.underlying26 rfl hI.out ?_)
      refine ((rwrite_any n cs t w6 (IsT.later B6.out _ _ _ HT.out) (.of HZ.out)).mono fun e w' h => src_own h (arch_pos t) (by rw [← LLp.out]; omega)).mono ?_
      rintro e w7 ⟨g2, n2, c2, rfl, hB2, b7⟩
      obtain rfl : n2 = lp := by have := hB2.length; rw [LLp.out]; exact this.symm
      have HN := Lib.hid (isN_of hB2)
      clear hB2
      have H7 := Lib.hid (H6.out.below b7 H6.out.lt)
      have D7 := Lib.hid (D6.out.below b7 D6.out.lt)
      replace HL := Lib.hid (HL.out.later b7)
      have B7 := Lib.hid (B6.out.trans (b7.mono B6.out.size))
      clear b7 B6 H6 D6 
      go_upto_region 9 with fail
      refine wp_region_held_drew (S := fun W => Has W A LC 29) (by kernel_rfl) (D7.out.drew) (fun hHeld => ?_)
      have hu32 := Tryd.underlying29
      refine wpAnyH_take (i := 0) (oi := { dst := some 34, op := Op.move (Operand.tmp 5), type := 30, pos := "law.go:81", after := #[], guard := none }) (v := .int .i64 0) rfl (by kernel_rfl) (by kernel_rfl) (by kernel_rfl) (fun _ _ _ h => h)
        (Or.inl ⟨by rfl, by intro w hSw;  clear hSw; go_simp⟩) hHeld ?_
      try simp only [Act.put, List.setIfInBounds_toArray, List.set_cons_zero, List.set_cons_succ]
      refine wpAnyH_take (i := 1) (oi := { dst := some 35, op := Op.binOp BinOp.eql 30 (Operand.tmp 34) (Operand.const (Value.int IntKind.i64 0)) 30, type := 4, pos := "law.go:81", after := #[{ on := 0, ground := Ground.data }], guard := none }) (v := .bool true) rfl (by kernel_rfl) (by kernel_rfl) (by kernel_rfl) (fun _ _ _ h => h)
        (Or.inl ⟨by rfl, by intro w hSw;  clear hSw; go_simp⟩) hHeld ?_
      try simp only [Act.put, List.setIfInBounds_toArray, List.set_cons_zero, List.set_cons_succ]
      refine wpAnyH_take (i := 2) (oi := { dst := some 36, op := Op.move (Operand.tmp 35), type := 4, pos := "law.go:81", after := #[{ on := 1, ground := Ground.data }], guard := none }) (v := .bool true) rfl (by kernel_rfl) (by kernel_rfl) (by kernel_rfl) (fun _ _ _ h => h)
        (Or.inl ⟨by rfl, by intro w hSw;  clear hSw; go_simp⟩) hHeld ?_
      try simp only [Act.put, List.setIfInBounds_toArray, List.set_cons_zero, List.set_cons_succ]
      refine wpAnyH_take (i := 3) (oi := { dst := some 37, op := Op.move (Operand.tmp 4), type := 3, pos := "law.go:81", after := #[{ on := 2, ground := Ground.guard }], guard := some (2, true) }) (v := .int .i64 (n2 : Int)) rfl (by kernel_rfl) (by kernel_rfl) (by kernel_rfl) (fun _ _ _ h => h)
        (Or.inl ⟨by rfl, by intro w hSw;  clear hSw; go_simp⟩) hHeld ?_
      try simp only [Act.put, List.setIfInBounds_toArray, List.set_cons_zero, List.set_cons_succ]
      refine wpAnyH_take (i := 4) (oi := { dst := some 38, op := Op.move (Operand.tmp 6), type := 22, pos := "law.go:81", after := #[{ on := 2, ground := Ground.guard }], guard := some (2, true) }) (v := .slice (some ⟨g2, 0, none⟩) n2 c2) rfl (by kernel_rfl) (by kernel_rfl) (by kernel_rfl) (fun _ _ _ h => h)
        (Or.inl ⟨by rfl, by intro w hSw;  clear hSw; go_simp⟩) hHeld ?_
      try simp only [Act.put, List.setIfInBounds_toArray, List.set_cons_zero, List.set_cons_succ]
      refine wpAnyH_take (i := 5) (oi := { dst := some 39, op := Op.call { callee := Callee.builtin Builtin.len, args := #[Operand.tmp 38], argTypes := #[22] }, type := 3, pos := "law.go:81", after := #[{ on := 4, ground := Ground.data }, { on := 2, ground := Ground.guard }], guard := some (2, true) }) (v := .int .i64 (n2 : Int)) rfl (by kernel_rfl) (by kernel_rfl) (by kernel_rfl) (fun _ _ _ h => h)
        (Or.inl ⟨by rfl, by intro w hSw;  clear hSw; go_simp⟩) hHeld ?_
      try simp only [Act.put, List.setIfInBounds_toArray, List.set_cons_zero, List.set_cons_succ]
      refine wpAnyH_take (i := 6) (oi := { dst := some 40, op := Op.binOp BinOp.eql 3 (Operand.tmp 37) (Operand.tmp 39) 3, type := 4, pos := "law.go:81", after := #[{ on := 3, ground := Ground.data }, { on := 5, ground := Ground.data }, { on := 2, ground := Ground.guard }], guard := some (2, true) }) (v := .bool true) rfl (by kernel_rfl) (by kernel_rfl) (by kernel_rfl) (fun _ _ _ h => h)
        (Or.inl ⟨by rfl, by intro w hSw;  clear hSw; go_simp⟩) hHeld ?_
      try simp only [Act.put, List.setIfInBounds_toArray, List.set_cons_zero, List.set_cons_succ]
      refine wpAnyH_take (i := 7) (oi := { dst := some 41, op := Op.pick (Operand.tmp 36) (Operand.tmp 40) (Operand.const (Value.bool false)), type := 4, pos := "law.go:81", after := #[{ on := 2, ground := Ground.data }, { on := 6, ground := Ground.data }], guard := none }) (v := .bool true) rfl (by kernel_rfl) (by kernel_rfl) (by kernel_rfl) (fun _ _ _ h => h)
        (Or.inl ⟨by rfl, by intro w hSw;  clear hSw; go_simp⟩) hHeld ?_
      try simp only [Act.put, List.setIfInBounds_toArray, List.set_cons_zero, List.set_cons_succ]
      refine wpAnyH_take (i := 8) (oi := { dst := some 42, op := Op.move (Operand.tmp 41), type := 4, pos := "law.go:81", after := #[{ on := 7, ground := Ground.data }, { on := 2, ground := Ground.chain }], guard := none }) (v := .bool true) rfl (by kernel_rfl) (by kernel_rfl) (by kernel_rfl) (fun _ _ _ h => h)
        (Or.inl ⟨by rfl, by intro w hSw;  clear hSw; go_simp⟩) hHeld ?_
      try simp only [Act.put, List.setIfInBounds_toArray, List.set_cons_zero, List.set_cons_succ]
      refine wpAnyH_take (i := 9) (oi := { dst := some 43, op := Op.load 29 (Operand.tmp 3), type := 29, pos := "law.go:81", after := #[{ on := 8, ground := Ground.guard }], guard := some (8, true) }) rfl (by kernel_rfl) (by kernel_rfl) (by kernel_rfl) (fun _ _ _ h => h)
        (yieldsIf_load_mid (by rfl) 29 (.tmp 3) rfl A (0) rfl LC _ (fun _ h => rangeAt_has h) hu32 rfl hiC.out) hHeld ?_
      try simp only [Act.put, List.setIfInBounds_toArray, List.set_cons_zero, List.set_cons_succ]
      refine wpAnyH_take (i := 10) (oi := { dst := some 44, op := Op.move (Operand.tmp 6), type := 22, pos := "law.go:81", after := #[{ on := 8, ground := Ground.guard }], guard := some (8, true) }) (v := .slice (some ⟨g2, 0, none⟩) n2 c2) rfl (by kernel_rfl) (by kernel_rfl) (by kernel_rfl) (fun _ _ _ h => h)
        (Or.inl ⟨by rfl, by intro w hSw;  clear hSw; go_simp⟩) hHeld ?_
      try simp only [Act.put, List.setIfInBounds_toArray, List.set_cons_zero, List.set_cons_succ]
      have hk := rsum_n (some ⟨g2, 0, none⟩) n2 c2 (natsT t) w7.drew (IsN.later HN.out (below_drewT (Below.refl _ _))) (by omega)
      rw [← HRR.out, ← HLC.out] at hk
      have HK := Lib.hid hk
      clear hk
      refine wpAnyH_ready (rs := [11]) (by kernel_rfl) (by simp) ?_
      refine AllReadyH.cons (o := { dst := some 45, op := Op.call { callee := Callee.value (Operand.func 9), args := #[Operand.tmp 44], argTypes := #[22] }, type := 29, pos := "law.go:81", after := #[{ on := 10, ground := Ground.data }, { on := 8, ground := Ground.chain }, { on := 8, ground := Ground.guard }], guard := some (8, true) }) rfl (fun K hK => ?_) AllReadyH.nil
      go_simp
      refine HK.out.mono ?_
      rintro e w8 ⟨rfl, b8⟩
      have b8' : Below w7.heap.size w7 w8 := ⟨b8.os.trans rfl, b8.tape.trans rfl, b8.output, b8.size, b8.block⟩
      have BE := Lib.hid (B7.out.trans (b8'.mono B7.out.size))
      have D8 := Lib.hid (D7.out.below b8' D7.out.lt)
      go_wp2_with fail
      refine hK.out _ _ D8.out (fun hHeld2 => ?_)
      clear hK K hHeld b8 b8' HK
      have HEQ : Hid (∀ W, (Op.equalIn 10000 29 (.agg LC.toArray) (.agg LC.toArray)).run Tryd.prog W = .ok true W) := Lib.hid (by
        intro W
        have := eql_32 W R R HR.out HR.out
        rw [HLC.out]
        simpa using this)
      try simp only [Act.put, List.setIfInBounds_toArray, List.set_cons_zero, List.set_cons_succ]
      refine wpAnyH_take (i := 12) (oi := { dst := some 46, op := Op.binOp BinOp.eql 29 (Operand.tmp 43) (Operand.tmp 45) 29, type := 4, pos := "law.go:81", after := #[{ on := 9, ground := Ground.data }, { on := 11, ground := Ground.data }, { on := 8, ground := Ground.guard }], guard := some (8, true) }) (v := .bool true) rfl (by kernel_rfl) (by kernel_rfl) (by kernel_rfl) (fun _ _ _ h => h)
        (Or.inl ⟨by rfl, by intro w hSw; have heq := HEQ.out; have hgd := guard_32; clear hSw; go_simp⟩) hHeld2 ?_
      try simp only [Act.put, List.setIfInBounds_toArray, List.set_cons_zero, List.set_cons_succ]
      refine wpAnyH_take (i := 13) (oi := { dst := some 47, op := Op.pick (Operand.tmp 42) (Operand.tmp 46) (Operand.const (Value.bool false)), type := 4, pos := "law.go:81", after := #[{ on := 8, ground := Ground.data }, { on := 12, ground := Ground.data }], guard := none }) (v := .bool true) rfl (by kernel_rfl) (by kernel_rfl) (by kernel_rfl) (fun _ _ _ h => h)
        (Or.inl ⟨by rfl, by intro w hSw;  clear hSw; go_simp⟩) hHeld2 ?_
      try simp only [Act.put, List.setIfInBounds_toArray, List.set_cons_zero, List.set_cons_succ]
      refine wpAnyH_take (i := 14) (oi := { dst := some 2, op := Op.assign (Operand.tmp 47), type := 4, pos := "law.go:81", after := #[{ on := 13, ground := Ground.data }, { on := 11, ground := Ground.chain }, { on := 0, ground := Ground.phase }, { on := 1, ground := Ground.phase }, { on := 2, ground := Ground.phase }, { on := 3, ground := Ground.phase }, { on := 4, ground := Ground.phase }, { on := 5, ground := Ground.phase }, { on := 6, ground := Ground.phase }, { on := 7, ground := Ground.phase }, { on := 8, ground := Ground.phase }, { on := 9, ground := Ground.phase }, { on := 10, ground := Ground.phase }, { on := 11, ground := Ground.phase }, { on := 12, ground := Ground.phase }, { on := 13, ground := Ground.phase }], guard := none }) (v := .bool true) rfl (by kernel_rfl) (by kernel_rfl) (by kernel_rfl) (fun _ _ _ h => h)
        (Or.inl ⟨by rfl, by intro w hSw;  clear hSw; go_simp⟩) hHeld2 ?_
      try simp only [Act.put, List.setIfInBounds_toArray, List.set_cons_zero, List.set_cons_succ]
      refine wpAnyH_done (by kernel_rfl) ?_ _
      clear hHeld2 hu32
      go_wp2_with fail
      go_ret
      exact ⟨rfl, BE.out⟩
  · skip
    go_wp2_with fail
    refine (awake_any w2).mono ?_
    rintro e w3 ⟨rfl, b3⟩
    have BE := Lib.hid (B2.out.trans (b3.mono B2.out.size))
    clear b3
    go_wp2_with fail
    go_ret
    exact ⟨rfl, BE.out⟩

end Go.Proofs.YtaknkiejjnilnaaDoor

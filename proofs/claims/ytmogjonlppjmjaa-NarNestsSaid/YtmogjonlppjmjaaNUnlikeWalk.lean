/-
  The walk of the law NarUnlike: it returns true. Conditions: names and lists are no longer than memory.
-/
import Derived.Test.YtmogjonlppjmjaaNAwake
import Derived.Test.YtmogjonlppjmjaaNLoad
import Derived.Test.YtmogjonlppjmjaaTGreat2
import Derived.Test.YtmogjonlppjmjaaTRForm
import Derived.Deep.RegionHeld3
namespace Go.Proofs.Ytmogjonlppjmjaa
open Go.RowKit
set_option linter.unusedVariables false

theorem wrote_good {t : T} {q : Nat × Nat} {w w' : World} {e : Ending} (hz : sizeT t = some q)
    (h : (sizeT t = none ∧ e = .returned (.tuple #[.slice none 0 0, .int .i64 3])) ∨ ((sizeT t).isSome = true ∧ ∃ g cap, e = .returned (.tuple #[.slice (some ⟨g, 0, none⟩) (archT t).length cap, .int .i64 0]) ∧
      w'.ownsRow w.heap.size 5 1 (.slice (some ⟨g, 0, none⟩) (archT t).length cap) (archT t).length ((archT t).map bv))) :
    ∃ g cap, e = .returned (.tuple #[.slice (some ⟨g, 0, none⟩) (archT t).length cap, .int .i64 0]) ∧ w'.ownsRow w.heap.size 5 1 (.slice (some ⟨g, 0, none⟩) (archT t).length cap) (archT t).length ((archT t).map bv) := by
  rcases h with ⟨h0, _⟩ | ⟨_, h⟩
  · rw [hz] at h0; cases h0
  · exact h

theorem str_beq (a b : ByteArray) : (a.toList == b.toList) = decide (a = b) := by
  rw [Bool.eq_iff_iff, beq_iff_eq, decide_eq_true_iff, ByteArray.toList_eq, ByteArray.toList_eq]
  exact ⟨fun h => bytes_ext h, fun h => by rw [h]⟩

/-- A whole row of bytes as a slice of bytes. -/
theorem row_whole {w : World} {B g n cap : Nat} {L : List UInt8} (h : w.ownsRow B 5 1 (.slice (some ⟨g, 0, none⟩) n cap) n (L.map bv)) (hm : n ≤ 140737488355328) : IsB w (some ⟨g, 0, none⟩) n cap L := by
  have hn : L.length = n := by have := h.1; rw [List.length_map] at this; omega
  have hcap : n ≤ cap ∧ cap ≤ maxLen := by
    rcases h.2 with ⟨h0, _⟩ | ⟨g', cap', cur', he, _, _, h1, h2, _⟩
    · cases h0
    · cases he; exact ⟨h1, h2⟩
  have := row_sub h hm 0 n cap (by omega) hcap.1 hcap.2
  rwa [List.drop_zero, List.take_of_length_le (by omega)] at this

set_option maxRecDepth 100000 in
set_option maxHeartbeats 20000000 in
theorem walk_NarUnlike (w : World) (n : Nat) (cs : List Value) (t : T) (ht : IsT w n cs t) (hs : Small t) (n' : Nat) (ds : List Value) (t' : T) (ht' : IsT w n' ds t') (hs' : Small t') :
    Calls Try.prog 3 #[.agg cs.toArray, .agg ds.toArray] w fun e w' => e = .returned (.bool true) ∧ Below w.heap.size w w' := by
  have hI := Lib.hid (infoL (isT_five ht))
  have hI' := Lib.hid (infoL (isT_five ht'))
  have hL5 : Hid ((Try.prog.info? 26).map (·.size) = some cs.length) := Lib.hid (by rw [info5, isT_five ht])
  have hL5' : Hid ((Try.prog.info? 26).map (·.size) = some ds.length) := Lib.hid (by rw [info5, isT_five ht'])
  have HT := Lib.hid ht
  have HSM := Lib.hid hs
  have HT' := Lib.hid ht'
  have HSM' := Lib.hid hs'
  clear ht hs ht' hs'
  go_enter Try.func3, Try.ntmps3
  go_upto_region 1 with fail
  obtain ⟨w0, hw0⟩ : ∃ w0, w0 = w.alloc (.cells cs.toArray 26) := ⟨_, rfl⟩
  have g0 : Has w0 w.heap.size cs 26 := by rw [hw0]; exact Has.new w cs _
  have b0 : Below w.heap.size w w0 := by rw [hw0]; exact (Below.refl _ _).alloc (Nat.le_refl _) _
  have s0 : w0.heap.size = w.heap.size + 1 := by rw [hw0]; simp
  rw [← hw0]
  obtain ⟨w1, hw1⟩ : ∃ w1, w1 = w0.alloc (.cells ds.toArray 26) := ⟨_, rfl⟩
  have k1 : Has w1 (w.heap.size + 1) ds 26 := by rw [hw1, ← s0]; exact Has.new w0 ds _
  have g1 : Has w1 w.heap.size cs 26 := by rw [hw1]; exact g0.alloc _
  have b1 : Below w.heap.size w w1 := by rw [hw1]; exact b0.alloc b0.size _
  rw [← hw1]
  have H1 := Lib.hid g1
  have J1 := Lib.hid k1
  have B1 := Lib.hid b1
  clear hw0 hw1 g0 b0 g1 k1 b1 s0
  go_wp2_with (refine wpList_load_rowG (by rfl) 26 _ rfl w.heap.size rfl 26 cs.toArray (0, 0) _ H1.out Try.underlying26 rfl hI.out ?_)
  refine (great_sum n cs t w1 (IsT.later B1.out _ _ _ HT.out) 500 (by omega) (by omega)).mono ?_
  rintro e w2 ⟨⟨gr, rfl, -⟩, b2⟩
  have H2 := Lib.hid (H1.out.below b2 H1.out.lt)
  have J2 := Lib.hid (J1.out.below b2 J1.out.lt)
  have B2 := Lib.hid (B1.out.trans (b2.mono B1.out.size))
  clear b2 B1 H1 J1 
  cases gr
  · skip
    go_wp2_with (refine wpList_load_rowG (by rfl) 26 _ rfl (w.heap.size + 1) rfl 26 ds.toArray (0, 0) _ J2.out Try.underlying26 rfl hI'.out ?_)
    refine (great_sum n' ds t' w2 (IsT.later B2.out _ _ _ HT'.out) 500 (by omega) (by omega)).mono ?_
    rintro e w3 ⟨⟨gr, rfl, -⟩, b3⟩
    have H3 := Lib.hid (H2.out.below b3 H2.out.lt)
    have J3 := Lib.hid (J2.out.below b3 J2.out.lt)
    have B3 := Lib.hid (B2.out.trans (b3.mono B2.out.size))
    clear b3 B2 H2 J2 
    cases gr
    · skip
      go_wp2_with fail
      refine (awake_any w3).mono ?_
      rintro e w4 ⟨rfl, b4⟩
      have H4 := Lib.hid (H3.out.below b4 H3.out.lt)
      have J4 := Lib.hid (J3.out.below b4 J3.out.lt)
      have B4 := Lib.hid (B3.out.trans (b4.mono B3.out.size))
      clear b4 B3 H3 J3 
      go_wp2_with (refine wpList_load_rowG (by rfl) 26 _ rfl w.heap.size rfl 26 cs.toArray (0, 0) _ H4.out Try.underlying26 rfl hI.out ?_)
      refine (rform_any n cs t w4 (IsT.later B4.out _ _ _ HT.out) HSM.out).mono ?_
      rintro e w5 ⟨rfl, b5⟩
      have H5 := Lib.hid (H4.out.below b5 H4.out.lt)
      have J5 := Lib.hid (J4.out.below b5 J4.out.lt)
      have B5 := Lib.hid (B4.out.trans (b5.mono B4.out.size))
      clear b5 B4 H4 J4 
      cases hz : sizeT t with
      | none =>
        rw [show (none : Option (Nat × Nat)).isSome = false from rfl]
        clear hz
        go_wp2_with fail
        refine (awake_any w5).mono ?_
        rintro e w6 ⟨rfl, b6⟩
        have BE := Lib.hid (B5.out.trans (b6.mono B5.out.size))
        clear b6
        go_wp2_with fail
        go_ret
        exact ⟨rfl, BE.out⟩
      | some q =>
        rw [show (some q).isSome = true from rfl]
        have HZ := Lib.hid hz
        clear hz
        go_wp2_with (refine wpList_load_rowG (by rfl) 26 _ rfl (w.heap.size + 1) rfl 26 ds.toArray (0, 0) _ J5.out Try.underlying26 rfl hI'.out ?_)
        refine (rform_any n' ds t' w5 (IsT.later B5.out _ _ _ HT'.out) HSM'.out).mono ?_
        rintro e w6 ⟨rfl, b6⟩
        have H6 := Lib.hid (H5.out.below b6 H5.out.lt)
        have J6 := Lib.hid (J5.out.below b6 J5.out.lt)
        have B6 := Lib.hid (B5.out.trans (b6.mono B5.out.size))
        clear b6 B5 H5 J5 
        cases hz : sizeT t' with
        | none =>
          rw [show (none : Option (Nat × Nat)).isSome = false from rfl]
          clear hz
          go_wp2_with fail
          refine (awake_any w6).mono ?_
          rintro e w7 ⟨rfl, b7⟩
          have BE := Lib.hid (B6.out.trans (b7.mono B6.out.size))
          clear b7
          go_wp2_with fail
          go_ret
          exact ⟨rfl, BE.out⟩
        | some q' =>
          rw [show (some q').isSome = true from rfl]
          have HZ' := Lib.hid hz
          clear hz
          go_wp2_with (refine wpList_load_rowG (by rfl) 26 _ rfl w.heap.size rfl 26 cs.toArray (0, 0) _ H6.out Try.underlying26 rfl hI.out ?_)
          refine (write_any n cs t w6 (IsT.later B6.out _ _ _ HT.out)).mono ?_
          rintro e w7 ⟨b7, hwp⟩
          obtain ⟨gp, capp, rfl, hop⟩ := wrote_good HZ.out hwp
          obtain ⟨lp, hlp⟩ : ∃ l, l = (archT t).length := ⟨_, rfl⟩
          rw [← hlp] at hop ⊢
          have LLp := Lib.hid hlp
          have ROp := Lib.hid hop
          clear hop hlp hwp
          have H7 := Lib.hid (H6.out.below b7 H6.out.lt)
          have J7 := Lib.hid (J6.out.below b7 J6.out.lt)
          have B7 := Lib.hid (B6.out.trans (b7.mono B6.out.size))
          clear b7 B6 H6 J6 
          go_wp2_with (refine wpList_load_rowG (by rfl) 26 _ rfl (w.heap.size + 1) rfl 26 ds.toArray (0, 0) _ J7.out Try.underlying26 rfl hI'.out ?_)
          refine (write_any n' ds t' w7 (IsT.later B7.out _ _ _ HT'.out)).mono ?_
          rintro e w8 ⟨b8, hwq⟩
          obtain ⟨gq, capq, rfl, hoq⟩ := wrote_good HZ'.out hwq
          obtain ⟨lq, hlq⟩ : ∃ l, l = (archT t').length := ⟨_, rfl⟩
          rw [← hlq] at hoq ⊢
          have LLq := Lib.hid hlq
          have ROq := Lib.hid hoq
          clear hoq hlq hwq
          have BB8 := Lib.hid b8
          have H8 := Lib.hid (H7.out.below b8 H7.out.lt)
          have J8 := Lib.hid (J7.out.below b8 J7.out.lt)
          have B8 := Lib.hid (B7.out.trans (b8.mono B7.out.size))
          clear b8 B7 H7 J7 
          have HBP : Hid (IsB w7 (some ⟨gp, 0, none⟩) lp capp (archT t)) := Lib.hid (row_whole ROp.out (by rw [LLp.out]; have := arch_len HZ.out; omega))
          have HBQ : Hid (IsB w8 (some ⟨gq, 0, none⟩) lq capq (archT t')) := Lib.hid (row_whole ROq.out (by rw [LLq.out]; have := arch_len HZ'.out; omega))
          have HBP2 := Lib.hid (HBP.out.later BB8.out)
          have HEQ : Hid (archT t = archT t' ↔ t = t') := Lib.hid (archT_inj (.of HZ.out) (.of HZ'.out))
          have hl8 : lp % 8 = 0 := by rw [LLp.out]; exact archT_eight t
          have HT8 : Hid ((lp : Int).tmod 8 = 0) := Lib.hid (by rw [Int.tmod_eq_emod_of_nonneg (by omega)]; omega)
          clear hl8
          obtain ⟨sp, hsp⟩ : ∃ sp : ByteArray, sp = ⟨(archT t).toArray⟩ := ⟨_, rfl⟩
          obtain ⟨sq, hsq⟩ : ∃ sq : ByteArray, sq = ⟨(archT t').toArray⟩ := ⟨_, rfl⟩
          have hst : Hid (sp = sq ↔ t = t') := Lib.hid (by
            rw [← HEQ.out, hsp, hsq]
            exact ⟨fun h => by have := congrArg (fun b : ByteArray => b.data.toList) h; simpa using this, fun h => by rw [h]⟩)
          have HSP := Lib.hid hsp
          have HSQ := Lib.hid hsq
          clear hsp hsq HBP HEQ
          go_upto_region 7 with fail
          refine wp_region_held_drew (S := fun W => Has W w.heap.size cs 26 ∧ Has W (w.heap.size + 1) ds 26 ∧ IsB W (some ⟨gp, 0, none⟩) lp capp (archT t) ∧ IsB W (some ⟨gq, 0, none⟩) lq capq (archT t')) (by kernel_rfl) ⟨H8.out.drew, J8.out.drew, HBP2.out.later (below_drewT (Below.refl _ _)), HBQ.out.later (below_drewT (Below.refl _ _))⟩ (fun hHeld => ?_)
          have hu26 := Try.underlying26
          refine wpAnyH_take (i := 0) (oi := { dst := some 39, op := Op.move (Operand.tmp 6), type := 30, pos := "law.go:94", after := #[], guard := none }) (v := .int .i64 0) rfl (by kernel_rfl) (by kernel_rfl) (by kernel_rfl) (fun _ _ _ h => h)
            (Or.inl ⟨by rfl, by intro w hSw;  clear hSw; go_simp⟩) hHeld ?_
          try simp only [Act.put, List.setIfInBounds_toArray, List.set_cons_zero, List.set_cons_succ]
          refine wpAnyH_take (i := 1) (oi := { dst := some 40, op := Op.binOp BinOp.eql 30 (Operand.tmp 39) (Operand.const (Value.int IntKind.i64 0)) 30, type := 4, pos := "law.go:94", after := #[{ on := 0, ground := Ground.data }], guard := none }) (v := .bool true) rfl (by kernel_rfl) (by kernel_rfl) (by kernel_rfl) (fun _ _ _ h => h)
            (Or.inl ⟨by rfl, by intro w hSw;  clear hSw; go_simp⟩) hHeld ?_
          try simp only [Act.put, List.setIfInBounds_toArray, List.set_cons_zero, List.set_cons_succ]
          refine wpAnyH_take (i := 2) (oi := { dst := some 41, op := Op.move (Operand.tmp 40), type := 4, pos := "law.go:94", after := #[{ on := 1, ground := Ground.data }], guard := none }) (v := .bool true) rfl (by kernel_rfl) (by kernel_rfl) (by kernel_rfl) (fun _ _ _ h => h)
            (Or.inl ⟨by rfl, by intro w hSw;  clear hSw; go_simp⟩) hHeld ?_
          try simp only [Act.put, List.setIfInBounds_toArray, List.set_cons_zero, List.set_cons_succ]
          refine wpAnyH_take (i := 3) (oi := { dst := some 42, op := Op.move (Operand.tmp 8), type := 30, pos := "law.go:94", after := #[{ on := 2, ground := Ground.guard }], guard := some (2, true) }) (v := .int .i64 0) rfl (by kernel_rfl) (by kernel_rfl) (by kernel_rfl) (fun _ _ _ h => h)
            (Or.inl ⟨by rfl, by intro w hSw;  clear hSw; go_simp⟩) hHeld ?_
          try simp only [Act.put, List.setIfInBounds_toArray, List.set_cons_zero, List.set_cons_succ]
          refine wpAnyH_take (i := 4) (oi := { dst := some 43, op := Op.binOp BinOp.eql 30 (Operand.tmp 42) (Operand.const (Value.int IntKind.i64 0)) 30, type := 4, pos := "law.go:94", after := #[{ on := 3, ground := Ground.data }, { on := 2, ground := Ground.guard }], guard := some (2, true) }) (v := .bool true) rfl (by kernel_rfl) (by kernel_rfl) (by kernel_rfl) (fun _ _ _ h => h)
            (Or.inl ⟨by rfl, by intro w hSw;  clear hSw; go_simp⟩) hHeld ?_
          try simp only [Act.put, List.setIfInBounds_toArray, List.set_cons_zero, List.set_cons_succ]
          refine wpAnyH_take (i := 5) (oi := { dst := some 44, op := Op.pick (Operand.tmp 41) (Operand.tmp 43) (Operand.const (Value.bool false)), type := 4, pos := "law.go:94", after := #[{ on := 2, ground := Ground.data }, { on := 4, ground := Ground.data }], guard := none }) (v := .bool true) rfl (by kernel_rfl) (by kernel_rfl) (by kernel_rfl) (fun _ _ _ h => h)
            (Or.inl ⟨by rfl, by intro w hSw;  clear hSw; go_simp⟩) hHeld ?_
          try simp only [Act.put, List.setIfInBounds_toArray, List.set_cons_zero, List.set_cons_succ]
          refine wpAnyH_take (i := 6) (oi := { dst := some 45, op := Op.move (Operand.tmp 44), type := 4, pos := "law.go:94", after := #[{ on := 5, ground := Ground.data }, { on := 2, ground := Ground.chain }], guard := none }) (v := .bool true) rfl (by kernel_rfl) (by kernel_rfl) (by kernel_rfl) (fun _ _ _ h => h)
            (Or.inl ⟨by rfl, by intro w hSw;  clear hSw; go_simp⟩) hHeld ?_
          try simp only [Act.put, List.setIfInBounds_toArray, List.set_cons_zero, List.set_cons_succ]
          refine wpAnyH_take (i := 7) (oi := { dst := some 46, op := Op.move (Operand.tmp 5), type := 22, pos := "law.go:94", after := #[{ on := 6, ground := Ground.guard }], guard := some (6, true) }) (v := .slice (some ⟨gp, 0, none⟩) lp capp) rfl (by kernel_rfl) (by kernel_rfl) (by kernel_rfl) (fun _ _ _ h => h)
            (Or.inl ⟨by rfl, by intro w hSw;  clear hSw; go_simp⟩) hHeld ?_
          try simp only [Act.put, List.setIfInBounds_toArray, List.set_cons_zero, List.set_cons_succ]
          refine wpAnyH_take (i := 8) (oi := { dst := some 47, op := Op.convert 22 9 (Operand.tmp 46), type := 9, pos := "law.go:94", after := #[{ on := 7, ground := Ground.data }, { on := 6, ground := Ground.guard }], guard := some (6, true) }) (v := .string sp) rfl (by kernel_rfl) (by kernel_rfl) (by kernel_rfl) (fun _ _ _ h => h)
            (Or.inl ⟨by rfl, by intro w hSw; have hcv := convert_b hSw.2.2.1; rw [← HSP.out] at hcv; clear hSw; go_simp⟩) hHeld ?_
          try simp only [Act.put, List.setIfInBounds_toArray, List.set_cons_zero, List.set_cons_succ]
          refine wpAnyH_take (i := 9) (oi := { dst := some 48, op := Op.move (Operand.tmp 7), type := 22, pos := "law.go:94", after := #[{ on := 6, ground := Ground.guard }], guard := some (6, true) }) (v := .slice (some ⟨gq, 0, none⟩) lq capq) rfl (by kernel_rfl) (by kernel_rfl) (by kernel_rfl) (fun _ _ _ h => h)
            (Or.inl ⟨by rfl, by intro w hSw;  clear hSw; go_simp⟩) hHeld ?_
          try simp only [Act.put, List.setIfInBounds_toArray, List.set_cons_zero, List.set_cons_succ]
          refine wpAnyH_take (i := 10) (oi := { dst := some 49, op := Op.convert 22 9 (Operand.tmp 48), type := 9, pos := "law.go:94", after := #[{ on := 9, ground := Ground.data }, { on := 6, ground := Ground.guard }], guard := some (6, true) }) (v := .string sq) rfl (by kernel_rfl) (by kernel_rfl) (by kernel_rfl) (fun _ _ _ h => h)
            (Or.inl ⟨by rfl, by intro w hSw; have hcv := convert_b hSw.2.2.2; rw [← HSQ.out] at hcv; clear hSw; go_simp⟩) hHeld ?_
          try simp only [Act.put, List.setIfInBounds_toArray, List.set_cons_zero, List.set_cons_succ]
          refine wpAnyH_take (i := 11) (oi := { dst := some 50, op := Op.binOp BinOp.eql 9 (Operand.tmp 47) (Operand.tmp 49) 9, type := 4, pos := "law.go:94", after := #[{ on := 8, ground := Ground.data }, { on := 10, ground := Ground.data }, { on := 6, ground := Ground.guard }], guard := some (6, true) }) (v := .bool (decide (sp = sq))) rfl (by kernel_rfl) (by kernel_rfl) (by kernel_rfl) (fun _ _ _ h => h)
            (Or.inl ⟨by rfl, by intro w hSw;  clear hSw; go_simp; exact str_beq sp sq⟩) hHeld ?_
          try simp only [Act.put, List.setIfInBounds_toArray, List.set_cons_zero, List.set_cons_succ]
          refine wpAnyH_take (i := 12) (oi := { dst := some 51, op := Op.load 26 (Operand.tmp 2), type := 26, pos := "law.go:94", after := #[{ on := 6, ground := Ground.guard }], guard := some (6, true) }) rfl (by kernel_rfl) (by kernel_rfl) (by kernel_rfl) (fun _ _ _ h => h)
            (yieldsIf_load_mid (by rfl) 26 (.tmp 2) rfl w.heap.size (0) rfl cs _ (fun _ h => rangeAt_has h.1) hu26 rfl hL5.out) hHeld ?_
          try simp only [Act.put, List.setIfInBounds_toArray, List.set_cons_zero, List.set_cons_succ]
          refine wpAnyH_take (i := 13) (oi := { dst := some 52, op := Op.load 26 (Operand.tmp 3), type := 26, pos := "law.go:94", after := #[{ on := 6, ground := Ground.guard }], guard := some (6, true) }) rfl (by kernel_rfl) (by kernel_rfl) (by kernel_rfl) (fun _ _ _ h => h)
            (yieldsIf_load_mid (by rfl) 26 (.tmp 3) rfl (w.heap.size + 1) (0) rfl ds _ (fun _ h => rangeAt_has h.2.1) hu26 rfl hL5'.out) hHeld ?_
          try simp only [Act.put, List.setIfInBounds_toArray, List.set_cons_zero, List.set_cons_succ]
          refine wpAnyH_ready (rs := [14]) (by kernel_rfl) (by simp) ?_
          refine AllReadyH.cons (o := { dst := some 53, op := Op.call { callee := Callee.value (Operand.func 9), args := #[Operand.tmp 51, Operand.tmp 52], argTypes := #[26, 26] }, type := 4, pos := "law.go:94", after := #[{ on := 12, ground := Ground.data }, { on := 13, ground := Ground.data }, { on := 6, ground := Ground.chain }, { on := 6, ground := Ground.guard }], guard := some (6, true) }) rfl (fun K hK => ?_) AllReadyH.nil
          go_simp
          refine (rsame_any n cs t n' ds t' w8.drew (IsT.later (B8.out.drew) _ _ _ HT.out) (IsT.later (B8.out.drew) _ _ _ HT'.out)).mono ?_
          rintro e w9 ⟨⟨r, rfl, hr⟩, b9⟩
          obtain rfl : r = decide (sp = sq) := by rw [Bool.eq_iff_iff, hr, decide_eq_true_iff, hst.out]
          go_wp2_with fail
          have b9' : Below w8.heap.size w8 w9 := ⟨b9.os.trans rfl, b9.tape.trans rfl, b9.output, b9.size, b9.block⟩
          refine hK.out _ _ ⟨H8.out.below b9' H8.out.lt, J8.out.below b9' J8.out.lt, HBP2.out.later b9', HBQ.out.later b9'⟩ (fun hHeld2 => ?_)
          have BE := Lib.hid (B8.out.trans (b9'.mono B8.out.size))
          clear hK K hHeld b9 b9' hr
          try simp only [Act.put, List.setIfInBounds_toArray, List.set_cons_zero, List.set_cons_succ]
          refine wpAnyH_take (i := 15) (oi := { dst := some 54, op := Op.binOp BinOp.eql 4 (Operand.tmp 50) (Operand.tmp 53) 4, type := 4, pos := "law.go:94", after := #[{ on := 11, ground := Ground.data }, { on := 14, ground := Ground.data }, { on := 6, ground := Ground.guard }], guard := some (6, true) }) (v := .bool true) rfl (by kernel_rfl) (by kernel_rfl) (by kernel_rfl) (fun _ _ _ h => h)
            (Or.inl ⟨by rfl, by intro w hSw;  clear hSw; go_simp⟩) hHeld2 ?_
          try simp only [Act.put, List.setIfInBounds_toArray, List.set_cons_zero, List.set_cons_succ]
          refine wpAnyH_take (i := 16) (oi := { dst := some 55, op := Op.pick (Operand.tmp 45) (Operand.tmp 54) (Operand.const (Value.bool false)), type := 4, pos := "law.go:94", after := #[{ on := 6, ground := Ground.data }, { on := 15, ground := Ground.data }], guard := none }) (v := .bool true) rfl (by kernel_rfl) (by kernel_rfl) (by kernel_rfl) (fun _ _ _ h => h)
            (Or.inl ⟨by rfl, by intro w hSw;  clear hSw; go_simp⟩) hHeld2 ?_
          try simp only [Act.put, List.setIfInBounds_toArray, List.set_cons_zero, List.set_cons_succ]
          refine wpAnyH_take (i := 17) (oi := { dst := some 56, op := Op.move (Operand.tmp 55), type := 4, pos := "law.go:94", after := #[{ on := 16, ground := Ground.data }, { on := 14, ground := Ground.chain }], guard := none }) (v := .bool true) rfl (by kernel_rfl) (by kernel_rfl) (by kernel_rfl) (fun _ _ _ h => h)
            (Or.inl ⟨by rfl, by intro w hSw;  clear hSw; go_simp⟩) hHeld2 ?_
          try simp only [Act.put, List.setIfInBounds_toArray, List.set_cons_zero, List.set_cons_succ]
          refine wpAnyH_take (i := 18) (oi := { dst := some 57, op := Op.move (Operand.tmp 5), type := 22, pos := "law.go:94", after := #[{ on := 17, ground := Ground.guard }], guard := some (17, true) }) (v := .slice (some ⟨gp, 0, none⟩) lp capp) rfl (by kernel_rfl) (by kernel_rfl) (by kernel_rfl) (fun _ _ _ h => h)
            (Or.inl ⟨by rfl, by intro w hSw;  clear hSw; go_simp⟩) hHeld2 ?_
          try simp only [Act.put, List.setIfInBounds_toArray, List.set_cons_zero, List.set_cons_succ]
          refine wpAnyH_take (i := 19) (oi := { dst := some 58, op := Op.call { callee := Callee.builtin Builtin.len, args := #[Operand.tmp 57], argTypes := #[22] }, type := 3, pos := "law.go:94", after := #[{ on := 18, ground := Ground.data }, { on := 17, ground := Ground.guard }], guard := some (17, true) }) (v := .int .i64 (lp : Int)) rfl (by kernel_rfl) (by kernel_rfl) (by kernel_rfl) (fun _ _ _ h => h)
            (Or.inl ⟨by rfl, by intro w hSw;  clear hSw; go_simp⟩) hHeld2 ?_
          try simp only [Act.put, List.setIfInBounds_toArray, List.set_cons_zero, List.set_cons_succ]
          refine wpAnyH_take (i := 20) (oi := { dst := some 59, op := Op.binOp BinOp.rem 3 (Operand.tmp 58) (Operand.const (Value.int IntKind.i64 8)) 3, type := 3, pos := "law.go:94", after := #[{ on := 19, ground := Ground.data }, { on := 17, ground := Ground.guard }], guard := some (17, true) }) (v := .int .i64 0) rfl (by kernel_rfl) (by kernel_rfl) (by kernel_rfl) (fun _ _ _ h => h)
            (Or.inl ⟨by rfl, by intro w hSw;  clear hSw; go_simp; exact HT8.out⟩) hHeld2 ?_
          try simp only [Act.put, List.setIfInBounds_toArray, List.set_cons_zero, List.set_cons_succ]
          refine wpAnyH_take (i := 21) (oi := { dst := some 60, op := Op.binOp BinOp.eql 3 (Operand.tmp 59) (Operand.const (Value.int IntKind.i64 0)) 3, type := 4, pos := "law.go:94", after := #[{ on := 20, ground := Ground.data }, { on := 17, ground := Ground.guard }], guard := some (17, true) }) (v := .bool true) rfl (by kernel_rfl) (by kernel_rfl) (by kernel_rfl) (fun _ _ _ h => h)
            (Or.inl ⟨by rfl, by intro w hSw;  clear hSw; go_simp⟩) hHeld2 ?_
          try simp only [Act.put, List.setIfInBounds_toArray, List.set_cons_zero, List.set_cons_succ]
          refine wpAnyH_take (i := 22) (oi := { dst := some 61, op := Op.pick (Operand.tmp 56) (Operand.tmp 60) (Operand.const (Value.bool false)), type := 4, pos := "law.go:94", after := #[{ on := 17, ground := Ground.data }, { on := 21, ground := Ground.data }], guard := none }) (v := .bool true) rfl (by kernel_rfl) (by kernel_rfl) (by kernel_rfl) (fun _ _ _ h => h)
            (Or.inl ⟨by rfl, by intro w hSw;  clear hSw; go_simp⟩) hHeld2 ?_
          try simp only [Act.put, List.setIfInBounds_toArray, List.set_cons_zero, List.set_cons_succ]
          refine wpAnyH_take (i := 23) (oi := { dst := some 4, op := Op.assign (Operand.tmp 61), type := 4, pos := "law.go:94", after := #[{ on := 22, ground := Ground.data }, { on := 17, ground := Ground.chain }, { on := 0, ground := Ground.phase }, { on := 1, ground := Ground.phase }, { on := 2, ground := Ground.phase }, { on := 3, ground := Ground.phase }, { on := 4, ground := Ground.phase }, { on := 5, ground := Ground.phase }, { on := 6, ground := Ground.phase }, { on := 7, ground := Ground.phase }, { on := 8, ground := Ground.phase }, { on := 9, ground := Ground.phase }, { on := 10, ground := Ground.phase }, { on := 11, ground := Ground.phase }, { on := 12, ground := Ground.phase }, { on := 13, ground := Ground.phase }, { on := 14, ground := Ground.phase }, { on := 15, ground := Ground.phase }, { on := 16, ground := Ground.phase }, { on := 17, ground := Ground.phase }, { on := 18, ground := Ground.phase }, { on := 19, ground := Ground.phase }, { on := 20, ground := Ground.phase }, { on := 21, ground := Ground.phase }, { on := 22, ground := Ground.phase }], guard := none }) (v := .bool true) rfl (by kernel_rfl) (by kernel_rfl) (by kernel_rfl) (fun _ _ _ h => h)
            (Or.inl ⟨by rfl, by intro w hSw;  clear hSw; go_simp⟩) hHeld2 ?_
          try simp only [Act.put, List.setIfInBounds_toArray, List.set_cons_zero, List.set_cons_succ]
          refine wpAnyH_done (by kernel_rfl) ?_ _
          clear hHeld2 hu26
          go_wp2_with fail
          go_ret
          exact ⟨rfl, BE.out⟩
    · skip
      go_wp2_with fail
      refine (awake_any w3).mono ?_
      rintro e w4 ⟨rfl, b4⟩
      have BE := Lib.hid (B3.out.trans (b4.mono B3.out.size))
      clear b4
      go_wp2_with fail
      go_ret
      exact ⟨rfl, BE.out⟩
  · skip
    go_wp2_with fail
    refine (awake_any w2).mono ?_
    rintro e w3 ⟨rfl, b3⟩
    have BE := Lib.hid (B2.out.trans (b3.mono B2.out.size))
    clear b3
    go_wp2_with fail
    go_ret
    exact ⟨rfl, BE.out⟩

end Go.Proofs.Ytmogjonlppjmjaa

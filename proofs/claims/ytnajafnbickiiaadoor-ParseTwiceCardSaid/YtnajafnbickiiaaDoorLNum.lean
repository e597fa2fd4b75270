/-
  The contract of the lexer's number. Conditions: the listed variables lie as the text lays them; bounds on the numbers.
-/
import Derived.Test.YtnajafnbickiiaaDoorLName
import Derived.Test.YtnajafnbickiiaaDoorLNumM
import Derived.Lib.AtoiErrMem
namespace Go.Proofs.YtnajafnbickiiaaDoor
open Go.RowKit
set_option linter.unusedVariables false

theorem Lx.later {B lb a : Nat} {w0 w w' : World} {s : ByteArray} {ts : List Tk} {q : Bool} {p : List Nat} (h : Lx B lb w0 s a ts q p w) (hb : Below w.heap.size w w') : Lx B lb w0 s a ts q p w' := by
  obtain ⟨vl, vp, h1, h2, h3, h4, h5⟩ := h
  have hg : ∀ row, w.grownBy w' row := fun row => ⟨hb.os, hb.tape, hb.output, hb.size, fun k hk _ => hb.block k hk⟩
  refine ⟨vl, vp, h1.below hb h1.lt, ?_, ?_, h4.trans (hb.mono (Nat.le_trans h5 (Nat.le_of_lt h1.lt))), h5⟩
  · exact h2.kept (row := none) (hg none) (by cases hv : vl.ownBlock <;> simp)
  · exact h3.kept (row := none) (hg none) (by cases hv : vp.ownBlock <;> simp)

theorem parse_ok (sb : ByteArray) (T : List UInt8) (hT : sb.data.toList = T) (h0 : T ≠ []) (hd : ∀ c ∈ T, digL c = true) (hs : sb.size ≤ 8000) (hv : ¬ 9223372036854775807 < decV T) (w : World) :
    Calls Tryd.prog 39 #[.string sb, .int .i64 10, .int .i64 64] w fun e w' => e = .returned (.tuple #[.int .i64 (decV T : Int), .nilIface]) ∧ Below w.heap.size w w' := by
  refine (Tryd.strconv_ParseInt_10_at64_ok sb (by omega) (decV T : Int) (by rw [hT, parse_dig h0 hd, if_neg hv]) w).mono ?_
  rintro e w' ⟨he, hw⟩
  refine ⟨he, ?_⟩
  rcases hw with rfl | ⟨t, rfl⟩
  · exact Below.refl _ _
  · exact Lib.bytesWorld_below _ _ _
theorem parse_bad (sb : ByteArray) (T : List UInt8) (hT : sb.data.toList = T) (h0 : T ≠ []) (hd : ∀ c ∈ T, digL c = true) (hs : sb.size ≤ 8000) (hv : 9223372036854775807 < decV T) (w : World) (hl : LaidL w) :
    Calls Tryd.prog 39 #[.string sb, .int .i64 10, .int .i64 64] w fun e w' => (∃ N, e = .returned (.tuple #[.int .i64 9223372036854775807, .iface 86 (.pointer (some ⟨N, 0, none⟩))])) ∧ Below w.heap.size w w' := by
  obtain ⟨ev, hc, hev⟩ := hl.range
  have hsat : Lib.intSat 64 sb.data.toList = 9223372036854775807 := by
    rw [hT]
    match T, h0, hd with
    | c :: r, _, hd =>
      have := dig_iff (hd c (by simp))
      unfold Lib.intSat
      rw [if_neg (by simp; omega)]; rfl
  refine (Tryd.strconv_ParseInt_10_at64_range sb (by omega) (by rw [hT, parse_dig h0 hd, if_pos hv]) ev w hc hev).mono ?_
  rintro e w' ⟨N, he, _, _, hb⟩
  rw [hsat] at he
  exact ⟨⟨N, he⟩, hb⟩

theorem LaidL.same {w w' : World} (h : LaidL w) (hh : w'.heap = w.heap) : LaidL w' := by
  obtain ⟨⟨t1, f1, h1⟩, ⟨t2, f2, h2⟩, ⟨ev, h3, h4⟩, h5⟩ := h
  exact ⟨⟨t1, f1, by rw [hh]; exact h1⟩, ⟨t2, f2, by rw [hh]; exact h2⟩, ⟨ev, (by show w'.cell? _ = _; unfold World.cell? at h3 ⊢; rw [hh]; exact h3), h4⟩, by rw [hh]; exact h5⟩

set_option maxRecDepth 100000 in
set_option maxHeartbeats 8000000 in
theorem number_any (B lb : Nat) (w0 : World) (s : ByteArray) (a : Nat) (ts : List Tk) (p : List Nat) (w : World) (hx : Lx B lb w0 s a ts false p w) (ha : a < s.size) (hs : s.size ≤ 8000) (hts : ts.length ≤ 8000) (hl : LaidL w) (n : Nat) (hn : lenOf digL (s.data.toList.drop a) = n) (hn0 : 1 ≤ n)
    (hst : stepL (s.data.toList.drop a) a false p = if badNum (((s.data.toList.drop a)).drop n) then .error (a + n, 4)
      else if 9223372036854775807 < decV (((s.data.toList.drop a)).take n) then .error (a, 13)
      else .ok ([⟨3, (s.data.toList.drop a).take n, a⟩], n, false, p)) :
    Calls Tryd.prog 21 #[.pointer (some ⟨lb, 0, none⟩)] w (NxPost B lb w0 s a ts false p) := by
  have hnl : a + n ≤ s.size := by
    have h1 := lenOf_le digL (s.data.toList.drop a)
    rw [hn, List.length_drop] at h1
    have h2 : s.data.toList.length = s.size := by simp
    omega
  obtain ⟨T, hT⟩ : ∃ T, T = (s.data.toList.drop a).take n := ⟨_, rfl⟩
  have hTd : ∀ c ∈ T, digL c = true := by rw [hT, ← hn]; exact take_dig _
  have hT0 : T ≠ [] := fun e => by
    have := congrArg List.length (hT.symm.trans e)
    rw [List.length_take, List.length_drop] at this
    have h2 : s.data.toList.length = s.size := by simp
    simp at this; omega
  have HX := Lib.hid hx
  obtain ⟨vl, vp, h1, h2, h3, h4, h5⟩ := hx
  have H1 := Lib.hid h1
  have hai : (a : Int) ≤ (s.size : Int) := by omega
  have hni : (a : Int) + (n : Int) ≤ (s.size : Int) := by omega
  have hni2 : (a : Int) ≤ (a : Int) + (n : Int) := by omega
  have hni3 : (0 : Int) ≤ (a : Int) + (n : Int) := by omega
  have hni4 : ((a : Int) + (n : Int)).toNat = a + n := by omega
  have HW19 : Hid (IntKind.i64.wrap ((a : Int) + (n : Int)) = (a : Int) + (n : Int)) := Lib.hid (by simp [IntKind.wrap, IntKind.bits, IntKind.signed]; omega)
  have HT20 := Lib.hid hni4
  have HEX : Hid ((s.extract a s.size).data.toList = s.data.toList.drop a) := Lib.hid (ext_list s a (by omega))
  have HLEN := Lib.hid (len_dig (s.extract a s.size) _ HEX n (Lib.hid hn) (by rw [ByteArray.size_extract]; omega))
  have HEN : Hid ((s.extract a (a + n)).data.toList = T) := Lib.hid (by rw [ext_eq s a n hnl, hT])
  have HESZ : Hid ((s.extract a (a + n)).size ≤ 8000) := Lib.hid (by rw [ByteArray.size_extract]; omega)
  obtain ⟨bh, hbh⟩ : ∃ bh, bh = s.extract (a + n) s.size := ⟨_, rfl⟩
  have HBL : Hid (bh.data.toList = (s.data.toList.drop a).drop n) := Lib.hid (by rw [hbh, ext_list s (a + n) hnl, List.drop_drop])
  have HBH := Lib.hid hbh
  have HST := Lib.hid hst
  have HT := Lib.hid hT
  have HL := Lib.hid hl
  have HTD := Lib.hid hTd
  have HT0 := Lib.hid hT0
  have c0 := h1.cellAt (i := 0) rfl
  have c1 := h1.cellAt (i := 1) rfl
  have f1 := h1.frozen 1
  clear h1 h2 h3 h4 h5 hl hT hn hst hTd hT0 hbh
  have HB0 : bh.data.toList = [] ∨ ∃ d t, bh.data.toList = d :: t := by cases h : bh.data.toList with | nil => exact .inl rfl | cons d t => exact .inr ⟨d, t, rfl⟩
  rcases HB0 with hb0 | ⟨d, t, hb0⟩
  · have HBAD : Hid (badNum ((s.data.toList.drop a).drop n) = false) := Lib.hid (by rw [← HBL.out, hb0]; rfl)
    have hem : bh.toList.isEmpty = true := by rw [ByteArray.toList_eq, hb0]; rfl
    clear hb0
    go_enter Tryd.func21, Tryd.ntmps21
    go_wp2_with fail
    go_quiet ((go_at_call 37; exact Calls.quiet_of_same (HLEN.out _)))
    revert nq
    intro n1
    go_wp2_with fail
    go_quiet (fail)
    rw [← HBH.out]
    clear c0 c1
    obtain ⟨wd, hwd⟩ : ∃ wd, wd = (w.drewN n1).drewN nq := ⟨_, rfl⟩
    have HXD0 : Hid (Lx B lb w0 s a ts false p wd) := Lib.hid (by rw [hwd]; exact (HX.out.drewN _).drewN _)
    have H1D0 : Hid (Has wd lb [.string s, .int .i64 (a : Int), vl, .bool false, vp] 41) := Lib.hid (by rw [hwd]; exact has_drewN (has_drewN H1.out _) _)
    have HLD : Hid (LaidL wd.drew) := Lib.hid (by rw [hwd]; exact HL.out.same (by show ((w.drewN n1).drewN nq).heap = w.heap; rw [has_drewN_heap, has_drewN_heap]))
    have f1d := H1D0.out.frozen 1
    have c1d := H1D0.out.cellAt (i := 1) rfl
    rw [← hwd]
    clear hwd f1
    by_cases hv : 9223372036854775807 < decV T
    · have HPB := Lib.hid (parse_bad _ T HEN.out HT0.out HTD.out HESZ.out hv wd.drew HLD.out)
      have HERR : Hid (stepL (s.data.toList.drop a) a false p = .error (a, 13)) := Lib.hid (by rw [HST.out, HBAD.out, if_neg (by simp), ← HT.out, if_pos hv])
      clear hv
      clear c1d f1d
      go_upto_region 6 with fail
      have H1D := Lib.hid H1D0.out.drew
      have HXD := Lib.hid HXD0.out.drew
      refine wp_region_held_drew (S := fun W => Has W lb [.string s, .int .i64 (a : Int), vl, .bool false, vp] 41) (by kernel_rfl) H1D.out (fun hHeld => ?_)
      refine wpAnyH_take (i := 0) (oi := { dst := some 44, op := Op.move (Operand.tmp 0), type := 52, pos := "lex.go:118", after := #[], guard := none }) (v := .pointer (some ⟨lb, 0, none⟩)) rfl (by kernel_rfl) (by kernel_rfl) (by kernel_rfl) (fun _ _ _ h => h)
        (Or.inl ⟨by rfl, by intro w hSw; clear hSw; go_simp⟩) hHeld ?_
      try simp only [Act.put, List.setIfInBounds_toArray, List.set_cons_zero, List.set_cons_succ]
      refine wpAnyH_take (i := 1) (oi := { dst := some 45, op := Op.nilCheck (Operand.tmp 44), type := 0, pos := "lex.go:118", after := #[{ on := 0, ground := Ground.data }], guard := none }) (v := .pointer (some ⟨lb, 0, none⟩)) rfl (by kernel_rfl) (by kernel_rfl) (by kernel_rfl) (fun _ _ _ h => h)
        (Or.inl ⟨by rfl, by intro w hSw; clear hSw; go_simp⟩) hHeld ?_
      try simp only [Act.put, List.setIfInBounds_toArray, List.set_cons_zero, List.set_cons_succ]
      refine wpAnyH_take (i := 2) (oi := { dst := some 46, op := Op.fieldAddr 41 (Operand.tmp 45) 0, type := 0, pos := "lex.go:118", after := #[{ on := 1, ground := Ground.data }], guard := none }) (v := .pointer (some ⟨lb, 0, none⟩)) rfl (by kernel_rfl) (by kernel_rfl) (by kernel_rfl) (fun _ _ _ h => h)
        (Or.inl ⟨by rfl, by intro w hSw; clear hSw; go_simp⟩) hHeld ?_
      try simp only [Act.put, List.setIfInBounds_toArray, List.set_cons_zero, List.set_cons_succ]
      refine wpAnyH_take (i := 3) (oi := { dst := some 47, op := Op.load 9 (Operand.tmp 46), type := 9, pos := "lex.go:118", after := #[{ on := 2, ground := Ground.data }], guard := none }) (v := .string s) rfl (by kernel_rfl) (by kernel_rfl) (by kernel_rfl) (fun _ _ _ h => h)
        (Or.inl ⟨by rfl, by intro w hSw; have hcl := hSw.cellAt (i := 0) rfl; clear hSw; go_simp⟩) hHeld ?_
      try simp only [Act.put, List.setIfInBounds_toArray, List.set_cons_zero, List.set_cons_succ]
      refine wpAnyH_take (i := 4) (oi := { dst := some 48, op := Op.move (Operand.tmp 0), type := 52, pos := "lex.go:118", after := #[], guard := none }) (v := .pointer (some ⟨lb, 0, none⟩)) rfl (by kernel_rfl) (by kernel_rfl) (by kernel_rfl) (fun _ _ _ h => h)
        (Or.inl ⟨by rfl, by intro w hSw; clear hSw; go_simp⟩) hHeld ?_
      try simp only [Act.put, List.setIfInBounds_toArray, List.set_cons_zero, List.set_cons_succ]
      refine wpAnyH_take (i := 5) (oi := { dst := some 49, op := Op.nilCheck (Operand.tmp 48), type := 0, pos := "lex.go:118", after := #[{ on := 4, ground := Ground.data }], guard := none }) (v := .pointer (some ⟨lb, 0, none⟩)) rfl (by kernel_rfl) (by kernel_rfl) (by kernel_rfl) (fun _ _ _ h => h)
        (Or.inl ⟨by rfl, by intro w hSw; clear hSw; go_simp⟩) hHeld ?_
      try simp only [Act.put, List.setIfInBounds_toArray, List.set_cons_zero, List.set_cons_succ]
      refine wpAnyH_take (i := 6) (oi := { dst := some 50, op := Op.fieldAddr 41 (Operand.tmp 49) 1, type := 0, pos := "lex.go:118", after := #[{ on := 5, ground := Ground.data }], guard := none }) (v := .pointer (some ⟨lb, 1, none⟩)) rfl (by kernel_rfl) (by kernel_rfl) (by kernel_rfl) (fun _ _ _ h => h)
        (Or.inl ⟨by rfl, by intro w hSw; clear hSw; go_simp⟩) hHeld ?_
      try simp only [Act.put, List.setIfInBounds_toArray, List.set_cons_zero, List.set_cons_succ]
      refine wpAnyH_take (i := 7) (oi := { dst := some 51, op := Op.load 3 (Operand.tmp 50), type := 3, pos := "lex.go:118", after := #[{ on := 6, ground := Ground.data }], guard := none }) (v := .int .i64 (a : Int)) rfl (by kernel_rfl) (by kernel_rfl) (by kernel_rfl) (fun _ _ _ h => h)
        (Or.inl ⟨by rfl, by intro w hSw; have hcl := hSw.cellAt (i := 1) rfl; clear hSw; go_simp⟩) hHeld ?_
      try simp only [Act.put, List.setIfInBounds_toArray, List.set_cons_zero, List.set_cons_succ]
      refine wpAnyH_take (i := 8) (oi := { dst := some 52, op := Op.move (Operand.tmp 0), type := 52, pos := "lex.go:118", after := #[], guard := none }) (v := .pointer (some ⟨lb, 0, none⟩)) rfl (by kernel_rfl) (by kernel_rfl) (by kernel_rfl) (fun _ _ _ h => h)
        (Or.inl ⟨by rfl, by intro w hSw; clear hSw; go_simp⟩) hHeld ?_
      try simp only [Act.put, List.setIfInBounds_toArray, List.set_cons_zero, List.set_cons_succ]
      refine wpAnyH_take (i := 9) (oi := { dst := some 53, op := Op.nilCheck (Operand.tmp 52), type := 0, pos := "lex.go:118", after := #[{ on := 8, ground := Ground.data }], guard := none }) (v := .pointer (some ⟨lb, 0, none⟩)) rfl (by kernel_rfl) (by kernel_rfl) (by kernel_rfl) (fun _ _ _ h => h)
        (Or.inl ⟨by rfl, by intro w hSw; clear hSw; go_simp⟩) hHeld ?_
      try simp only [Act.put, List.setIfInBounds_toArray, List.set_cons_zero, List.set_cons_succ]
      refine wpAnyH_take (i := 10) (oi := { dst := some 54, op := Op.fieldAddr 41 (Operand.tmp 53) 1, type := 0, pos := "lex.go:118", after := #[{ on := 9, ground := Ground.data }], guard := none }) (v := .pointer (some ⟨lb, 1, none⟩)) rfl (by kernel_rfl) (by kernel_rfl) (by kernel_rfl) (fun _ _ _ h => h)
        (Or.inl ⟨by rfl, by intro w hSw; clear hSw; go_simp⟩) hHeld ?_
      try simp only [Act.put, List.setIfInBounds_toArray, List.set_cons_zero, List.set_cons_succ]
      refine wpAnyH_take (i := 11) (oi := { dst := some 55, op := Op.load 3 (Operand.tmp 54), type := 3, pos := "lex.go:118", after := #[{ on := 10, ground := Ground.data }], guard := none }) (v := .int .i64 (a : Int)) rfl (by kernel_rfl) (by kernel_rfl) (by kernel_rfl) (fun _ _ _ h => h)
        (Or.inl ⟨by rfl, by intro w hSw; have hcl := hSw.cellAt (i := 1) rfl; clear hSw; go_simp⟩) hHeld ?_
      try simp only [Act.put, List.setIfInBounds_toArray, List.set_cons_zero, List.set_cons_succ]
      refine wpAnyH_take (i := 12) (oi := { dst := some 56, op := Op.move (Operand.tmp 3), type := 3, pos := "lex.go:118", after := #[], guard := none }) (v := .int .i64 (n : Int)) rfl (by kernel_rfl) (by kernel_rfl) (by kernel_rfl) (fun _ _ _ h => h)
        (Or.inl ⟨by rfl, by intro w hSw; clear hSw; go_simp⟩) hHeld ?_
      try simp only [Act.put, List.setIfInBounds_toArray, List.set_cons_zero, List.set_cons_succ]
      refine wpAnyH_take (i := 13) (oi := { dst := some 57, op := Op.binOp BinOp.add 3 (Operand.tmp 55) (Operand.tmp 56) 3, type := 3, pos := "lex.go:118", after := #[{ on := 11, ground := Ground.data }, { on := 12, ground := Ground.data }], guard := none }) (v := .int .i64 ((a : Int) + (n : Int))) rfl (by kernel_rfl) (by kernel_rfl) (by kernel_rfl) (fun _ _ _ h => h)
        (Or.inl ⟨by rfl, by intro w hSw; clear hSw; go_simp <;> exact HW19.out⟩) hHeld ?_
      try simp only [Act.put, List.setIfInBounds_toArray, List.set_cons_zero, List.set_cons_succ]
      refine wpAnyH_take (i := 14) (oi := { dst := some 58, op := Op.slice 9 (Operand.tmp 47) (some (Operand.tmp 51)) (some (Operand.tmp 57)) none, type := 9, pos := "lex.go:118", after := #[{ on := 3, ground := Ground.data }, { on := 7, ground := Ground.data }, { on := 13, ground := Ground.data }], guard := none }) (v := .string (s.extract a (a + n))) rfl (by kernel_rfl) (by kernel_rfl) (by kernel_rfl) (fun _ _ _ h => h)
        (Or.inl ⟨by rfl, by intro w hSw; clear hSw; go_simp <;> rw [HT20.out]⟩) hHeld ?_
      try simp only [Act.put, List.setIfInBounds_toArray, List.set_cons_zero, List.set_cons_succ]
      refine wpAnyH_ready (rs := [15]) (by kernel_rfl) (by simp) ?_
      refine AllReadyH.cons (o := { dst := some 59, op := Op.call { callee := Callee.value (Operand.func 39), args := #[Operand.tmp 58, Operand.const (Value.int IntKind.i64 10), Operand.const (Value.int IntKind.i64 64)], argTypes := #[9, 3, 3] }, type := 65, pos := "lex.go:118", after := #[{ on := 14, ground := Ground.data }], guard := none }) rfl (fun K hK => ?_) AllReadyH.nil
      go_simp
      refine (HPB.out).mono ?_
      rintro e w4 ⟨⟨N, rfl⟩, hb4⟩
      have H14 : Hid (Has w4 lb [.string s, .int .i64 (a : Int), vl, .bool false, vp] 41) := Lib.hid (H1D.out.below hb4 H1D.out.lt)
      have HX4 : Hid (Lx B lb w0 s a ts false p w4) := Lib.hid (HXD.out.later hb4)
      clear hb4
      try go_simp
      refine hK.out _ _ H14.out (fun hHeld1 => ?_)
      clear hK K hHeld
      try simp only [Act.put, List.setIfInBounds_toArray, List.set_cons_zero, List.set_cons_succ]
      refine wpAnyH_take (i := 16) (oi := { dst := some 43, op := Op.move (Operand.tmp 59), type := 65, pos := "lex.go:118", after := #[{ on := 15, ground := Ground.data }], guard := none }) (v := .tuple #[.int .i64 9223372036854775807, .iface 86 (.pointer (some ⟨N, 0, none⟩))]) rfl (by kernel_rfl) (by kernel_rfl) (by kernel_rfl) (fun _ _ _ h => h)
        (Or.inl ⟨by rfl, by intro w hSw; clear hSw; go_simp⟩) hHeld1 ?_
      try simp only [Act.put, List.setIfInBounds_toArray, List.set_cons_zero, List.set_cons_succ]
      refine wpAnyH_take (i := 17) (oi := { dst := some 60, op := Op.extract (Operand.tmp 43) 0, type := 2, pos := "lex.go:118", after := #[{ on := 16, ground := Ground.data }], guard := none }) (v := .int .i64 9223372036854775807) rfl (by kernel_rfl) (by kernel_rfl) (by kernel_rfl) (fun _ _ _ h => h)
        (Or.inl ⟨by rfl, by intro w hSw; clear hSw; go_simp⟩) hHeld1 ?_
      try simp only [Act.put, List.setIfInBounds_toArray, List.set_cons_zero, List.set_cons_succ]
      refine wpAnyH_take (i := 18) (oi := { dst := some 61, op := Op.extract (Operand.tmp 43) 1, type := 64, pos := "lex.go:118", after := #[{ on := 16, ground := Ground.data }, { on := 19, ground := Ground.gcOnly Departure.lateStores }], guard := none }) (v := .iface 86 (.pointer (some ⟨N, 0, none⟩))) rfl (by kernel_rfl) (by kernel_rfl) (by kernel_rfl) (fun _ _ _ h => h)
        (Or.inl ⟨by rfl, by intro w hSw; clear hSw; go_simp⟩) hHeld1 ?_
      try simp only [Act.put, List.setIfInBounds_toArray, List.set_cons_zero, List.set_cons_succ]
      refine wpAnyH_take (i := 19) (oi := { dst := some 5, op := Op.assign (Operand.tmp 60), type := 2, pos := "lex.go:118", after := #[{ on := 17, ground := Ground.data }, { on := 15, ground := Ground.chain }, { on := 0, ground := Ground.phase }, { on := 1, ground := Ground.phase }, { on := 2, ground := Ground.phase }, { on := 3, ground := Ground.phase }, { on := 4, ground := Ground.phase }, { on := 5, ground := Ground.phase }, { on := 6, ground := Ground.phase }, { on := 7, ground := Ground.phase }, { on := 8, ground := Ground.phase }, { on := 9, ground := Ground.phase }, { on := 10, ground := Ground.phase }, { on := 11, ground := Ground.phase }, { on := 12, ground := Ground.phase }, { on := 13, ground := Ground.phase }, { on := 14, ground := Ground.phase }, { on := 15, ground := Ground.phase }, { on := 16, ground := Ground.phase }, { on := 17, ground := Ground.phase }, { on := 18, ground := Ground.textOnly Departure.lateStores }], guard := none }) (v := .int .i64 9223372036854775807) rfl (by kernel_rfl) (by kernel_rfl) (by kernel_rfl) (fun _ _ _ h => h)
        (Or.inl ⟨by rfl, by intro w hSw; clear hSw; go_simp⟩) hHeld1 ?_
      try simp only [Act.put, List.setIfInBounds_toArray, List.set_cons_zero, List.set_cons_succ]
      refine wpAnyH_take (i := 20) (oi := { dst := some 6, op := Op.assign (Operand.tmp 61), type := 64, pos := "lex.go:118", after := #[{ on := 18, ground := Ground.data }, { on := 19, ground := Ground.chain }, { on := 0, ground := Ground.phase }, { on := 1, ground := Ground.phase }, { on := 2, ground := Ground.phase }, { on := 3, ground := Ground.phase }, { on := 4, ground := Ground.phase }, { on := 5, ground := Ground.phase }, { on := 6, ground := Ground.phase }, { on := 7, ground := Ground.phase }, { on := 8, ground := Ground.phase }, { on := 9, ground := Ground.phase }, { on := 10, ground := Ground.phase }, { on := 11, ground := Ground.phase }, { on := 12, ground := Ground.phase }, { on := 13, ground := Ground.phase }, { on := 14, ground := Ground.phase }, { on := 15, ground := Ground.phase }, { on := 16, ground := Ground.phase }, { on := 17, ground := Ground.phase }, { on := 18, ground := Ground.phase }, { on := 19, ground := Ground.phase }], guard := none }) (v := .iface 86 (.pointer (some ⟨N, 0, none⟩))) rfl (by kernel_rfl) (by kernel_rfl) (by kernel_rfl) (fun _ _ _ h => h)
        (Or.inl ⟨by rfl, by intro w hSw; clear hSw; go_simp⟩) hHeld1 ?_
      try simp only [Act.put, List.setIfInBounds_toArray, List.set_cons_zero, List.set_cons_succ]
      refine wpAnyH_done (by kernel_rfl) ?_ _
      clear hHeld1
      go_wp2_with fail
      go_ret
      exact nx_error HERR.out rfl HX4.out
    · have HPK := Lib.hid (parse_ok _ T HEN.out HT0.out HTD.out HESZ.out hv wd.drew)
      have HOK : Hid (stepL (s.data.toList.drop a) a false p = .ok ([⟨3, T, a⟩], n, false, p)) := Lib.hid (by rw [HST.out, HBAD.out, if_neg (by simp), ← HT.out, if_neg hv])
      clear hv
      clear c1d f1d
      go_upto_region 6 with fail
      have H1D := Lib.hid H1D0.out.drew
      have HXD := Lib.hid HXD0.out.drew
      refine wp_region_held_drew (S := fun W => Has W lb [.string s, .int .i64 (a : Int), vl, .bool false, vp] 41) (by kernel_rfl) H1D.out (fun hHeld => ?_)
      refine wpAnyH_take (i := 0) (oi := { dst := some 44, op := Op.move (Operand.tmp 0), type := 52, pos := "lex.go:118", after := #[], guard := none }) (v := .pointer (some ⟨lb, 0, none⟩)) rfl (by kernel_rfl) (by kernel_rfl) (by kernel_rfl) (fun _ _ _ h => h)
        (Or.inl ⟨by rfl, by intro w hSw; clear hSw; go_simp⟩) hHeld ?_
      try simp only [Act.put, List.setIfInBounds_toArray, List.set_cons_zero, List.set_cons_succ]
      refine wpAnyH_take (i := 1) (oi := { dst := some 45, op := Op.nilCheck (Operand.tmp 44), type := 0, pos := "lex.go:118", after := #[{ on := 0, ground := Ground.data }], guard := none }) (v := .pointer (some ⟨lb, 0, none⟩)) rfl (by kernel_rfl) (by kernel_rfl) (by kernel_rfl) (fun _ _ _ h => h)
        (Or.inl ⟨by rfl, by intro w hSw; clear hSw; go_simp⟩) hHeld ?_
      try simp only [Act.put, List.setIfInBounds_toArray, List.set_cons_zero, List.set_cons_succ]
      refine wpAnyH_take (i := 2) (oi := { dst := some 46, op := Op.fieldAddr 41 (Operand.tmp 45) 0, type := 0, pos := "lex.go:118", after := #[{ on := 1, ground := Ground.data }], guard := none }) (v := .pointer (some ⟨lb, 0, none⟩)) rfl (by kernel_rfl) (by kernel_rfl) (by kernel_rfl) (fun _ _ _ h => h)
        (Or.inl ⟨by rfl, by intro w hSw; clear hSw; go_simp⟩) hHeld ?_
      try simp only [Act.put, List.setIfInBounds_toArray, List.set_cons_zero, List.set_cons_succ]
      refine wpAnyH_take (i := 3) (oi := { dst := some 47, op := Op.load 9 (Operand.tmp 46), type := 9, pos := "lex.go:118", after := #[{ on := 2, ground := Ground.data }], guard := none }) (v := .string s) rfl (by kernel_rfl) (by kernel_rfl) (by kernel_rfl) (fun _ _ _ h => h)
        (Or.inl ⟨by rfl, by intro w hSw; have hcl := hSw.cellAt (i := 0) rfl; clear hSw; go_simp⟩) hHeld ?_
      try simp only [Act.put, List.setIfInBounds_toArray, List.set_cons_zero, List.set_cons_succ]
      refine wpAnyH_take (i := 4) (oi := { dst := some 48, op := Op.move (Operand.tmp 0), type := 52, pos := "lex.go:118", after := #[], guard := none }) (v := .pointer (some ⟨lb, 0, none⟩)) rfl (by kernel_rfl) (by kernel_rfl) (by kernel_rfl) (fun _ _ _ h => h)
        (Or.inl ⟨by rfl, by intro w hSw; clear hSw; go_simp⟩) hHeld ?_
      try simp only [Act.put, List.setIfInBounds_toArray, List.set_cons_zero, List.set_cons_succ]
      refine wpAnyH_take (i := 5) (oi := { dst := some 49, op := Op.nilCheck (Operand.tmp 48), type := 0, pos := "lex.go:118", after := #[{ on := 4, ground := Ground.data }], guard := none }) (v := .pointer (some ⟨lb, 0, none⟩)) rfl (by kernel_rfl) (by kernel_rfl) (by kernel_rfl) (fun _ _ _ h => h)
        (Or.inl ⟨by rfl, by intro w hSw; clear hSw; go_simp⟩) hHeld ?_
      try simp only [Act.put, List.setIfInBounds_toArray, List.set_cons_zero, List.set_cons_succ]
      refine wpAnyH_take (i := 6) (oi := { dst := some 50, op := Op.fieldAddr 41 (Operand.tmp 49) 1, type := 0, pos := "lex.go:118", after := #[{ on := 5, ground := Ground.data }], guard := none }) (v := .pointer (some ⟨lb, 1, none⟩)) rfl (by kernel_rfl) (by kernel_rfl) (by kernel_rfl) (fun _ _ _ h => h)
        (Or.inl ⟨by rfl, by intro w hSw; clear hSw; go_simp⟩) hHeld ?_
      try simp only [Act.put, List.setIfInBounds_toArray, List.set_cons_zero, List.set_cons_succ]
      refine wpAnyH_take (i := 7) (oi := { dst := some 51, op := Op.load 3 (Operand.tmp 50), type := 3, pos := "lex.go:118", after := #[{ on := 6, ground := Ground.data }], guard := none }) (v := .int .i64 (a : Int)) rfl (by kernel_rfl) (by kernel_rfl) (by kernel_rfl) (fun _ _ _ h => h)
        (Or.inl ⟨by rfl, by intro w hSw; have hcl := hSw.cellAt (i := 1) rfl; clear hSw; go_simp⟩) hHeld ?_
      try simp only [Act.put, List.setIfInBounds_toArray, List.set_cons_zero, List.set_cons_succ]
      refine wpAnyH_take (i := 8) (oi := { dst := some 52, op := Op.move (Operand.tmp 0), type := 52, pos := "lex.go:118", after := #[], guard := none }) (v := .pointer (some ⟨lb, 0, none⟩)) rfl (by kernel_rfl) (by kernel_rfl) (by kernel_rfl) (fun _ _ _ h => h)
        (Or.inl ⟨by rfl, by intro w hSw; clear hSw; go_simp⟩) hHeld ?_
      try simp only [Act.put, List.setIfInBounds_toArray, List.set_cons_zero, List.set_cons_succ]
      refine wpAnyH_take (i := 9) (oi := { dst := some 53, op := Op.nilCheck (Operand.tmp 52), type := 0, pos := "lex.go:118", after := #[{ on := 8, ground := Ground.data }], guard := none }) (v := .pointer (some ⟨lb, 0, none⟩)) rfl (by kernel_rfl) (by kernel_rfl) (by kernel_rfl) (fun _ _ _ h => h)
        (Or.inl ⟨by rfl, by intro w hSw; clear hSw; go_simp⟩) hHeld ?_
      try simp only [Act.put, List.setIfInBounds_toArray, List.set_cons_zero, List.set_cons_succ]
      refine wpAnyH_take (i := 10) (oi := { dst := some 54, op := Op.fieldAddr 41 (Operand.tmp 53) 1, type := 0, pos := "lex.go:118", after := #[{ on := 9, ground := Ground.data }], guard := none }) (v := .pointer (some ⟨lb, 1, none⟩)) rfl (by kernel_rfl) (by kernel_rfl) (by kernel_rfl) (fun _ _ _ h => h)
        (Or.inl ⟨by rfl, by intro w hSw; clear hSw; go_simp⟩) hHeld ?_
      try simp only [Act.put, List.setIfInBounds_toArray, List.set_cons_zero, List.set_cons_succ]
      refine wpAnyH_take (i := 11) (oi := { dst := some 55, op := Op.load 3 (Operand.tmp 54), type := 3, pos := "lex.go:118", after := #[{ on := 10, ground := Ground.data }], guard := none }) (v := .int .i64 (a : Int)) rfl (by kernel_rfl) (by kernel_rfl) (by kernel_rfl) (fun _ _ _ h => h)
        (Or.inl ⟨by rfl, by intro w hSw; have hcl := hSw.cellAt (i := 1) rfl; clear hSw; go_simp⟩) hHeld ?_
      try simp only [Act.put, List.setIfInBounds_toArray, List.set_cons_zero, List.set_cons_succ]
      refine wpAnyH_take (i := 12) (oi := { dst := some 56, op := Op.move (Operand.tmp 3), type := 3, pos := "lex.go:118", after := #[], guard := none }) (v := .int .i64 (n : Int)) rfl (by kernel_rfl) (by kernel_rfl) (by kernel_rfl) (fun _ _ _ h => h)
        (Or.inl ⟨by rfl, by intro w hSw; clear hSw; go_simp⟩) hHeld ?_
      try simp only [Act.put, List.setIfInBounds_toArray, List.set_cons_zero, List.set_cons_succ]
      refine wpAnyH_take (i := 13) (oi := { dst := some 57, op := Op.binOp BinOp.add 3 (Operand.tmp 55) (Operand.tmp 56) 3, type := 3, pos := "lex.go:118", after := #[{ on := 11, ground := Ground.data }, { on := 12, ground := Ground.data }], guard := none }) (v := .int .i64 ((a : Int) + (n : Int))) rfl (by kernel_rfl) (by kernel_rfl) (by kernel_rfl) (fun _ _ _ h => h)
        (Or.inl ⟨by rfl, by intro w hSw; clear hSw; go_simp <;> exact HW19.out⟩) hHeld ?_
      try simp only [Act.put, List.setIfInBounds_toArray, List.set_cons_zero, List.set_cons_succ]
      refine wpAnyH_take (i := 14) (oi := { dst := some 58, op := Op.slice 9 (Operand.tmp 47) (some (Operand.tmp 51)) (some (Operand.tmp 57)) none, type := 9, pos := "lex.go:118", after := #[{ on := 3, ground := Ground.data }, { on := 7, ground := Ground.data }, { on := 13, ground := Ground.data }], guard := none }) (v := .string (s.extract a (a + n))) rfl (by kernel_rfl) (by kernel_rfl) (by kernel_rfl) (fun _ _ _ h => h)
        (Or.inl ⟨by rfl, by intro w hSw; clear hSw; go_simp <;> rw [HT20.out]⟩) hHeld ?_
      try simp only [Act.put, List.setIfInBounds_toArray, List.set_cons_zero, List.set_cons_succ]
      refine wpAnyH_ready (rs := [15]) (by kernel_rfl) (by simp) ?_
      refine AllReadyH.cons (o := { dst := some 59, op := Op.call { callee := Callee.value (Operand.func 39), args := #[Operand.tmp 58, Operand.const (Value.int IntKind.i64 10), Operand.const (Value.int IntKind.i64 64)], argTypes := #[9, 3, 3] }, type := 65, pos := "lex.go:118", after := #[{ on := 14, ground := Ground.data }], guard := none }) rfl (fun K hK => ?_) AllReadyH.nil
      go_simp
      refine (HPK.out).mono ?_
      rintro e w4 ⟨rfl, hb4⟩
      have H14 : Hid (Has w4 lb [.string s, .int .i64 (a : Int), vl, .bool false, vp] 41) := Lib.hid (H1D.out.below hb4 H1D.out.lt)
      have HX4 : Hid (Lx B lb w0 s a ts false p w4) := Lib.hid (HXD.out.later hb4)
      clear hb4
      try go_simp
      refine hK.out _ _ H14.out (fun hHeld1 => ?_)
      clear hK K hHeld
      try simp only [Act.put, List.setIfInBounds_toArray, List.set_cons_zero, List.set_cons_succ]
      refine wpAnyH_take (i := 16) (oi := { dst := some 43, op := Op.move (Operand.tmp 59), type := 65, pos := "lex.go:118", after := #[{ on := 15, ground := Ground.data }], guard := none }) (v := .tuple #[.int .i64 (decV T : Int), .nilIface]) rfl (by kernel_rfl) (by kernel_rfl) (by kernel_rfl) (fun _ _ _ h => h)
        (Or.inl ⟨by rfl, by intro w hSw; clear hSw; go_simp⟩) hHeld1 ?_
      try simp only [Act.put, List.setIfInBounds_toArray, List.set_cons_zero, List.set_cons_succ]
      refine wpAnyH_take (i := 17) (oi := { dst := some 60, op := Op.extract (Operand.tmp 43) 0, type := 2, pos := "lex.go:118", after := #[{ on := 16, ground := Ground.data }], guard := none }) (v := .int .i64 (decV T : Int)) rfl (by kernel_rfl) (by kernel_rfl) (by kernel_rfl) (fun _ _ _ h => h)
        (Or.inl ⟨by rfl, by intro w hSw; clear hSw; go_simp⟩) hHeld1 ?_
      try simp only [Act.put, List.setIfInBounds_toArray, List.set_cons_zero, List.set_cons_succ]
      refine wpAnyH_take (i := 18) (oi := { dst := some 61, op := Op.extract (Operand.tmp 43) 1, type := 64, pos := "lex.go:118", after := #[{ on := 16, ground := Ground.data }, { on := 19, ground := Ground.gcOnly Departure.lateStores }], guard := none }) (v := .nilIface) rfl (by kernel_rfl) (by kernel_rfl) (by kernel_rfl) (fun _ _ _ h => h)
        (Or.inl ⟨by rfl, by intro w hSw; clear hSw; go_simp⟩) hHeld1 ?_
      try simp only [Act.put, List.setIfInBounds_toArray, List.set_cons_zero, List.set_cons_succ]
      refine wpAnyH_take (i := 19) (oi := { dst := some 5, op := Op.assign (Operand.tmp 60), type := 2, pos := "lex.go:118", after := #[{ on := 17, ground := Ground.data }, { on := 15, ground := Ground.chain }, { on := 0, ground := Ground.phase }, { on := 1, ground := Ground.phase }, { on := 2, ground := Ground.phase }, { on := 3, ground := Ground.phase }, { on := 4, ground := Ground.phase }, { on := 5, ground := Ground.phase }, { on := 6, ground := Ground.phase }, { on := 7, ground := Ground.phase }, { on := 8, ground := Ground.phase }, { on := 9, ground := Ground.phase }, { on := 10, ground := Ground.phase }, { on := 11, ground := Ground.phase }, { on := 12, ground := Ground.phase }, { on := 13, ground := Ground.phase }, { on := 14, ground := Ground.phase }, { on := 15, ground := Ground.phase }, { on := 16, ground := Ground.phase }, { on := 17, ground := Ground.phase }, { on := 18, ground := Ground.textOnly Departure.lateStores }], guard := none }) (v := .int .i64 (decV T : Int)) rfl (by kernel_rfl) (by kernel_rfl) (by kernel_rfl) (fun _ _ _ h => h)
        (Or.inl ⟨by rfl, by intro w hSw; clear hSw; go_simp⟩) hHeld1 ?_
      try simp only [Act.put, List.setIfInBounds_toArray, List.set_cons_zero, List.set_cons_succ]
      refine wpAnyH_take (i := 20) (oi := { dst := some 6, op := Op.assign (Operand.tmp 61), type := 64, pos := "lex.go:118", after := #[{ on := 18, ground := Ground.data }, { on := 19, ground := Ground.chain }, { on := 0, ground := Ground.phase }, { on := 1, ground := Ground.phase }, { on := 2, ground := Ground.phase }, { on := 3, ground := Ground.phase }, { on := 4, ground := Ground.phase }, { on := 5, ground := Ground.phase }, { on := 6, ground := Ground.phase }, { on := 7, ground := Ground.phase }, { on := 8, ground := Ground.phase }, { on := 9, ground := Ground.phase }, { on := 10, ground := Ground.phase }, { on := 11, ground := Ground.phase }, { on := 12, ground := Ground.phase }, { on := 13, ground := Ground.phase }, { on := 14, ground := Ground.phase }, { on := 15, ground := Ground.phase }, { on := 16, ground := Ground.phase }, { on := 17, ground := Ground.phase }, { on := 18, ground := Ground.phase }, { on := 19, ground := Ground.phase }], guard := none }) (v := .nilIface) rfl (by kernel_rfl) (by kernel_rfl) (by kernel_rfl) (fun _ _ _ h => h)
        (Or.inl ⟨by rfl, by intro w hSw; clear hSw; go_simp⟩) hHeld1 ?_
      try simp only [Act.put, List.setIfInBounds_toArray, List.set_cons_zero, List.set_cons_succ]
      refine wpAnyH_done (by kernel_rfl) ?_ _
      clear hHeld1
      go_wp2_with fail
      have hadd := add_any B lb w0 s a ts _ _ w4 HX4.out 3 n hnl hs (by omega)
      rw [← HT.out] at hadd
      have HA := Lib.hid hadd
      clear hadd
      refine HA.out.mono ?_
      rintro e w6 ⟨rfl, hx6⟩
      have HX6 := Lib.hid hx6
      clear hx6
      go_wp2_with fail
      go_ret
      exact nx_ok HOK.out rfl HX6.out
  · have hem : bh.toList.isEmpty = false := by rw [ByteArray.toList_eq, hb0]; rfl
    have hbs : 0 < bh.size := by
      have := congrArg List.length hb0
      have h2 : bh.data.toList.length = bh.size := by simp
      rw [h2] at this; simp at this; omega
    have hget := str_get bh 0 hbs
    rw [hb0] at hget
    simp only [List.getD_eq_getElem?_getD, List.getElem?_cons_zero, Option.getD_some] at hget
    have hbi : (0 : Int) < (bh.size : Int) := by omega
    cases hd : bgnL d
    · have HBAD : Hid (badNum ((s.data.toList.drop a).drop n) = false) := Lib.hid (by rw [← HBL.out, hb0]; exact hd)
      have HD := Lib.hid hd
      clear hb0 hd
      go_enter Tryd.func21, Tryd.ntmps21
      go_wp2_with fail
      go_quiet ((go_at_call 37; exact Calls.quiet_of_same (HLEN.out _)))
      revert nq
      intro n1
      go_wp2_with fail
      go_quiet (fail)
      rw [← HBH.out]
      clear c0 c1
      obtain ⟨wd, hwd⟩ : ∃ wd, wd = (w.drewN n1).drewN nq := ⟨_, rfl⟩
      have HXD0 : Hid (Lx B lb w0 s a ts false p wd) := Lib.hid (by rw [hwd]; exact (HX.out.drewN _).drewN _)
      have H1D0 : Hid (Has wd lb [.string s, .int .i64 (a : Int), vl, .bool false, vp] 41) := Lib.hid (by rw [hwd]; exact has_drewN (has_drewN H1.out _) _)
      have HLD : Hid (LaidL wd.drew) := Lib.hid (by rw [hwd]; exact HL.out.same (by show ((w.drewN n1).drewN nq).heap = w.heap; rw [has_drewN_heap, has_drewN_heap]))
      have f1d := H1D0.out.frozen 1
      have c1d := H1D0.out.cellAt (i := 1) rfl
      rw [← hwd]
      clear hwd f1
      by_cases hv : 9223372036854775807 < decV T
      · have HPB := Lib.hid (parse_bad _ T HEN.out HT0.out HTD.out HESZ.out hv wd.drew HLD.out)
        have HERR : Hid (stepL (s.data.toList.drop a) a false p = .error (a, 13)) := Lib.hid (by rw [HST.out, HBAD.out, if_neg (by simp), ← HT.out, if_pos hv])
        clear hv
        go_wp2_with fail
        refine (bgn_any d wd).mono ?_
        rintro e w' ⟨rfl, rfl⟩
        rw [HD.out]
        clear c1d f1d
        go_upto_region 6 with fail
        have H1D := Lib.hid H1D0.out.drew
        have HXD := Lib.hid HXD0.out.drew
        refine wp_region_held_drew (S := fun W => Has W lb [.string s, .int .i64 (a : Int), vl, .bool false, vp] 41) (by kernel_rfl) H1D.out (fun hHeld => ?_)
        refine wpAnyH_take (i := 0) (oi := { dst := some 44, op := Op.move (Operand.tmp 0), type := 52, pos := "lex.go:118", after := #[], guard := none }) (v := .pointer (some ⟨lb, 0, none⟩)) rfl (by kernel_rfl) (by kernel_rfl) (by kernel_rfl) (fun _ _ _ h => h)
          (Or.inl ⟨by rfl, by intro w hSw; clear hSw; go_simp⟩) hHeld ?_
        try simp only [Act.put, List.setIfInBounds_toArray, List.set_cons_zero, List.set_cons_succ]
        refine wpAnyH_take (i := 1) (oi := { dst := some 45, op := Op.nilCheck (Operand.tmp 44), type := 0, pos := "lex.go:118", after := #[{ on := 0, ground := Ground.data }], guard := none }) (v := .pointer (some ⟨lb, 0, none⟩)) rfl (by kernel_rfl) (by kernel_rfl) (by kernel_rfl) (fun _ _ _ h => h)
          (Or.inl ⟨by rfl, by intro w hSw; clear hSw; go_simp⟩) hHeld ?_
        try simp only [Act.put, List.setIfInBounds_toArray, List.set_cons_zero, List.set_cons_succ]
        refine wpAnyH_take (i := 2) (oi := { dst := some 46, op := Op.fieldAddr 41 (Operand.tmp 45) 0, type := 0, pos := "lex.go:118", after := #[{ on := 1, ground := Ground.data }], guard := none }) (v := .pointer (some ⟨lb, 0, none⟩)) rfl (by kernel_rfl) (by kernel_rfl) (by kernel_rfl) (fun _ _ _ h => h)
          (Or.inl ⟨by rfl, by intro w hSw; clear hSw; go_simp⟩) hHeld ?_
        try simp only [Act.put, List.setIfInBounds_toArray, List.set_cons_zero, List.set_cons_succ]
        refine wpAnyH_take (i := 3) (oi := { dst := some 47, op := Op.load 9 (Operand.tmp 46), type := 9, pos := "lex.go:118", after := #[{ on := 2, ground := Ground.data }], guard := none }) (v := .string s) rfl (by kernel_rfl) (by kernel_rfl) (by kernel_rfl) (fun _ _ _ h => h)
          (Or.inl ⟨by rfl, by intro w hSw; have hcl := hSw.cellAt (i := 0) rfl; clear hSw; go_simp⟩) hHeld ?_
        try simp only [Act.put, List.setIfInBounds_toArray, List.set_cons_zero, List.set_cons_succ]
        refine wpAnyH_take (i := 4) (oi := { dst := some 48, op := Op.move (Operand.tmp 0), type := 52, pos := "lex.go:118", after := #[], guard := none }) (v := .pointer (some ⟨lb, 0, none⟩)) rfl (by kernel_rfl) (by kernel_rfl) (by kernel_rfl) (fun _ _ _ h => h)
          (Or.inl ⟨by rfl, by intro w hSw; clear hSw; go_simp⟩) hHeld ?_
        try simp only [Act.put, List.setIfInBounds_toArray, List.set_cons_zero, List.set_cons_succ]
        refine wpAnyH_take (i := 5) (oi := { dst := some 49, op := Op.nilCheck (Operand.tmp 48), type := 0, pos := "lex.go:118", after := #[{ on := 4, ground := Ground.data }], guard := none }) (v := .pointer (some ⟨lb, 0, none⟩)) rfl (by kernel_rfl) (by kernel_rfl) (by kernel_rfl) (fun _ _ _ h => h)
          (Or.inl ⟨by rfl, by intro w hSw; clear hSw; go_simp⟩) hHeld ?_
        try simp only [Act.put, List.setIfInBounds_toArray, List.set_cons_zero, List.set_cons_succ]
        refine wpAnyH_take (i := 6) (oi := { dst := some 50, op := Op.fieldAddr 41 (Operand.tmp 49) 1, type := 0, pos := "lex.go:118", after := #[{ on := 5, ground := Ground.data }], guard := none }) (v := .pointer (some ⟨lb, 1, none⟩)) rfl (by kernel_rfl) (by kernel_rfl) (by kernel_rfl) (fun _ _ _ h => h)
          (Or.inl ⟨by rfl, by intro w hSw; clear hSw; go_simp⟩) hHeld ?_
        try simp only [Act.put, List.setIfInBounds_toArray, List.set_cons_zero, List.set_cons_succ]
        refine wpAnyH_take (i := 7) (oi := { dst := some 51, op := Op.load 3 (Operand.tmp 50), type := 3, pos := "lex.go:118", after := #[{ on := 6, ground := Ground.data }], guard := none }) (v := .int .i64 (a : Int)) rfl (by kernel_rfl) (by kernel_rfl) (by kernel_rfl) (fun _ _ _ h => h)
          (Or.inl ⟨by rfl, by intro w hSw; have hcl := hSw.cellAt (i := 1) rfl; clear hSw; go_simp⟩) hHeld ?_
        try simp only [Act.put, List.setIfInBounds_toArray, List.set_cons_zero, List.set_cons_succ]
        refine wpAnyH_take (i := 8) (oi := { dst := some 52, op := Op.move (Operand.tmp 0), type := 52, pos := "lex.go:118", after := #[], guard := none }) (v := .pointer (some ⟨lb, 0, none⟩)) rfl (by kernel_rfl) (by kernel_rfl) (by kernel_rfl) (fun _ _ _ h => h)
          (Or.inl ⟨by rfl, by intro w hSw; clear hSw; go_simp⟩) hHeld ?_
        try simp only [Act.put, List.setIfInBounds_toArray, List.set_cons_zero, List.set_cons_succ]
        refine wpAnyH_take (i := 9) (oi := { dst := some 53, op := Op.nilCheck (Operand.tmp 52), type := 0, pos := "lex.go:118", after := #[{ on := 8, ground := Ground.data }], guard := none }) (v := .pointer (some ⟨lb, 0, none⟩)) rfl (by kernel_rfl) (by kernel_rfl) (by kernel_rfl) (fun _ _ _ h => h)
          (Or.inl ⟨by rfl, by intro w hSw; clear hSw; go_simp⟩) hHeld ?_
        try simp only [Act.put, List.setIfInBounds_toArray, List.set_cons_zero, List.set_cons_succ]
        refine wpAnyH_take (i := 10) (oi := { dst := some 54, op := Op.fieldAddr 41 (Operand.tmp 53) 1, type := 0, pos := "lex.go:118", after := #[{ on := 9, ground := Ground.data }], guard := none }) (v := .pointer (some ⟨lb, 1, none⟩)) rfl (by kernel_rfl) (by kernel_rfl) (by kernel_rfl) (fun _ _ _ h => h)
          (Or.inl ⟨by rfl, by intro w hSw; clear hSw; go_simp⟩) hHeld ?_
        try simp only [Act.put, List.setIfInBounds_toArray, List.set_cons_zero, List.set_cons_succ]
        refine wpAnyH_take (i := 11) (oi := { dst := some 55, op := Op.load 3 (Operand.tmp 54), type := 3, pos := "lex.go:118", after := #[{ on := 10, ground := Ground.data }], guard := none }) (v := .int .i64 (a : Int)) rfl (by kernel_rfl) (by kernel_rfl) (by kernel_rfl) (fun _ _ _ h => h)
          (Or.inl ⟨by rfl, by intro w hSw; have hcl := hSw.cellAt (i := 1) rfl; clear hSw; go_simp⟩) hHeld ?_
        try simp only [Act.put, List.setIfInBounds_toArray, List.set_cons_zero, List.set_cons_succ]
        refine wpAnyH_take (i := 12) (oi := { dst := some 56, op := Op.move (Operand.tmp 3), type := 3, pos := "lex.go:118", after := #[], guard := none }) (v := .int .i64 (n : Int)) rfl (by kernel_rfl) (by kernel_rfl) (by kernel_rfl) (fun _ _ _ h => h)
          (Or.inl ⟨by rfl, by intro w hSw; clear hSw; go_simp⟩) hHeld ?_
        try simp only [Act.put, List.setIfInBounds_toArray, List.set_cons_zero, List.set_cons_succ]
        refine wpAnyH_take (i := 13) (oi := { dst := some 57, op := Op.binOp BinOp.add 3 (Operand.tmp 55) (Operand.tmp 56) 3, type := 3, pos := "lex.go:118", after := #[{ on := 11, ground := Ground.data }, { on := 12, ground := Ground.data }], guard := none }) (v := .int .i64 ((a : Int) + (n : Int))) rfl (by kernel_rfl) (by kernel_rfl) (by kernel_rfl) (fun _ _ _ h => h)
          (Or.inl ⟨by rfl, by intro w hSw; clear hSw; go_simp <;> exact HW19.out⟩) hHeld ?_
        try simp only [Act.put, List.setIfInBounds_toArray, List.set_cons_zero, List.set_cons_succ]
        refine wpAnyH_take (i := 14) (oi := { dst := some 58, op := Op.slice 9 (Operand.tmp 47) (some (Operand.tmp 51)) (some (Operand.tmp 57)) none, type := 9, pos := "lex.go:118", after := #[{ on := 3, ground := Ground.data }, { on := 7, ground := Ground.data }, { on := 13, ground := Ground.data }], guard := none }) (v := .string (s.extract a (a + n))) rfl (by kernel_rfl) (by kernel_rfl) (by kernel_rfl) (fun _ _ _ h => h)
          (Or.inl ⟨by rfl, by intro w hSw; clear hSw; go_simp <;> rw [HT20.out]⟩) hHeld ?_
        try simp only [Act.put, List.setIfInBounds_toArray, List.set_cons_zero, List.set_cons_succ]
        refine wpAnyH_ready (rs := [15]) (by kernel_rfl) (by simp) ?_
        refine AllReadyH.cons (o := { dst := some 59, op := Op.call { callee := Callee.value (Operand.func 39), args := #[Operand.tmp 58, Operand.const (Value.int IntKind.i64 10), Operand.const (Value.int IntKind.i64 64)], argTypes := #[9, 3, 3] }, type := 65, pos := "lex.go:118", after := #[{ on := 14, ground := Ground.data }], guard := none }) rfl (fun K hK => ?_) AllReadyH.nil
        go_simp
        refine (HPB.out).mono ?_
        rintro e w4 ⟨⟨N, rfl⟩, hb4⟩
        have H14 : Hid (Has w4 lb [.string s, .int .i64 (a : Int), vl, .bool false, vp] 41) := Lib.hid (H1D.out.below hb4 H1D.out.lt)
        have HX4 : Hid (Lx B lb w0 s a ts false p w4) := Lib.hid (HXD.out.later hb4)
        clear hb4
        try go_simp
        refine hK.out _ _ H14.out (fun hHeld1 => ?_)
        clear hK K hHeld
        try simp only [Act.put, List.setIfInBounds_toArray, List.set_cons_zero, List.set_cons_succ]
        refine wpAnyH_take (i := 16) (oi := { dst := some 43, op := Op.move (Operand.tmp 59), type := 65, pos := "lex.go:118", after := #[{ on := 15, ground := Ground.data }], guard := none }) (v := .tuple #[.int .i64 9223372036854775807, .iface 86 (.pointer (some ⟨N, 0, none⟩))]) rfl (by kernel_rfl) (by kernel_rfl) (by kernel_rfl) (fun _ _ _ h => h)
          (Or.inl ⟨by rfl, by intro w hSw; clear hSw; go_simp⟩) hHeld1 ?_
        try simp only [Act.put, List.setIfInBounds_toArray, List.set_cons_zero, List.set_cons_succ]
        refine wpAnyH_take (i := 17) (oi := { dst := some 60, op := Op.extract (Operand.tmp 43) 0, type := 2, pos := "lex.go:118", after := #[{ on := 16, ground := Ground.data }], guard := none }) (v := .int .i64 9223372036854775807) rfl (by kernel_rfl) (by kernel_rfl) (by kernel_rfl) (fun _ _ _ h => h)
          (Or.inl ⟨by rfl, by intro w hSw; clear hSw; go_simp⟩) hHeld1 ?_
        try simp only [Act.put, List.setIfInBounds_toArray, List.set_cons_zero, List.set_cons_succ]
        refine wpAnyH_take (i := 18) (oi := { dst := some 61, op := Op.extract (Operand.tmp 43) 1, type := 64, pos := "lex.go:118", after := #[{ on := 16, ground := Ground.data }, { on := 19, ground := Ground.gcOnly Departure.lateStores }], guard := none }) (v := .iface 86 (.pointer (some ⟨N, 0, none⟩))) rfl (by kernel_rfl) (by kernel_rfl) (by kernel_rfl) (fun _ _ _ h => h)
          (Or.inl ⟨by rfl, by intro w hSw; clear hSw; go_simp⟩) hHeld1 ?_
        try simp only [Act.put, List.setIfInBounds_toArray, List.set_cons_zero, List.set_cons_succ]
        refine wpAnyH_take (i := 19) (oi := { dst := some 5, op := Op.assign (Operand.tmp 60), type := 2, pos := "lex.go:118", after := #[{ on := 17, ground := Ground.data }, { on := 15, ground := Ground.chain }, { on := 0, ground := Ground.phase }, { on := 1, ground := Ground.phase }, { on := 2, ground := Ground.phase }, { on := 3, ground := Ground.phase }, { on := 4, ground := Ground.phase }, { on := 5, ground := Ground.phase }, { on := 6, ground := Ground.phase }, { on := 7, ground := Ground.phase }, { on := 8, ground := Ground.phase }, { on := 9, ground := Ground.phase }, { on := 10, ground := Ground.phase }, { on := 11, ground := Ground.phase }, { on := 12, ground := Ground.phase }, { on := 13, ground := Ground.phase }, { on := 14, ground := Ground.phase }, { on := 15, ground := Ground.phase }, { on := 16, ground := Ground.phase }, { on := 17, ground := Ground.phase }, { on := 18, ground := Ground.textOnly Departure.lateStores }], guard := none }) (v := .int .i64 9223372036854775807) rfl (by kernel_rfl) (by kernel_rfl) (by kernel_rfl) (fun _ _ _ h => h)
          (Or.inl ⟨by rfl, by intro w hSw; clear hSw; go_simp⟩) hHeld1 ?_
        try simp only [Act.put, List.setIfInBounds_toArray, List.set_cons_zero, List.set_cons_succ]
        refine wpAnyH_take (i := 20) (oi := { dst := some 6, op := Op.assign (Operand.tmp 61), type := 64, pos := "lex.go:118", after := #[{ on := 18, ground := Ground.data }, { on := 19, ground := Ground.chain }, { on := 0, ground := Ground.phase }, { on := 1, ground := Ground.phase }, { on := 2, ground := Ground.phase }, { on := 3, ground := Ground.phase }, { on := 4, ground := Ground.phase }, { on := 5, ground := Ground.phase }, { on := 6, ground := Ground.phase }, { on := 7, ground := Ground.phase }, { on := 8, ground := Ground.phase }, { on := 9, ground := Ground.phase }, { on := 10, ground := Ground.phase }, { on := 11, ground := Ground.phase }, { on := 12, ground := Ground.phase }, { on := 13, ground := Ground.phase }, { on := 14, ground := Ground.phase }, { on := 15, ground := Ground.phase }, { on := 16, ground := Ground.phase }, { on := 17, ground := Ground.phase }, { on := 18, ground := Ground.phase }, { on := 19, ground := Ground.phase }], guard := none }) (v := .iface 86 (.pointer (some ⟨N, 0, none⟩))) rfl (by kernel_rfl) (by kernel_rfl) (by kernel_rfl) (fun _ _ _ h => h)
          (Or.inl ⟨by rfl, by intro w hSw; clear hSw; go_simp⟩) hHeld1 ?_
        try simp only [Act.put, List.setIfInBounds_toArray, List.set_cons_zero, List.set_cons_succ]
        refine wpAnyH_done (by kernel_rfl) ?_ _
        clear hHeld1
        go_wp2_with fail
        go_ret
        exact nx_error HERR.out rfl HX4.out
      · have HPK := Lib.hid (parse_ok _ T HEN.out HT0.out HTD.out HESZ.out hv wd.drew)
        have HOK : Hid (stepL (s.data.toList.drop a) a false p = .ok ([⟨3, T, a⟩], n, false, p)) := Lib.hid (by rw [HST.out, HBAD.out, if_neg (by simp), ← HT.out, if_neg hv])
        clear hv
        go_wp2_with fail
        refine (bgn_any d wd).mono ?_
        rintro e w' ⟨rfl, rfl⟩
        rw [HD.out]
        clear c1d f1d
        go_upto_region 6 with fail
        have H1D := Lib.hid H1D0.out.drew
        have HXD := Lib.hid HXD0.out.drew
        refine wp_region_held_drew (S := fun W => Has W lb [.string s, .int .i64 (a : Int), vl, .bool false, vp] 41) (by kernel_rfl) H1D.out (fun hHeld => ?_)
        refine wpAnyH_take (i := 0) (oi := { dst := some 44, op := Op.move (Operand.tmp 0), type := 52, pos := "lex.go:118", after := #[], guard := none }) (v := .pointer (some ⟨lb, 0, none⟩)) rfl (by kernel_rfl) (by kernel_rfl) (by kernel_rfl) (fun _ _ _ h => h)
          (Or.inl ⟨by rfl, by intro w hSw; clear hSw; go_simp⟩) hHeld ?_
        try simp only [Act.put, List.setIfInBounds_toArray, List.set_cons_zero, List.set_cons_succ]
        refine wpAnyH_take (i := 1) (oi := { dst := some 45, op := Op.nilCheck (Operand.tmp 44), type := 0, pos := "lex.go:118", after := #[{ on := 0, ground := Ground.data }], guard := none }) (v := .pointer (some ⟨lb, 0, none⟩)) rfl (by kernel_rfl) (by kernel_rfl) (by kernel_rfl) (fun _ _ _ h => h)
          (Or.inl ⟨by rfl, by intro w hSw; clear hSw; go_simp⟩) hHeld ?_
        try simp only [Act.put, List.setIfInBounds_toArray, List.set_cons_zero, List.set_cons_succ]
        refine wpAnyH_take (i := 2) (oi := { dst := some 46, op := Op.fieldAddr 41 (Operand.tmp 45) 0, type := 0, pos := "lex.go:118", after := #[{ on := 1, ground := Ground.data }], guard := none }) (v := .pointer (some ⟨lb, 0, none⟩)) rfl (by kernel_rfl) (by kernel_rfl) (by kernel_rfl) (fun _ _ _ h => h)
          (Or.inl ⟨by rfl, by intro w hSw; clear hSw; go_simp⟩) hHeld ?_
        try simp only [Act.put, List.setIfInBounds_toArray, List.set_cons_zero, List.set_cons_succ]
        refine wpAnyH_take (i := 3) (oi := { dst := some 47, op := Op.load 9 (Operand.tmp 46), type := 9, pos := "lex.go:118", after := #[{ on := 2, ground := Ground.data }], guard := none }) (v := .string s) rfl (by kernel_rfl) (by kernel_rfl) (by kernel_rfl) (fun _ _ _ h => h)
          (Or.inl ⟨by rfl, by intro w hSw; have hcl := hSw.cellAt (i := 0) rfl; clear hSw; go_simp⟩) hHeld ?_
        try simp only [Act.put, List.setIfInBounds_toArray, List.set_cons_zero, List.set_cons_succ]
        refine wpAnyH_take (i := 4) (oi := { dst := some 48, op := Op.move (Operand.tmp 0), type := 52, pos := "lex.go:118", after := #[], guard := none }) (v := .pointer (some ⟨lb, 0, none⟩)) rfl (by kernel_rfl) (by kernel_rfl) (by kernel_rfl) (fun _ _ _ h => h)
          (Or.inl ⟨by rfl, by intro w hSw; clear hSw; go_simp⟩) hHeld ?_
        try simp only [Act.put, List.setIfInBounds_toArray, List.set_cons_zero, List.set_cons_succ]
        refine wpAnyH_take (i := 5) (oi := { dst := some 49, op := Op.nilCheck (Operand.tmp 48), type := 0, pos := "lex.go:118", after := #[{ on := 4, ground := Ground.data }], guard := none }) (v := .pointer (some ⟨lb, 0, none⟩)) rfl (by kernel_rfl) (by kernel_rfl) (by kernel_rfl) (fun _ _ _ h => h)
          (Or.inl ⟨by rfl, by intro w hSw; clear hSw; go_simp⟩) hHeld ?_
        try simp only [Act.put, List.setIfInBounds_toArray, List.set_cons_zero, List.set_cons_succ]
        refine wpAnyH_take (i := 6) (oi := { dst := some 50, op := Op.fieldAddr 41 (Operand.tmp 49) 1, type := 0, pos := "lex.go:118", after := #[{ on := 5, ground := Ground.data }], guard := none }) (v := .pointer (some ⟨lb, 1, none⟩)) rfl (by kernel_rfl) (by kernel_rfl) (by kernel_rfl) (fun _ _ _ h => h)
          (Or.inl ⟨by rfl, by intro w hSw; clear hSw; go_simp⟩) hHeld ?_
        try simp only [Act.put, List.setIfInBounds_toArray, List.set_cons_zero, List.set_cons_succ]
        refine wpAnyH_take (i := 7) (oi := { dst := some 51, op := Op.load 3 (Operand.tmp 50), type := 3, pos := "lex.go:118", after := #[{ on := 6, ground := Ground.data }], guard := none }) (v := .int .i64 (a : Int)) rfl (by kernel_rfl) (by kernel_rfl) (by kernel_rfl) (fun _ _ _ h => h)
          (Or.inl ⟨by rfl, by intro w hSw; have hcl := hSw.cellAt (i := 1) rfl; clear hSw; go_simp⟩) hHeld ?_
        try simp only [Act.put, List.setIfInBounds_toArray, List.set_cons_zero, List.set_cons_succ]
        refine wpAnyH_take (i := 8) (oi := { dst := some 52, op := Op.move (Operand.tmp 0), type := 52, pos := "lex.go:118", after := #[], guard := none }) (v := .pointer (some ⟨lb, 0, none⟩)) rfl (by kernel_rfl) (by kernel_rfl) (by kernel_rfl) (fun _ _ _ h => h)
          (Or.inl ⟨by rfl, by intro w hSw; clear hSw; go_simp⟩) hHeld ?_
        try simp only [Act.put, List.setIfInBounds_toArray, List.set_cons_zero, List.set_cons_succ]
        refine wpAnyH_take (i := 9) (oi := { dst := some 53, op := Op.nilCheck (Operand.tmp 52), type := 0, pos := "lex.go:118", after := #[{ on := 8, ground := Ground.data }], guard := none }) (v := .pointer (some ⟨lb, 0, none⟩)) rfl (by kernel_rfl) (by kernel_rfl) (by kernel_rfl) (fun _ _ _ h => h)
          (Or.inl ⟨by rfl, by intro w hSw; clear hSw; go_simp⟩) hHeld ?_
        try simp only [Act.put, List.setIfInBounds_toArray, List.set_cons_zero, List.set_cons_succ]
        refine wpAnyH_take (i := 10) (oi := { dst := some 54, op := Op.fieldAddr 41 (Operand.tmp 53) 1, type := 0, pos := "lex.go:118", after := #[{ on := 9, ground := Ground.data }], guard := none }) (v := .pointer (some ⟨lb, 1, none⟩)) rfl (by kernel_rfl) (by kernel_rfl) (by kernel_rfl) (fun _ _ _ h => h)
          (Or.inl ⟨by rfl, by intro w hSw; clear hSw; go_simp⟩) hHeld ?_
        try simp only [Act.put, List.setIfInBounds_toArray, List.set_cons_zero, List.set_cons_succ]
        refine wpAnyH_take (i := 11) (oi := { dst := some 55, op := Op.load 3 (Operand.tmp 54), type := 3, pos := "lex.go:118", after := #[{ on := 10, ground := Ground.data }], guard := none }) (v := .int .i64 (a : Int)) rfl (by kernel_rfl) (by kernel_rfl) (by kernel_rfl) (fun _ _ _ h => h)
          (Or.inl ⟨by rfl, by intro w hSw; have hcl := hSw.cellAt (i := 1) rfl; clear hSw; go_simp⟩) hHeld ?_
        try simp only [Act.put, List.setIfInBounds_toArray, List.set_cons_zero, List.set_cons_succ]
        refine wpAnyH_take (i := 12) (oi := { dst := some 56, op := Op.move (Operand.tmp 3), type := 3, pos := "lex.go:118", after := #[], guard := none }) (v := .int .i64 (n : Int)) rfl (by kernel_rfl) (by kernel_rfl) (by kernel_rfl) (fun _ _ _ h => h)
          (Or.inl ⟨by rfl, by intro w hSw; clear hSw; go_simp⟩) hHeld ?_
        try simp only [Act.put, List.setIfInBounds_toArray, List.set_cons_zero, List.set_cons_succ]
        refine wpAnyH_take (i := 13) (oi := { dst := some 57, op := Op.binOp BinOp.add 3 (Operand.tmp 55) (Operand.tmp 56) 3, type := 3, pos := "lex.go:118", after := #[{ on := 11, ground := Ground.data }, { on := 12, ground := Ground.data }], guard := none }) (v := .int .i64 ((a : Int) + (n : Int))) rfl (by kernel_rfl) (by kernel_rfl) (by kernel_rfl) (fun _ _ _ h => h)
          (Or.inl ⟨by rfl, by intro w hSw; clear hSw; go_simp <;> exact HW19.out⟩) hHeld ?_
        try simp only [Act.put, List.setIfInBounds_toArray, List.set_cons_zero, List.set_cons_succ]
        refine wpAnyH_take (i := 14) (oi := { dst := some 58, op := Op.slice 9 (Operand.tmp 47) (some (Operand.tmp 51)) (some (Operand.tmp 57)) none, type := 9, pos := "lex.go:118", after := #[{ on := 3, ground := Ground.data }, { on := 7, ground := Ground.data }, { on := 13, ground := Ground.data }], guard := none }) (v := .string (s.extract a (a + n))) rfl (by kernel_rfl) (by kernel_rfl) (by kernel_rfl) (fun _ _ _ h => h)
          (Or.inl ⟨by rfl, by intro w hSw; clear hSw; go_simp <;> rw [HT20.out]⟩) hHeld ?_
        try simp only [Act.put, List.setIfInBounds_toArray, List.set_cons_zero, List.set_cons_succ]
        refine wpAnyH_ready (rs := [15]) (by kernel_rfl) (by simp) ?_
        refine AllReadyH.cons (o := { dst := some 59, op := Op.call { callee := Callee.value (Operand.func 39), args := #[Operand.tmp 58, Operand.const (Value.int IntKind.i64 10), Operand.const (Value.int IntKind.i64 64)], argTypes := #[9, 3, 3] }, type := 65, pos := "lex.go:118", after := #[{ on := 14, ground := Ground.data }], guard := none }) rfl (fun K hK => ?_) AllReadyH.nil
        go_simp
        refine (HPK.out).mono ?_
        rintro e w4 ⟨rfl, hb4⟩
        have H14 : Hid (Has w4 lb [.string s, .int .i64 (a : Int), vl, .bool false, vp] 41) := Lib.hid (H1D.out.below hb4 H1D.out.lt)
        have HX4 : Hid (Lx B lb w0 s a ts false p w4) := Lib.hid (HXD.out.later hb4)
        clear hb4
        try go_simp
        refine hK.out _ _ H14.out (fun hHeld1 => ?_)
        clear hK K hHeld
        try simp only [Act.put, List.setIfInBounds_toArray, List.set_cons_zero, List.set_cons_succ]
        refine wpAnyH_take (i := 16) (oi := { dst := some 43, op := Op.move (Operand.tmp 59), type := 65, pos := "lex.go:118", after := #[{ on := 15, ground := Ground.data }], guard := none }) (v := .tuple #[.int .i64 (decV T : Int), .nilIface]) rfl (by kernel_rfl) (by kernel_rfl) (by kernel_rfl) (fun _ _ _ h => h)
          (Or.inl ⟨by rfl, by intro w hSw; clear hSw; go_simp⟩) hHeld1 ?_
        try simp only [Act.put, List.setIfInBounds_toArray, List.set_cons_zero, List.set_cons_succ]
        refine wpAnyH_take (i := 17) (oi := { dst := some 60, op := Op.extract (Operand.tmp 43) 0, type := 2, pos := "lex.go:118", after := #[{ on := 16, ground := Ground.data }], guard := none }) (v := .int .i64 (decV T : Int)) rfl (by kernel_rfl) (by kernel_rfl) (by kernel_rfl) (fun _ _ _ h => h)
          (Or.inl ⟨by rfl, by intro w hSw; clear hSw; go_simp⟩) hHeld1 ?_
        try simp only [Act.put, List.setIfInBounds_toArray, List.set_cons_zero, List.set_cons_succ]
        refine wpAnyH_take (i := 18) (oi := { dst := some 61, op := Op.extract (Operand.tmp 43) 1, type := 64, pos := "lex.go:118", after := #[{ on := 16, ground := Ground.data }, { on := 19, ground := Ground.gcOnly Departure.lateStores }], guard := none }) (v := .nilIface) rfl (by kernel_rfl) (by kernel_rfl) (by kernel_rfl) (fun _ _ _ h => h)
          (Or.inl ⟨by rfl, by intro w hSw; clear hSw; go_simp⟩) hHeld1 ?_
        try simp only [Act.put, List.setIfInBounds_toArray, List.set_cons_zero, List.set_cons_succ]
        refine wpAnyH_take (i := 19) (oi := { dst := some 5, op := Op.assign (Operand.tmp 60), type := 2, pos := "lex.go:118", after := #[{ on := 17, ground := Ground.data }, { on := 15, ground := Ground.chain }, { on := 0, ground := Ground.phase }, { on := 1, ground := Ground.phase }, { on := 2, ground := Ground.phase }, { on := 3, ground := Ground.phase }, { on := 4, ground := Ground.phase }, { on := 5, ground := Ground.phase }, { on := 6, ground := Ground.phase }, { on := 7, ground := Ground.phase }, { on := 8, ground := Ground.phase }, { on := 9, ground := Ground.phase }, { on := 10, ground := Ground.phase }, { on := 11, ground := Ground.phase }, { on := 12, ground := Ground.phase }, { on := 13, ground := Ground.phase }, { on := 14, ground := Ground.phase }, { on := 15, ground := Ground.phase }, { on := 16, ground := Ground.phase }, { on := 17, ground := Ground.phase }, { on := 18, ground := Ground.textOnly Departure.lateStores }], guard := none }) (v := .int .i64 (decV T : Int)) rfl (by kernel_rfl) (by kernel_rfl) (by kernel_rfl) (fun _ _ _ h => h)
          (Or.inl ⟨by rfl, by intro w hSw; clear hSw; go_simp⟩) hHeld1 ?_
        try simp only [Act.put, List.setIfInBounds_toArray, List.set_cons_zero, List.set_cons_succ]
        refine wpAnyH_take (i := 20) (oi := { dst := some 6, op := Op.assign (Operand.tmp 61), type := 64, pos := "lex.go:118", after := #[{ on := 18, ground := Ground.data }, { on := 19, ground := Ground.chain }, { on := 0, ground := Ground.phase }, { on := 1, ground := Ground.phase }, { on := 2, ground := Ground.phase }, { on := 3, ground := Ground.phase }, { on := 4, ground := Ground.phase }, { on := 5, ground := Ground.phase }, { on := 6, ground := Ground.phase }, { on := 7, ground := Ground.phase }, { on := 8, ground := Ground.phase }, { on := 9, ground := Ground.phase }, { on := 10, ground := Ground.phase }, { on := 11, ground := Ground.phase }, { on := 12, ground := Ground.phase }, { on := 13, ground := Ground.phase }, { on := 14, ground := Ground.phase }, { on := 15, ground := Ground.phase }, { on := 16, ground := Ground.phase }, { on := 17, ground := Ground.phase }, { on := 18, ground := Ground.phase }, { on := 19, ground := Ground.phase }], guard := none }) (v := .nilIface) rfl (by kernel_rfl) (by kernel_rfl) (by kernel_rfl) (fun _ _ _ h => h)
          (Or.inl ⟨by rfl, by intro w hSw; clear hSw; go_simp⟩) hHeld1 ?_
        try simp only [Act.put, List.setIfInBounds_toArray, List.set_cons_zero, List.set_cons_succ]
        refine wpAnyH_done (by kernel_rfl) ?_ _
        clear hHeld1
        go_wp2_with fail
        have hadd := add_any B lb w0 s a ts _ _ w4 HX4.out 3 n hnl hs (by omega)
        rw [← HT.out] at hadd
        have HA := Lib.hid hadd
        clear hadd
        refine HA.out.mono ?_
        rintro e w6 ⟨rfl, hx6⟩
        have HX6 := Lib.hid hx6
        clear hx6
        go_wp2_with fail
        go_ret
        exact nx_ok HOK.out rfl HX6.out
    · have HERR : Hid (stepL (s.data.toList.drop a) a false p = .error (a + n, 4)) := Lib.hid (by rw [HST.out, if_pos (by rw [← HBL.out, hb0]; exact hd)])
      have HD := Lib.hid hd
      clear hb0 hd
      go_enter Tryd.func21, Tryd.ntmps21
      go_wp2_with fail
      go_quiet ((go_at_call 37; exact Calls.quiet_of_same (HLEN.out _)))
      revert nq
      intro n1
      go_wp2_with fail
      go_quiet (fail)
      rw [← HBH.out]
      clear c0 c1
      obtain ⟨wd, hwd⟩ : ∃ wd, wd = (w.drewN n1).drewN nq := ⟨_, rfl⟩
      have HXD0 : Hid (Lx B lb w0 s a ts false p wd) := Lib.hid (by rw [hwd]; exact (HX.out.drewN _).drewN _)
      have H1D0 : Hid (Has wd lb [.string s, .int .i64 (a : Int), vl, .bool false, vp] 41) := Lib.hid (by rw [hwd]; exact has_drewN (has_drewN H1.out _) _)
      have HLD : Hid (LaidL wd.drew) := Lib.hid (by rw [hwd]; exact HL.out.same (by show ((w.drewN n1).drewN nq).heap = w.heap; rw [has_drewN_heap, has_drewN_heap]))
      have f1d := H1D0.out.frozen 1
      have c1d := H1D0.out.cellAt (i := 1) rfl
      rw [← hwd]
      clear hwd f1
      go_wp2_with fail
      refine (bgn_any d wd).mono ?_
      rintro e w' ⟨rfl, rfl⟩
      rw [HD.out]
      go_wp2_with fail
      go_ret
      exact nx_error HERR.out rfl (HXD0.out.setAt (a + n))

end Go.Proofs.YtnajafnbickiiaaDoor

/-
  The walk of the law DrvApart. Conditions: bounds on the texts' sizes; what the program's text has laid.
-/
import Derived.Test.YtokbakpbhpknfaaGreatDoorDzPath
namespace Go.Proofs.YtokbakpbhpknfaaGreatDoor
open Go.RowKit
set_option linter.unusedVariables false

set_option maxRecDepth 100000 in
set_option maxHeartbeats 20000000 in
theorem walk_DrvApart (w : World) (s0 : ByteArray) (as1 : Option Addr) (ns1 cs1 : Nat) (ls1 : List ByteArray) (as2 : Option Addr) (ns2 cs2 : Nat) (ls2 : List ByteArray) (s3 s4 : ByteArray) (h1A : IsS w as1 ns1 cs1 ls1) (h2A : IsS w as2 ns2 cs2 ls2) (hsmA : SmallD s0 ls1 ls2 s3 s4)
    (t0 : ByteArray) (at1 : Option Addr) (nt1 ct1 : Nat) (lt1 : List ByteArray) (at2 : Option Addr) (nt2 ct2 : Nat) (lt2 : List ByteArray) (t3 t4 : ByteArray) (h1B : IsS w at1 nt1 ct1 lt1) (h2B : IsS w at2 nt2 ct2 lt2) (hsmB : SmallD t0 lt1 lt2 t3 t4) (hl : LaidW w) :
    Calls Tryz.prog 6 #[.agg #[.string s0, .slice as1 ns1 cs1, .slice as2 ns2 cs2, .string s3, .string s4], .agg #[.string t0, .slice at1 nt1 ct1, .slice at2 nt2 ct2, .string t3, .string t4]] w fun e w' => e = .returned (.bool true) ∧ Below w.heap.size w w' := by
  have HL := Lib.hid hl
  clear hl
  obtain ⟨A, hA⟩ : ∃ L : List Value, L = [.string s0, .slice as1 ns1 cs1, .slice as2 ns2 cs2, .string s3, .string s4] := ⟨_, rfl⟩
  have hagA : (#[.string s0, .slice as1 ns1 cs1, .slice as2 ns2 cs2, .string s3, .string s4] : Array Value) = A.toArray := by rw [hA]
  have HIA : Hid ((Tryz.prog.info? 24).map (·.size) = some A.toArray.size) := Lib.hid (by rw [hA]; exact info_dL _ _ _ _ _ _ _ _ _)
  have HNA : Hid ((Tryz.prog.info? 24).map (·.size) = some A.length) := Lib.hid (by rw [hA, info_drv]; rfl)
  have kRA := fun (w : World) (h1 : IsS w as1 ns1 cs1 ls1) (h2 : IsS w as2 ns2 cs2 ls2) => rform_any s0 s3 s4 as1 as2 ns1 cs1 ns2 cs2 ls1 ls2 w h1 h2 hsmA.z1 hsmA.z2 hsmA.z0 hsmA.z3 hsmA.z4
  have kPA := fun (w : World) (h1 : IsS w as1 ns1 cs1 ls1) (h2 : IsS w as2 ns2 cs2 ls2) (hl : LaidW w) => dpath_any s0 s3 s4 as1 as2 ns1 cs1 ns2 cs2 ls1 ls2 w h1 h2 hsmA hl
  have kQA := fun (hf : formB s0 ls1 ls2 s3 s4 = true) (w : World) (h1 : IsS w as1 ns1 cs1 ls1) (h2 : IsS w as2 ns2 cs2 ls2) => rdpath_any s0 s3 s4 as1 as2 ns1 cs1 ns2 cs2 ls1 ls2 w h1 h2 hf
  unfold DPathP at kPA
  obtain ⟨fA, hfA⟩ : ∃ f, f = formB s0 ls1 ls2 s3 s4 := ⟨_, rfl⟩
  obtain ⟨PA, hPA⟩ : ∃ P, P = dpathB s0 ls1 ls2 s3 s4 := ⟨_, rfl⟩
  rw [← hfA, hagA] at kRA
  rw [← hfA, hagA, ← hPA] at kPA kQA
  have KRA := Lib.hid kRA
  have KPA := Lib.hid kPA
  have KQA := Lib.hid kQA
  have HFA := Lib.hid hfA
  have HPA := Lib.hid hPA
  have HA := Lib.hid hA
  have J1A := Lib.hid h1A
  have J2A := Lib.hid h2A
  have hzA : ns1 ≤ 140737488355328 ∧ ns2 ≤ 140737488355328 := ⟨by rw [← h1A.length]; have := hsmA.n1; omega, by rw [← h2A.length]; have := hsmA.n2; omega⟩
  have HZA := Lib.hid hzA
  clear kRA kPA kQA hfA hPA hA hsmA h1A h2A hzA
  obtain ⟨B, hB⟩ : ∃ L : List Value, L = [.string t0, .slice at1 nt1 ct1, .slice at2 nt2 ct2, .string t3, .string t4] := ⟨_, rfl⟩
  have hagB : (#[.string t0, .slice at1 nt1 ct1, .slice at2 nt2 ct2, .string t3, .string t4] : Array Value) = B.toArray := by rw [hB]
  have HIB : Hid ((Tryz.prog.info? 24).map (·.size) = some B.toArray.size) := Lib.hid (by rw [hB]; exact info_dL _ _ _ _ _ _ _ _ _)
  have HNB : Hid ((Tryz.prog.info? 24).map (·.size) = some B.length) := Lib.hid (by rw [hB, info_drv]; rfl)
  have kRB := fun (w : World) (h1 : IsS w at1 nt1 ct1 lt1) (h2 : IsS w at2 nt2 ct2 lt2) => rform_any t0 t3 t4 at1 at2 nt1 ct1 nt2 ct2 lt1 lt2 w h1 h2 hsmB.z1 hsmB.z2 hsmB.z0 hsmB.z3 hsmB.z4
  have kPB := fun (w : World) (h1 : IsS w at1 nt1 ct1 lt1) (h2 : IsS w at2 nt2 ct2 lt2) (hl : LaidW w) => dpath_any t0 t3 t4 at1 at2 nt1 ct1 nt2 ct2 lt1 lt2 w h1 h2 hsmB hl
  have kQB := fun (hf : formB t0 lt1 lt2 t3 t4 = true) (w : World) (h1 : IsS w at1 nt1 ct1 lt1) (h2 : IsS w at2 nt2 ct2 lt2) => rdpath_any t0 t3 t4 at1 at2 nt1 ct1 nt2 ct2 lt1 lt2 w h1 h2 hf
  unfold DPathP at kPB
  obtain ⟨fB, hfB⟩ : ∃ f, f = formB t0 lt1 lt2 t3 t4 := ⟨_, rfl⟩
  obtain ⟨PB, hPB⟩ : ∃ P, P = dpathB t0 lt1 lt2 t3 t4 := ⟨_, rfl⟩
  rw [← hfB, hagB] at kRB
  rw [← hfB, hagB, ← hPB] at kPB kQB
  have KRB := Lib.hid kRB
  have KPB := Lib.hid kPB
  have KQB := Lib.hid kQB
  have HFB := Lib.hid hfB
  have HPB := Lib.hid hPB
  have HB := Lib.hid hB
  have J1B := Lib.hid h1B
  have J2B := Lib.hid h2B
  have hzB : nt1 ≤ 140737488355328 ∧ nt2 ≤ 140737488355328 := ⟨by rw [← h1B.length]; have := hsmB.n1; omega, by rw [← h2B.length]; have := hsmB.n2; omega⟩
  have HZB := Lib.hid hzB
  clear kRB kPB kQB hfB hPB hB hsmB h1B h2B hzB
  have kS := fun (w : World) h1 h2 g1 g2 => dsame_any s0 s3 s4 t0 t3 t4 as1 as2 at1 at2 ns1 cs1 ns2 cs2 nt1 ct1 nt2 ct2 ls1 ls2 lt1 lt2 w h1 h2 g1 g2 HZA.out.1 HZA.out.2 HZB.out.1 HZB.out.2
  rw [hagA, hagB] at kS
  have KS := Lib.hid kS
  clear kS
  clear hagA hagB
  go_enter Tryz.func6, Tryz.ntmps6
  go_upto_region 1 with fail
  obtain ⟨G, hG⟩ : ∃ G, G = w.heap.size := ⟨_, rfl⟩
  rw [← hG]
  obtain ⟨x1, hx1⟩ : ∃ x, x = w.alloc (.cells #[.string s0, .slice as1 ns1 cs1, .slice as2 ns2 cs2, .string s3, .string s4] 24) := ⟨_, rfl⟩
  obtain ⟨w1, hw1⟩ : ∃ x, x = x1.alloc (.cells #[.string t0, .slice at1 nt1 ct1, .slice at2 nt2 ct2, .string t3, .string t4] 24) := ⟨_, rfl⟩
  rw [← hx1, ← hw1]
  have e1 : x1.heap.size = G + 1 := by rw [hx1, hG]; simp
  have P1 : Hid (Has w1 G A 24) := Lib.hid (by rw [hw1, hx1, hG, HA.out]; exact (Has.new w [.string s0, .slice as1 ns1 cs1, .slice as2 ns2 cs2, .string s3, .string s4] _).alloc _)
  have Q1 : Hid (Has w1 (G + 1) B 24) := Lib.hid (by rw [hw1, ← e1, HB.out]; exact Has.new x1 [.string t0, .slice at1 nt1 ct1, .slice at2 nt2 ct2, .string t3, .string t4] _)
  have B1 : Hid (Below G w w1) := Lib.hid (by rw [hw1, hx1, hG]; exact ((Below.refl _ _).alloc (Nat.le_refl _) _).alloc (by simp) _)
  have HG := Lib.hid hG
  try rw [e1]
  clear hx1 hw1 e1 hG
  go_wp2_with fail
  refine (awake_any _).mono ?_
  rintro e w2 ⟨rfl, x2⟩
  have B2 : Hid (Below G w w2) := Lib.hid (B1.out.trans (x2.mono (Nat.le_of_lt P1.out.lt)))
  have P2 := Lib.hid (P1.out.below x2 P1.out.lt)
  have Q2 := Lib.hid (Q1.out.below x2 Q1.out.lt)
  clear x2 P1 Q1 B1
  go_wp2_with (refine wpList_load_rowG (by rfl) 24 _ rfl G rfl 24 A.toArray (0, 0) _ P2.out Tryz.underlying24 rfl HIA.out ?_)
  refine (KRA.out w2 (J1A.out.later (by rw [← HG.out]; exact B2.out)) (J2A.out.later (by rw [← HG.out]; exact B2.out))).mono ?_
  rintro e w3 ⟨rfl, x3⟩
  have B3 : Hid (Below G w w3) := Lib.hid (B2.out.trans (x3.mono (Nat.le_of_lt P2.out.lt)))
  have P3 := Lib.hid (P2.out.below x3 P2.out.lt)
  have Q3 := Lib.hid (Q2.out.below x3 Q2.out.lt)
  clear x3 P2 Q2 B2
  cases fA with
  | false =>
    go_wp2_with fail
    refine (awake_any _).mono ?_
    rintro e w4 ⟨rfl, x4⟩
    have B4 : Hid (Below G w w4) := Lib.hid (B3.out.trans (x4.mono (Nat.le_of_lt P3.out.lt)))
    have P4 := Lib.hid (P3.out.below x4 P3.out.lt)
    have Q4 := Lib.hid (Q3.out.below x4 Q3.out.lt)
    clear x4 P3 Q3 B3
    go_wp2_with fail
    go_ret
    exact ⟨rfl, by rw [← HG.out]; exact B4.out⟩
  | true =>
    go_wp2_with (refine wpList_load_rowG (by rfl) 24 _ rfl (G + 1) rfl 24 B.toArray (0, 0) _ Q3.out Tryz.underlying24 rfl HIB.out ?_)
    refine (KRB.out w3 (J1B.out.later (by rw [← HG.out]; exact B3.out)) (J2B.out.later (by rw [← HG.out]; exact B3.out))).mono ?_
    rintro e w4 ⟨rfl, x4⟩
    have B4 : Hid (Below G w w4) := Lib.hid (B3.out.trans (x4.mono (Nat.le_of_lt P3.out.lt)))
    have P4 := Lib.hid (P3.out.below x4 P3.out.lt)
    have Q4 := Lib.hid (Q3.out.below x4 Q3.out.lt)
    clear x4 P3 Q3 B3
    cases fB with
    | false =>
      go_wp2_with fail
      refine (awake_any _).mono ?_
      rintro e w5 ⟨rfl, x5⟩
      have B5 : Hid (Below G w w5) := Lib.hid (B4.out.trans (x5.mono (Nat.le_of_lt P4.out.lt)))
      have P5 := Lib.hid (P4.out.below x5 P4.out.lt)
      have Q5 := Lib.hid (Q4.out.below x5 Q4.out.lt)
      clear x5 P4 Q4 B4
      go_wp2_with fail
      go_ret
      exact ⟨rfl, by rw [← HG.out]; exact B5.out⟩
    | true =>
      go_wp2_with (refine wpList_load_row rfl 24 _ rfl G rfl 24 A.toArray (0, 0) _ P4.out Tryz.underlying24 rfl HIA.out ?_)
      refine (KPA.out w4 (J1A.out.later (by rw [← HG.out]; exact B4.out)) (J2A.out.later (by rw [← HG.out]; exact B4.out)) (HL.out.later (by rw [← HG.out]; exact B4.out))).mono ?_
      rintro e w5 ⟨pp, _, x5⟩
      have he := pp (by first | trivial | rfl)
      subst he
      clear pp
      have B5 : Hid (Below G w w5) := Lib.hid (B4.out.trans (x5.mono (Nat.le_of_lt P4.out.lt)))
      have P5 := Lib.hid (P4.out.below x5 P4.out.lt)
      have Q5 := Lib.hid (Q4.out.below x5 Q4.out.lt)
      clear x5 P4 Q4 B4
      go_wp2_with (refine wpList_load_row rfl 24 _ rfl (G + 1) rfl 24 B.toArray (0, 0) _ Q5.out Tryz.underlying24 rfl HIB.out ?_)
      refine (KPB.out w5 (J1B.out.later (by rw [← HG.out]; exact B5.out)) (J2B.out.later (by rw [← HG.out]; exact B5.out)) (HL.out.later (by rw [← HG.out]; exact B5.out))).mono ?_
      rintro e w6 ⟨pp, _, x6⟩
      have he := pp (by first | trivial | rfl)
      subst he
      clear pp
      have B6 : Hid (Below G w w6) := Lib.hid (B5.out.trans (x6.mono (Nat.le_of_lt P5.out.lt)))
      have P6 := Lib.hid (P5.out.below x6 P5.out.lt)
      have Q6 := Lib.hid (Q5.out.below x6 Q5.out.lt)
      clear x6 P5 Q5 B5
      by_cases hpq : PA = PB
      · have heq : (PA.toList == PB.toList) = true := toL_yes hpq
        clear hpq
        go_upto_region 5 with fail
        refine wp_region_held_drew (S := fun W => Has W G A 24 ∧ Has W (G + 1) B 24) (by kernel_rfl) ⟨P6.out.drew, Q6.out.drew⟩ (fun hHeld => ?_)
        obtain ⟨wd, hwd⟩ : ∃ wd, wd = w6.drew := ⟨_, rfl⟩
        have B7 : Hid (Below G w wd) := Lib.hid (by rw [hwd]; exact B6.out.drew)
        have P7 : Hid (Has wd G A 24) := Lib.hid (by rw [hwd]; exact P6.out.drew)
        have Q7 : Hid (Has wd (G + 1) B 24) := Lib.hid (by rw [hwd]; exact Q6.out.drew)
        rw [← hwd] at hHeld ⊢
        clear hwd P6 Q6 B6
        have hu26 := Tryz.underlying24
        refine wpAnyH_take (i := 0) (oi := { dst := some 32, op := Op.move (Operand.tmp 6), type := 27, pos := "more.go:16", after := #[], guard := none }) (v := .int .i64 0) rfl (by kernel_rfl) (by kernel_rfl) (by kernel_rfl) (fun _ _ _ h => h)
          (Or.inl ⟨by rfl, by intro w hSw;  clear hSw; go_simp⟩) hHeld ?_
        try simp only [Act.put, List.setIfInBounds_toArray, List.set_cons_zero, List.set_cons_succ]
        refine wpAnyH_take (i := 1) (oi := { dst := some 33, op := Op.binOp BinOp.eql 27 (Operand.tmp 32) (Operand.const (Value.int IntKind.i64 0)) 27, type := 4, pos := "more.go:16", after := #[{ on := 0, ground := Ground.data }], guard := none }) (v := .bool true) rfl (by kernel_rfl) (by kernel_rfl) (by kernel_rfl) (fun _ _ _ h => h)
          (Or.inl ⟨by rfl, by intro w hSw;  clear hSw; go_simp⟩) hHeld ?_
        try simp only [Act.put, List.setIfInBounds_toArray, List.set_cons_zero, List.set_cons_succ]
        refine wpAnyH_take (i := 2) (oi := { dst := some 34, op := Op.move (Operand.tmp 33), type := 4, pos := "more.go:16", after := #[{ on := 1, ground := Ground.data }], guard := none }) (v := .bool true) rfl (by kernel_rfl) (by kernel_rfl) (by kernel_rfl) (fun _ _ _ h => h)
          (Or.inl ⟨by rfl, by intro w hSw;  clear hSw; go_simp⟩) hHeld ?_
        try simp only [Act.put, List.setIfInBounds_toArray, List.set_cons_zero, List.set_cons_succ]
        refine wpAnyH_take (i := 3) (oi := { dst := some 35, op := Op.move (Operand.tmp 8), type := 27, pos := "more.go:16", after := #[{ on := 2, ground := Ground.guard }], guard := some (2, true) }) (v := .int .i64 0) rfl (by kernel_rfl) (by kernel_rfl) (by kernel_rfl) (fun _ _ _ h => h)
          (Or.inl ⟨by rfl, by intro w hSw;  clear hSw; go_simp⟩) hHeld ?_
        try simp only [Act.put, List.setIfInBounds_toArray, List.set_cons_zero, List.set_cons_succ]
        refine wpAnyH_take (i := 4) (oi := { dst := some 36, op := Op.binOp BinOp.eql 27 (Operand.tmp 35) (Operand.const (Value.int IntKind.i64 0)) 27, type := 4, pos := "more.go:16", after := #[{ on := 3, ground := Ground.data }, { on := 2, ground := Ground.guard }], guard := some (2, true) }) (v := .bool true) rfl (by kernel_rfl) (by kernel_rfl) (by kernel_rfl) (fun _ _ _ h => h)
          (Or.inl ⟨by rfl, by intro w hSw;  clear hSw; go_simp⟩) hHeld ?_
        try simp only [Act.put, List.setIfInBounds_toArray, List.set_cons_zero, List.set_cons_succ]
        refine wpAnyH_take (i := 5) (oi := { dst := some 37, op := Op.pick (Operand.tmp 34) (Operand.tmp 36) (Operand.const (Value.bool false)), type := 4, pos := "more.go:16", after := #[{ on := 2, ground := Ground.data }, { on := 4, ground := Ground.data }], guard := none }) (v := .bool true) rfl (by kernel_rfl) (by kernel_rfl) (by kernel_rfl) (fun _ _ _ h => h)
          (Or.inl ⟨by rfl, by intro w hSw;  clear hSw; go_simp⟩) hHeld ?_
        try simp only [Act.put, List.setIfInBounds_toArray, List.set_cons_zero, List.set_cons_succ]
        refine wpAnyH_take (i := 6) (oi := { dst := some 38, op := Op.move (Operand.tmp 37), type := 4, pos := "more.go:16", after := #[{ on := 5, ground := Ground.data }, { on := 2, ground := Ground.chain }], guard := none }) (v := .bool true) rfl (by kernel_rfl) (by kernel_rfl) (by kernel_rfl) (fun _ _ _ h => h)
          (Or.inl ⟨by rfl, by intro w hSw;  clear hSw; go_simp⟩) hHeld ?_
        try simp only [Act.put, List.setIfInBounds_toArray, List.set_cons_zero, List.set_cons_succ]
        refine wpAnyH_take (i := 7) (oi := { dst := some 39, op := Op.move (Operand.tmp 5), type := 9, pos := "more.go:16", after := #[{ on := 6, ground := Ground.guard }], guard := some (6, true) }) (v := .string PA) rfl (by kernel_rfl) (by kernel_rfl) (by kernel_rfl) (fun _ _ _ h => h)
          (Or.inl ⟨by rfl, by intro w hSw;  clear hSw; go_simp⟩) hHeld ?_
        try simp only [Act.put, List.setIfInBounds_toArray, List.set_cons_zero, List.set_cons_succ]
        refine wpAnyH_take (i := 8) (oi := { dst := some 40, op := Op.move (Operand.tmp 7), type := 9, pos := "more.go:16", after := #[{ on := 6, ground := Ground.guard }], guard := some (6, true) }) (v := .string PB) rfl (by kernel_rfl) (by kernel_rfl) (by kernel_rfl) (fun _ _ _ h => h)
          (Or.inl ⟨by rfl, by intro w hSw;  clear hSw; go_simp⟩) hHeld ?_
        try simp only [Act.put, List.setIfInBounds_toArray, List.set_cons_zero, List.set_cons_succ]
        refine wpAnyH_take (i := 9) (oi := { dst := some 41, op := Op.binOp BinOp.eql 9 (Operand.tmp 39) (Operand.tmp 40) 9, type := 4, pos := "more.go:16", after := #[{ on := 7, ground := Ground.data }, { on := 8, ground := Ground.data }, { on := 6, ground := Ground.guard }], guard := some (6, true) }) (v := .bool true) rfl (by kernel_rfl) (by kernel_rfl) (by kernel_rfl) (fun _ _ _ h => h)
          (Or.inl ⟨by rfl, by intro w hSw;  clear hSw; go_simp⟩) hHeld ?_
        try simp only [Act.put, List.setIfInBounds_toArray, List.set_cons_zero, List.set_cons_succ]
        refine wpAnyH_take (i := 10) (oi := { dst := some 42, op := Op.load 24 (Operand.tmp 2), type := 24, pos := "more.go:16", after := #[{ on := 6, ground := Ground.guard }], guard := some (6, true) }) rfl (by kernel_rfl) (by kernel_rfl) (by kernel_rfl) (fun _ _ _ h => h)
          (yieldsIf_load_mid (by rfl) 24 (.tmp 2) rfl G (0) rfl A _ (fun _ h => rangeAt_has h.1) hu26 rfl HNA.out) hHeld ?_
        try simp only [Act.put, List.setIfInBounds_toArray, List.set_cons_zero, List.set_cons_succ]
        refine wpAnyH_take (i := 12) (oi := { dst := some 44, op := Op.load 24 (Operand.tmp 3), type := 24, pos := "more.go:16", after := #[{ on := 6, ground := Ground.guard }], guard := some (6, true) }) rfl (by kernel_rfl) (by kernel_rfl) (by kernel_rfl) (fun _ _ _ h => h)
          (yieldsIf_load_mid (by rfl) 24 (.tmp 3) rfl (G + 1) (0) rfl B _ (fun _ h => rangeAt_has h.2) hu26 rfl HNB.out) hHeld ?_
        try simp only [Act.put, List.setIfInBounds_toArray, List.set_cons_zero, List.set_cons_succ]
        refine wpAnyH_ready (rs := [11]) (by kernel_rfl) (by simp) ?_
        refine AllReadyH.cons (o := { dst := some 43, op := Op.call { callee := Callee.value (Operand.func 12), args := #[Operand.tmp 42], argTypes := #[24] }, type := 9, pos := "more.go:16", after := #[{ on := 10, ground := Ground.data }, { on := 6, ground := Ground.chain }, { on := 6, ground := Ground.guard }], guard := some (6, true) }) rfl (fun K hK => ?_) AllReadyH.nil
        go_simp
        refine (KQA.out (by first | trivial | rfl) wd (J1A.out.later (by rw [← HG.out]; exact B7.out)) (J2A.out.later (by rw [← HG.out]; exact B7.out))).mono ?_
        rintro e w8 ⟨rfl, x8⟩
        have B8 : Hid (Below G w w8) := Lib.hid (B7.out.trans (x8.mono (Nat.le_of_lt P7.out.lt)))
        have P8 := Lib.hid (P7.out.below x8 P7.out.lt)
        have Q8 := Lib.hid (Q7.out.below x8 Q7.out.lt)
        go_wp2_with fail
        refine hK.out _ _ ⟨P8.out, Q8.out⟩ (fun hHeld8 => ?_)
        clear hK K hHeld x8 P7 Q7 B7
        try simp only [Act.put, List.setIfInBounds_toArray, List.set_cons_zero, List.set_cons_succ]
        refine wpAnyH_ready (rs := [13]) (by kernel_rfl) (by simp) ?_
        refine AllReadyH.cons (o := { dst := some 45, op := Op.call { callee := Callee.value (Operand.func 12), args := #[Operand.tmp 44], argTypes := #[24] }, type := 9, pos := "more.go:16", after := #[{ on := 12, ground := Ground.data }, { on := 11, ground := Ground.chain }, { on := 6, ground := Ground.guard }], guard := some (6, true) }) rfl (fun K hK => ?_) AllReadyH.nil
        go_simp
        refine (KQB.out (by first | trivial | rfl) w8 (J1B.out.later (by rw [← HG.out]; exact B8.out)) (J2B.out.later (by rw [← HG.out]; exact B8.out))).mono ?_
        rintro e w9 ⟨rfl, x9⟩
        have B9 : Hid (Below G w w9) := Lib.hid (B8.out.trans (x9.mono (Nat.le_of_lt P8.out.lt)))
        have P9 := Lib.hid (P8.out.below x9 P8.out.lt)
        have Q9 := Lib.hid (Q8.out.below x9 Q8.out.lt)
        go_wp2_with fail
        refine hK.out _ _ ⟨P9.out, Q9.out⟩ (fun hHeld9 => ?_)
        clear hK K hHeld8 x9 P8 Q8 B8
        try simp only [Act.put, List.setIfInBounds_toArray, List.set_cons_zero, List.set_cons_succ]
        refine wpAnyH_take (i := 14) (oi := { dst := some 46, op := Op.binOp BinOp.eql 9 (Operand.tmp 43) (Operand.tmp 45) 9, type := 4, pos := "more.go:16", after := #[{ on := 11, ground := Ground.data }, { on := 13, ground := Ground.data }, { on := 6, ground := Ground.guard }], guard := some (6, true) }) (v := .bool true) rfl (by kernel_rfl) (by kernel_rfl) (by kernel_rfl) (fun _ _ _ h => h)
          (Or.inl ⟨by rfl, by intro w hSw;  clear hSw; go_simp⟩) hHeld9 ?_
        try simp only [Act.put, List.setIfInBounds_toArray, List.set_cons_zero, List.set_cons_succ]
        refine wpAnyH_take (i := 15) (oi := { dst := some 47, op := Op.binOp BinOp.eql 4 (Operand.tmp 41) (Operand.tmp 46) 4, type := 4, pos := "more.go:16", after := #[{ on := 9, ground := Ground.data }, { on := 14, ground := Ground.data }, { on := 6, ground := Ground.guard }], guard := some (6, true) }) (v := .bool true) rfl (by kernel_rfl) (by kernel_rfl) (by kernel_rfl) (fun _ _ _ h => h)
          (Or.inl ⟨by rfl, by intro w hSw;  clear hSw; go_simp⟩) hHeld9 ?_
        try simp only [Act.put, List.setIfInBounds_toArray, List.set_cons_zero, List.set_cons_succ]
        refine wpAnyH_take (i := 16) (oi := { dst := some 48, op := Op.pick (Operand.tmp 38) (Operand.tmp 47) (Operand.const (Value.bool false)), type := 4, pos := "more.go:16", after := #[{ on := 6, ground := Ground.data }, { on := 15, ground := Ground.data }], guard := none }) (v := .bool true) rfl (by kernel_rfl) (by kernel_rfl) (by kernel_rfl) (fun _ _ _ h => h)
          (Or.inl ⟨by rfl, by intro w hSw;  clear hSw; go_simp⟩) hHeld9 ?_
        try simp only [Act.put, List.setIfInBounds_toArray, List.set_cons_zero, List.set_cons_succ]
        refine wpAnyH_take (i := 17) (oi := { dst := some 49, op := Op.move (Operand.tmp 48), type := 4, pos := "more.go:16", after := #[{ on := 16, ground := Ground.data }, { on := 13, ground := Ground.chain }], guard := none }) (v := .bool true) rfl (by kernel_rfl) (by kernel_rfl) (by kernel_rfl) (fun _ _ _ h => h)
          (Or.inl ⟨by rfl, by intro w hSw;  clear hSw; go_simp⟩) hHeld9 ?_
        try simp only [Act.put, List.setIfInBounds_toArray, List.set_cons_zero, List.set_cons_succ]
        refine wpAnyH_take (i := 18) (oi := { dst := some 50, op := Op.move (Operand.tmp 5), type := 9, pos := "more.go:16", after := #[{ on := 17, ground := Ground.guard }], guard := some (17, true) }) (v := .string PA) rfl (by kernel_rfl) (by kernel_rfl) (by kernel_rfl) (fun _ _ _ h => h)
          (Or.inl ⟨by rfl, by intro w hSw;  clear hSw; go_simp⟩) hHeld9 ?_
        try simp only [Act.put, List.setIfInBounds_toArray, List.set_cons_zero, List.set_cons_succ]
        refine wpAnyH_take (i := 19) (oi := { dst := some 51, op := Op.move (Operand.tmp 7), type := 9, pos := "more.go:16", after := #[{ on := 17, ground := Ground.guard }], guard := some (17, true) }) (v := .string PB) rfl (by kernel_rfl) (by kernel_rfl) (by kernel_rfl) (fun _ _ _ h => h)
          (Or.inl ⟨by rfl, by intro w hSw;  clear hSw; go_simp⟩) hHeld9 ?_
        try simp only [Act.put, List.setIfInBounds_toArray, List.set_cons_zero, List.set_cons_succ]
        refine wpAnyH_take (i := 20) (oi := { dst := some 52, op := Op.binOp BinOp.eql 9 (Operand.tmp 50) (Operand.tmp 51) 9, type := 4, pos := "more.go:16", after := #[{ on := 18, ground := Ground.data }, { on := 19, ground := Ground.data }, { on := 17, ground := Ground.guard }], guard := some (17, true) }) (v := .bool true) rfl (by kernel_rfl) (by kernel_rfl) (by kernel_rfl) (fun _ _ _ h => h)
          (Or.inl ⟨by rfl, by intro w hSw;  clear hSw; go_simp⟩) hHeld9 ?_
        try simp only [Act.put, List.setIfInBounds_toArray, List.set_cons_zero, List.set_cons_succ]
        refine wpAnyH_take (i := 21) (oi := { dst := some 53, op := Op.move (Operand.tmp 52), type := 4, pos := "more.go:16", after := #[{ on := 20, ground := Ground.data }, { on := 17, ground := Ground.chain }, { on := 17, ground := Ground.guard }], guard := some (17, true) }) (v := .bool true) rfl (by kernel_rfl) (by kernel_rfl) (by kernel_rfl) (fun _ _ _ h => h)
          (Or.inl ⟨by rfl, by intro w hSw;  clear hSw; go_simp⟩) hHeld9 ?_
        try simp only [Act.put, List.setIfInBounds_toArray, List.set_cons_zero, List.set_cons_succ]
        refine wpAnyH_take (i := 22) (oi := { dst := some 54, op := Op.load 24 (Operand.tmp 2), type := 24, pos := "more.go:16", after := #[{ on := 21, ground := Ground.guard }], guard := some (21, false) }) (v := undef) rfl (by kernel_rfl) (by kernel_rfl) (by kernel_rfl) (fun _ _ _ h => h)
          (Or.inr ⟨by rfl, by rfl⟩) hHeld9 ?_
        try simp only [Act.put, List.setIfInBounds_toArray, List.set_cons_zero, List.set_cons_succ]
        refine wpAnyH_take (i := 23) (oi := { dst := some 55, op := Op.load 24 (Operand.tmp 3), type := 24, pos := "more.go:16", after := #[{ on := 21, ground := Ground.guard }], guard := some (21, false) }) (v := undef) rfl (by kernel_rfl) (by kernel_rfl) (by kernel_rfl) (fun _ _ _ h => h)
          (Or.inr ⟨by rfl, by rfl⟩) hHeld9 ?_
        try simp only [Act.put, List.setIfInBounds_toArray, List.set_cons_zero, List.set_cons_succ]
        refine wpAnyH_take (i := 24) (oi := { dst := some 56, op := Op.call { callee := Callee.value (Operand.func 16), args := #[Operand.tmp 54, Operand.tmp 55], argTypes := #[24, 24] }, type := 4, pos := "more.go:16", after := #[{ on := 22, ground := Ground.data }, { on := 23, ground := Ground.data }, { on := 21, ground := Ground.chain }, { on := 21, ground := Ground.guard }], guard := some (21, false) }) (v := undef) rfl (by kernel_rfl) (by kernel_rfl) (by kernel_rfl) (fun _ _ _ h => h)
          (Or.inr ⟨by rfl, by rfl⟩) hHeld9 ?_
        try simp only [Act.put, List.setIfInBounds_toArray, List.set_cons_zero, List.set_cons_succ]
        refine wpAnyH_take (i := 25) (oi := { dst := some 57, op := Op.unOp UnOp.not 4 (Operand.tmp 56), type := 4, pos := "more.go:16", after := #[{ on := 24, ground := Ground.data }, { on := 21, ground := Ground.guard }], guard := some (21, false) }) (v := undef) rfl (by kernel_rfl) (by kernel_rfl) (by kernel_rfl) (fun _ _ _ h => h)
          (Or.inr ⟨by rfl, by rfl⟩) hHeld9 ?_
        try simp only [Act.put, List.setIfInBounds_toArray, List.set_cons_zero, List.set_cons_succ]
        refine wpAnyH_take (i := 26) (oi := { dst := some 58, op := Op.pick (Operand.tmp 53) (Operand.const (Value.bool true)) (Operand.tmp 57), type := 4, pos := "more.go:16", after := #[{ on := 21, ground := Ground.data }, { on := 25, ground := Ground.data }, { on := 17, ground := Ground.guard }], guard := some (17, true) }) (v := .bool true) rfl (by kernel_rfl) (by kernel_rfl) (by kernel_rfl) (fun _ _ _ h => h)
          (Or.inl ⟨by rfl, by intro w hSw;  clear hSw; go_simp⟩) hHeld9 ?_
        try simp only [Act.put, List.setIfInBounds_toArray, List.set_cons_zero, List.set_cons_succ]
        refine wpAnyH_take (i := 27) (oi := { dst := some 59, op := Op.pick (Operand.tmp 49) (Operand.tmp 58) (Operand.const (Value.bool false)), type := 4, pos := "more.go:16", after := #[{ on := 17, ground := Ground.data }, { on := 26, ground := Ground.data }], guard := none }) (v := .bool true) rfl (by kernel_rfl) (by kernel_rfl) (by kernel_rfl) (fun _ _ _ h => h)
          (Or.inl ⟨by rfl, by intro w hSw;  clear hSw; go_simp⟩) hHeld9 ?_
        try simp only [Act.put, List.setIfInBounds_toArray, List.set_cons_zero, List.set_cons_succ]
        refine wpAnyH_take (i := 28) (oi := { dst := some 4, op := Op.assign (Operand.tmp 59), type := 4, pos := "more.go:16", after := #[{ on := 27, ground := Ground.data }, { on := 24, ground := Ground.chain }, { on := 0, ground := Ground.phase }, { on := 1, ground := Ground.phase }, { on := 2, ground := Ground.phase }, { on := 3, ground := Ground.phase }, { on := 4, ground := Ground.phase }, { on := 5, ground := Ground.phase }, { on := 6, ground := Ground.phase }, { on := 7, ground := Ground.phase }, { on := 8, ground := Ground.phase }, { on := 9, ground := Ground.phase }, { on := 10, ground := Ground.phase }, { on := 11, ground := Ground.phase }, { on := 12, ground := Ground.phase }, { on := 13, ground := Ground.phase }, { on := 14, ground := Ground.phase }, { on := 15, ground := Ground.phase }, { on := 16, ground := Ground.phase }, { on := 17, ground := Ground.phase }, { on := 18, ground := Ground.phase }, { on := 19, ground := Ground.phase }, { on := 20, ground := Ground.phase }, { on := 21, ground := Ground.phase }, { on := 22, ground := Ground.phase }, { on := 23, ground := Ground.phase }, { on := 24, ground := Ground.phase }, { on := 25, ground := Ground.phase }, { on := 26, ground := Ground.phase }, { on := 27, ground := Ground.phase }], guard := none }) (v := .bool true) rfl (by kernel_rfl) (by kernel_rfl) (by kernel_rfl) (fun _ _ _ h => h)
          (Or.inl ⟨by rfl, by intro w hSw;  clear hSw; go_simp⟩) hHeld9 ?_
        try simp only [Act.put, List.setIfInBounds_toArray, List.set_cons_zero, List.set_cons_succ]
        refine wpAnyH_done (by kernel_rfl) ?_ _
        clear hHeld9
        go_wp2_with fail
        go_ret
        exact ⟨rfl, by rw [← HG.out]; exact B9.out⟩
      · have heq : (PA.toList == PB.toList) = false := toL_no hpq
        have HNE := Lib.hid hpq
        clear hpq
        go_upto_region 5 with fail
        refine wp_region_held_drew (S := fun W => Has W G A 24 ∧ Has W (G + 1) B 24) (by kernel_rfl) ⟨P6.out.drew, Q6.out.drew⟩ (fun hHeld => ?_)
        obtain ⟨wd, hwd⟩ : ∃ wd, wd = w6.drew := ⟨_, rfl⟩
        have B7 : Hid (Below G w wd) := Lib.hid (by rw [hwd]; exact B6.out.drew)
        have P7 : Hid (Has wd G A 24) := Lib.hid (by rw [hwd]; exact P6.out.drew)
        have Q7 : Hid (Has wd (G + 1) B 24) := Lib.hid (by rw [hwd]; exact Q6.out.drew)
        rw [← hwd] at hHeld ⊢
        clear hwd P6 Q6 B6
        have hu26 := Tryz.underlying24
        refine wpAnyH_take (i := 0) (oi := { dst := some 32, op := Op.move (Operand.tmp 6), type := 27, pos := "more.go:16", after := #[], guard := none }) (v := .int .i64 0) rfl (by kernel_rfl) (by kernel_rfl) (by kernel_rfl) (fun _ _ _ h => h)
          (Or.inl ⟨by rfl, by intro w hSw;  clear hSw; go_simp⟩) hHeld ?_
        try simp only [Act.put, List.setIfInBounds_toArray, List.set_cons_zero, List.set_cons_succ]
        refine wpAnyH_take (i := 1) (oi := { dst := some 33, op := Op.binOp BinOp.eql 27 (Operand.tmp 32) (Operand.const (Value.int IntKind.i64 0)) 27, type := 4, pos := "more.go:16", after := #[{ on := 0, ground := Ground.data }], guard := none }) (v := .bool true) rfl (by kernel_rfl) (by kernel_rfl) (by kernel_rfl) (fun _ _ _ h => h)
          (Or.inl ⟨by rfl, by intro w hSw;  clear hSw; go_simp⟩) hHeld ?_
        try simp only [Act.put, List.setIfInBounds_toArray, List.set_cons_zero, List.set_cons_succ]
        refine wpAnyH_take (i := 2) (oi := { dst := some 34, op := Op.move (Operand.tmp 33), type := 4, pos := "more.go:16", after := #[{ on := 1, ground := Ground.data }], guard := none }) (v := .bool true) rfl (by kernel_rfl) (by kernel_rfl) (by kernel_rfl) (fun _ _ _ h => h)
          (Or.inl ⟨by rfl, by intro w hSw;  clear hSw; go_simp⟩) hHeld ?_
        try simp only [Act.put, List.setIfInBounds_toArray, List.set_cons_zero, List.set_cons_succ]
        refine wpAnyH_take (i := 3) (oi := { dst := some 35, op := Op.move (Operand.tmp 8), type := 27, pos := "more.go:16", after := #[{ on := 2, ground := Ground.guard }], guard := some (2, true) }) (v := .int .i64 0) rfl (by kernel_rfl) (by kernel_rfl) (by kernel_rfl) (fun _ _ _ h => h)
          (Or.inl ⟨by rfl, by intro w hSw;  clear hSw; go_simp⟩) hHeld ?_
        try simp only [Act.put, List.setIfInBounds_toArray, List.set_cons_zero, List.set_cons_succ]
        refine wpAnyH_take (i := 4) (oi := { dst := some 36, op := Op.binOp BinOp.eql 27 (Operand.tmp 35) (Operand.const (Value.int IntKind.i64 0)) 27, type := 4, pos := "more.go:16", after := #[{ on := 3, ground := Ground.data }, { on := 2, ground := Ground.guard }], guard := some (2, true) }) (v := .bool true) rfl (by kernel_rfl) (by kernel_rfl) (by kernel_rfl) (fun _ _ _ h => h)
          (Or.inl ⟨by rfl, by intro w hSw;  clear hSw; go_simp⟩) hHeld ?_
        try simp only [Act.put, List.setIfInBounds_toArray, List.set_cons_zero, List.set_cons_succ]
        refine wpAnyH_take (i := 5) (oi := { dst := some 37, op := Op.pick (Operand.tmp 34) (Operand.tmp 36) (Operand.const (Value.bool false)), type := 4, pos := "more.go:16", after := #[{ on := 2, ground := Ground.data }, { on := 4, ground := Ground.data }], guard := none }) (v := .bool true) rfl (by kernel_rfl) (by kernel_rfl) (by kernel_rfl) (fun _ _ _ h => h)
          (Or.inl ⟨by rfl, by intro w hSw;  clear hSw; go_simp⟩) hHeld ?_
        try simp only [Act.put, List.setIfInBounds_toArray, List.set_cons_zero, List.set_cons_succ]
        refine wpAnyH_take (i := 6) (oi := { dst := some 38, op := Op.move (Operand.tmp 37), type := 4, pos := "more.go:16", after := #[{ on := 5, ground := Ground.data }, { on := 2, ground := Ground.chain }], guard := none }) (v := .bool true) rfl (by kernel_rfl) (by kernel_rfl) (by kernel_rfl) (fun _ _ _ h => h)
          (Or.inl ⟨by rfl, by intro w hSw;  clear hSw; go_simp⟩) hHeld ?_
        try simp only [Act.put, List.setIfInBounds_toArray, List.set_cons_zero, List.set_cons_succ]
        refine wpAnyH_take (i := 7) (oi := { dst := some 39, op := Op.move (Operand.tmp 5), type := 9, pos := "more.go:16", after := #[{ on := 6, ground := Ground.guard }], guard := some (6, true) }) (v := .string PA) rfl (by kernel_rfl) (by kernel_rfl) (by kernel_rfl) (fun _ _ _ h => h)
          (Or.inl ⟨by rfl, by intro w hSw;  clear hSw; go_simp⟩) hHeld ?_
        try simp only [Act.put, List.setIfInBounds_toArray, List.set_cons_zero, List.set_cons_succ]
        refine wpAnyH_take (i := 8) (oi := { dst := some 40, op := Op.move (Operand.tmp 7), type := 9, pos := "more.go:16", after := #[{ on := 6, ground := Ground.guard }], guard := some (6, true) }) (v := .string PB) rfl (by kernel_rfl) (by kernel_rfl) (by kernel_rfl) (fun _ _ _ h => h)
          (Or.inl ⟨by rfl, by intro w hSw;  clear hSw; go_simp⟩) hHeld ?_
        try simp only [Act.put, List.setIfInBounds_toArray, List.set_cons_zero, List.set_cons_succ]
        refine wpAnyH_take (i := 9) (oi := { dst := some 41, op := Op.binOp BinOp.eql 9 (Operand.tmp 39) (Operand.tmp 40) 9, type := 4, pos := "more.go:16", after := #[{ on := 7, ground := Ground.data }, { on := 8, ground := Ground.data }, { on := 6, ground := Ground.guard }], guard := some (6, true) }) (v := .bool false) rfl (by kernel_rfl) (by kernel_rfl) (by kernel_rfl) (fun _ _ _ h => h)
          (Or.inl ⟨by rfl, by intro w hSw;  clear hSw; go_simp⟩) hHeld ?_
        try simp only [Act.put, List.setIfInBounds_toArray, List.set_cons_zero, List.set_cons_succ]
        refine wpAnyH_take (i := 10) (oi := { dst := some 42, op := Op.load 24 (Operand.tmp 2), type := 24, pos := "more.go:16", after := #[{ on := 6, ground := Ground.guard }], guard := some (6, true) }) rfl (by kernel_rfl) (by kernel_rfl) (by kernel_rfl) (fun _ _ _ h => h)
          (yieldsIf_load_mid (by rfl) 24 (.tmp 2) rfl G (0) rfl A _ (fun _ h => rangeAt_has h.1) hu26 rfl HNA.out) hHeld ?_
        try simp only [Act.put, List.setIfInBounds_toArray, List.set_cons_zero, List.set_cons_succ]
        refine wpAnyH_take (i := 12) (oi := { dst := some 44, op := Op.load 24 (Operand.tmp 3), type := 24, pos := "more.go:16", after := #[{ on := 6, ground := Ground.guard }], guard := some (6, true) }) rfl (by kernel_rfl) (by kernel_rfl) (by kernel_rfl) (fun _ _ _ h => h)
          (yieldsIf_load_mid (by rfl) 24 (.tmp 3) rfl (G + 1) (0) rfl B _ (fun _ h => rangeAt_has h.2) hu26 rfl HNB.out) hHeld ?_
        try simp only [Act.put, List.setIfInBounds_toArray, List.set_cons_zero, List.set_cons_succ]
        refine wpAnyH_ready (rs := [11]) (by kernel_rfl) (by simp) ?_
        refine AllReadyH.cons (o := { dst := some 43, op := Op.call { callee := Callee.value (Operand.func 12), args := #[Operand.tmp 42], argTypes := #[24] }, type := 9, pos := "more.go:16", after := #[{ on := 10, ground := Ground.data }, { on := 6, ground := Ground.chain }, { on := 6, ground := Ground.guard }], guard := some (6, true) }) rfl (fun K hK => ?_) AllReadyH.nil
        go_simp
        refine (KQA.out (by first | trivial | rfl) wd (J1A.out.later (by rw [← HG.out]; exact B7.out)) (J2A.out.later (by rw [← HG.out]; exact B7.out))).mono ?_
        rintro e w8 ⟨rfl, x8⟩
        have B8 : Hid (Below G w w8) := Lib.hid (B7.out.trans (x8.mono (Nat.le_of_lt P7.out.lt)))
        have P8 := Lib.hid (P7.out.below x8 P7.out.lt)
        have Q8 := Lib.hid (Q7.out.below x8 Q7.out.lt)
        go_wp2_with fail
        refine hK.out _ _ ⟨P8.out, Q8.out⟩ (fun hHeld8 => ?_)
        clear hK K hHeld x8 P7 Q7 B7
        try simp only [Act.put, List.setIfInBounds_toArray, List.set_cons_zero, List.set_cons_succ]
        refine wpAnyH_ready (rs := [13]) (by kernel_rfl) (by simp) ?_
        refine AllReadyH.cons (o := { dst := some 45, op := Op.call { callee := Callee.value (Operand.func 12), args := #[Operand.tmp 44], argTypes := #[24] }, type := 9, pos := "more.go:16", after := #[{ on := 12, ground := Ground.data }, { on := 11, ground := Ground.chain }, { on := 6, ground := Ground.guard }], guard := some (6, true) }) rfl (fun K hK => ?_) AllReadyH.nil
        go_simp
        refine (KQB.out (by first | trivial | rfl) w8 (J1B.out.later (by rw [← HG.out]; exact B8.out)) (J2B.out.later (by rw [← HG.out]; exact B8.out))).mono ?_
        rintro e w9 ⟨rfl, x9⟩
        have B9 : Hid (Below G w w9) := Lib.hid (B8.out.trans (x9.mono (Nat.le_of_lt P8.out.lt)))
        have P9 := Lib.hid (P8.out.below x9 P8.out.lt)
        have Q9 := Lib.hid (Q8.out.below x9 Q8.out.lt)
        go_wp2_with fail
        refine hK.out _ _ ⟨P9.out, Q9.out⟩ (fun hHeld9 => ?_)
        clear hK K hHeld8 x9 P8 Q8 B8
        try simp only [Act.put, List.setIfInBounds_toArray, List.set_cons_zero, List.set_cons_succ]
        refine wpAnyH_take (i := 14) (oi := { dst := some 46, op := Op.binOp BinOp.eql 9 (Operand.tmp 43) (Operand.tmp 45) 9, type := 4, pos := "more.go:16", after := #[{ on := 11, ground := Ground.data }, { on := 13, ground := Ground.data }, { on := 6, ground := Ground.guard }], guard := some (6, true) }) (v := .bool false) rfl (by kernel_rfl) (by kernel_rfl) (by kernel_rfl) (fun _ _ _ h => h)
          (Or.inl ⟨by rfl, by intro w hSw;  clear hSw; go_simp⟩) hHeld9 ?_
        try simp only [Act.put, List.setIfInBounds_toArray, List.set_cons_zero, List.set_cons_succ]
        refine wpAnyH_take (i := 15) (oi := { dst := some 47, op := Op.binOp BinOp.eql 4 (Operand.tmp 41) (Operand.tmp 46) 4, type := 4, pos := "more.go:16", after := #[{ on := 9, ground := Ground.data }, { on := 14, ground := Ground.data }, { on := 6, ground := Ground.guard }], guard := some (6, true) }) (v := .bool true) rfl (by kernel_rfl) (by kernel_rfl) (by kernel_rfl) (fun _ _ _ h => h)
          (Or.inl ⟨by rfl, by intro w hSw;  clear hSw; go_simp⟩) hHeld9 ?_
        try simp only [Act.put, List.setIfInBounds_toArray, List.set_cons_zero, List.set_cons_succ]
        refine wpAnyH_take (i := 16) (oi := { dst := some 48, op := Op.pick (Operand.tmp 38) (Operand.tmp 47) (Operand.const (Value.bool false)), type := 4, pos := "more.go:16", after := #[{ on := 6, ground := Ground.data }, { on := 15, ground := Ground.data }], guard := none }) (v := .bool true) rfl (by kernel_rfl) (by kernel_rfl) (by kernel_rfl) (fun _ _ _ h => h)
          (Or.inl ⟨by rfl, by intro w hSw;  clear hSw; go_simp⟩) hHeld9 ?_
        try simp only [Act.put, List.setIfInBounds_toArray, List.set_cons_zero, List.set_cons_succ]
        refine wpAnyH_take (i := 17) (oi := { dst := some 49, op := Op.move (Operand.tmp 48), type := 4, pos := "more.go:16", after := #[{ on := 16, ground := Ground.data }, { on := 13, ground := Ground.chain }], guard := none }) (v := .bool true) rfl (by kernel_rfl) (by kernel_rfl) (by kernel_rfl) (fun _ _ _ h => h)
          (Or.inl ⟨by rfl, by intro w hSw;  clear hSw; go_simp⟩) hHeld9 ?_
        try simp only [Act.put, List.setIfInBounds_toArray, List.set_cons_zero, List.set_cons_succ]
        refine wpAnyH_take (i := 18) (oi := { dst := some 50, op := Op.move (Operand.tmp 5), type := 9, pos := "more.go:16", after := #[{ on := 17, ground := Ground.guard }], guard := some (17, true) }) (v := .string PA) rfl (by kernel_rfl) (by kernel_rfl) (by kernel_rfl) (fun _ _ _ h => h)
          (Or.inl ⟨by rfl, by intro w hSw;  clear hSw; go_simp⟩) hHeld9 ?_
        try simp only [Act.put, List.setIfInBounds_toArray, List.set_cons_zero, List.set_cons_succ]
        refine wpAnyH_take (i := 19) (oi := { dst := some 51, op := Op.move (Operand.tmp 7), type := 9, pos := "more.go:16", after := #[{ on := 17, ground := Ground.guard }], guard := some (17, true) }) (v := .string PB) rfl (by kernel_rfl) (by kernel_rfl) (by kernel_rfl) (fun _ _ _ h => h)
          (Or.inl ⟨by rfl, by intro w hSw;  clear hSw; go_simp⟩) hHeld9 ?_
        try simp only [Act.put, List.setIfInBounds_toArray, List.set_cons_zero, List.set_cons_succ]
        refine wpAnyH_take (i := 20) (oi := { dst := some 52, op := Op.binOp BinOp.eql 9 (Operand.tmp 50) (Operand.tmp 51) 9, type := 4, pos := "more.go:16", after := #[{ on := 18, ground := Ground.data }, { on := 19, ground := Ground.data }, { on := 17, ground := Ground.guard }], guard := some (17, true) }) (v := .bool false) rfl (by kernel_rfl) (by kernel_rfl) (by kernel_rfl) (fun _ _ _ h => h)
          (Or.inl ⟨by rfl, by intro w hSw;  clear hSw; go_simp⟩) hHeld9 ?_
        try simp only [Act.put, List.setIfInBounds_toArray, List.set_cons_zero, List.set_cons_succ]
        refine wpAnyH_take (i := 21) (oi := { dst := some 53, op := Op.move (Operand.tmp 52), type := 4, pos := "more.go:16", after := #[{ on := 20, ground := Ground.data }, { on := 17, ground := Ground.chain }, { on := 17, ground := Ground.guard }], guard := some (17, true) }) (v := .bool false) rfl (by kernel_rfl) (by kernel_rfl) (by kernel_rfl) (fun _ _ _ h => h)
          (Or.inl ⟨by rfl, by intro w hSw;  clear hSw; go_simp⟩) hHeld9 ?_
        try simp only [Act.put, List.setIfInBounds_toArray, List.set_cons_zero, List.set_cons_succ]
        refine wpAnyH_take (i := 22) (oi := { dst := some 54, op := Op.load 24 (Operand.tmp 2), type := 24, pos := "more.go:16", after := #[{ on := 21, ground := Ground.guard }], guard := some (21, false) }) rfl (by kernel_rfl) (by kernel_rfl) (by kernel_rfl) (fun _ _ _ h => h)
          (yieldsIf_load_mid (by rfl) 24 (.tmp 2) rfl G (0) rfl A _ (fun _ h => rangeAt_has h.1) hu26 rfl HNA.out) hHeld9 ?_
        try simp only [Act.put, List.setIfInBounds_toArray, List.set_cons_zero, List.set_cons_succ]
        refine wpAnyH_take (i := 23) (oi := { dst := some 55, op := Op.load 24 (Operand.tmp 3), type := 24, pos := "more.go:16", after := #[{ on := 21, ground := Ground.guard }], guard := some (21, false) }) rfl (by kernel_rfl) (by kernel_rfl) (by kernel_rfl) (fun _ _ _ h => h)
          (yieldsIf_load_mid (by rfl) 24 (.tmp 3) rfl (G + 1) (0) rfl B _ (fun _ h => rangeAt_has h.2) hu26 rfl HNB.out) hHeld9 ?_
        try simp only [Act.put, List.setIfInBounds_toArray, List.set_cons_zero, List.set_cons_succ]
        refine wpAnyH_ready (rs := [24]) (by kernel_rfl) (by simp) ?_
        refine AllReadyH.cons (o := { dst := some 56, op := Op.call { callee := Callee.value (Operand.func 16), args := #[Operand.tmp 54, Operand.tmp 55], argTypes := #[24, 24] }, type := 4, pos := "more.go:16", after := #[{ on := 22, ground := Ground.data }, { on := 23, ground := Ground.data }, { on := 21, ground := Ground.chain }, { on := 21, ground := Ground.guard }], guard := some (21, false) }) rfl (fun K hK => ?_) AllReadyH.nil
        go_simp
        refine (KS.out w9 (J1A.out.later (by rw [← HG.out]; exact B9.out)) (J2A.out.later (by rw [← HG.out]; exact B9.out)) (J1B.out.later (by rw [← HG.out]; exact B9.out)) (J2B.out.later (by rw [← HG.out]; exact B9.out))).mono ?_
        rintro e w10 ⟨b, rfl, hb, x10⟩
        obtain rfl : b = false := by
          cases b with
          | false => rfl
          | true =>
            obtain ⟨g0, g3, g4, g1, g2⟩ := hb.1 rfl
            exact absurd (by rw [HPA.out, HPB.out, g0, g3, g4, g1, g2]) HNE.out
        have B10 : Hid (Below G w w10) := Lib.hid (B9.out.trans (x10.mono (Nat.le_of_lt P9.out.lt)))
        have P10 := Lib.hid (P9.out.below x10 P9.out.lt)
        have Q10 := Lib.hid (Q9.out.below x10 Q9.out.lt)
        go_wp2_with fail
        refine hK.out _ _ ⟨P10.out, Q10.out⟩ (fun hHeld10 => ?_)
        clear hK K hHeld9 x10 hb P9 Q9 B9
        try simp only [Act.put, List.setIfInBounds_toArray, List.set_cons_zero, List.set_cons_succ]
        refine wpAnyH_take (i := 25) (oi := { dst := some 57, op := Op.unOp UnOp.not 4 (Operand.tmp 56), type := 4, pos := "more.go:16", after := #[{ on := 24, ground := Ground.data }, { on := 21, ground := Ground.guard }], guard := some (21, false) }) (v := .bool true) rfl (by kernel_rfl) (by kernel_rfl) (by kernel_rfl) (fun _ _ _ h => h)
          (Or.inl ⟨by rfl, by intro w hSw;  clear hSw; go_simp⟩) hHeld10 ?_
        try simp only [Act.put, List.setIfInBounds_toArray, List.set_cons_zero, List.set_cons_succ]
        refine wpAnyH_take (i := 26) (oi := { dst := some 58, op := Op.pick (Operand.tmp 53) (Operand.const (Value.bool true)) (Operand.tmp 57), type := 4, pos := "more.go:16", after := #[{ on := 21, ground := Ground.data }, { on := 25, ground := Ground.data }, { on := 17, ground := Ground.guard }], guard := some (17, true) }) (v := .bool true) rfl (by kernel_rfl) (by kernel_rfl) (by kernel_rfl) (fun _ _ _ h => h)
          (Or.inl ⟨by rfl, by intro w hSw;  clear hSw; go_simp⟩) hHeld10 ?_
        try simp only [Act.put, List.setIfInBounds_toArray, List.set_cons_zero, List.set_cons_succ]
        refine wpAnyH_take (i := 27) (oi := { dst := some 59, op := Op.pick (Operand.tmp 49) (Operand.tmp 58) (Operand.const (Value.bool false)), type := 4, pos := "more.go:16", after := #[{ on := 17, ground := Ground.data }, { on := 26, ground := Ground.data }], guard := none }) (v := .bool true) rfl (by kernel_rfl) (by kernel_rfl) (by kernel_rfl) (fun _ _ _ h => h)
          (Or.inl ⟨by rfl, by intro w hSw;  clear hSw; go_simp⟩) hHeld10 ?_
        try simp only [Act.put, List.setIfInBounds_toArray, List.set_cons_zero, List.set_cons_succ]
        refine wpAnyH_take (i := 28) (oi := { dst := some 4, op := Op.assign (Operand.tmp 59), type := 4, pos := "more.go:16", after := #[{ on := 27, ground := Ground.data }, { on := 24, ground := Ground.chain }, { on := 0, ground := Ground.phase }, { on := 1, ground := Ground.phase }, { on := 2, ground := Ground.phase }, { on := 3, ground := Ground.phase }, { on := 4, ground := Ground.phase }, { on := 5, ground := Ground.phase }, { on := 6, ground := Ground.phase }, { on := 7, ground := Ground.phase }, { on := 8, ground := Ground.phase }, { on := 9, ground := Ground.phase }, { on := 10, ground := Ground.phase }, { on := 11, ground := Ground.phase }, { on := 12, ground := Ground.phase }, { on := 13, ground := Ground.phase }, { on := 14, ground := Ground.phase }, { on := 15, ground := Ground.phase }, { on := 16, ground := Ground.phase }, { on := 17, ground := Ground.phase }, { on := 18, ground := Ground.phase }, { on := 19, ground := Ground.phase }, { on := 20, ground := Ground.phase }, { on := 21, ground := Ground.phase }, { on := 22, ground := Ground.phase }, { on := 23, ground := Ground.phase }, { on := 24, ground := Ground.phase }, { on := 25, ground := Ground.phase }, { on := 26, ground := Ground.phase }, { on := 27, ground := Ground.phase }], guard := none }) (v := .bool true) rfl (by kernel_rfl) (by kernel_rfl) (by kernel_rfl) (fun _ _ _ h => h)
          (Or.inl ⟨by rfl, by intro w hSw;  clear hSw; go_simp⟩) hHeld10 ?_
        try simp only [Act.put, List.setIfInBounds_toArray, List.set_cons_zero, List.set_cons_succ]
        refine wpAnyH_done (by kernel_rfl) ?_ _
        clear hHeld10
        go_wp2_with fail
        go_ret
        exact ⟨rfl, by rw [← HG.out]; exact B10.out⟩
end Go.Proofs.YtokbakpbhpknfaaGreatDoor

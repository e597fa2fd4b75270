/-
  The path of a derivation: the contracts of the program's Path and the reference's. Conditions: bounds on the texts' sizes; what the program's text has laid.
-/
import Derived.Test.YtokbakpbhpknfaaGreatDoorDzMath
namespace Go.Proofs.YtokbakpbhpknfaaGreatDoor
open Go.RowKit
set_option linter.unusedVariables false

set_option maxRecDepth 100000 in
set_option maxHeartbeats 16000000 in
theorem dpath_any (s0 s3 s4 : ByteArray) (a1 a2 : Option Addr) (n1 c1 n2 c2 : Nat) (l1 l2 : List ByteArray) (w : World) (h1 : IsS w a1 n1 c1 l1) (h2 : IsS w a2 n2 c2 l2) (hsm : SmallD s0 l1 l2 s3 s4) (hl : LaidW w) :
    Calls Tryz.prog 8 #[.agg #[.string s0, .slice a1 n1 c1, .slice a2 n2 c2, .string s3, .string s4]] w (DPathP s0 l1 l2 s3 s4 w) := by
  have kT := fun (w : World) (h1 : IsS w a1 n1 c1 l1) (h2 : IsS w a2 n2 c2 l2) => dtext_any s0 s3 s4 a1 a2 n1 c1 n2 c2 l1 l2 w h1 h2 hsm.z1 hsm.z2 hsm.z0 hsm.z3 hsm.z4
  obtain ⟨L5, hL5⟩ : ∃ L : List Value, L = [.string s0, .slice a1 n1 c1, .slice a2 n2 c2, .string s3, .string s4] := ⟨_, rfl⟩
  have hag : (#[.string s0, .slice a1 n1 c1, .slice a2 n2 c2, .string s3, .string s4] : Array Value) = L5.toArray := by rw [hL5]
  have HLI : Hid ((Tryz.prog.info? 24).map (·.size) = some L5.toArray.size) := Lib.hid (by rw [hL5]; exact info_dL _ _ _ _ _ _ _ _ _)
  unfold DTextP at kT
  obtain ⟨f, hf⟩ : ∃ f, f = formB s0 l1 l2 s3 s4 := ⟨_, rfl⟩
  rw [← hf, hag] at kT
  have KT := Lib.hid kT
  have HF := Lib.hid hf
  have HL5 := Lib.hid hL5
  have I1 := Lib.hid h1
  have I2 := Lib.hid h2
  have HL := Lib.hid hl
  clear kT hf hL5 hag h1 h2 hl hsm
  go_enter Tryz.func8, Tryz.ntmps8
  go_upto_region 1 with fail
  obtain ⟨w1, hw1⟩ : ∃ w1, w1 = w.alloc (.cells #[.string s0, .slice a1 n1 c1, .slice a2 n2 c2, .string s3, .string s4] 24) := ⟨_, rfl⟩
  have g1 : Has w1 w.heap.size L5 24 := by rw [hw1, HL5.out]; exact Has.new w _ _
  have bl1 : Below w.heap.size w w1 := by rw [hw1]; exact (Below.refl _ _).alloc (Nat.le_refl _) _
  rw [← hw1]
  obtain ⟨G, hG⟩ : ∃ G, G = w.heap.size := ⟨_, rfl⟩
  rw [← hG] at g1 bl1 ⊢
  have HG := Lib.hid hG
  have G1 := Lib.hid g1
  have B1 := Lib.hid bl1
  clear hw1 g1 bl1 hG
  go_wp2_with (refine wpList_load_row rfl 24 _ rfl G rfl 24 L5.toArray (0, 0) _ G1.out Tryz.underlying24 rfl HLI.out ?_)
  refine (KT.out w1 (I1.out.later (by rw [← HG.out]; exact B1.out)) (I2.out.later (by rw [← HG.out]; exact B1.out))).mono ?_
  rintro e w2 ⟨p1, p2, x2⟩
  have B2 : Hid (Below G w w2) := Lib.hid (B1.out.trans (x2.mono (Nat.le_of_lt G1.out.lt)))
  have G2 := Lib.hid (G1.out.below x2 G1.out.lt)
  clear x2 G1 B1 KT
  cases f with
  | false =>
    have he := p2 rfl
    subst he
    clear p1 p2
    go_wp2_with fail
    go_ret2
    exact ⟨(fun h => by rw [← HF.out] at h; cases h), (fun _ => rfl), by rw [← HG.out]; exact B2.out⟩
  | true =>
    have he := p1 rfl
    subst he
    clear p1 p2
    have htl := formB_text HF.out.symm
    obtain ⟨hnm, h36, _⟩ := name_of HF.out.symm
    obtain ⟨X, hX⟩ : ∃ X, X = bs (dtextB s0 l1 l2 s3 s4) := ⟨_, rfl⟩
    have hXl : X.data.toList = dtextB s0 l1 l2 s3 s4 := by rw [hX]; rfl
    have hXs : X.size ≤ 1000000 := by rw [hX, bs_size]; exact htl
    obtain ⟨Y, hY⟩ : ∃ Y, Y = s0 ++ (⟨#[46, 100, 114, 118]⟩ : ByteArray) := ⟨_, rfl⟩
    have hYn : Nam.isName Y.data.toList = true := by rw [hY, ext_list]; exact isName_ext hnm (by simpa using h36)
    have hYs : Y.size ≤ 40 := by rw [hY, ByteArray.size_append]; show s0.size + 4 ≤ 40; omega
    obtain ⟨D, hD⟩ : ∃ D, D = dgB X.data.toList := ⟨_, rfl⟩
    have hDl : D.length = 32 := by rw [hD]; exact dgB_length _
    obtain ⟨C, hC⟩ : ∃ C, C = (D.map Nam.bv).toArray := ⟨_, rfl⟩
    obtain ⟨Q, hQ⟩ : ∃ Q, Q = dpathB s0 l1 l2 s3 s4 := ⟨_, rfl⟩
    have hk1 := fun (w : World) (h : LaidW w) => of_text X w (by omega) h
    rw [← hD, ← hC] at hk1
    have hk2 := fun (w : World) (h : LaidW w) => nmake_any ⟨#[116, 101, 120, 116]⟩ Y D w h (by decide) hDl (by omega)
    rw [makeV_name hYn, ← hC, show Nam.pathB (fd (mkT (⟨#[116, 101, 120, 116]⟩ : ByteArray).data.toList D Y.data.toList)) Y = Q by rw [hQ, hD, hXl, hY, ext_list]; rfl] at hk2
    have HQ := Lib.hid hQ
    have K1 := Lib.hid hk1
    have K2 := Lib.hid hk2
    have HY := Lib.hid hY.symm
    rw [← hX]
    clear htl hnm hX hXl hYn hYs hDl hC hQ hk1 hk2 hY hD
    go_upto_region 4 with fail
    refine wp_region_held_drew (S := fun W => Has W G L5 24) (by kernel_rfl) G2.out.drew (fun hHeld => ?_)
    obtain ⟨wd, hwd⟩ : ∃ wd, wd = w2.drew := ⟨_, rfl⟩
    have BD : Hid (Below G w wd) := Lib.hid (by rw [hwd]; exact B2.out.drew)
    have GD : Hid (Has wd G L5 24) := Lib.hid (by rw [hwd]; exact G2.out.drew)
    rw [← hwd] at hHeld ⊢
    clear hwd G2 B2
    refine wpAnyH_take (i := 0) (oi := { dst := some 14, op := Op.move (Operand.tmp 4), type := 9, pos := "drv.go:93", after := #[], guard := none }) (v := .string X) rfl (by kernel_rfl) (by kernel_rfl) (by kernel_rfl) (fun _ _ _ h => h)
      (Or.inl ⟨by rfl, by intro w hSw;  clear hSw; go_simp⟩) hHeld ?_
    try simp only [Act.put, List.setIfInBounds_toArray, List.set_cons_zero, List.set_cons_succ]
    refine wpAnyH_take (i := 3) (oi := { dst := some 17, op := Op.fieldAddr 24 (Operand.tmp 1) 0, type := 0, pos := "drv.go:93", after := #[], guard := none }) (v := .pointer (some ⟨G, 0, none⟩)) rfl (by kernel_rfl) (by kernel_rfl) (by kernel_rfl) (fun _ _ _ h => h)
      (Or.inl ⟨by rfl, by intro w hSw;  clear hSw; go_simp⟩) hHeld ?_
    try simp only [Act.put, List.setIfInBounds_toArray, List.set_cons_zero, List.set_cons_succ]
    refine wpAnyH_take (i := 4) (oi := { dst := some 18, op := Op.load 9 (Operand.tmp 17), type := 9, pos := "drv.go:93", after := #[{ on := 3, ground := Ground.data }], guard := none }) (v := .string s0) rfl (by kernel_rfl) (by kernel_rfl) (by kernel_rfl) (fun _ _ _ h => h)
      (Or.inl ⟨by rfl, by intro w hSw; have hc9 : w.cell? ⟨G, 0, none⟩ = some (Value.string s0) := hSw.cellAt (i := 0) (by rw [HL5.out]; rfl); clear hSw; go_simp⟩) hHeld ?_
    try simp only [Act.put, List.setIfInBounds_toArray, List.set_cons_zero, List.set_cons_succ]
    refine wpAnyH_take (i := 5) (oi := { dst := some 19, op := Op.binOp BinOp.add 9 (Operand.tmp 18) (Operand.const (Value.string { data := #[46, 100, 114, 118] })) 9, type := 9, pos := "drv.go:93", after := #[{ on := 4, ground := Ground.data }], guard := none }) (v := .string Y) rfl (by kernel_rfl) (by kernel_rfl) (by kernel_rfl) (fun _ _ _ h => h)
      (Or.inl ⟨by rfl, by intro w hSw; have hy9 := HY.out; clear hSw; go_simp; all_goals omega⟩) hHeld ?_
    try simp only [Act.put, List.setIfInBounds_toArray, List.set_cons_zero, List.set_cons_succ]
    have hcv := Lib.run_convert_string_bytes (P := Tryz.prog) wd 9 45 5 X Tryz.underlying9 Tryz.underlying45 Tryz.underlying5
    refine wpAnyH_ready (rs := [1]) (by kernel_rfl) (by simp) ?_
    refine AllReadyH.cons (o := { dst := some 15, op := Op.convert 9 45 (Operand.tmp 14), type := 45, pos := "drv.go:93", after := #[{ on := 0, ground := Ground.data }], guard := none }) rfl (fun K hK => ?_) AllReadyH.nil
    go_simp
    clear hcv
    refine hK.out _ _ (GD.out.below (below_bytes _ _) GD.out.lt) (fun hHeld2 => ?_)
    clear hK K hHeld
    try simp only [Act.put, List.setIfInBounds_toArray, List.set_cons_zero, List.set_cons_succ]
    refine wpAnyH_ready (rs := [2]) (by kernel_rfl) (by simp) ?_
    refine AllReadyH.cons (o := { dst := some 16, op := Op.call { callee := Callee.value (Operand.func 19), args := #[Operand.tmp 15], argTypes := #[45] }, type := 30, pos := "drv.go:93", after := #[{ on := 1, ground := Ground.data }], guard := none }) rfl (fun K hK => ?_) AllReadyH.nil
    go_simp
    refine (K1.out wd (HL.out.later (by rw [← HG.out]; exact BD.out))).mono ?_
    rintro e w3 ⟨rfl, x3⟩
    have B3 : Hid (Below G w w3) := Lib.hid (BD.out.trans (x3.mono (Nat.le_of_lt GD.out.lt)))
    have G3 := Lib.hid (GD.out.below x3 GD.out.lt)
    clear x3
    go_wp2_with fail
    refine hK.out _ _ G3.out (fun hHeld3 => ?_)
    clear hK K hHeld2 GD BD
    try simp only [Act.put, List.setIfInBounds_toArray, List.set_cons_zero, List.set_cons_succ]
    refine wpAnyH_ready (rs := [6]) (by kernel_rfl) (by simp) ?_
    refine AllReadyH.cons (o := { dst := some 20, op := Op.call { callee := Callee.value (Operand.func 18), args := #[Operand.const (Value.string { data := #[116, 101, 120, 116] }), Operand.tmp 16, Operand.tmp 19], argTypes := #[9, 30, 9] }, type := 28, pos := "drv.go:93", after := #[{ on := 2, ground := Ground.data }, { on := 5, ground := Ground.data }, { on := 2, ground := Ground.chain }], guard := none }) rfl (fun K hK => ?_) AllReadyH.nil
    go_simp
    refine (K2.out w3 (HL.out.later (by rw [← HG.out]; exact B3.out))).mono ?_
    rintro e w4 ⟨rfl, x4⟩
    have B4 : Hid (Below G w w4) := Lib.hid (B3.out.trans (x4.mono (Nat.le_of_lt G3.out.lt)))
    have G4 := Lib.hid (G3.out.below x4 G3.out.lt)
    clear x4
    go_wp2_with fail
    refine hK.out _ _ G4.out (fun hHeld4 => ?_)
    clear hK K hHeld3 G3 B3
    try simp only [Act.put, List.setIfInBounds_toArray, List.set_cons_zero, List.set_cons_succ]
    refine wpAnyH_take (i := 7) (oi := { dst := some 21, op := Op.extract (Operand.tmp 20) 0, type := 9, pos := "drv.go:93", after := #[{ on := 6, ground := Ground.data }], guard := none }) (v := .string Q) rfl (by kernel_rfl) (by kernel_rfl) (by kernel_rfl) (fun _ _ _ h => h)
      (Or.inl ⟨by rfl, by intro w hSw;  clear hSw; go_simp⟩) hHeld4 ?_
    try simp only [Act.put, List.setIfInBounds_toArray, List.set_cons_zero, List.set_cons_succ]
    refine wpAnyH_take (i := 8) (oi := { dst := some 22, op := Op.extract (Operand.tmp 20) 1, type := 27, pos := "drv.go:93", after := #[{ on := 6, ground := Ground.data }], guard := none }) (v := .int .i64 0) rfl (by kernel_rfl) (by kernel_rfl) (by kernel_rfl) (fun _ _ _ h => h)
      (Or.inl ⟨by rfl, by intro w hSw;  clear hSw; go_simp⟩) hHeld4 ?_
    try simp only [Act.put, List.setIfInBounds_toArray, List.set_cons_zero, List.set_cons_succ]
    refine wpAnyH_take (i := 9) (oi := { dst := some 2, op := Op.assign (Operand.tmp 21), type := 9, pos := "drv.go:93", after := #[{ on := 7, ground := Ground.data }, { on := 6, ground := Ground.chain }, { on := 0, ground := Ground.phase }, { on := 1, ground := Ground.phase }, { on := 2, ground := Ground.phase }, { on := 3, ground := Ground.phase }, { on := 4, ground := Ground.phase }, { on := 5, ground := Ground.phase }, { on := 6, ground := Ground.phase }, { on := 7, ground := Ground.phase }, { on := 8, ground := Ground.phase }], guard := none }) (v := .string Q) rfl (by kernel_rfl) (by kernel_rfl) (by kernel_rfl) (fun _ _ _ h => h)
      (Or.inl ⟨by rfl, by intro w hSw;  clear hSw; go_simp⟩) hHeld4 ?_
    try simp only [Act.put, List.setIfInBounds_toArray, List.set_cons_zero, List.set_cons_succ]
    refine wpAnyH_take (i := 10) (oi := { dst := some 3, op := Op.assign (Operand.tmp 22), type := 27, pos := "drv.go:93", after := #[{ on := 8, ground := Ground.data }, { on := 9, ground := Ground.chain }, { on := 0, ground := Ground.phase }, { on := 1, ground := Ground.phase }, { on := 2, ground := Ground.phase }, { on := 3, ground := Ground.phase }, { on := 4, ground := Ground.phase }, { on := 5, ground := Ground.phase }, { on := 6, ground := Ground.phase }, { on := 7, ground := Ground.phase }, { on := 8, ground := Ground.phase }, { on := 9, ground := Ground.phase }], guard := none }) (v := .int .i64 0) rfl (by kernel_rfl) (by kernel_rfl) (by kernel_rfl) (fun _ _ _ h => h)
      (Or.inl ⟨by rfl, by intro w hSw;  clear hSw; go_simp⟩) hHeld4 ?_
    try simp only [Act.put, List.setIfInBounds_toArray, List.set_cons_zero, List.set_cons_succ]
    refine wpAnyH_done (by kernel_rfl) ?_ _
    clear hHeld4
    go_wp2_with fail
    go_ret2
    exact ⟨(fun _ => by rw [← HQ.out]; rfl), (fun h => by rw [← HF.out] at h; cases h), by rw [← HG.out]; exact B4.out⟩

set_option maxRecDepth 100000 in
set_option maxHeartbeats 16000000 in
/-- The reference's, of a right derivation. -/
theorem rdpath_any (s0 s3 s4 : ByteArray) (a1 a2 : Option Addr) (n1 c1 n2 c2 : Nat) (l1 l2 : List ByteArray) (w : World) (h1 : IsS w a1 n1 c1 l1) (h2 : IsS w a2 n2 c2 l2) (hf : formB s0 l1 l2 s3 s4 = true) :
    Calls Tryz.prog 12 #[.agg #[.string s0, .slice a1 n1 c1, .slice a2 n2 c2, .string s3, .string s4]] w fun e w' => e = .returned (.string (dpathB s0 l1 l2 s3 s4)) ∧ Below w.heap.size w w' := by
  obtain ⟨L5, hL5⟩ : ∃ L : List Value, L = [.string s0, .slice a1 n1 c1, .slice a2 n2 c2, .string s3, .string s4] := ⟨_, rfl⟩
  have hag : (#[.string s0, .slice a1 n1 c1, .slice a2 n2 c2, .string s3, .string s4] : Array Value) = L5.toArray := by rw [hL5]
  have HLIL : Hid ((Tryz.prog.info? 24).map (·.size) = some L5.length) := Lib.hid (by rw [hL5, info_drv]; rfl)
  have hgd := formB_good hf
  have htl := formB_text hf
  obtain ⟨hnm, h36, _⟩ := name_of hf
  obtain ⟨X, hX⟩ : ∃ X, X = bs (dtextB s0 l1 l2 s3 s4) := ⟨_, rfl⟩
  have hXl : X.data.toList = dtextB s0 l1 l2 s3 s4 := by rw [hX]; rfl
  have hXs : X.size ≤ 1000000 := by rw [hX, bs_size]; exact htl
  obtain ⟨Y, hY⟩ : ∃ Y, Y = s0 ++ (⟨#[46, 100, 114, 118]⟩ : ByteArray) := ⟨_, rfl⟩
  have hYs : Y.size ≤ 40 := by rw [hY, ByteArray.size_append]; show s0.size + 4 ≤ 40; omega
  obtain ⟨D, hD⟩ : ∃ D, D = dgB X.data.toList := ⟨_, rfl⟩
  have hDl : D.length = 32 := by rw [hD]; exact dgB_length _
  obtain ⟨C, hC⟩ : ∃ C, C = (D.map Nam.bv).toArray := ⟨_, rfl⟩
  obtain ⟨Q, hQ⟩ : ∃ Q, Q = dpathB s0 l1 l2 s3 s4 := ⟨_, rfl⟩
  have kX := fun (w : World) (h2 : IsS w a2 n2 c2 l2) (h1 : IsS w a1 n1 c1 l1) => rtext_any s0 s3 s4 a1 a2 a1 n1 c1 n2 c2 n1 c1 l2 l1 w h2 h1 (by have := hgd.n2; have := h2.length; omega) (by have := hgd.n1; have := h1.length; omega) hgd.z2 hgd.z1 hgd.z0 hgd.z3 hgd.z4
  rw [← hX, hag] at kX
  have hk1 := fun (w : World) => sum_text X w (by omega)
  rw [← hD, ← hC] at hk1
  have hk2 := fun (w : World) => rmake_yes ⟨#[116, 101, 120, 116]⟩ Y D w (by decide) hDl hYs
  rw [← hC, show Nam.pathB (fd (mkT (⟨#[116, 101, 120, 116]⟩ : ByteArray).data.toList D Y.data.toList)) Y = Q by rw [hQ, hD, hXl, hY, ext_list]; rfl] at hk2
  have HQ := Lib.hid hQ
  have KX := Lib.hid kX
  have K1 := Lib.hid hk1
  have K2 := Lib.hid hk2
  have HY := Lib.hid hY.symm
  have HL5 := Lib.hid hL5
  have I1 := Lib.hid h1
  have I2 := Lib.hid h2
  rw [← hQ]
  have hsz0 : s0.size ≤ 36 := h36
  clear htl hnm h36 hX hXl hYs hDl hC hQ hk1 hk2 hY hD hL5 hag hgd kX h1 h2 hf
  go_enter Tryz.func12, Tryz.ntmps12
  go_upto_region 1 with fail
  obtain ⟨w1, hw1⟩ : ∃ w1, w1 = w.alloc (.cells #[.string s0, .slice a1 n1 c1, .slice a2 n2 c2, .string s3, .string s4] 24) := ⟨_, rfl⟩
  have g1 : Has w1 w.heap.size L5 24 := by rw [hw1, HL5.out]; exact Has.new w _ _
  have bl1 : Below w.heap.size w w1 := by rw [hw1]; exact (Below.refl _ _).alloc (Nat.le_refl _) _
  rw [← hw1]
  obtain ⟨G, hG⟩ : ∃ G, G = w.heap.size := ⟨_, rfl⟩
  rw [← hG] at g1 bl1 ⊢
  have HG := Lib.hid hG
  have G1 := Lib.hid g1
  have B1 := Lib.hid bl1
  clear hw1 g1 bl1 hG
  refine wp_region_held_drew (S := fun W => Has W G L5 24) (by kernel_rfl) G1.out.drew (fun hHeld => ?_)
  obtain ⟨wd, hwd⟩ : ∃ wd, wd = w1.drew := ⟨_, rfl⟩
  have BD : Hid (Below G w wd) := Lib.hid (by rw [hwd]; exact B1.out.drew)
  have GD : Hid (Has wd G L5 24) := Lib.hid (by rw [hwd]; exact G1.out.drew)
  rw [← hwd] at hHeld ⊢
  clear hwd G1 B1
  have hu26 := Tryz.underlying24
  refine wpAnyH_take (i := 0) (oi := { dst := some 3, op := Op.load 24 (Operand.tmp 1), type := 24, pos := "ref.go:156", after := #[], guard := none }) rfl (by kernel_rfl) (by kernel_rfl) (by kernel_rfl) (fun _ _ _ h => h)
    (yieldsIf_load_mid (by rfl) 24 (.tmp 1) rfl G (0) rfl L5 _ (fun _ h => rangeAt_has h) hu26 rfl HLIL.out) hHeld ?_
  try simp only [Act.put, List.setIfInBounds_toArray, List.set_cons_zero, List.set_cons_succ]
  refine wpAnyH_take (i := 1) (oi := { dst := some 4, op := Op.fieldAddr 24 (Operand.tmp 1) 1, type := 0, pos := "ref.go:156", after := #[], guard := none }) (v := .pointer (some ⟨G, 1, none⟩)) rfl (by kernel_rfl) (by kernel_rfl) (by kernel_rfl) (fun _ _ _ h => h)
    (Or.inl ⟨by rfl, by intro w hSw;  clear hSw; go_simp⟩) hHeld ?_
  try simp only [Act.put, List.setIfInBounds_toArray, List.set_cons_zero, List.set_cons_succ]
  refine wpAnyH_take (i := 2) (oi := { dst := some 5, op := Op.load 22 (Operand.tmp 4), type := 22, pos := "ref.go:156", after := #[{ on := 1, ground := Ground.data }], guard := none }) (v := .slice a1 n1 c1) rfl (by kernel_rfl) (by kernel_rfl) (by kernel_rfl) (fun _ _ _ h => h)
    (Or.inl ⟨by rfl, by intro w hSw; have hc9 : w.cell? ⟨G, 1, none⟩ = some (Value.slice a1 n1 c1) := hSw.cellAt (i := 1) (by rw [HL5.out]; rfl); clear hSw; go_simp⟩) hHeld ?_
  try simp only [Act.put, List.setIfInBounds_toArray, List.set_cons_zero, List.set_cons_succ]
  refine wpAnyH_take (i := 6) (oi := { dst := some 9, op := Op.fieldAddr 24 (Operand.tmp 1) 0, type := 0, pos := "ref.go:156", after := #[], guard := none }) (v := .pointer (some ⟨G, 0, none⟩)) rfl (by kernel_rfl) (by kernel_rfl) (by kernel_rfl) (fun _ _ _ h => h)
    (Or.inl ⟨by rfl, by intro w hSw;  clear hSw; go_simp⟩) hHeld ?_
  try simp only [Act.put, List.setIfInBounds_toArray, List.set_cons_zero, List.set_cons_succ]
  refine wpAnyH_take (i := 7) (oi := { dst := some 10, op := Op.load 9 (Operand.tmp 9), type := 9, pos := "ref.go:156", after := #[{ on := 6, ground := Ground.data }], guard := none }) (v := .string s0) rfl (by kernel_rfl) (by kernel_rfl) (by kernel_rfl) (fun _ _ _ h => h)
    (Or.inl ⟨by rfl, by intro w hSw; have hc9 : w.cell? ⟨G, 0, none⟩ = some (Value.string s0) := hSw.cellAt (i := 0) (by rw [HL5.out]; rfl); clear hSw; go_simp⟩) hHeld ?_
  try simp only [Act.put, List.setIfInBounds_toArray, List.set_cons_zero, List.set_cons_succ]
  refine wpAnyH_take (i := 8) (oi := { dst := some 11, op := Op.binOp BinOp.add 9 (Operand.tmp 10) (Operand.const (Value.string { data := #[46, 100, 114, 118] })) 9, type := 9, pos := "ref.go:156", after := #[{ on := 7, ground := Ground.data }], guard := none }) (v := .string Y) rfl (by kernel_rfl) (by kernel_rfl) (by kernel_rfl) (fun _ _ _ h => h)
    (Or.inl ⟨by rfl, by intro w hSw; have hy9 := HY.out; clear hSw; go_simp; all_goals omega⟩) hHeld ?_
  try simp only [Act.put, List.setIfInBounds_toArray, List.set_cons_zero, List.set_cons_succ]
  refine wpAnyH_ready (rs := [3]) (by kernel_rfl) (by simp) ?_
  refine AllReadyH.cons (o := { dst := some 6, op := Op.call { callee := Callee.value (Operand.func 30), args := #[Operand.tmp 3, Operand.tmp 5], argTypes := #[24, 22] }, type := 9, pos := "ref.go:156", after := #[{ on := 0, ground := Ground.data }, { on := 2, ground := Ground.data }], guard := none }) rfl (fun K hK => ?_) AllReadyH.nil
  go_simp
  refine (KX.out wd (I2.out.later (by rw [← HG.out]; exact BD.out)) (I1.out.later (by rw [← HG.out]; exact BD.out))).mono ?_
  rintro e w2 ⟨rfl, x2⟩
  have B2 : Hid (Below G w w2) := Lib.hid (BD.out.trans (x2.mono (Nat.le_of_lt GD.out.lt)))
  have G2 := Lib.hid (GD.out.below x2 GD.out.lt)
  clear x2
  go_wp2_with fail
  refine hK.out _ _ G2.out (fun hHeld1 => ?_)
  clear hK K hHeld GD BD
  try simp only [Act.put, List.setIfInBounds_toArray, List.set_cons_zero, List.set_cons_succ]
  have hcv := Lib.run_convert_string_bytes (P := Tryz.prog) w2 9 45 5 X Tryz.underlying9 Tryz.underlying45 Tryz.underlying5
  refine wpAnyH_ready (rs := [4]) (by kernel_rfl) (by simp) ?_
  refine AllReadyH.cons (o := { dst := some 7, op := Op.convert 9 45 (Operand.tmp 6), type := 45, pos := "ref.go:156", after := #[{ on := 3, ground := Ground.data }], guard := none }) rfl (fun K hK => ?_) AllReadyH.nil
  go_simp
  clear hcv
  refine hK.out _ _ (G2.out.below (below_bytes _ _) G2.out.lt) (fun hHeld2 => ?_)
  clear hK K hHeld1
  try simp only [Act.put, List.setIfInBounds_toArray, List.set_cons_zero, List.set_cons_succ]
  refine wpAnyH_ready (rs := [5]) (by kernel_rfl) (by simp) ?_
  refine AllReadyH.cons (o := { dst := some 8, op := Op.call { callee := Callee.value (Operand.func 29), args := #[Operand.tmp 7], argTypes := #[45] }, type := 30, pos := "ref.go:156", after := #[{ on := 4, ground := Ground.data }, { on := 3, ground := Ground.chain }], guard := none }) rfl (fun K hK => ?_) AllReadyH.nil
  go_simp
  refine (K1.out w2).mono ?_
  rintro e w3 ⟨rfl, x3⟩
  have B3 : Hid (Below G w w3) := Lib.hid (B2.out.trans (x3.mono (Nat.le_of_lt G2.out.lt)))
  have G3 := Lib.hid (G2.out.below x3 G2.out.lt)
  clear x3
  go_wp2_with fail
  refine hK.out _ _ G3.out (fun hHeld3 => ?_)
  clear hK K hHeld2 G2 B2
  try simp only [Act.put, List.setIfInBounds_toArray, List.set_cons_zero, List.set_cons_succ]
  refine wpAnyH_ready (rs := [9]) (by kernel_rfl) (by simp) ?_
  refine AllReadyH.cons (o := { dst := some 12, op := Op.call { callee := Callee.value (Operand.func 28), args := #[Operand.const (Value.string { data := #[116, 101, 120, 116] }), Operand.tmp 8, Operand.tmp 11], argTypes := #[9, 30, 9] }, type := 9, pos := "ref.go:156", after := #[{ on := 5, ground := Ground.data }, { on := 8, ground := Ground.data }, { on := 5, ground := Ground.chain }], guard := none }) rfl (fun K hK => ?_) AllReadyH.nil
  go_simp
  refine (K2.out w3).mono ?_
  rintro e w4 ⟨rfl, x4⟩
  have B4 : Hid (Below G w w4) := Lib.hid (B3.out.trans (x4.mono (Nat.le_of_lt G3.out.lt)))
  have G4 := Lib.hid (G3.out.below x4 G3.out.lt)
  clear x4
  go_wp2_with fail
  refine hK.out _ _ G4.out (fun hHeld4 => ?_)
  clear hK K hHeld3 G3 B3
  try simp only [Act.put, List.setIfInBounds_toArray, List.set_cons_zero, List.set_cons_succ]
  refine wpAnyH_take (i := 10) (oi := { dst := some 2, op := Op.assign (Operand.tmp 12), type := 9, pos := "ref.go:156", after := #[{ on := 9, ground := Ground.data }, { on := 9, ground := Ground.chain }, { on := 0, ground := Ground.phase }, { on := 1, ground := Ground.phase }, { on := 2, ground := Ground.phase }, { on := 3, ground := Ground.phase }, { on := 4, ground := Ground.phase }, { on := 5, ground := Ground.phase }, { on := 6, ground := Ground.phase }, { on := 7, ground := Ground.phase }, { on := 8, ground := Ground.phase }, { on := 9, ground := Ground.phase }], guard := none }) (v := .string Q) rfl (by kernel_rfl) (by kernel_rfl) (by kernel_rfl) (fun _ _ _ h => h)
    (Or.inl ⟨by rfl, by intro w hSw;  clear hSw; go_simp⟩) hHeld4 ?_
  try simp only [Act.put, List.setIfInBounds_toArray, List.set_cons_zero, List.set_cons_succ]
  refine wpAnyH_done (by kernel_rfl) ?_ _
  clear hHeld4
  go_wp2_with fail
  go_ret
  exact ⟨rfl, by rw [← HG.out]; exact B4.out⟩
end Go.Proofs.YtokbakpbhpknfaaGreatDoor

/-
  The walk of the law DrvTexts. Condition: the derivation is no longer than memory.
-/
import Derived.Test.YtokbakpbhpknfaaDvAwake
import Derived.Test.YtokbakpbhpknfaaDvOpen
namespace Go.Proofs.Ytokbakpbhpknfaa
open Go.RowKit
set_option linter.unusedVariables false

theorem rangeAt_has {w : World} {b : Nat} {L : List Value} {t : TypeId} (h : Has w b L t) : w.rangeAt b 0 L := fun j v hj => by
  rw [Nat.zero_add]; exact h.cellAt hj
theorem bs_back (s : ByteArray) : bs s.data.toList = s := by unfold bs; rfl
theorem map_back (l : List ByteArray) : (lsts l).map bs = l := by
  unfold lsts; rw [List.map_map]; exact List.map_id l
/-- The derivation of these texts. -/
def dvOf (s0 : ByteArray) (l1 l2 : List ByteArray) (s3 s4 : ByteArray) : Dv := ⟨s0.data.toList, lsts l1, lsts l2, s3.data.toList, s4.data.toList⟩
theorem dvOf_text (s0 : ByteArray) (l1 l2 : List ByteArray) (s3 s4 : ByteArray) : dtext (dvOf s0 l1 l2 s3 s4) (dvOf s0 l1 l2 s3 s4).drvs = dtextB s0 l1 l2 s3 s4 := rfl
theorem readD_text {s0 : ByteArray} {l1 l2 : List ByteArray} {s3 s4 : ByteArray} (h : formB s0 l1 l2 s3 s4 = true) : readD (dtextB s0 l1 l2 s3 s4) = (dvOf s0 l1 l2 s3 s4, 0) := by
  have h1 := dwhole_text (dvOf s0 l1 l2 s3 s4)
  rw [dvOf_text] at h1
  rw [readD_some h1, if_pos]
  refine ⟨?_, dvOf_text _ _ _ _ _⟩
  unfold formDv dvOf
  simp only [bs_back, map_back]; exact h
theorem dlist_le (l : List ByteArray) (hn : l.length ≤ 32) (hs : ∀ s ∈ l, s.size ≤ 100) : (dlist (lsts l)).length ≤ 10000 := by
  have h := joinD_len 202 ((lsts l).map dquote) (fun a ha => by
    obtain ⟨b, hb, rfl⟩ := List.mem_map.1 ha
    obtain ⟨s, hs', rfl⟩ := List.mem_map.1 hb
    have := dquote_len s.data.toList
    have := hs s hs'
    have e : s.data.toList.length = s.size := by simp
    omega)
  have hl : (lsts l).length = l.length := by simp [lsts]
  simp only [List.length_map] at h
  rw [hl] at h
  have : l.length * (202 + 1) ≤ 32 * (202 + 1) := Nat.mul_le_mul_right _ hn
  unfold dlist; simp only [List.length_cons, List.length_append, List.length_nil]; omega
theorem formB_text {s0 : ByteArray} {l1 l2 : List ByteArray} {s3 s4 : ByteArray} (h : formB s0 l1 l2 s3 s4 = true) : (dtextB s0 l1 l2 s3 s4).length ≤ 1000000 := by
  have h' := h
  unfold formB at h
  simp only [Bool.and_eq_true, decide_eq_true_eq] at h
  obtain ⟨⟨⟨⟨h0, h1⟩, h2⟩, h3⟩, h4⟩ := h
  have hz : ∀ s : ByteArray, s.size = s.data.toList.length := fun s => by simp
  have a0 := isName_len (show Nam.isName s0.data.toList = true by
    rw [dName_eq] at h0; simp only [Bool.and_eq_true] at h0; exact h0.1.1)
  have a1 := needT_len h1
  have a2 := needT_len h2
  have a4 := fixed_len h4
  have d1 := dlist_le l1 a1.1 (fun s hs => by rw [hz]; have := dPath_len (a1.2 s hs); omega)
  have d2 := dlist_le l2 a2.1 (fun s hs => by rw [hz]; have := isP_len (a2.2 s hs); omega)
  have q0 := dquote_len s0.data.toList
  have q3 := dquote_len s3.data.toList
  have q4 := dquote_len s4.data.toList
  rw [hz] at h3
  unfold dtextB dtext dopen
  simp only [List.length_cons, List.length_append, List.length_nil]
  omega

set_option maxRecDepth 100000 in
set_option maxHeartbeats 20000000 in
theorem walk_DrvTexts (w : World) (s0 : ByteArray) (a1 : Option Addr) (n1 c1 : Nat) (l1 : List ByteArray) (a2 : Option Addr) (n2 c2 : Nat) (l2 : List ByteArray) (s3 s4 : ByteArray) (h1 : IsS w a1 n1 c1 l1) (h2 : IsS w a2 n2 c2 l2) (hsm : SmallD s0 l1 l2 s3 s4) :
    Calls Try.prog 3 #[.agg #[.string s0, .slice a1 n1 c1, .slice a2 n2 c2, .string s3, .string s4]] w fun e w' => e = .returned (.bool true) ∧ Below w.heap.size w w' := by
  have hln1 := h1.length
  have hln2 := h2.length
  have hn1 : n1 * 16 ≤ 140737488355328 := by rw [← hln1]; exact hsm.n1
  have hn2 : n2 * 16 ≤ 140737488355328 := by rw [← hln2]; exact hsm.n2
  have HSM := Lib.hid hsm
  have I1 := Lib.hid h1
  have I2 := Lib.hid h2
  obtain ⟨L5, hL5⟩ : ∃ L : List Value, L = [.string s0, .slice a1 n1 c1, .slice a2 n2 c2, .string s3, .string s4] := ⟨_, rfl⟩
  have hag : (#[.string s0, .slice a1 n1 c1, .slice a2 n2 c2, .string s3, .string s4] : Array Value) = L5.toArray := by rw [hL5]
  have HLI : Hid ((Try.prog.info? 24).map (·.size) = some L5.toArray.size) := Lib.hid (by rw [hL5]; exact info_dL _ _ _ _ _ _ _ _ _)
  have HLIL : Hid ((Try.prog.info? 24).map (·.size) = some L5.length) := Lib.hid (by rw [hL5, info_drv]; rfl)
  have kF := fun (w : World) (h1 : IsS w a1 n1 c1 l1) (h2 : IsS w a2 n2 c2 l2) => dform_any s0 s3 s4 a1 a2 n1 c1 n2 c2 l1 l2 w h1 h2 hsm.z1 hsm.z2 hsm.z0 hsm.z3 hsm.z4
  have kR := fun (w : World) (h1 : IsS w a1 n1 c1 l1) (h2 : IsS w a2 n2 c2 l2) => rform_any s0 s3 s4 a1 a2 n1 c1 n2 c2 l1 l2 w h1 h2 hsm.z1 hsm.z2 hsm.z0 hsm.z3 hsm.z4
  have kT := fun (w : World) (h1 : IsS w a1 n1 c1 l1) (h2 : IsS w a2 n2 c2 l2) => dtext_any s0 s3 s4 a1 a2 n1 c1 n2 c2 l1 l2 w h1 h2 hsm.z1 hsm.z2 hsm.z0 hsm.z3 hsm.z4
  unfold DTextP at kT
  obtain ⟨f, hf⟩ : ∃ f, f = formB s0 l1 l2 s3 s4 := ⟨_, rfl⟩
  rw [← hf, hag] at kF kR kT
  have KF := Lib.hid kF
  have KR := Lib.hid kR
  have KT := Lib.hid kT
  have HF := Lib.hid hf
  have HL5 := Lib.hid hL5
  have HAG := Lib.hid hag
  clear kF kR kT hf hsm h1 h2 hln1 hln2 hag hL5
  by_cases hg : n1 + n2 ≤ 100 ∧ s3.size ≤ 7000
  · obtain ⟨hg1, hg2⟩ := hg
    have hw : IntKind.i64.wrap ((n1 : Int) + (n2 : Int)) = (n1 : Int) + (n2 : Int) := IntWalk.i64_in _ (by omega)
    have q1 : ¬ ((n1 : Int) + (n2 : Int) > 100) := by omega
    have q2 : ¬ ((s3.size : Int) > 7000) := by omega
    go_enter Try.func3, Try.ntmps3
    go_upto_region 1 with fail
    obtain ⟨w1, hw1⟩ : ∃ w1, w1 = w.alloc (.cells #[.string s0, .slice a1 n1 c1, .slice a2 n2 c2, .string s3, .string s4] 24) := ⟨_, rfl⟩
    have g1 : Has w1 w.heap.size L5 24 := by rw [hw1, HL5.out]; exact Has.new w _ _
    have bl1 : Below w.heap.size w w1 := by rw [hw1]; exact (Below.refl _ _).alloc (Nat.le_refl _) _
    rw [← hw1]
    obtain ⟨G, hG⟩ : ∃ G, G = w.heap.size := ⟨_, rfl⟩
    rw [← hG] at g1 bl1 ⊢
    have HG := Lib.hid hG
    have G1 := Lib.hid g1
    have B1 := Lib.hid bl1
    clear hw1 g1 bl1 hG
    go_wp2_with fail
    refine (awake_any _).mono ?_
    rintro e w2 ⟨rfl, x2⟩
    have B2 : Hid (Below G w w2) := Lib.hid (B1.out.trans (x2.mono (Nat.le_of_lt G1.out.lt)))
    have G2 := Lib.hid (G1.out.below x2 G1.out.lt)
    have y1 : w2.cell? ⟨G, 1, none⟩ = some (.slice a1 n1 c1) := G2.out.cellAt (by rw [HL5.out]; rfl)
    have y2 : w2.cell? ⟨G, 2, none⟩ = some (.slice a2 n2 c2) := G2.out.cellAt (by rw [HL5.out]; rfl)
    have y3 : w2.cell? ⟨G, 3, none⟩ = some (.string s3) := G2.out.cellAt (by rw [HL5.out]; rfl)
    clear x2 G1 B1
    go_upto_region 3 with fail
    clear y1 y2 y3 q1 q2 hw
    refine wp_region_held_drew (S := fun W => Has W G L5 24) (by kernel_rfl) G2.out.drew (fun hHeld => ?_)
    obtain ⟨wd, hwd⟩ : ∃ wd, wd = w2.drew := ⟨_, rfl⟩
    have BD : Hid (Below G w wd) := Lib.hid (by rw [hwd]; exact B2.out.drew)
    have GD : Hid (Has wd G L5 24) := Lib.hid (by rw [hwd]; exact G2.out.drew)
    rw [← hwd] at hHeld ⊢
    clear hwd G2 B2
    have hu26 := Try.underlying24
    refine wpAnyH_take (i := 0) (oi := { dst := some 26, op := Op.move (Operand.const (Value.bool false)), type := 4, pos := "law.go:21", after := #[], guard := none }) (v := .bool false) rfl (by kernel_rfl) (by kernel_rfl) (by kernel_rfl) (fun _ _ _ h => h)
      (Or.inl ⟨by rfl, by intro w hSw;  clear hSw; go_simp⟩) hHeld ?_
    try simp only [Act.put, List.setIfInBounds_toArray, List.set_cons_zero, List.set_cons_succ]
    refine wpAnyH_take (i := 1) (oi := { dst := some 27, op := Op.load 24 (Operand.tmp 1), type := 24, pos := "law.go:21", after := #[{ on := 0, ground := Ground.guard }], guard := some (0, false) }) rfl (by kernel_rfl) (by kernel_rfl) (by kernel_rfl) (fun _ _ _ h => h)
      (yieldsIf_load_mid (by rfl) 24 (.tmp 1) rfl G (0) rfl L5 _ (fun _ h => rangeAt_has h) hu26 rfl HLIL.out) hHeld ?_
    try simp only [Act.put, List.setIfInBounds_toArray, List.set_cons_zero, List.set_cons_succ]
    refine wpAnyH_take (i := 3) (oi := { dst := some 29, op := Op.load 24 (Operand.tmp 1), type := 24, pos := "law.go:21", after := #[{ on := 0, ground := Ground.guard }], guard := some (0, false) }) rfl (by kernel_rfl) (by kernel_rfl) (by kernel_rfl) (fun _ _ _ h => h)
      (yieldsIf_load_mid (by rfl) 24 (.tmp 1) rfl G (0) rfl L5 _ (fun _ h => rangeAt_has h) hu26 rfl HLIL.out) hHeld ?_
    try simp only [Act.put, List.setIfInBounds_toArray, List.set_cons_zero, List.set_cons_succ]
    refine wpAnyH_ready (rs := [2]) (by kernel_rfl) (by simp) ?_
    refine AllReadyH.cons (o := { dst := some 28, op := Op.call { callee := Callee.value (Operand.func 6), args := #[Operand.tmp 27], argTypes := #[24] }, type := 4, pos := "law.go:21", after := #[{ on := 1, ground := Ground.data }, { on := 0, ground := Ground.chain }, { on := 0, ground := Ground.guard }], guard := some (0, false) }) rfl (fun K hK => ?_) AllReadyH.nil
    go_simp
    refine (KF.out wd (I1.out.later (by rw [← HG.out]; exact BD.out)) (I2.out.later (by rw [← HG.out]; exact BD.out))).mono ?_
    rintro e w3 ⟨rfl, x3⟩
    have B3 : Hid (Below G w w3) := Lib.hid (BD.out.trans (x3.mono (Nat.le_of_lt GD.out.lt)))
    have G3 := Lib.hid (GD.out.below x3 GD.out.lt)
    clear x3
    go_wp2_with fail
    refine hK.out _ _ G3.out (fun hHeld2 => ?_)
    clear hK K hHeld GD BD
    try simp only [Act.put, List.setIfInBounds_toArray, List.set_cons_zero, List.set_cons_succ]
    refine wpAnyH_ready (rs := [4]) (by kernel_rfl) (by simp) ?_
    refine AllReadyH.cons (o := { dst := some 30, op := Op.call { callee := Callee.value (Operand.func 7), args := #[Operand.tmp 29], argTypes := #[24] }, type := 4, pos := "law.go:21", after := #[{ on := 3, ground := Ground.data }, { on := 2, ground := Ground.chain }, { on := 0, ground := Ground.guard }], guard := some (0, false) }) rfl (fun K hK => ?_) AllReadyH.nil
    go_simp
    refine (KR.out w3 (I1.out.later (by rw [← HG.out]; exact B3.out)) (I2.out.later (by rw [← HG.out]; exact B3.out))).mono ?_
    rintro e w4 ⟨rfl, x4⟩
    have B4 : Hid (Below G w w4) := Lib.hid (B3.out.trans (x4.mono (Nat.le_of_lt G3.out.lt)))
    have G4 := Lib.hid (G3.out.below x4 G3.out.lt)
    clear x4
    go_wp2_with fail
    refine hK.out _ _ G4.out (fun hHeld3 => ?_)
    clear hK K hHeld2 G3 B3
    try simp only [Act.put, List.setIfInBounds_toArray, List.set_cons_zero, List.set_cons_succ]
    have hff : (f != f) = false := by cases f <;> rfl
    refine wpAnyH_take (i := 5) (oi := { dst := some 31, op := Op.binOp BinOp.neq 4 (Operand.tmp 28) (Operand.tmp 30) 4, type := 4, pos := "law.go:21", after := #[{ on := 2, ground := Ground.data }, { on := 4, ground := Ground.data }, { on := 0, ground := Ground.guard }], guard := some (0, false) }) (v := .bool false) rfl (by kernel_rfl) (by kernel_rfl) (by kernel_rfl) (fun _ _ _ h => h)
      (Or.inl ⟨by rfl, by intro w hSw;  clear hSw; go_simp⟩) hHeld3 ?_
    try simp only [Act.put, List.setIfInBounds_toArray, List.set_cons_zero, List.set_cons_succ]
    refine wpAnyH_take (i := 6) (oi := { dst := some 32, op := Op.pick (Operand.tmp 26) (Operand.const (Value.bool true)) (Operand.tmp 31), type := 4, pos := "law.go:21", after := #[{ on := 0, ground := Ground.data }, { on := 5, ground := Ground.data }], guard := none }) (v := .bool false) rfl (by kernel_rfl) (by kernel_rfl) (by kernel_rfl) (fun _ _ _ h => h)
      (Or.inl ⟨by rfl, by intro w hSw;  clear hSw; go_simp⟩) hHeld3 ?_
    try simp only [Act.put, List.setIfInBounds_toArray, List.set_cons_zero, List.set_cons_succ]
    refine wpAnyH_done (by kernel_rfl) ?_ _
    clear hHeld3 hff
    go_wp2_with (refine wpList_load_row rfl 24 _ rfl G rfl 24 L5.toArray (0, 0) _ G4.out Try.underlying24 rfl HLI.out ?_)
    refine (KT.out w4 (I1.out.later (by rw [← HG.out]; exact B4.out)) (I2.out.later (by rw [← HG.out]; exact B4.out))).mono ?_
    rintro e w5 ⟨p1, p2, x5⟩
    have B5 : Hid (Below G w w5) := Lib.hid (B4.out.trans (x5.mono (Nat.le_of_lt G4.out.lt)))
    have G5 := Lib.hid (G4.out.below x5 G4.out.lt)
    clear x5 G4 B4
    cases f with
    | false =>
      have he := p2 rfl
      subst he
      clear p1 p2
      go_wp2_with (refine wpList_load_row rfl 24 _ rfl G rfl 24 L5.toArray (0, 0) _ G5.out Try.underlying24 rfl HLI.out ?_)
      refine (KR.out w5 (I1.out.later (by rw [← HG.out]; exact B5.out)) (I2.out.later (by rw [← HG.out]; exact B5.out))).mono ?_
      rintro e w6 ⟨rfl, x6⟩
      have B6 : Hid (Below G w w6) := Lib.hid (B5.out.trans (x6.mono (Nat.le_of_lt G5.out.lt)))
      clear x6 G5 B5
      go_wp2_with fail
      go_ret
      exact ⟨rfl, by rw [← HG.out]; exact B6.out⟩
    | true =>
      have he := p1 rfl
      subst he
      clear p1 p2
      have htl := formB_text HF.out.symm
      have hgd := formB_good HF.out.symm
      have hrt := readD_text HF.out.symm
      obtain ⟨X, hX⟩ : ∃ X, X = bs (dtextB s0 l1 l2 s3 s4) := ⟨_, rfl⟩
      have hXl : X.data.toList = dtextB s0 l1 l2 s3 s4 := by rw [hX]; rfl
      have kD := fun w => readd_any X w (by rw [hX, bs_size]; omega)
      unfold ReadP at kD
      rw [hXl, hrt] at kD
      have kX := fun (w : World) (h2 : IsS w a2 n2 c2 l2) (h1 : IsS w a1 n1 c1 l1) => rtext_any s0 s3 s4 a1 a2 a1 n1 c1 n2 c2 n1 c1 l2 l1 w h2 h1 (by have := hgd.n2; have := h2.length; omega) (by have := hgd.n1; have := h1.length; omega) hgd.z2 hgd.z1 hgd.z0 hgd.z3 hgd.z4
      rw [← hX, HAG.out] at kX
      rw [← hX]
      have KD := Lib.hid kD
      have KX := Lib.hid kX
      clear kD kX htl hgd hrt hX hXl
      go_wp2_with (refine wpList_load_row rfl 24 _ rfl G rfl 24 L5.toArray (0, 0) _ G5.out Try.underlying24 rfl HLI.out ?_)
      refine (KR.out w5 (I1.out.later (by rw [← HG.out]; exact B5.out)) (I2.out.later (by rw [← HG.out]; exact B5.out))).mono ?_
      rintro e w6 ⟨rfl, x6⟩
      have B6 : Hid (Below G w w6) := Lib.hid (B5.out.trans (x6.mono (Nat.le_of_lt G5.out.lt)))
      have G6 := Lib.hid (G5.out.below x6 G5.out.lt)
      clear x6 G5 B5
      go_wp2_with fail
      refine (KD.out _).mono ?_
      rintro e w7 ⟨v, rfl, ⟨b1, m1, d1, b2, m2, d2, rfl, i1, i2⟩, x7⟩
      have i1 : IsS w7 b1 m1 d1 l1 := by have := i1; unfold dvOf at this; simp only [map_back] at this; exact this
      have i2 : IsS w7 b2 m2 d2 l2 := by have := i2; unfold dvOf at this; simp only [map_back] at this; exact this
      rw [show bs (dvOf s0 l1 l2 s3 s4).name = s0 from bs_back s0, show bs (dvOf s0 l1 l2 s3 s4).recipe = s3 from bs_back s3, show bs (dvOf s0 l1 l2 s3 s4).fixed = s4 from bs_back s4]
      have B7 : Hid (Below G w w7) := Lib.hid (B6.out.trans (x7.mono (Nat.le_of_lt G6.out.lt)))
      have G7 := Lib.hid (G6.out.below x7 G6.out.lt)
      clear x7 G6 B6 KD
      obtain ⟨M5, hM5⟩ : ∃ L : List Value, L = [.string s0, .slice b1 m1 d1, .slice b2 m2 d2, .string s3, .string s4] := ⟨_, rfl⟩
      have hag : (#[.string s0, .slice b1 m1 d1, .slice b2 m2 d2, .string s3, .string s4] : Array Value) = M5.toArray := by rw [hM5]
      have HMI : Hid ((Try.prog.info? 24).map (·.size) = some M5.toArray.size) := Lib.hid (by rw [hM5]; exact info_dL _ _ _ _ _ _ _ _ _)
      have HMO : Hid (M5.toArray.all (·.oneCell') = true) := Lib.hid (by rw [hM5]; exact drv5 _ _ _ _ _ _ _ _ _)
      have HMS : Hid (dzL.toArray.size = M5.toArray.size) := Lib.hid (by rw [hM5]; rfl)
      rw [hag]
      obtain ⟨v1, v2⟩ := var_drv (w := w7) M5
      have NW := Lib.hid (show Has (w7.alloc (.cells dzL.toArray 24)) w7.heap.size dzL 24 from Has.new w7 dzL _)
      obtain ⟨g2, hg2⟩ : ∃ g, g = w7.heap.size := ⟨_, rfl⟩
      have HG2 := Lib.hid hg2
      have HM5 := Lib.hid hM5
      have U1 := Lib.hid v1
      have U2 := Lib.hid v2
      have J1 := Lib.hid i1
      have J2 := Lib.hid i2
      clear v1 v2 i1 i2 hag hM5 hg2
      go_upto_region 9 with (refine wpList_store_row rfl 24 _ _ rfl w7.heap.size M5.toArray rfl rfl 24 _ NW.out HMI.out HMS.out HMO.out ?_)
      obtain ⟨w8, hw8⟩ : ∃ x, x = (w7.alloc (.cells #[.string ⟨#[]⟩, .slice none 0 0, .slice none 0 0, .string ⟨#[]⟩, .string ⟨#[]⟩] 24)).setRow w7.heap.size M5.toArray := ⟨_, rfl⟩
      rw [← hw8] at U1 U2 ⊢
      rw [← HG2.out] at U1 ⊢
      have B8 : Hid (Below G w w8) := Lib.hid (B7.out.trans (U2.out.mono (Nat.le_of_lt G7.out.lt)))
      have G8 := Lib.hid (G7.out.below U2.out G7.out.lt)
      have J18 := Lib.hid (J1.out.later U2.out)
      have J28 := Lib.hid (J2.out.later U2.out)
      have y1 : w8.cell? ⟨G, 1, none⟩ = some (.slice a1 n1 c1) := G8.out.cellAt (by rw [HL5.out]; rfl)
      clear hw8 NW U2 B7 G7 J1 J2
      have hk := KX.out w8 (I2.out.later (by rw [← HG.out]; exact B8.out)) (I1.out.later (by rw [← HG.out]; exact B8.out))
      have HK := Lib.hid hk
      clear hk
      go_wp2_with (refine wpList_load_rowG (by rfl) 24 _ rfl G rfl 24 L5.toArray (0, 0) _ G8.out Try.underlying24 rfl HLI.out ?_)
      refine HK.out.mono ?_
      rintro e w9 ⟨rfl, x9⟩
      have B9 : Hid (Below G w w9) := Lib.hid (B8.out.trans (x9.mono (Nat.le_of_lt G8.out.lt)))
      have G9 := Lib.hid (G8.out.below x9 G8.out.lt)
      have U9 := Lib.hid (U1.out.below x9 U1.out.lt)
      have hk := dsame_any s0 s3 s4 s0 s3 s4 b1 b2 a1 a2 m1 d1 m2 d2 n1 c1 n2 c2 l1 l2 l1 l2 w9 (J18.out.later x9) (J28.out.later x9) (I1.out.later (by rw [← HG.out]; exact B9.out)) (I2.out.later (by rw [← HG.out]; exact B9.out))
        (by have := J18.out.length; have := I1.out.length; omega) (by have := J28.out.length; have := I2.out.length; omega) (by omega) (by omega)
      rw [show (#[.string s0, .slice b1 m1 d1, .slice b2 m2 d2, .string s3, .string s4] : Array Value) = M5.toArray by rw [HM5.out], HAG.out] at hk
      have HK2 := Lib.hid hk
      have hXX : (X.toList == X.toList) = true := by simp
      clear hk x9 y1 HK G8 U1 B8 J18 J28
      go_wp2_with (first | (refine wpList_load_rowG (by rfl) 24 _ rfl g2 rfl 24 M5.toArray (0, 0) _ U9.out Try.underlying24 rfl HMI.out ?_) | (refine wpList_load_rowG (by rfl) 24 _ rfl G rfl 24 L5.toArray (0, 0) _ G9.out Try.underlying24 rfl HLI.out ?_))
      refine HK2.out.mono ?_
      rintro e w10 ⟨b, rfl, hb, b10⟩
      obtain rfl : b = true := hb.2 ⟨rfl, rfl, rfl, rfl, rfl⟩
      have B10 : Hid (Below G w w10) := Lib.hid (B9.out.trans (b10.mono (Nat.le_of_lt G9.out.lt)))
      clear hb b10 HK2
      go_wp2_with fail
      go_ret
      exact ⟨rfl, by rw [← HG.out]; exact B10.out⟩
  · have hw : IntKind.i64.wrap ((n1 : Int) + (n2 : Int)) = (n1 : Int) + (n2 : Int) := IntWalk.i64_in _ (by omega)
    have HNG := Lib.hid hg
    clear hg
    by_cases hg1 : n1 + n2 ≤ 100
    · have q1 : ¬ ((n1 : Int) + (n2 : Int) > 100) := by omega
      have q2 : (s3.size : Int) > 7000 := by
        have := HNG.out
        omega
      go_enter Try.func3, Try.ntmps3
      go_upto_region 1 with fail
      obtain ⟨w1, hw1⟩ : ∃ w1, w1 = w.alloc (.cells #[.string s0, .slice a1 n1 c1, .slice a2 n2 c2, .string s3, .string s4] 24) := ⟨_, rfl⟩
      have g1 : Has w1 w.heap.size L5 24 := by rw [hw1, HL5.out]; exact Has.new w _ _
      have bl1 : Below w.heap.size w w1 := by rw [hw1]; exact (Below.refl _ _).alloc (Nat.le_refl _) _
      rw [← hw1]
      obtain ⟨G, hG⟩ : ∃ G, G = w.heap.size := ⟨_, rfl⟩
      rw [← hG] at g1 bl1 ⊢
      have HG := Lib.hid hG
      have G1 := Lib.hid g1
      have B1 := Lib.hid bl1
      clear hw1 g1 bl1 hG
      go_wp2_with fail
      refine (awake_any _).mono ?_
      rintro e w2 ⟨rfl, x2⟩
      have B2 : Hid (Below G w w2) := Lib.hid (B1.out.trans (x2.mono (Nat.le_of_lt G1.out.lt)))
      have G2 := Lib.hid (G1.out.below x2 G1.out.lt)
      have y1 : w2.cell? ⟨G, 1, none⟩ = some (.slice a1 n1 c1) := G2.out.cellAt (by rw [HL5.out]; rfl)
      have y2 : w2.cell? ⟨G, 2, none⟩ = some (.slice a2 n2 c2) := G2.out.cellAt (by rw [HL5.out]; rfl)
      have y3 : w2.cell? ⟨G, 3, none⟩ = some (.string s3) := G2.out.cellAt (by rw [HL5.out]; rfl)
      clear x2 G1 B1
      go_wp2_with fail
      refine (awake_any _).mono ?_
      rintro e w3 ⟨rfl, x3⟩
      have B3 : Hid (Below G w w3) := Lib.hid (B2.out.trans (x3.mono (Nat.le_of_lt G2.out.lt)))
      clear x3 y1 y2 y3 G2 B2
      go_wp2_with fail
      go_ret
      exact ⟨rfl, by rw [← HG.out]; exact B3.out⟩
    · have q1 : (n1 : Int) + (n2 : Int) > 100 := by omega
      go_enter Try.func3, Try.ntmps3
      go_upto_region 1 with fail
      obtain ⟨w1, hw1⟩ : ∃ w1, w1 = w.alloc (.cells #[.string s0, .slice a1 n1 c1, .slice a2 n2 c2, .string s3, .string s4] 24) := ⟨_, rfl⟩
      have g1 : Has w1 w.heap.size L5 24 := by rw [hw1, HL5.out]; exact Has.new w _ _
      have bl1 : Below w.heap.size w w1 := by rw [hw1]; exact (Below.refl _ _).alloc (Nat.le_refl _) _
      rw [← hw1]
      obtain ⟨G, hG⟩ : ∃ G, G = w.heap.size := ⟨_, rfl⟩
      rw [← hG] at g1 bl1 ⊢
      have HG := Lib.hid hG
      have G1 := Lib.hid g1
      have B1 := Lib.hid bl1
      clear hw1 g1 bl1 hG
      go_wp2_with fail
      refine (awake_any _).mono ?_
      rintro e w2 ⟨rfl, x2⟩
      have B2 : Hid (Below G w w2) := Lib.hid (B1.out.trans (x2.mono (Nat.le_of_lt G1.out.lt)))
      have G2 := Lib.hid (G1.out.below x2 G1.out.lt)
      have y1 : w2.cell? ⟨G, 1, none⟩ = some (.slice a1 n1 c1) := G2.out.cellAt (by rw [HL5.out]; rfl)
      have y2 : w2.cell? ⟨G, 2, none⟩ = some (.slice a2 n2 c2) := G2.out.cellAt (by rw [HL5.out]; rfl)
      have y3 : w2.cell? ⟨G, 3, none⟩ = some (.string s3) := G2.out.cellAt (by rw [HL5.out]; rfl)
      clear x2 G1 B1
      go_wp2_with fail
      refine (awake_any _).mono ?_
      rintro e w3 ⟨rfl, x3⟩
      have B3 : Hid (Below G w w3) := Lib.hid (B2.out.trans (x3.mono (Nat.le_of_lt G2.out.lt)))
      clear x3 y1 y2 y3 G2 B2
      go_wp2_with fail
      go_ret
      exact ⟨rfl, by rw [← HG.out]; exact B3.out⟩
end Go.Proofs.Ytokbakpbhpknfaa

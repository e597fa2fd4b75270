/-
  The contract of the reference's Out, of a right derivation with as many digests as it needs. Conditions: bounds on the texts' sizes.
-/
import Derived.Test.YtokbakpbhpknfaaGreatDoorDzRMod
namespace Go.Proofs.YtokbakpbhpknfaaGreatDoor
open Go.RowKit
set_option linter.unusedVariables false

set_option maxRecDepth 100000 in
set_option maxHeartbeats 20000000 in
theorem drout_any (s0 s3 s4 : ByteArray) (a1 a2 : Option Addr) (n1 c1 n2 c2 : Nat) (l1 l2 : List ByteArray) (ad : Option Addr) (nd cd : Nat) (ds : List (List UInt8)) (w : World) (h1 : IsS w a1 n1 c1 l1) (h2 : IsS w a2 n2 c2 l2) (hd : IsA w ad nd cd ds) (hf : formB s0 l1 l2 s3 s4 = true) (hn : ds.length = l1.length) :
    Calls Tryz.prog 15 #[.agg #[.string s0, .slice a1 n1 c1, .slice a2 n2 c2, .string s3, .string s4], .slice ad nd cd] w fun e w' => e = .returned (.string (doutB s0 l2 s3 s4 ds)) ∧ Below w.heap.size w w' := by
  obtain ⟨L5, hL5⟩ : ∃ L : List Value, L = [.string s0, .slice a1 n1 c1, .slice a2 n2 c2, .string s3, .string s4] := ⟨_, rfl⟩
  have hag : (#[.string s0, .slice a1 n1 c1, .slice a2 n2 c2, .string s3, .string s4] : Array Value) = L5.toArray := by rw [hL5]
  have HLIL : Hid ((Tryz.prog.info? 24).map (·.size) = some L5.length) := Lib.hid (by rw [hL5, info_drv]; rfl)
  have kM := fun (w : World) (h1 : IsS w a1 n1 c1 l1) (h2 : IsS w a2 n2 c2 l2) (hd : IsA w ad nd cd ds) => drmod_any s0 s3 s4 a1 a2 n1 c1 n2 c2 l1 l2 ad nd cd ds w h1 h2 hd hf hn
  obtain ⟨D, hDD⟩ : ∃ D, D = modD s0 l2 s3 s4 ds := ⟨_, rfl⟩
  have hDl : D.length = 32 := by rw [hDD]; exact modD_length _ _ _ _ _
  obtain ⟨C, hC⟩ : ∃ C, C = (D.map Nam.bv).toArray := ⟨_, rfl⟩
  rw [hag, ← hDD, ← hC] at kM
  obtain ⟨hnm, h36, _⟩ := name_of hf
  have hkr := fun (kind : ByteArray) (hkd : kind.size ≤ 2000) (w : World) => rmake_yes kind s0 D w hkd hDl (by omega)
  rw [← hC] at hkr
  obtain ⟨Q, hQ⟩ : ∃ Q, Q = doutB s0 l2 s3 s4 ds := ⟨_, rfl⟩
  rw [← hQ]
  have hem : s4.toList.isEmpty = s4.data.toList.isEmpty := by rw [ByteArray.toList_eq]
  have KM := Lib.hid kM
  have HL5 := Lib.hid hL5
  have I1 := Lib.hid h1
  have I2 := Lib.hid h2
  have ID := Lib.hid hd
  clear kM hL5 hag h1 h2 hd hf hn hDl hC hnm h36
  go_enter Tryz.func15, Tryz.ntmps15
  go_upto_region 1 with fail
  obtain ⟨w1, hw1⟩ : ∃ w1, w1 = w.alloc (.cells #[.string s0, .slice a1 n1 c1, .slice a2 n2 c2, .string s3, .string s4] 24) := ⟨_, rfl⟩
  have g1 : Has w1 w.heap.size L5 24 := by rw [hw1, HL5.out]; exact Has.new w _ _
  have bl1 : Below w.heap.size w w1 := by rw [hw1]; exact (Below.refl _ _).alloc (Nat.le_refl _) _
  rw [← hw1]
  obtain ⟨G, hG⟩ : ∃ G, G = w.heap.size := ⟨_, rfl⟩
  rw [← hG] at g1 bl1 ⊢
  have HG := Lib.hid hG
  have G1 := Lib.hid g1
  have B1 := Lib.hid bl1
  have y4 : w1.cell? ⟨G, 4, none⟩ = some (.string s4) := G1.out.cellAt (by rw [HL5.out]; rfl)
  clear hw1 g1 bl1 hG
  cases h4 : s4.data.toList.isEmpty with
  | true =>
    as_aux_lemma =>
      rw [h4] at hem
      have hk2 := fun w => hkr ⟨#[111, 117, 116, 112, 117, 116]⟩ (by decide) w
      rw [show Nam.pathB (fd (mkT (⟨#[111, 117, 116, 112, 117, 116]⟩ : ByteArray).data.toList D s0.data.toList)) s0 = Q by rw [hQ, hDD]; unfold doutB kindL; rw [if_pos h4]] at hk2
      have HK2 := Lib.hid hk2
      clear hkr hk2 h4 hQ hDD
      go_upto_region 4 with fail
      clear y4 hem
      refine wp_region_held_drew (S := fun W => Has W G L5 24) (by kernel_rfl) G1.out.drew (fun hHeld => ?_)
      obtain ⟨wd, hwd⟩ : ∃ wd, wd = w1.drew := ⟨_, rfl⟩
      have BD : Hid (Below G w wd) := Lib.hid (by rw [hwd]; exact B1.out.drew)
      have GD : Hid (Has wd G L5 24) := Lib.hid (by rw [hwd]; exact G1.out.drew)
      rw [← hwd] at hHeld ⊢
      clear hwd G1 B1
      have hu26 := Tryz.underlying24
      refine wpAnyH_take (i := 0) (oi := { dst := some 9, op := Op.move (Operand.tmp 5), type := 9, pos := "ref.go:189", after := #[], guard := none }) (v := .string ⟨#[111, 117, 116, 112, 117, 116]⟩) rfl (by kernel_rfl) (by kernel_rfl) (by kernel_rfl) (fun _ _ _ h => h)
        (Or.inl ⟨by rfl, by intro w hSw;  clear hSw; go_simp⟩) hHeld ?_
      try simp only [Act.put, List.setIfInBounds_toArray, List.set_cons_zero, List.set_cons_succ]
      refine wpAnyH_take (i := 1) (oi := { dst := some 10, op := Op.load 24 (Operand.tmp 2), type := 24, pos := "ref.go:189", after := #[], guard := none }) rfl (by kernel_rfl) (by kernel_rfl) (by kernel_rfl) (fun _ _ _ h => h)
        (yieldsIf_load_mid (by rfl) 24 (.tmp 2) rfl G (0) rfl L5 _ (fun _ h => rangeAt_has h) hu26 rfl HLIL.out) hHeld ?_
      try simp only [Act.put, List.setIfInBounds_toArray, List.set_cons_zero, List.set_cons_succ]
      refine wpAnyH_take (i := 2) (oi := { dst := some 11, op := Op.move (Operand.tmp 1), type := 25, pos := "ref.go:189", after := #[], guard := none }) (v := .slice ad nd cd) rfl (by kernel_rfl) (by kernel_rfl) (by kernel_rfl) (fun _ _ _ h => h)
        (Or.inl ⟨by rfl, by intro w hSw;  clear hSw; go_simp⟩) hHeld ?_
      try simp only [Act.put, List.setIfInBounds_toArray, List.set_cons_zero, List.set_cons_succ]
      refine wpAnyH_take (i := 4) (oi := { dst := some 13, op := Op.fieldAddr 24 (Operand.tmp 2) 0, type := 0, pos := "ref.go:189", after := #[], guard := none }) (v := .pointer (some ⟨G, 0, none⟩)) rfl (by kernel_rfl) (by kernel_rfl) (by kernel_rfl) (fun _ _ _ h => h)
        (Or.inl ⟨by rfl, by intro w hSw;  clear hSw; go_simp⟩) hHeld ?_
      try simp only [Act.put, List.setIfInBounds_toArray, List.set_cons_zero, List.set_cons_succ]
      refine wpAnyH_take (i := 5) (oi := { dst := some 14, op := Op.load 9 (Operand.tmp 13), type := 9, pos := "ref.go:189", after := #[{ on := 4, ground := Ground.data }], guard := none }) (v := .string s0) rfl (by kernel_rfl) (by kernel_rfl) (by kernel_rfl) (fun _ _ _ h => h)
        (Or.inl ⟨by rfl, by intro w hSw; have hc9 : w.cell? ⟨G, 0, none⟩ = some (Value.string s0) := hSw.cellAt (i := 0) (by rw [HL5.out]; rfl); clear hSw; go_simp⟩) hHeld ?_
      try simp only [Act.put, List.setIfInBounds_toArray, List.set_cons_zero, List.set_cons_succ]
      refine wpAnyH_ready (rs := [3]) (by kernel_rfl) (by simp) ?_
      refine AllReadyH.cons (o := { dst := some 12, op := Op.call { callee := Callee.value (Operand.func 14), args := #[Operand.tmp 10, Operand.tmp 11], argTypes := #[24, 25] }, type := 30, pos := "ref.go:189", after := #[{ on := 1, ground := Ground.data }, { on := 2, ground := Ground.data }], guard := none }) rfl (fun K hK => ?_) AllReadyH.nil
      go_simp
      refine (KM.out wd (I1.out.later (by rw [← HG.out]; exact BD.out)) (I2.out.later (by rw [← HG.out]; exact BD.out)) (ID.out.later (by rw [← HG.out]; exact BD.out))).mono ?_
      rintro e w2 ⟨rfl, x2⟩
      have B2 : Hid (Below G w w2) := Lib.hid (BD.out.trans (x2.mono (Nat.le_of_lt GD.out.lt)))
      have G2 := Lib.hid (GD.out.below x2 GD.out.lt)
      clear x2
      go_wp2_with fail
      refine hK.out _ _ G2.out (fun hHeld2 => ?_)
      clear hK K hHeld GD BD
      try simp only [Act.put, List.setIfInBounds_toArray, List.set_cons_zero, List.set_cons_succ]
      refine wpAnyH_ready (rs := [6]) (by kernel_rfl) (by simp) ?_
      refine AllReadyH.cons (o := { dst := some 15, op := Op.call { callee := Callee.value (Operand.func 28), args := #[Operand.tmp 9, Operand.tmp 12, Operand.tmp 14], argTypes := #[9, 30, 9] }, type := 9, pos := "ref.go:189", after := #[{ on := 0, ground := Ground.data }, { on := 3, ground := Ground.data }, { on := 5, ground := Ground.data }, { on := 3, ground := Ground.chain }], guard := none }) rfl (fun K hK => ?_) AllReadyH.nil
      go_simp
      refine (HK2.out w2).mono ?_
      rintro e w3 ⟨rfl, x3⟩
      have B3 : Hid (Below G w w3) := Lib.hid (B2.out.trans (x3.mono (Nat.le_of_lt G2.out.lt)))
      have G3 := Lib.hid (G2.out.below x3 G2.out.lt)
      clear x3
      go_wp2_with fail
      refine hK.out _ _ G3.out (fun hHeld3 => ?_)
      clear hK K hHeld2 G2 B2
      try simp only [Act.put, List.setIfInBounds_toArray, List.set_cons_zero, List.set_cons_succ]
      refine wpAnyH_take (i := 7) (oi := { dst := some 4, op := Op.assign (Operand.tmp 15), type := 9, pos := "ref.go:189", after := #[{ on := 6, ground := Ground.data }, { on := 6, ground := Ground.chain }, { on := 0, ground := Ground.phase }, { on := 1, ground := Ground.phase }, { on := 2, ground := Ground.phase }, { on := 3, ground := Ground.phase }, { on := 4, ground := Ground.phase }, { on := 5, ground := Ground.phase }, { on := 6, ground := Ground.phase }], guard := none }) (v := .string Q) rfl (by kernel_rfl) (by kernel_rfl) (by kernel_rfl) (fun _ _ _ h => h)
        (Or.inl ⟨by rfl, by intro w hSw;  clear hSw; go_simp⟩) hHeld3 ?_
      try simp only [Act.put, List.setIfInBounds_toArray, List.set_cons_zero, List.set_cons_succ]
      refine wpAnyH_done (by kernel_rfl) ?_ _
      clear hHeld3
      go_wp2_with fail
      go_ret
      exact ⟨rfl, by rw [← HG.out]; exact B3.out⟩
  | false =>
    as_aux_lemma =>
      rw [h4] at hem
      have hk2 := fun w => hkr ⟨#[102, 105, 120, 101, 100]⟩ (by decide) w
      rw [show Nam.pathB (fd (mkT (⟨#[102, 105, 120, 101, 100]⟩ : ByteArray).data.toList D s0.data.toList)) s0 = Q by rw [hQ, hDD]; unfold doutB kindL; rw [if_neg (by rw [h4]; decide)]] at hk2
      have HK2 := Lib.hid hk2
      clear hkr hk2 h4 hQ hDD
      go_upto_region 4 with fail
      clear y4 hem
      refine wp_region_held_drew (S := fun W => Has W G L5 24) (by kernel_rfl) G1.out.drew (fun hHeld => ?_)
      obtain ⟨wd, hwd⟩ : ∃ wd, wd = w1.drew := ⟨_, rfl⟩
      have BD : Hid (Below G w wd) := Lib.hid (by rw [hwd]; exact B1.out.drew)
      have GD : Hid (Has wd G L5 24) := Lib.hid (by rw [hwd]; exact G1.out.drew)
      rw [← hwd] at hHeld ⊢
      clear hwd G1 B1
      have hu26 := Tryz.underlying24
      refine wpAnyH_take (i := 0) (oi := { dst := some 9, op := Op.move (Operand.tmp 5), type := 9, pos := "ref.go:189", after := #[], guard := none }) (v := .string ⟨#[102, 105, 120, 101, 100]⟩) rfl (by kernel_rfl) (by kernel_rfl) (by kernel_rfl) (fun _ _ _ h => h)
        (Or.inl ⟨by rfl, by intro w hSw;  clear hSw; go_simp⟩) hHeld ?_
      try simp only [Act.put, List.setIfInBounds_toArray, List.set_cons_zero, List.set_cons_succ]
      refine wpAnyH_take (i := 1) (oi := { dst := some 10, op := Op.load 24 (Operand.tmp 2), type := 24, pos := "ref.go:189", after := #[], guard := none }) rfl (by kernel_rfl) (by kernel_rfl) (by kernel_rfl) (fun _ _ _ h => h)
        (yieldsIf_load_mid (by rfl) 24 (.tmp 2) rfl G (0) rfl L5 _ (fun _ h => rangeAt_has h) hu26 rfl HLIL.out) hHeld ?_
      try simp only [Act.put, List.setIfInBounds_toArray, List.set_cons_zero, List.set_cons_succ]
      refine wpAnyH_take (i := 2) (oi := { dst := some 11, op := Op.move (Operand.tmp 1), type := 25, pos := "ref.go:189", after := #[], guard := none }) (v := .slice ad nd cd) rfl (by kernel_rfl) (by kernel_rfl) (by kernel_rfl) (fun _ _ _ h => h)
        (Or.inl ⟨by rfl, by intro w hSw;  clear hSw; go_simp⟩) hHeld ?_
      try simp only [Act.put, List.setIfInBounds_toArray, List.set_cons_zero, List.set_cons_succ]
      refine wpAnyH_take (i := 4) (oi := { dst := some 13, op := Op.fieldAddr 24 (Operand.tmp 2) 0, type := 0, pos := "ref.go:189", after := #[], guard := none }) (v := .pointer (some ⟨G, 0, none⟩)) rfl (by kernel_rfl) (by kernel_rfl) (by kernel_rfl) (fun _ _ _ h => h)
        (Or.inl ⟨by rfl, by intro w hSw;  clear hSw; go_simp⟩) hHeld ?_
      try simp only [Act.put, List.setIfInBounds_toArray, List.set_cons_zero, List.set_cons_succ]
      refine wpAnyH_take (i := 5) (oi := { dst := some 14, op := Op.load 9 (Operand.tmp 13), type := 9, pos := "ref.go:189", after := #[{ on := 4, ground := Ground.data }], guard := none }) (v := .string s0) rfl (by kernel_rfl) (by kernel_rfl) (by kernel_rfl) (fun _ _ _ h => h)
        (Or.inl ⟨by rfl, by intro w hSw; have hc9 : w.cell? ⟨G, 0, none⟩ = some (Value.string s0) := hSw.cellAt (i := 0) (by rw [HL5.out]; rfl); clear hSw; go_simp⟩) hHeld ?_
      try simp only [Act.put, List.setIfInBounds_toArray, List.set_cons_zero, List.set_cons_succ]
      refine wpAnyH_ready (rs := [3]) (by kernel_rfl) (by simp) ?_
      refine AllReadyH.cons (o := { dst := some 12, op := Op.call { callee := Callee.value (Operand.func 14), args := #[Operand.tmp 10, Operand.tmp 11], argTypes := #[24, 25] }, type := 30, pos := "ref.go:189", after := #[{ on := 1, ground := Ground.data }, { on := 2, ground := Ground.data }], guard := none }) rfl (fun K hK => ?_) AllReadyH.nil
      go_simp
      refine (KM.out wd (I1.out.later (by rw [← HG.out]; exact BD.out)) (I2.out.later (by rw [← HG.out]; exact BD.out)) (ID.out.later (by rw [← HG.out]; exact BD.out))).mono ?_
      rintro e w2 ⟨rfl, x2⟩
      have B2 : Hid (Below G w w2) := Lib.hid (BD.out.trans (x2.mono (Nat.le_of_lt GD.out.lt)))
      have G2 := Lib.hid (GD.out.below x2 GD.out.lt)
      clear x2
      go_wp2_with fail
      refine hK.out _ _ G2.out (fun hHeld2 => ?_)
      clear hK K hHeld GD BD
      try simp only [Act.put, List.setIfInBounds_toArray, List.set_cons_zero, List.set_cons_succ]
      refine wpAnyH_ready (rs := [6]) (by kernel_rfl) (by simp) ?_
      refine AllReadyH.cons (o := { dst := some 15, op := Op.call { callee := Callee.value (Operand.func 28), args := #[Operand.tmp 9, Operand.tmp 12, Operand.tmp 14], argTypes := #[9, 30, 9] }, type := 9, pos := "ref.go:189", after := #[{ on := 0, ground := Ground.data }, { on := 3, ground := Ground.data }, { on := 5, ground := Ground.data }, { on := 3, ground := Ground.chain }], guard := none }) rfl (fun K hK => ?_) AllReadyH.nil
      go_simp
      refine (HK2.out w2).mono ?_
      rintro e w3 ⟨rfl, x3⟩
      have B3 : Hid (Below G w w3) := Lib.hid (B2.out.trans (x3.mono (Nat.le_of_lt G2.out.lt)))
      have G3 := Lib.hid (G2.out.below x3 G2.out.lt)
      clear x3
      go_wp2_with fail
      refine hK.out _ _ G3.out (fun hHeld3 => ?_)
      clear hK K hHeld2 G2 B2
      try simp only [Act.put, List.setIfInBounds_toArray, List.set_cons_zero, List.set_cons_succ]
      refine wpAnyH_take (i := 7) (oi := { dst := some 4, op := Op.assign (Operand.tmp 15), type := 9, pos := "ref.go:189", after := #[{ on := 6, ground := Ground.data }, { on := 6, ground := Ground.chain }, { on := 0, ground := Ground.phase }, { on := 1, ground := Ground.phase }, { on := 2, ground := Ground.phase }, { on := 3, ground := Ground.phase }, { on := 4, ground := Ground.phase }, { on := 5, ground := Ground.phase }, { on := 6, ground := Ground.phase }], guard := none }) (v := .string Q) rfl (by kernel_rfl) (by kernel_rfl) (by kernel_rfl) (fun _ _ _ h => h)
        (Or.inl ⟨by rfl, by intro w hSw;  clear hSw; go_simp⟩) hHeld3 ?_
      try simp only [Act.put, List.setIfInBounds_toArray, List.set_cons_zero, List.set_cons_succ]
      refine wpAnyH_done (by kernel_rfl) ?_ _
      clear hHeld3
      go_wp2_with fail
      go_ret
      exact ⟨rfl, by rw [← HG.out]; exact B3.out⟩
end Go.Proofs.YtokbakpbhpknfaaGreatDoor

/-
  The walk of the law DrvPaths. Conditions: bounds on the texts' sizes; what the program's text has laid.
-/
import Derived.Test.YtokbakpbhpknfaaGreatDoorDzROut
import Derived.Test.YtokbakpbhpknfaaGreatDoorDzPath
namespace Go.Proofs.YtokbakpbhpknfaaGreatDoor
open Go.RowKit
set_option linter.unusedVariables false

theorem eq_a32 (w : World) (D : List UInt8) (h : D.length = 32) : (Op.equalIn 10000 30 (.agg (D.map Nam.bv).toArray) (.agg (D.map Nam.bv).toArray)).run Tryz.prog w = .ok true w := by
  rw [Nam.bv_byv]
  have := eql_32 w (D.map UInt8.toNat) (D.map UInt8.toNat) (by simpa using h) (by simpa using h)
  simpa using this
theorem out_not {s0 : ByteArray} {l1 l2 : List ByteArray} {s3 s4 : ByteArray} {ds : List (List UInt8)} (h : formB s0 l1 l2 s3 s4 = true) : dPath (doutB s0 l2 s3 s4 ds).data.toList = false ∧ (doutB s0 l2 s3 s4 ds).size ≤ 100 := by
  obtain ⟨h1, h2, h3⟩ := name_of h
  unfold doutB
  refine ⟨by rw [dPath_path _ _ (fd_length _) h1]; exact h3, ?_⟩
  have : ∀ (d : List UInt8) (s : ByteArray), d.length = 20 → (Nam.pathB d s).size = 33 + s.size := fun d s hd => by
    have e := congrArg List.length (Nam.path_list d s)
    rw [List.length_append, Nam.enc_length, hd, show Nam.slen 20 = 32 from rfl] at e
    have e2 : (Nam.pathB d s).data.toList.length = (Nam.pathB d s).size := by simp
    simp only [List.length_cons] at e
    have e3 : s.data.toList.length = s.size := by simp
    rw [← e2, e, e3]; omega
  rw [this _ _ (fd_length _)]; omega
theorem path_size {s0 : ByteArray} {l1 l2 : List ByteArray} {s3 s4 : ByteArray} (h : formB s0 l1 l2 s3 s4 = true) : (dpathB s0 l1 l2 s3 s4).size ≤ 100 := by
  obtain ⟨h1, h2, h3⟩ := name_of h
  unfold dpathB
  have : ∀ (d : List UInt8) (s : ByteArray), d.length = 20 → (Nam.pathB d s).size = 33 + s.size := fun d s hd => by
    have e := congrArg List.length (Nam.path_list d s)
    rw [List.length_append, Nam.enc_length, hd, show Nam.slen 20 = 32 from rfl] at e
    have e2 : (Nam.pathB d s).data.toList.length = (Nam.pathB d s).size := by simp
    simp only [List.length_cons] at e
    have e3 : s.data.toList.length = s.size := by simp
    rw [← e2, e, e3]; omega
  rw [this _ _ (fd_length _), ByteArray.size_append]
  show 33 + (s0.size + 4) ≤ 100; omega
/-- What Out tells, in one form. -/
theorem out_form {s0 : ByteArray} {l1 l2 : List ByteArray} {s3 s4 : ByteArray} {ds : List (List UInt8)} {w w' : World} {e : Ending} (h : OutP s0 l1 l2 s3 s4 ds w e w') (hf : formB s0 l1 l2 s3 s4 = true) (hn : ds.length = l1.length) :
    e = .returned (.tuple #[.string (doutB s0 l2 s3 s4 ds), .int .i64 0]) ∧ Below w.heap.size w w' := ⟨h.2.2.1 hf hn, h.2.2.2⟩

set_option maxRecDepth 100000 in
set_option maxHeartbeats 30000000 in
theorem walk_DrvPaths (w : World) (s0 : ByteArray) (a1 : Option Addr) (n1 c1 : Nat) (l1 : List ByteArray) (a2 : Option Addr) (n2 c2 : Nat) (l2 : List ByteArray) (s3 s4 : ByteArray) (h1 : IsS w a1 n1 c1 l1) (h2 : IsS w a2 n2 c2 l2) (hsm : SmallD s0 l1 l2 s3 s4)
    (ad : Option Addr) (nd cd : Nat) (ds : List (List UInt8)) (hd : IsA w ad nd cd ds) (hl : LaidW w) :
    Calls Tryz.prog 3 #[.agg #[.string s0, .slice a1 n1 c1, .slice a2 n2 c2, .string s3, .string s4], .slice ad nd cd] w fun e w' => e = .returned (.bool true) ∧ Below w.heap.size w w' := by
  have hn1 : n1 * 16 ≤ 140737488355328 := by rw [← h1.length]; exact hsm.n1
  have hn2 : n2 * 16 ≤ 140737488355328 := by rw [← h2.length]; exact hsm.n2
  have hnd : nd * 32 ≤ 140737488355328 := hd.most
  have HLND := Lib.hid hd.length
  have HLN1 := Lib.hid h1.length
  have HL := Lib.hid hl
  have ID := Lib.hid hd
  obtain ⟨L5, hL5⟩ : ∃ L : List Value, L = [.string s0, .slice a1 n1 c1, .slice a2 n2 c2, .string s3, .string s4] := ⟨_, rfl⟩
  have hag : (#[.string s0, .slice a1 n1 c1, .slice a2 n2 c2, .string s3, .string s4] : Array Value) = L5.toArray := by rw [hL5]
  have HLI : Hid ((Tryz.prog.info? 24).map (·.size) = some L5.toArray.size) := Lib.hid (by rw [hL5]; exact info_dL _ _ _ _ _ _ _ _ _)
  have HLIL : Hid ((Tryz.prog.info? 24).map (·.size) = some L5.length) := Lib.hid (by rw [hL5, info_drv]; rfl)
  have kR := fun (w : World) (h1 : IsS w a1 n1 c1 l1) (h2 : IsS w a2 n2 c2 l2) => rform_any s0 s3 s4 a1 a2 n1 c1 n2 c2 l1 l2 w h1 h2 hsm.z1 hsm.z2 hsm.z0 hsm.z3 hsm.z4
  have kP := fun (w : World) (h1 : IsS w a1 n1 c1 l1) (h2 : IsS w a2 n2 c2 l2) (hl : LaidW w) => dpath_any s0 s3 s4 a1 a2 n1 c1 n2 c2 l1 l2 w h1 h2 hsm hl
  have kM := fun (w : World) (h1 : IsS w a1 n1 c1 l1) (h2 : IsS w a2 n2 c2 l2) (hd : IsA w ad nd cd ds) (hl : LaidW w) => dmod_any s0 s3 s4 a1 a2 n1 c1 n2 c2 l1 l2 ad nd cd ds w h1 h2 hsm hd hl
  have kO := fun (w : World) (h1 : IsS w a1 n1 c1 l1) (h2 : IsS w a2 n2 c2 l2) (hd : IsA w ad nd cd ds) (hl : LaidW w) => dout_any s0 s3 s4 a1 a2 n1 c1 n2 c2 l1 l2 ad nd cd ds w h1 h2 hsm hd hl
  have kQ := fun (hf : formB s0 l1 l2 s3 s4 = true) (w : World) (h1 : IsS w a1 n1 c1 l1) (h2 : IsS w a2 n2 c2 l2) => rdpath_any s0 s3 s4 a1 a2 n1 c1 n2 c2 l1 l2 w h1 h2 hf
  have kN := fun (hf : formB s0 l1 l2 s3 s4 = true) (hn : ds.length = l1.length) (w : World) (h1 : IsS w a1 n1 c1 l1) (h2 : IsS w a2 n2 c2 l2) (hd : IsA w ad nd cd ds) => drmod_any s0 s3 s4 a1 a2 n1 c1 n2 c2 l1 l2 ad nd cd ds w h1 h2 hd hf hn
  have kU := fun (hf : formB s0 l1 l2 s3 s4 = true) (hn : ds.length = l1.length) (w : World) (h1 : IsS w a1 n1 c1 l1) (h2 : IsS w a2 n2 c2 l2) (hd : IsA w ad nd cd ds) => drout_any s0 s3 s4 a1 a2 n1 c1 n2 c2 l1 l2 ad nd cd ds w h1 h2 hd hf hn
  obtain ⟨f, hf⟩ : ∃ f, f = formB s0 l1 l2 s3 s4 := ⟨_, rfl⟩
  unfold DPathP at kP
  rw [hag] at kR kP kM kO kQ kN kU
  rw [← hf] at kR kP
  have KR := Lib.hid kR
  have KP := Lib.hid kP
  have KM := Lib.hid kM
  have KO := Lib.hid kO
  have KQ := Lib.hid kQ
  have KN := Lib.hid kN
  have KU := Lib.hid kU
  have HF := Lib.hid hf
  have HL5 := Lib.hid hL5
  have I1 := Lib.hid h1
  have I2 := Lib.hid h2
  have HZL : Hid ((#[.int .u8 0, .int .u8 0, .int .u8 0, .int .u8 0, .int .u8 0, .int .u8 0, .int .u8 0, .int .u8 0, .int .u8 0, .int .u8 0, .int .u8 0, .int .u8 0, .int .u8 0, .int .u8 0, .int .u8 0, .int .u8 0, .int .u8 0, .int .u8 0, .int .u8 0, .int .u8 0, .int .u8 0, .int .u8 0, .int .u8 0, .int .u8 0, .int .u8 0, .int .u8 0, .int .u8 0, .int .u8 0, .int .u8 0, .int .u8 0, .int .u8 0, .int .u8 0] : Array Value) = (z32.map Nam.bv).toArray) := Lib.hid rfl
  have hw : IntKind.i64.wrap ((n1 : Int) + (n2 : Int)) = (n1 : Int) + (n2 : Int) := IntWalk.i64_in _ (by omega)
  have hw2 : IntKind.i64.wrap ((n1 : Int) + (n2 : Int) + (nd : Int)) = (n1 : Int) + (n2 : Int) + (nd : Int) := IntWalk.i64_in _ (by omega)
  clear kR kP kM kO kQ kN kU hf hL5 hag h1 h2 hd hl hsm
  go_enter Tryz.func3, Tryz.ntmps3
  go_upto_region 1 with fail
  obtain ⟨w1, hw1⟩ : ∃ w1, w1 = w.alloc (.cells #[.string s0, .slice a1 n1 c1, .slice a2 n2 c2, .string s3, .string s4] 24) := ⟨_, rfl⟩
  have g1 : Has w1 w.heap.size L5 24 := by rw [hw1, HL5.out]; exact Has.new w _ _
  have bl1 : Below w.heap.size w w1 := by rw [hw1]; exact (Below.refl _ _).alloc (Nat.le_refl _) _
  rw [← hw1]
  obtain ⟨G, hG⟩ : ∃ G, G = w.heap.size := ⟨_, rfl⟩
  rw [← hG] at g1 bl1 ⊢
  have HG := Lib.hid hG
  have P1 := Lib.hid g1
  have B1 := Lib.hid bl1
  clear hw1 g1 bl1 hG
  go_wp2_with fail
  refine (awake_any _).mono ?_
  rintro e w2 ⟨rfl, x2⟩
  have B2 : Hid (Below G w w2) := Lib.hid (B1.out.trans (x2.mono (Nat.le_of_lt P1.out.lt)))
  have P2 := Lib.hid (P1.out.below x2 P1.out.lt)
  clear x2 P1 B1
  have y1 : w2.cell? ⟨G, 1, none⟩ = some (.slice a1 n1 c1) := P2.out.cellAt (by rw [HL5.out]; rfl)
  have y2 : w2.cell? ⟨G, 2, none⟩ = some (.slice a2 n2 c2) := P2.out.cellAt (by rw [HL5.out]; rfl)
  have y3 : w2.cell? ⟨G, 3, none⟩ = some (.string s3) := P2.out.cellAt (by rw [HL5.out]; rfl)
  by_cases hc1 : n1 + n2 + nd ≤ 100
  · have q1 : ¬ ((n1 : Int) + (n2 : Int) + (nd : Int) > 100) := by omega
    by_cases hc2 : s3.size ≤ 7000
    · have q2 : ¬ ((s3.size : Int) > 7000) := by omega
      go_upto_region 3 with fail
      clear y1 y2 y3 q1 q2 hw hw2
      go_wp2_with (refine wpList_load_row rfl 24 _ rfl G rfl 24 L5.toArray (0, 0) _ P2.out Tryz.underlying24 rfl HLI.out ?_)
      refine (KP.out w2 (I1.out.later (by rw [← HG.out]; exact B2.out)) (I2.out.later (by rw [← HG.out]; exact B2.out)) (HL.out.later (by rw [← HG.out]; exact B2.out))).mono ?_
      rintro e w3 ⟨pp, pn, x3⟩
      have B3 : Hid (Below G w w3) := Lib.hid (B2.out.trans (x3.mono (Nat.le_of_lt P2.out.lt)))
      have P3 := Lib.hid (P2.out.below x3 P2.out.lt)
      clear x3 P2 B2
      obtain ⟨pv, pk, rfl, hpv⟩ : ∃ (pv : ByteArray) (pk : Int), e = .returned (.tuple #[.string pv, .int .i64 pk]) ∧ ((f = true ∧ pv = dpathB s0 l1 l2 s3 s4 ∧ pk = 0) ∨ (f = false ∧ pv = ⟨#[]⟩ ∧ pk = 3)) := by
        cases f with
        | true => exact ⟨_, _, pp rfl, .inl ⟨rfl, rfl, rfl⟩⟩
        | false => exact ⟨_, _, pn rfl, .inr ⟨rfl, rfl, rfl⟩⟩
      have HPV := Lib.hid hpv
      clear pp pn hpv
      go_wp2_with (refine wpList_load_row rfl 24 _ rfl G rfl 24 L5.toArray (0, 0) _ P3.out Tryz.underlying24 rfl HLI.out ?_)
      refine (KM.out w3 (I1.out.later (by rw [← HG.out]; exact B3.out)) (I2.out.later (by rw [← HG.out]; exact B3.out)) (ID.out.later (by rw [← HG.out]; exact B3.out)) (HL.out.later (by rw [← HG.out]; exact B3.out))).mono ?_
      rintro e w4 hq
      obtain ⟨D, mk, rfl, hDl, x4, hmk⟩ := mod_form hq
      have B4 : Hid (Below G w w4) := Lib.hid (B3.out.trans (x4.mono (Nat.le_of_lt P3.out.lt)))
      have P4 := Lib.hid (P3.out.below x4 P3.out.lt)
      clear x4 P3 B3
      obtain ⟨C, hC⟩ : ∃ C, C = (D.map Nam.bv).toArray := ⟨_, rfl⟩
      rw [← hC]
      have HCI : Hid ((Tryz.prog.info? 30).map (·.size) = some C.size) := Lib.hid (by rw [hC]; exact info_a32 D hDl)
      have HCIL : Hid ((Tryz.prog.info? 30).map (·.size) = some (D.map Nam.bv).length) := Lib.hid (by rw [List.length_map, hDl]; kernel_rfl)
      have HCO : Hid (C.all (·.oneCell') = true) := Lib.hid (by rw [hC]; exact one32 D)
      have HCS : Hid ((z32.map Nam.bv).toArray.size = C.size) := Lib.hid (by rw [hC]; exact rowLen D hDl)
      have NW : Hid (Has (w4.alloc (.cells (z32.map Nam.bv).toArray 30)) w4.heap.size (z32.map Nam.bv) 30) := Lib.hid (Has.new w4 (z32.map Nam.bv) _)
      obtain ⟨v1, v2⟩ := var_a32 (w := w4) D
      have V1 := Lib.hid v1
      have V2 := Lib.hid v2
      have HC := Lib.hid hC
      have HMK := Lib.hid hmk
      have HEQ : Hid (∀ W : World, (Op.equalIn 10000 30 (.agg C) (.agg C)).run Tryz.prog W = .ok true W) := Lib.hid (fun W => by rw [hC]; exact eq_a32 W D hDl)
      clear hq hmk hC v1 v2 hDl
      go_upto_region 5 with (refine wpList_store_row rfl 30 _ _ rfl w4.heap.size C rfl rfl 30 _ NW.out HCI.out HCS.out HCO.out ?_)
      rw [HZL.out]
      obtain ⟨w5, hw5⟩ : ∃ x, x = (w4.alloc (.cells (z32.map Nam.bv).toArray 30)).setRow w4.heap.size C := ⟨_, rfl⟩
      rw [← HC.out] at V1 V2
      rw [← hw5] at V1 V2 ⊢
      obtain ⟨gm, hg⟩ : ∃ g, g = w4.heap.size := ⟨_, rfl⟩
      rw [← hg] at V1 ⊢
      have B5 : Hid (Below G w w5) := Lib.hid (B4.out.trans (V2.out.mono (Nat.le_of_lt P4.out.lt)))
      have P5 := Lib.hid (P4.out.below V2.out P4.out.lt)
      have R5 := V1
      clear hw5 hg NW V1 V2 P4 B4
      go_wp2_with (refine wpList_load_row rfl 24 _ rfl G rfl 24 L5.toArray (0, 0) _ P5.out Tryz.underlying24 rfl HLI.out ?_)
      refine (KO.out w5 (I1.out.later (by rw [← HG.out]; exact B5.out)) (I2.out.later (by rw [← HG.out]; exact B5.out)) (ID.out.later (by rw [← HG.out]; exact B5.out)) (HL.out.later (by rw [← HG.out]; exact B5.out))).mono ?_
      rintro e w6 ⟨o1, o2, o3, x6⟩
      have R6 := Lib.hid (R5.out.below x6 R5.out.lt)
      clear R5
      have B6 : Hid (Below G w w6) := Lib.hid (B5.out.trans (x6.mono (Nat.le_of_lt P5.out.lt)))
      have P6 := Lib.hid (P5.out.below x6 P5.out.lt)
      clear x6 P5 B5
      obtain ⟨ov, ok, rfl, hov⟩ : ∃ (ov : ByteArray) (ok : Int), e = .returned (.tuple #[.string ov, .int .i64 ok]) ∧ ((formB s0 l1 l2 s3 s4 = false ∧ ov = ⟨#[]⟩ ∧ ok = 3) ∨ (formB s0 l1 l2 s3 s4 = true ∧ ds.length ≠ l1.length ∧ ov = ⟨#[]⟩ ∧ ok = 1) ∨ (formB s0 l1 l2 s3 s4 = true ∧ ds.length = l1.length ∧ ov = doutB s0 l2 s3 s4 ds ∧ ok = 0)) := by
        cases hff : formB s0 l1 l2 s3 s4 with
        | false => exact ⟨_, _, o1 hff, .inl ⟨rfl, rfl, rfl⟩⟩
        | true =>
          by_cases hn : ds.length = l1.length
          · exact ⟨_, _, o3 hff hn, .inr (.inr ⟨rfl, hn, rfl, rfl⟩)⟩
          · exact ⟨_, _, o2 hff hn, .inr (.inl ⟨rfl, hn, rfl, rfl⟩)⟩
      have HOV := Lib.hid hov
      clear o1 o2 o3 hov
      go_wp2_with (refine wpList_load_row rfl 24 _ rfl G rfl 24 L5.toArray (0, 0) _ P6.out Tryz.underlying24 rfl HLI.out ?_)
      refine (KR.out w6 (I1.out.later (by rw [← HG.out]; exact B6.out)) (I2.out.later (by rw [← HG.out]; exact B6.out))).mono ?_
      rintro e w7 ⟨rfl, x7⟩
      have R7 := Lib.hid (R6.out.below x7 R6.out.lt)
      clear R6
      have B7 : Hid (Below G w w7) := Lib.hid (B6.out.trans (x7.mono (Nat.le_of_lt P6.out.lt)))
      have P7 := Lib.hid (P6.out.below x7 P6.out.lt)
      clear x7 P6 B6
      cases f with
      | false =>
        as_aux_lemma =>
          have hff := HF.out.symm
          obtain ⟨rfl, rfl⟩ : pv = ⟨#[]⟩ ∧ pk = 3 := by
            rcases HPV.out with ⟨h, _⟩ | ⟨_, h⟩
            · cases h
            · exact h
          obtain ⟨rfl, rfl⟩ : ov = ⟨#[]⟩ ∧ ok = 3 := by
            rcases HOV.out with ⟨_, h⟩ | ⟨h, _⟩ | ⟨h, _⟩
            · exact h
            · rw [hff] at h; cases h
            · rw [hff] at h; cases h
          obtain ⟨hk3, hDz⟩ : mk = 3 ∧ D = z32 := by
            rcases HMK.out with ⟨_, h, h2⟩ | ⟨h, _⟩ | ⟨h, _⟩
            · exact ⟨h, h2⟩
            · rw [hff] at h; cases h
            · rw [hff] at h; cases h
          subst hk3
          have hCz : C = (z32.map Nam.bv).toArray := by rw [HC.out, hDz]
          have hgd := guard_32
          have heq := HEQ.out
          have HCZ := Lib.hid hCz
          clear hff hDz hCz
          have hlit : (#[.int .u8 0, .int .u8 0, .int .u8 0, .int .u8 0, .int .u8 0, .int .u8 0, .int .u8 0, .int .u8 0, .int .u8 0, .int .u8 0, .int .u8 0, .int .u8 0, .int .u8 0, .int .u8 0, .int .u8 0, .int .u8 0, .int .u8 0, .int .u8 0, .int .u8 0, .int .u8 0, .int .u8 0, .int .u8 0, .int .u8 0, .int .u8 0, .int .u8 0, .int .u8 0, .int .u8 0, .int .u8 0, .int .u8 0, .int .u8 0, .int .u8 0, .int .u8 0] : Array Value) = C := by rw [HCZ.out]; rfl
          go_wp2_with (refine wpList_load_rowG (by rfl) 30 _ rfl gm rfl 30 C (0, 0) _ (show w7.heap[gm]? = some (.cells C 30 (0, 0)) by rw [HC.out]; exact R7.out) Tryz.underlying30 rfl HCI.out ?_)
          go_ret
          exact ⟨rfl, by rw [← HG.out]; exact B7.out⟩
      | true =>
        have hff := HF.out.symm
        obtain ⟨hpv1, rfl⟩ : pv = dpathB s0 l1 l2 s3 s4 ∧ pk = 0 := by
          rcases HPV.out with ⟨_, h⟩ | ⟨h, _⟩
          · exact h
          · cases h
        have kq := fun w h1 h2 => KQ.out hff w h1 h2
        rw [← hpv1] at kq
        have kip := fun w => ispath_any pv w (by rw [hpv1]; have := path_size hff; omega)
        rw [show dPath pv.data.toList = true by rw [hpv1]; exact dpathB_is hff] at kip
        have KQ2 := Lib.hid kq
        have KIP := Lib.hid kip
        have HFF := Lib.hid hff
        have hpp : (pv.toList == pv.toList) = true := toL_yes rfl
        clear kq kip hff hpv1 HPV
        go_wp2_with (refine wpList_load_rowG (by rfl) 24 _ rfl G rfl 24 L5.toArray (0, 0) _ P7.out Tryz.underlying24 rfl HLI.out ?_)
        refine (KQ2.out w7 (I1.out.later (by rw [← HG.out]; exact B7.out)) (I2.out.later (by rw [← HG.out]; exact B7.out))).mono ?_
        rintro e w8 ⟨rfl, x8⟩
        have R8 := Lib.hid (R7.out.below x8 R7.out.lt)
        clear R7
        have B8 : Hid (Below G w w8) := Lib.hid (B7.out.trans (x8.mono (Nat.le_of_lt P7.out.lt)))
        have P8 := Lib.hid (P7.out.below x8 P7.out.lt)
        clear x8 P7 B7
        go_wp2_with fail
        refine (KIP.out w8).mono ?_
        rintro e w9 ⟨rfl, x9⟩
        have R9 := Lib.hid (R8.out.below x9 R8.out.lt)
        clear R8
        have B9 : Hid (Below G w w9) := Lib.hid (B8.out.trans (x9.mono (Nat.le_of_lt P8.out.lt)))
        have P9 := Lib.hid (P8.out.below x9 P8.out.lt)
        clear x9 P8 B8
        have y1 : w9.cell? ⟨G, 1, none⟩ = some (.slice a1 n1 c1) := P9.out.cellAt (by rw [HL5.out]; rfl)
        by_cases hnn : nd = n1
        · subst hnn
          have hln : ds.length = l1.length := by rw [HLND.out, HLN1.out]
          obtain ⟨hov1, rfl⟩ : ov = doutB s0 l2 s3 s4 ds ∧ ok = 0 := by
            rcases HOV.out with ⟨h, _⟩ | ⟨_, h, _⟩ | ⟨_, _, h⟩
            · rw [HFF.out] at h; cases h
            · exact absurd hln h
            · exact h
          obtain ⟨rfl, hD1⟩ : mk = 0 ∧ D = modD s0 l2 s3 s4 ds := by
            rcases HMK.out with ⟨h, _⟩ | ⟨_, h, _⟩ | ⟨_, _, h⟩
            · rw [HFF.out] at h; cases h
            · exact absurd hln h
            · exact h
          have kn := fun w h1 h2 hd => KN.out HFF.out hln w h1 h2 hd
          rw [← hD1, ← HC.out] at kn
          have ku := fun w h1 h2 hd => KU.out HFF.out hln w h1 h2 hd
          rw [← hov1] at ku
          have kip := fun w => ispath_any ov w (by rw [hov1]; have := (out_not (ds := ds) HFF.out).2; omega)
          rw [show dPath ov.data.toList = false by rw [hov1]; exact (out_not HFF.out).1] at kip
          have KN2 := Lib.hid kn
          have KU2 := Lib.hid ku
          have KI2 := Lib.hid kip
          clear kn ku kip hov1 hD1 hln HOV HMK
          as_aux_lemma =>
            go_upto_region 12 with fail
            clear y1
            refine wp_region_held_drew (S := fun W => Has W G L5 24 ∧ Has W gm (D.map Nam.bv) 30) (by kernel_rfl) ⟨P9.out.drew, R9.out.drew⟩ (fun hHeld => ?_)
            obtain ⟨wd, hwd⟩ : ∃ wd, wd = w9.drew := ⟨_, rfl⟩
            have B10 : Hid (Below G w wd) := Lib.hid (by rw [hwd]; exact B9.out.drew)
            have P10 : Hid (Has wd G L5 24) := Lib.hid (by rw [hwd]; exact P9.out.drew)
            have R10 : Hid (Has wd gm (D.map Nam.bv) 30) := Lib.hid (by rw [hwd]; exact R9.out.drew)
            rw [← hwd] at hHeld ⊢
            clear hwd P9 R9 B9
            have hu26 := Tryz.underlying24
            have hu30 := Tryz.underlying30
            refine wpAnyH_take (i := 0) (oi := { dst := some 105, op := Op.move (Operand.tmp 8), type := 27, pos := "law.go:59", after := #[], guard := none }) (v := .int .i64 0) rfl (by kernel_rfl) (by kernel_rfl) (by kernel_rfl) (fun _ _ _ h => h)
              (Or.inl ⟨by rfl, by intro w hSw;  clear hSw; go_simp⟩) hHeld ?_
            try simp only [Act.put, List.setIfInBounds_toArray, List.set_cons_zero, List.set_cons_succ]
            refine wpAnyH_take (i := 1) (oi := { dst := some 106, op := Op.binOp BinOp.eql 27 (Operand.tmp 105) (Operand.const (Value.int IntKind.i64 0)) 27, type := 4, pos := "law.go:59", after := #[{ on := 0, ground := Ground.data }], guard := none }) (v := .bool true) rfl (by kernel_rfl) (by kernel_rfl) (by kernel_rfl) (fun _ _ _ h => h)
              (Or.inl ⟨by rfl, by intro w hSw;  clear hSw; go_simp⟩) hHeld ?_
            try simp only [Act.put, List.setIfInBounds_toArray, List.set_cons_zero, List.set_cons_succ]
            refine wpAnyH_take (i := 2) (oi := { dst := some 107, op := Op.move (Operand.tmp 106), type := 4, pos := "law.go:59", after := #[{ on := 1, ground := Ground.data }], guard := none }) (v := .bool true) rfl (by kernel_rfl) (by kernel_rfl) (by kernel_rfl) (fun _ _ _ h => h)
              (Or.inl ⟨by rfl, by intro w hSw;  clear hSw; go_simp⟩) hHeld ?_
            try simp only [Act.put, List.setIfInBounds_toArray, List.set_cons_zero, List.set_cons_succ]
            refine wpAnyH_take (i := 3) (oi := { dst := some 108, op := Op.move (Operand.tmp 10), type := 27, pos := "law.go:59", after := #[{ on := 2, ground := Ground.guard }], guard := some (2, true) }) (v := .int .i64 0) rfl (by kernel_rfl) (by kernel_rfl) (by kernel_rfl) (fun _ _ _ h => h)
              (Or.inl ⟨by rfl, by intro w hSw;  clear hSw; go_simp⟩) hHeld ?_
            try simp only [Act.put, List.setIfInBounds_toArray, List.set_cons_zero, List.set_cons_succ]
            refine wpAnyH_take (i := 4) (oi := { dst := some 109, op := Op.binOp BinOp.eql 27 (Operand.tmp 108) (Operand.const (Value.int IntKind.i64 0)) 27, type := 4, pos := "law.go:59", after := #[{ on := 3, ground := Ground.data }, { on := 2, ground := Ground.guard }], guard := some (2, true) }) (v := .bool true) rfl (by kernel_rfl) (by kernel_rfl) (by kernel_rfl) (fun _ _ _ h => h)
              (Or.inl ⟨by rfl, by intro w hSw;  clear hSw; go_simp⟩) hHeld ?_
            try simp only [Act.put, List.setIfInBounds_toArray, List.set_cons_zero, List.set_cons_succ]
            refine wpAnyH_take (i := 5) (oi := { dst := some 110, op := Op.pick (Operand.tmp 107) (Operand.tmp 109) (Operand.const (Value.bool false)), type := 4, pos := "law.go:59", after := #[{ on := 2, ground := Ground.data }, { on := 4, ground := Ground.data }], guard := none }) (v := .bool true) rfl (by kernel_rfl) (by kernel_rfl) (by kernel_rfl) (fun _ _ _ h => h)
              (Or.inl ⟨by rfl, by intro w hSw;  clear hSw; go_simp⟩) hHeld ?_
            try simp only [Act.put, List.setIfInBounds_toArray, List.set_cons_zero, List.set_cons_succ]
            refine wpAnyH_take (i := 6) (oi := { dst := some 111, op := Op.move (Operand.tmp 110), type := 4, pos := "law.go:59", after := #[{ on := 5, ground := Ground.data }, { on := 2, ground := Ground.chain }], guard := none }) (v := .bool true) rfl (by kernel_rfl) (by kernel_rfl) (by kernel_rfl) (fun _ _ _ h => h)
              (Or.inl ⟨by rfl, by intro w hSw;  clear hSw; go_simp⟩) hHeld ?_
            try simp only [Act.put, List.setIfInBounds_toArray, List.set_cons_zero, List.set_cons_succ]
            refine wpAnyH_take (i := 7) (oi := { dst := some 112, op := Op.load 30 (Operand.tmp 7), type := 30, pos := "law.go:59", after := #[{ on := 6, ground := Ground.guard }], guard := some (6, true) }) rfl (by kernel_rfl) (by kernel_rfl) (by kernel_rfl) (fun _ _ _ h => h)
              (yieldsIf_load_mid (by rfl) 30 (.tmp 7) rfl gm (0) rfl (D.map Nam.bv) _ (fun _ h => rangeAt_has h.2) hu30 rfl HCIL.out) hHeld ?_
            try simp only [Act.put, List.setIfInBounds_toArray, List.set_cons_zero, List.set_cons_succ]
            rw [← HC.out]
            refine wpAnyH_take (i := 8) (oi := { dst := some 113, op := Op.load 24 (Operand.tmp 2), type := 24, pos := "law.go:59", after := #[{ on := 6, ground := Ground.guard }], guard := some (6, true) }) rfl (by kernel_rfl) (by kernel_rfl) (by kernel_rfl) (fun _ _ _ h => h)
              (yieldsIf_load_mid (by rfl) 24 (.tmp 2) rfl G (0) rfl L5 _ (fun _ h => rangeAt_has h.1) hu26 rfl HLIL.out) hHeld ?_
            try simp only [Act.put, List.setIfInBounds_toArray, List.set_cons_zero, List.set_cons_succ]
            refine wpAnyH_take (i := 9) (oi := { dst := some 114, op := Op.move (Operand.tmp 1), type := 25, pos := "law.go:59", after := #[{ on := 6, ground := Ground.guard }], guard := some (6, true) }) (v := .slice ad nd cd) rfl (by kernel_rfl) (by kernel_rfl) (by kernel_rfl) (fun _ _ _ h => h)
              (Or.inl ⟨by rfl, by intro w hSw;  clear hSw; go_simp⟩) hHeld ?_
            try simp only [Act.put, List.setIfInBounds_toArray, List.set_cons_zero, List.set_cons_succ]
            refine wpAnyH_ready (rs := [10]) (by kernel_rfl) (by simp) ?_
            refine AllReadyH.cons (o := { dst := some 115, op := Op.call { callee := Callee.value (Operand.func 14), args := #[Operand.tmp 113, Operand.tmp 114], argTypes := #[24, 25] }, type := 30, pos := "law.go:59", after := #[{ on := 8, ground := Ground.data }, { on := 9, ground := Ground.data }, { on := 6, ground := Ground.chain }, { on := 6, ground := Ground.guard }], guard := some (6, true) }) rfl (fun K hK => ?_) AllReadyH.nil
            go_simp
            refine (KN2.out wd (I1.out.later (by rw [← HG.out]; exact B10.out)) (I2.out.later (by rw [← HG.out]; exact B10.out)) (ID.out.later (by rw [← HG.out]; exact B10.out))).mono ?_
            rintro e w11 ⟨rfl, x11⟩
            have B11 : Hid (Below G w w11) := Lib.hid (B10.out.trans (x11.mono (Nat.le_of_lt P10.out.lt)))
            have P11 := Lib.hid (P10.out.below x11 P10.out.lt)
            have R11 := Lib.hid (R10.out.below x11 R10.out.lt)
            go_wp2_with fail
            refine hK.out _ _ ⟨P11.out, R11.out⟩ (fun hHeld11 => ?_)
            clear hK K hHeld x11 P10 R10 B10
            try simp only [Act.put, List.setIfInBounds_toArray, List.set_cons_zero, List.set_cons_succ]
            refine wpAnyH_take (i := 11) (oi := { dst := some 116, op := Op.binOp BinOp.eql 30 (Operand.tmp 112) (Operand.tmp 115) 30, type := 4, pos := "law.go:59", after := #[{ on := 7, ground := Ground.data }, { on := 10, ground := Ground.data }, { on := 6, ground := Ground.guard }], guard := some (6, true) }) (v := .bool true) rfl (by kernel_rfl) (by kernel_rfl) (by kernel_rfl) (fun _ _ _ h => h)
              (Or.inl ⟨by rfl, by intro w hSw; have hg9 := guard_32; have he9 := HEQ.out; clear hSw; go_simp⟩) hHeld11 ?_
            try simp only [Act.put, List.setIfInBounds_toArray, List.set_cons_zero, List.set_cons_succ]
            refine wpAnyH_take (i := 12) (oi := { dst := some 117, op := Op.pick (Operand.tmp 111) (Operand.tmp 116) (Operand.const (Value.bool false)), type := 4, pos := "law.go:59", after := #[{ on := 6, ground := Ground.data }, { on := 11, ground := Ground.data }], guard := none }) (v := .bool true) rfl (by kernel_rfl) (by kernel_rfl) (by kernel_rfl) (fun _ _ _ h => h)
              (Or.inl ⟨by rfl, by intro w hSw;  clear hSw; go_simp⟩) hHeld11 ?_
            try simp only [Act.put, List.setIfInBounds_toArray, List.set_cons_zero, List.set_cons_succ]
            refine wpAnyH_take (i := 13) (oi := { dst := some 118, op := Op.move (Operand.tmp 117), type := 4, pos := "law.go:59", after := #[{ on := 12, ground := Ground.data }, { on := 10, ground := Ground.chain }], guard := none }) (v := .bool true) rfl (by kernel_rfl) (by kernel_rfl) (by kernel_rfl) (fun _ _ _ h => h)
              (Or.inl ⟨by rfl, by intro w hSw;  clear hSw; go_simp⟩) hHeld11 ?_
            try simp only [Act.put, List.setIfInBounds_toArray, List.set_cons_zero, List.set_cons_succ]
            refine wpAnyH_take (i := 14) (oi := { dst := some 119, op := Op.move (Operand.tmp 9), type := 9, pos := "law.go:59", after := #[{ on := 13, ground := Ground.guard }], guard := some (13, true) }) (v := .string ov) rfl (by kernel_rfl) (by kernel_rfl) (by kernel_rfl) (fun _ _ _ h => h)
              (Or.inl ⟨by rfl, by intro w hSw;  clear hSw; go_simp⟩) hHeld11 ?_
            try simp only [Act.put, List.setIfInBounds_toArray, List.set_cons_zero, List.set_cons_succ]
            refine wpAnyH_take (i := 15) (oi := { dst := some 120, op := Op.load 24 (Operand.tmp 2), type := 24, pos := "law.go:59", after := #[{ on := 13, ground := Ground.guard }], guard := some (13, true) }) rfl (by kernel_rfl) (by kernel_rfl) (by kernel_rfl) (fun _ _ _ h => h)
              (yieldsIf_load_mid (by rfl) 24 (.tmp 2) rfl G (0) rfl L5 _ (fun _ h => rangeAt_has h.1) hu26 rfl HLIL.out) hHeld11 ?_
            try simp only [Act.put, List.setIfInBounds_toArray, List.set_cons_zero, List.set_cons_succ]
            refine wpAnyH_take (i := 16) (oi := { dst := some 121, op := Op.move (Operand.tmp 1), type := 25, pos := "law.go:59", after := #[{ on := 13, ground := Ground.guard }], guard := some (13, true) }) (v := .slice ad nd cd) rfl (by kernel_rfl) (by kernel_rfl) (by kernel_rfl) (fun _ _ _ h => h)
              (Or.inl ⟨by rfl, by intro w hSw;  clear hSw; go_simp⟩) hHeld11 ?_
            try simp only [Act.put, List.setIfInBounds_toArray, List.set_cons_zero, List.set_cons_succ]
            refine wpAnyH_ready (rs := [17]) (by kernel_rfl) (by simp) ?_
            refine AllReadyH.cons (o := { dst := some 122, op := Op.call { callee := Callee.value (Operand.func 15), args := #[Operand.tmp 120, Operand.tmp 121], argTypes := #[24, 25] }, type := 9, pos := "law.go:59", after := #[{ on := 15, ground := Ground.data }, { on := 16, ground := Ground.data }, { on := 13, ground := Ground.chain }, { on := 13, ground := Ground.guard }], guard := some (13, true) }) rfl (fun K hK => ?_) AllReadyH.nil
            go_simp
            refine (KU2.out w11 (I1.out.later (by rw [← HG.out]; exact B11.out)) (I2.out.later (by rw [← HG.out]; exact B11.out)) (ID.out.later (by rw [← HG.out]; exact B11.out))).mono ?_
            rintro e w12 ⟨rfl, x12⟩
            have B12 : Hid (Below G w w12) := Lib.hid (B11.out.trans (x12.mono (Nat.le_of_lt P11.out.lt)))
            have P12 := Lib.hid (P11.out.below x12 P11.out.lt)
            have R12 := Lib.hid (R11.out.below x12 R11.out.lt)
            go_wp2_with fail
            refine hK.out _ _ ⟨P12.out, R12.out⟩ (fun hHeld12 => ?_)
            clear hK K hHeld11 x12 P11 R11 B11
            try simp only [Act.put, List.setIfInBounds_toArray, List.set_cons_zero, List.set_cons_succ]
            have hoo : (ov.toList == ov.toList) = true := toL_yes rfl
            refine wpAnyH_take (i := 18) (oi := { dst := some 123, op := Op.binOp BinOp.eql 9 (Operand.tmp 119) (Operand.tmp 122) 9, type := 4, pos := "law.go:59", after := #[{ on := 14, ground := Ground.data }, { on := 17, ground := Ground.data }, { on := 13, ground := Ground.guard }], guard := some (13, true) }) (v := .bool true) rfl (by kernel_rfl) (by kernel_rfl) (by kernel_rfl) (fun _ _ _ h => h)
              (Or.inl ⟨by rfl, by intro w hSw;  clear hSw; go_simp⟩) hHeld12 ?_
            try simp only [Act.put, List.setIfInBounds_toArray, List.set_cons_zero, List.set_cons_succ]
            refine wpAnyH_take (i := 19) (oi := { dst := some 124, op := Op.pick (Operand.tmp 118) (Operand.tmp 123) (Operand.const (Value.bool false)), type := 4, pos := "law.go:59", after := #[{ on := 13, ground := Ground.data }, { on := 18, ground := Ground.data }], guard := none }) (v := .bool true) rfl (by kernel_rfl) (by kernel_rfl) (by kernel_rfl) (fun _ _ _ h => h)
              (Or.inl ⟨by rfl, by intro w hSw;  clear hSw; go_simp⟩) hHeld12 ?_
            try simp only [Act.put, List.setIfInBounds_toArray, List.set_cons_zero, List.set_cons_succ]
            refine wpAnyH_take (i := 20) (oi := { dst := some 125, op := Op.move (Operand.tmp 124), type := 4, pos := "law.go:59", after := #[{ on := 19, ground := Ground.data }, { on := 17, ground := Ground.chain }], guard := none }) (v := .bool true) rfl (by kernel_rfl) (by kernel_rfl) (by kernel_rfl) (fun _ _ _ h => h)
              (Or.inl ⟨by rfl, by intro w hSw;  clear hSw; go_simp⟩) hHeld12 ?_
            try simp only [Act.put, List.setIfInBounds_toArray, List.set_cons_zero, List.set_cons_succ]
            refine wpAnyH_take (i := 21) (oi := { dst := some 126, op := Op.move (Operand.tmp 9), type := 9, pos := "law.go:59", after := #[{ on := 20, ground := Ground.guard }], guard := some (20, true) }) (v := .string ov) rfl (by kernel_rfl) (by kernel_rfl) (by kernel_rfl) (fun _ _ _ h => h)
              (Or.inl ⟨by rfl, by intro w hSw;  clear hSw; go_simp⟩) hHeld12 ?_
            try simp only [Act.put, List.setIfInBounds_toArray, List.set_cons_zero, List.set_cons_succ]
            refine wpAnyH_ready (rs := [22]) (by kernel_rfl) (by simp) ?_
            refine AllReadyH.cons (o := { dst := some 127, op := Op.call { callee := Callee.value (Operand.func 13), args := #[Operand.tmp 126], argTypes := #[9] }, type := 4, pos := "law.go:59", after := #[{ on := 21, ground := Ground.data }, { on := 20, ground := Ground.chain }, { on := 20, ground := Ground.guard }], guard := some (20, true) }) rfl (fun K hK => ?_) AllReadyH.nil
            go_simp
            refine (KI2.out w12).mono ?_
            rintro e w13 ⟨rfl, x13⟩
            have B13 : Hid (Below G w w13) := Lib.hid (B12.out.trans (x13.mono (Nat.le_of_lt P12.out.lt)))
            have P13 := Lib.hid (P12.out.below x13 P12.out.lt)
            have R13 := Lib.hid (R12.out.below x13 R12.out.lt)
            go_wp2_with fail
            refine hK.out _ _ ⟨P13.out, R13.out⟩ (fun hHeld13 => ?_)
            clear hK K hHeld12 x13 P12 R12 B12
            try simp only [Act.put, List.setIfInBounds_toArray, List.set_cons_zero, List.set_cons_succ]
            refine wpAnyH_take (i := 23) (oi := { dst := some 128, op := Op.unOp UnOp.not 4 (Operand.tmp 127), type := 4, pos := "law.go:59", after := #[{ on := 22, ground := Ground.data }, { on := 20, ground := Ground.guard }], guard := some (20, true) }) (v := .bool true) rfl (by kernel_rfl) (by kernel_rfl) (by kernel_rfl) (fun _ _ _ h => h)
              (Or.inl ⟨by rfl, by intro w hSw;  clear hSw; go_simp⟩) hHeld13 ?_
            try simp only [Act.put, List.setIfInBounds_toArray, List.set_cons_zero, List.set_cons_succ]
            refine wpAnyH_take (i := 24) (oi := { dst := some 129, op := Op.pick (Operand.tmp 125) (Operand.tmp 128) (Operand.const (Value.bool false)), type := 4, pos := "law.go:59", after := #[{ on := 20, ground := Ground.data }, { on := 23, ground := Ground.data }], guard := none }) (v := .bool true) rfl (by kernel_rfl) (by kernel_rfl) (by kernel_rfl) (fun _ _ _ h => h)
              (Or.inl ⟨by rfl, by intro w hSw;  clear hSw; go_simp⟩) hHeld13 ?_
            try simp only [Act.put, List.setIfInBounds_toArray, List.set_cons_zero, List.set_cons_succ]
            refine wpAnyH_take (i := 25) (oi := { dst := some 4, op := Op.assign (Operand.tmp 129), type := 4, pos := "law.go:59", after := #[{ on := 24, ground := Ground.data }, { on := 22, ground := Ground.chain }, { on := 0, ground := Ground.phase }, { on := 1, ground := Ground.phase }, { on := 2, ground := Ground.phase }, { on := 3, ground := Ground.phase }, { on := 4, ground := Ground.phase }, { on := 5, ground := Ground.phase }, { on := 6, ground := Ground.phase }, { on := 7, ground := Ground.phase }, { on := 8, ground := Ground.phase }, { on := 9, ground := Ground.phase }, { on := 10, ground := Ground.phase }, { on := 11, ground := Ground.phase }, { on := 12, ground := Ground.phase }, { on := 13, ground := Ground.phase }, { on := 14, ground := Ground.phase }, { on := 15, ground := Ground.phase }, { on := 16, ground := Ground.phase }, { on := 17, ground := Ground.phase }, { on := 18, ground := Ground.phase }, { on := 19, ground := Ground.phase }, { on := 20, ground := Ground.phase }, { on := 21, ground := Ground.phase }, { on := 22, ground := Ground.phase }, { on := 23, ground := Ground.phase }, { on := 24, ground := Ground.phase }], guard := none }) (v := .bool true) rfl (by kernel_rfl) (by kernel_rfl) (by kernel_rfl) (fun _ _ _ h => h)
              (Or.inl ⟨by rfl, by intro w hSw;  clear hSw; go_simp⟩) hHeld13 ?_
            try simp only [Act.put, List.setIfInBounds_toArray, List.set_cons_zero, List.set_cons_succ]
            refine wpAnyH_done (by kernel_rfl) ?_ _
            clear hHeld13
            go_wp2_with fail
            go_ret
            exact ⟨rfl, by rw [← HG.out]; exact B13.out⟩
        · as_aux_lemma =>
            have hni : ¬ (nd : Int) = (n1 : Int) := by omega
            have hln : ds.length ≠ l1.length := by rw [HLND.out, HLN1.out]; exact hnn
            obtain ⟨rfl, rfl⟩ : ov = ⟨#[]⟩ ∧ ok = 1 := by
              rcases HOV.out with ⟨h, _⟩ | ⟨_, _, h⟩ | ⟨_, h, _⟩
              · rw [HFF.out] at h; cases h
              · exact h
              · exact absurd h hln
            obtain rfl : mk = 1 := by
              rcases HMK.out with ⟨h, _⟩ | ⟨_, _, h⟩ | ⟨_, h, _⟩
              · rw [HFF.out] at h; cases h
              · exact h
              · exact absurd h hln
            clear hnn hln
            go_wp2_with fail
            go_ret
            exact ⟨rfl, by rw [← HG.out]; exact B9.out⟩
    · as_aux_lemma =>
        have q2 : (s3.size : Int) > 7000 := by omega
        go_wp2_with fail
        refine (awake_any _).mono ?_
        rintro e w3 ⟨rfl, x3⟩
        have B3 : Hid (Below G w w3) := Lib.hid (B2.out.trans (x3.mono (Nat.le_of_lt P2.out.lt)))
        clear x3
        go_wp2_with fail
        go_ret
        exact ⟨rfl, by rw [← HG.out]; exact B3.out⟩
  · as_aux_lemma =>
      have q1 : (n1 : Int) + (n2 : Int) + (nd : Int) > 100 := by omega
      go_wp2_with fail
      refine (awake_any _).mono ?_
      rintro e w3 ⟨rfl, x3⟩
      have B3 : Hid (Below G w w3) := Lib.hid (B2.out.trans (x3.mono (Nat.le_of_lt P2.out.lt)))
      clear x3
      go_wp2_with fail
      go_ret
      exact ⟨rfl, by rw [← HG.out]; exact B3.out⟩
end Go.Proofs.YtokbakpbhpknfaaGreatDoor

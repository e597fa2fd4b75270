/-
  The walk of the law DrvFixed. Conditions: bounds on the texts' sizes; what the program's text has laid.
-/
import Derived.Test.YtokbakpbhpknfaaGreatDoorDzOut
namespace Go.Proofs.YtokbakpbhpknfaaGreatDoor
open Go.RowKit
set_option linter.unusedVariables false

theorem form_mix {s0 : ByteArray} {l1 l2 : List ByteArray} {s3 s4 t0 : ByteArray} {k1 k2 : List ByteArray} {t3 t4 : ByteArray} (h : formB s0 l1 l2 s3 s4 = true) (g : formB t0 k1 k2 t3 t4 = true) : formB s0 k1 k2 t3 s4 = true := by
  unfold formB at h g ⊢
  simp only [Bool.and_eq_true] at h g ⊢
  exact ⟨⟨⟨⟨h.1.1.1.1, g.1.1.1.2⟩, g.1.1.2⟩, g.1.2⟩, h.2⟩
theorem out_fixed {s0 : ByteArray} {l2 k2 : List ByteArray} {s3 t3 s4 : ByteArray} {ds es : List (List UInt8)} (h : s4.data.toList.isEmpty = false) : doutB s0 l2 s3 s4 ds = doutB s0 k2 t3 s4 es := by
  unfold doutB modD modX
  rw [if_neg (by rw [h]; decide), if_neg (by rw [h]; decide)]

set_option maxRecDepth 100000 in
set_option maxHeartbeats 30000000 in
theorem walk_DrvFixed (w : World) (s0 : ByteArray) (as1 : Option Addr) (ns1 cs1 : Nat) (ls1 : List ByteArray) (as2 : Option Addr) (ns2 cs2 : Nat) (ls2 : List ByteArray) (s3 s4 : ByteArray) (h1A : IsS w as1 ns1 cs1 ls1) (h2A : IsS w as2 ns2 cs2 ls2) (hsmA : SmallD s0 ls1 ls2 s3 s4)
    (t0 : ByteArray) (at1 : Option Addr) (nt1 ct1 : Nat) (lt1 : List ByteArray) (at2 : Option Addr) (nt2 ct2 : Nat) (lt2 : List ByteArray) (t3 t4 : ByteArray) (h1B : IsS w at1 nt1 ct1 lt1) (h2B : IsS w at2 nt2 ct2 lt2) (hsmB : SmallD t0 lt1 lt2 t3 t4)
    (ad : Option Addr) (nd cd : Nat) (ds : List (List UInt8)) (hd : IsA w ad nd cd ds) (ae : Option Addr) (ne ce : Nat) (es : List (List UInt8)) (he : IsA w ae ne ce es) (hl : LaidW w) :
    Calls Tryz.prog 4 #[.agg #[.string s0, .slice as1 ns1 cs1, .slice as2 ns2 cs2, .string s3, .string s4], .agg #[.string t0, .slice at1 nt1 ct1, .slice at2 nt2 ct2, .string t3, .string t4], .slice ad nd cd, .slice ae ne ce] w fun e w' => e = .returned (.bool true) ∧ Below w.heap.size w w' := by
  have HL := Lib.hid hl
  have hnd : nd * 32 ≤ 140737488355328 := hd.most
  have hne : ne * 32 ≤ 140737488355328 := he.most
  have HLD := Lib.hid hd.length
  have HLE := Lib.hid he.length
  have ID := Lib.hid hd
  have IE := Lib.hid he
  have HSA := Lib.hid hsmA
  have HSB := Lib.hid hsmB
  have HNA1 := Lib.hid h1A.length
  have HNB1 := Lib.hid h1B.length
  clear hl hd he
  obtain ⟨A, hA⟩ : ∃ L : List Value, L = [.string s0, .slice as1 ns1 cs1, .slice as2 ns2 cs2, .string s3, .string s4] := ⟨_, rfl⟩
  have hagA : (#[.string s0, .slice as1 ns1 cs1, .slice as2 ns2 cs2, .string s3, .string s4] : Array Value) = A.toArray := by rw [hA]
  have HIA : Hid ((Tryz.prog.info? 24).map (·.size) = some A.toArray.size) := Lib.hid (by rw [hA]; exact info_dL _ _ _ _ _ _ _ _ _)
  have HNA : Hid ((Tryz.prog.info? 24).map (·.size) = some A.length) := Lib.hid (by rw [hA, info_drv]; rfl)
  have kRA := fun (w : World) (h1 : IsS w as1 ns1 cs1 ls1) (h2 : IsS w as2 ns2 cs2 ls2) => rform_any s0 s3 s4 as1 as2 ns1 cs1 ns2 cs2 ls1 ls2 w h1 h2 hsmA.z1 hsmA.z2 hsmA.z0 hsmA.z3 hsmA.z4
  obtain ⟨fA, hfA⟩ : ∃ f, f = formB s0 ls1 ls2 s3 s4 := ⟨_, rfl⟩
  rw [← hfA, hagA] at kRA
  have KRA := Lib.hid kRA
  have HFA := Lib.hid hfA
  have HA := Lib.hid hA
  have J1A := Lib.hid h1A
  have J2A := Lib.hid h2A
  have hzA : ns1 ≤ 140737488355328 ∧ ns2 ≤ 140737488355328 := ⟨by rw [← h1A.length]; have := hsmA.n1; omega, by rw [← h2A.length]; have := hsmA.n2; omega⟩
  have HZA := Lib.hid hzA
  clear kRA hfA hA h1A h2A hzA
  obtain ⟨B, hB⟩ : ∃ L : List Value, L = [.string t0, .slice at1 nt1 ct1, .slice at2 nt2 ct2, .string t3, .string t4] := ⟨_, rfl⟩
  have hagB : (#[.string t0, .slice at1 nt1 ct1, .slice at2 nt2 ct2, .string t3, .string t4] : Array Value) = B.toArray := by rw [hB]
  have HIB : Hid ((Tryz.prog.info? 24).map (·.size) = some B.toArray.size) := Lib.hid (by rw [hB]; exact info_dL _ _ _ _ _ _ _ _ _)
  have HNB : Hid ((Tryz.prog.info? 24).map (·.size) = some B.length) := Lib.hid (by rw [hB, info_drv]; rfl)
  have kRB := fun (w : World) (h1 : IsS w at1 nt1 ct1 lt1) (h2 : IsS w at2 nt2 ct2 lt2) => rform_any t0 t3 t4 at1 at2 nt1 ct1 nt2 ct2 lt1 lt2 w h1 h2 hsmB.z1 hsmB.z2 hsmB.z0 hsmB.z3 hsmB.z4
  obtain ⟨fB, hfB⟩ : ∃ f, f = formB t0 lt1 lt2 t3 t4 := ⟨_, rfl⟩
  rw [← hfB, hagB] at kRB
  have KRB := Lib.hid kRB
  have HFB := Lib.hid hfB
  have HB := Lib.hid hB
  have J1B := Lib.hid h1B
  have J2B := Lib.hid h2B
  have hzB : nt1 ≤ 140737488355328 ∧ nt2 ≤ 140737488355328 := ⟨by rw [← h1B.length]; have := hsmB.n1; omega, by rw [← h2B.length]; have := hsmB.n2; omega⟩
  have HZB := Lib.hid hzB
  clear kRB hfB hB h1B h2B hzB
  have hw : IntKind.i64.wrap ((nd : Int) + (ne : Int)) = (nd : Int) + (ne : Int) := IntWalk.i64_in _ (by omega)
  have hem : s4.toList.isEmpty = s4.data.toList.isEmpty := by rw [ByteArray.toList_eq]
  have HAGA := Lib.hid hagA
  have HAGB := Lib.hid hagB
  clear hagA hagB hsmA hsmB
  go_enter Tryz.func4, Tryz.ntmps4
  go_upto_region 1 with fail
  obtain ⟨G, hG⟩ : ∃ G, G = w.heap.size := ⟨_, rfl⟩
  rw [← hG]
  obtain ⟨x1, hx1⟩ : ∃ x, x = w.alloc (.cells #[.string s0, .slice as1 ns1 cs1, .slice as2 ns2 cs2, .string s3, .string s4] 24) := ⟨_, rfl⟩
  obtain ⟨w1, hw1⟩ : ∃ x, x = x1.alloc (.cells #[.string t0, .slice at1 nt1 ct1, .slice at2 nt2 ct2, .string t3, .string t4] 24) := ⟨_, rfl⟩
  rw [← hx1, ← hw1]
  have e1 : x1.heap.size = G + 1 := by rw [hx1, hG]; simp
  have P1 : Hid (Has w1 G A 24) := Lib.hid (by rw [hw1, hx1, hG, HA.out]; exact (Has.new w [.string s0, .slice as1 ns1 cs1, .slice as2 ns2 cs2, .string s3, .string s4] _).alloc _)
  have Q1 : Hid (Has w1 (G + 1) B 24) := Lib.hid (by rw [hw1, ← e1, HB.out]; exact Has.new x1 [.string t0, .slice at1 nt1 ct1, .slice at2 nt2 ct2, .string t3, .string t4] _)
  have B1 : Hid (Below G w w1) := Lib.hid (by rw [hw1, hx1, hG]; exact ((Below.refl _ _).alloc (Nat.le_refl _) _).alloc (by simp) _)
  have HG := Lib.hid hG
  try rw [e1]
  clear hx1 hw1 e1 hG
  go_wp2_with fail
  refine (awake_any _).mono ?_
  rintro e w2 ⟨rfl, x2⟩
  have B2 : Hid (Below G w w2) := Lib.hid (B1.out.trans (x2.mono (Nat.le_of_lt P1.out.lt)))
  have P2 := Lib.hid (P1.out.below x2 P1.out.lt)
  have Q2 := Lib.hid (Q1.out.below x2 Q1.out.lt)
  clear x2 P1 Q1 B1
  by_cases c1 : nd + ne ≤ 100
  · have c1' : decide ((100 : Int) < (nd : Int) + (ne : Int)) = false := by rw [decide_eq_false_iff_not]; omega
    go_wp2_with (refine wpList_load_rowG (by rfl) 24 _ rfl G rfl 24 A.toArray (0, 0) _ P2.out Tryz.underlying24 rfl HIA.out ?_)
    refine (KRA.out w2 (J1A.out.later (by rw [← HG.out]; exact B2.out)) (J2A.out.later (by rw [← HG.out]; exact B2.out))).mono ?_
    rintro e w3 ⟨rfl, x3⟩
    have B3 : Hid (Below G w w3) := Lib.hid (B2.out.trans (x3.mono (Nat.le_of_lt P2.out.lt)))
    have P3 := Lib.hid (P2.out.below x3 P2.out.lt)
    have Q3 := Lib.hid (Q2.out.below x3 Q2.out.lt)
    clear x3 P2 Q2 B2
    cases fA with
    | false =>
      as_aux_lemma =>
        go_wp2_with fail
        refine (awake_any _).mono ?_
        rintro e w4 ⟨rfl, x4⟩
        have B4 : Hid (Below G w w4) := Lib.hid (B3.out.trans (x4.mono (Nat.le_of_lt P3.out.lt)))
        clear x4
        go_wp2_with fail
        go_ret
        exact ⟨rfl, by rw [← HG.out]; exact B4.out⟩
    | true =>
      go_wp2_with (refine wpList_load_rowG (by rfl) 24 _ rfl (G + 1) rfl 24 B.toArray (0, 0) _ Q3.out Tryz.underlying24 rfl HIB.out ?_)
      refine (KRB.out w3 (J1B.out.later (by rw [← HG.out]; exact B3.out)) (J2B.out.later (by rw [← HG.out]; exact B3.out))).mono ?_
      rintro e w4 ⟨rfl, x4⟩
      have B4 : Hid (Below G w w4) := Lib.hid (B3.out.trans (x4.mono (Nat.le_of_lt P3.out.lt)))
      have P4 := Lib.hid (P3.out.below x4 P3.out.lt)
      have Q4 := Lib.hid (Q3.out.below x4 Q3.out.lt)
      clear x4 P3 Q3 B3
      cases fB with
      | false =>
        as_aux_lemma =>
          go_wp2_with fail
          refine (awake_any _).mono ?_
          rintro e w5 ⟨rfl, x5⟩
          have B5 : Hid (Below G w w5) := Lib.hid (B4.out.trans (x5.mono (Nat.le_of_lt P4.out.lt)))
          clear x5
          go_wp2_with fail
          go_ret
          exact ⟨rfl, by rw [← HG.out]; exact B5.out⟩
      | true =>
        have y1 : w4.cell? ⟨G, 1, none⟩ = some (.slice as1 ns1 cs1) := P4.out.cellAt (by rw [HA.out]; rfl)
        have y2 : w4.cell? ⟨G + 1, 1, none⟩ = some (.slice at1 nt1 ct1) := Q4.out.cellAt (by rw [HB.out]; rfl)
        have y4 : w4.cell? ⟨G, 4, none⟩ = some (.string s4) := P4.out.cellAt (by rw [HA.out]; rfl)
        by_cases c2 : nd = ns1
        · by_cases c3 : ne = nt1
          · cases h4 : s4.data.toList.isEmpty with
            | true =>
              as_aux_lemma =>
                rw [h4] at hem
                subst c2 c3
                clear h4
                go_wp2_with fail
                refine (awake_any _).mono ?_
                rintro e w5 ⟨rfl, x5⟩
                have B5 : Hid (Below G w w5) := Lib.hid (B4.out.trans (x5.mono (Nat.le_of_lt P4.out.lt)))
                clear x5
                go_wp2_with fail
                go_ret
                exact ⟨rfl, by rw [← HG.out]; exact B5.out⟩
            | false =>
              as_aux_lemma =>
                rw [h4] at hem
                have HE := Lib.hid (out_fixed (s0 := s0) (l2 := ls2) (k2 := lt2) (s3 := s3) (t3 := t3) (ds := ds) (es := es) h4)
                subst c2 c3
                clear h4
                go_upto_region 3 with fail
                clear y1 y2 y4 hem hw c1'
                have z0 : w4.cell? ⟨G, 0, none⟩ = some (.string s0) := P4.out.cellAt (by rw [HA.out]; rfl)
                have z4 : w4.cell? ⟨G, 4, none⟩ = some (.string s4) := P4.out.cellAt (by rw [HA.out]; rfl)
                have q0 : w4.cell? ⟨G + 1, 0, none⟩ = some (.string t0) := Q4.out.cellAt (by rw [HB.out]; rfl)
                have q4 : w4.cell? ⟨G + 1, 4, none⟩ = some (.string t4) := Q4.out.cellAt (by rw [HB.out]; rfl)
                have fz := Q4.out.frozen 0
                have fz4 := Q4.out.frozen 4
                go_upto_region 5 with fail
                clear z0 z4 q0 q4 fz fz4
                obtain ⟨w5, hw5⟩ : ∃ x, x = (w4.setCell ⟨G + 1, 0, none⟩ (.string s0)).setCell ⟨G + 1, 4, none⟩ (.string s4) := ⟨_, rfl⟩
                rw [← hw5]
                obtain ⟨M, hM⟩ : ∃ L : List Value, L = [.string s0, .slice at1 ne ct1, .slice at2 nt2 ct2, .string t3, .string s4] := ⟨_, rfl⟩
                have hagM : (#[.string s0, .slice at1 ne ct1, .slice at2 nt2 ct2, .string t3, .string s4] : Array Value) = M.toArray := by rw [hM]
                have HIM : Hid ((Tryz.prog.info? 24).map (·.size) = some M.toArray.size) := Lib.hid (by rw [hM]; exact info_dL _ _ _ _ _ _ _ _ _)
                have P5 : Hid (Has w5 G A 24) := Lib.hid (by rw [hw5]; exact (P4.out.setOther (a := ⟨G + 1, 0, none⟩) (by show G ≠ G + 1; omega) _).setOther (a := ⟨G + 1, 4, none⟩) (by show G ≠ G + 1; omega) _)
                have Q5 : Hid (Has w5 (G + 1) M 24) := Lib.hid (by
                  rw [hw5, hM]
                  have h := Q4.out
                  rw [HB.out] at h
                  exact (h.set 0 (.string s0)).set 4 (.string s4))
                have B5 : Hid (Below G w w5) := Lib.hid (by rw [hw5]; exact (B4.out.setCell (p := ⟨G + 1, 0, none⟩) (by show G ≤ G + 1; omega) _).setCell (p := ⟨G + 1, 4, none⟩) (by show G ≤ G + 1; omega) _)
                have hk1 := fun (w : World) h1 h2 hd hl => dout_any s0 s3 s4 as1 as2 nd cs1 ns2 cs2 ls1 ls2 ad nd cd ds w h1 h2 HSA.out hd hl
                have hk2 := fun (w : World) h1 h2 hd hl => dout_any s0 t3 s4 at1 at2 ne ct1 nt2 ct2 lt1 lt2 ae ne ce es w h1 h2 ⟨HSA.out.z0, HSB.out.z1, HSB.out.z2, HSB.out.z3, HSA.out.z4, HSB.out.n1, HSB.out.n2⟩ hd hl
                rw [HAGA.out] at hk1
                rw [hagM] at hk2
                unfold OutP at hk1 hk2
                have K1 := Lib.hid hk1
                have K2 := Lib.hid hk2
                obtain ⟨Q, hQ⟩ : ∃ Q, Q = doutB s0 ls2 s3 s4 ds := ⟨_, rfl⟩
                have HQ := Lib.hid hQ
                clear hk1 hk2 hM hagM hw5 hQ P4 Q4 B4
                go_wp2_with (refine wpList_load_row rfl 24 _ rfl G rfl 24 A.toArray (0, 0) _ P5.out Tryz.underlying24 rfl HIA.out ?_)
                refine (K1.out w5 (J1A.out.later (by rw [← HG.out]; exact B5.out)) (J2A.out.later (by rw [← HG.out]; exact B5.out)) (ID.out.later (by rw [← HG.out]; exact B5.out)) (HL.out.later (by rw [← HG.out]; exact B5.out))).mono ?_
                rintro e w6 ⟨_, _, pp, x6⟩
                have he := pp HFA.out.symm (by rw [HLD.out, HNA1.out])
                rw [← HQ.out] at he
                subst he
                clear pp
                have B6 : Hid (Below G w w6) := Lib.hid (B5.out.trans (x6.mono (Nat.le_of_lt P5.out.lt)))
                have P6 := Lib.hid (P5.out.below x6 P5.out.lt)
                have Q6 := Lib.hid (Q5.out.below x6 Q5.out.lt)
                clear x6 P5 Q5 B5
                go_wp2_with (refine wpList_load_row rfl 24 _ rfl (G + 1) rfl 24 M.toArray (0, 0) _ Q6.out Tryz.underlying24 rfl HIM.out ?_)
                refine (K2.out w6 (J1B.out.later (by rw [← HG.out]; exact B6.out)) (J2B.out.later (by rw [← HG.out]; exact B6.out)) (IE.out.later (by rw [← HG.out]; exact B6.out)) (HL.out.later (by rw [← HG.out]; exact B6.out))).mono ?_
                rintro e w7 ⟨_, _, pp, x7⟩
                have he := pp (form_mix HFA.out.symm HFB.out.symm) (by rw [HLE.out, HNB1.out])
                rw [← HE.out, ← HQ.out] at he
                subst he
                clear pp
                have B7 : Hid (Below G w w7) := Lib.hid (B6.out.trans (x7.mono (Nat.le_of_lt P6.out.lt)))
                have hqq : (Q.toList == Q.toList) = true := toL_yes rfl
                clear x7
                go_wp2_with fail
                go_ret
                exact ⟨rfl, by rw [← HG.out]; exact B7.out⟩
          · as_aux_lemma =>
              have c3' : ¬ (ne : Int) = (nt1 : Int) := by omega
              subst c2
              clear c3
              go_wp2_with fail
              refine (awake_any _).mono ?_
              rintro e w5 ⟨rfl, x5⟩
              have B5 : Hid (Below G w w5) := Lib.hid (B4.out.trans (x5.mono (Nat.le_of_lt P4.out.lt)))
              clear x5
              go_wp2_with fail
              go_ret
              exact ⟨rfl, by rw [← HG.out]; exact B5.out⟩
        · as_aux_lemma =>
            have c2' : ¬ (nd : Int) = (ns1 : Int) := by omega
            clear c2
            go_wp2_with fail
            refine (awake_any _).mono ?_
            rintro e w5 ⟨rfl, x5⟩
            have B5 : Hid (Below G w w5) := Lib.hid (B4.out.trans (x5.mono (Nat.le_of_lt P4.out.lt)))
            clear x5
            go_wp2_with fail
            go_ret
            exact ⟨rfl, by rw [← HG.out]; exact B5.out⟩
  · as_aux_lemma =>
      have c1' : (nd : Int) + (ne : Int) > 100 := by omega
      go_wp2_with fail
      refine (awake_any _).mono ?_
      rintro e w3 ⟨rfl, x3⟩
      have B3 : Hid (Below G w w3) := Lib.hid (B2.out.trans (x3.mono (Nat.le_of_lt P2.out.lt)))
      clear x3
      go_wp2_with fail
      go_ret
      exact ⟨rfl, by rw [← HG.out]; exact B3.out⟩
end Go.Proofs.YtokbakpbhpknfaaGreatDoor

/-
  The contracts of Base, Records, Free. Conditions: the journal's block.
-/
import Derived.Test.YtgjckddcnmbceaaGreatDoorJAdd
import Derived.BigQuiet
import Derived.Laws.OwnMore
namespace Go.Proofs.YtgjckddcnmbceaaGreatDoor
open Go.RowKit
set_option linter.unusedVariables false

section
variable {w : World} {B pd pj n m k h N used : Nat} {L base : List UInt8} {recs : List (List UInt8)} {bV rV : Value} {st : Bool}
set_option maxRecDepth 100000
set_option maxHeartbeats 2000000 in
theorem base_any (hj : Has w pj (jC pd h N bV rV used st false) tJ) (hb : w.ownsRow B 5 1 bV base.length (base.map bv)) (hs : base.length ≤ 140737488355328) :
    Calls Tryz.prog 25 #[.pointer (some ⟨pj, 0, none⟩)] w fun e w' => ∃ v, e = .returned v ∧ w'.ownsRow w.heap.size 5 1 v base.length (base.map bv) ∧ Below w.heap.size w w' := by
  have HRN := Lib.hid (renew_any hj)
  obtain ⟨a, c, rfl, hi⟩ := isB_owned hb hs
  have HC := Lib.hid (clone_all a base.length c base w hi)
  have c3 := hj.cellAt (i := 3) rfl
  clear hj hb hi
  go_enter Tryz.func25, Tryz.ntmps25
  go_wp2_with (first | (go_at_call 28; refine HRN.out.mono ?_; rintro e w0 ⟨rfl, rfl⟩) | (go_at_call 31; refine HC.out.mono ?_; rintro e w2 ⟨v2, rfl, ho2, hb2⟩))
  go_ret
  exact ⟨v2, rfl, ho2, hb2⟩

set_option maxHeartbeats 2000000 in
theorem free_any (hj : Has w pj (jC pd h N bV rV used st false) tJ) (hd : Dv w B pd n L m k) (hr : 256 * half n ≤ 1000000000) (hu : used ≤ 1000000000) :
    Calls Tryz.prog 17 #[.pointer (some ⟨pj, 0, none⟩)] w fun e w' => e = .returned (.int .i64 ((256 * half n - used - 32 : Nat) : Int)) ∧ Below w.heap.size w w' := by
  have HRN := Lib.hid (renew_any hj)
  have HR := Lib.hid (fun q => room_q hj hd q)
  have c5 := hj.cellAt (i := 5) rfl
  obtain ⟨RM, hRM⟩ : ∃ RM, RM = 256 * half n := ⟨_, rfl⟩
  rw [← hRM] at HR hr ⊢
  have BQ : Hid (∀ q, Below w.heap.size w (w.drewN q)) := Lib.hid (fun q => ⟨rfl, rfl, rfl, Nat.le_refl _, fun _ _ => rfl⟩)
  have HRES : Hid (max ((RM : Int) - (used : Int) - 32) 0 = ((RM - used - 32 : Nat) : Int)) := Lib.hid (by omega)
  obtain ⟨X, hX⟩ : ∃ X, X = RM - used - 32 := ⟨_, rfl⟩
  rw [← hX] at HRES ⊢
  have e1 : wrap64 ((RM : Int) - (used : Int)) = (RM : Int) - (used : Int) := by unfold wrap64; omega
  have e2 : wrap64 ((RM : Int) - (used : Int) - 32) = (RM : Int) - (used : Int) - 32 := by unfold wrap64; omega
  clear hj hd hRM hr hu hX
  go_enter Tryz.func17, Tryz.ntmps17
  go_upto_region 4 with (go_at_call 28; refine HRN.out.mono ?_; rintro e w0 ⟨rfl, rfl⟩)
  have hmx := HRES.out
  go_quiet ((go_at_call 19; exact Calls.quiet_of_same (HR.out _)))
  go_wp2_with fail
  go_ret
  exact ⟨by first | rfl | (congr 2), BQ.out _⟩

set_option maxHeartbeats 4000000 in
theorem records_any (hj : Has w pj (jC pd h N bV rV used st false) tJ) (hr : Recs w B rV recs) (hB : B ≤ w.heap.size) (hs : ∀ i, i < recs.length → (recs.getD i []).length ≤ 1000000) (hl : recs.length ≤ 1000000) :
    Calls Tryz.prog 23 #[.pointer (some ⟨pj, 0, none⟩)] w fun e w' => ∃ v, e = .returned v ∧ Recs w' w.heap.size v recs ∧ Below w.heap.size w w' := by
  have HRN := Lib.hid (renew_any hj)
  have c4 := hj.cellAt (i := 4) rfl
  obtain ⟨i0, hi, hz0, hz1, hz2⟩ := infoBy
  have HI := Lib.hid hi
  have HZ0 := Lib.hid hz0
  have HZ1 := Lib.hid hz1
  have HZ2 := Lib.hid hz2
  obtain ⟨vs, hrv, hrs⟩ := hr
  obtain ⟨ra, rc, rfl, hrc⟩ : ∃ ra rc, rV = .slice ra recs.length rc ∧ (∀ i, i < recs.length → ∃ b, ra = some ⟨b, 0, none⟩ ∧ ∀ x, Below w.heap.size w x → x.cell? ⟨b, i, none⟩ = some (vs.getD i undef)) := by
    have hvl : vs.length = recs.length := by have := hrv.1; omega
    rcases hrv.2 with ⟨rfl, h0⟩ | ⟨g, cap, cur, rfl, hg, hgg, hle, hmx, hsz, htk⟩
    · exact ⟨none, 0, by rw [h0], fun i hi => by omega⟩
    · refine ⟨_, _, rfl, fun i hi => ⟨g, rfl, fun x hx => ?_⟩⟩
      have hc := World.ownsRow.cellAt hrv i (by omega)
      rw [(hx.cell (p := ⟨g, i, none⟩) (Array.getElem?_eq_some_iff.1 hgg).1), hc, List.getD_eq_getElem?_getD, List.getElem?_eq_getElem (by omega)]; rfl
  have HRC := Lib.hid hrc
  have HRS := Lib.hid hrs
  have HSS := Lib.hid hs
  have HLL := Lib.hid hl
  obtain ⟨B0, hB0⟩ : ∃ B0, B0 = w.heap.size := ⟨_, rfl⟩
  have HB0 := Lib.hid hB0
  obtain ⟨LN, hLN⟩ : ∃ LN, LN = recs.length := ⟨_, rfl⟩
  have HLN := Lib.hid hLN
  have hLNs : LN ≤ 1000000 := by omega
  rw [← hLN] at c4
  rw [← hB0]
  clear hi hz0 hz1 hz2 hrv hrs hrc hs hl hB0 hLN hj
  go_enter Tryz.func23, Tryz.ntmps23
  go_wp2_with (go_at_call 28; refine HRN.out.mono ?_; rintro e w0 ⟨rfl, rfl⟩)
  clear c4
  go_loopw [3, 15] (fun v ii wr => ∃ j : Nat, j ≤ LN ∧ ii = .int .i64 j ∧ Hid (Recs wr B0 v (recs.take j)) ∧ Hid (Below B0 w wr)) (fun _ ii _ => LN - (intOf ii).toNat)
  case atStart => exact ⟨0, Nat.zero_le _, rfl, Lib.hid (by rw [List.take_zero]; exact Recs.nil _ _), Lib.hid (Below.refl _ _)⟩
  case round =>
    obtain ⟨j, hj, rfl, hR, hb⟩ := hrel
    by_cases hlt : j < LN
    · have hji : (j : Int) < (LN : Int) := by omega
      obtain ⟨b, rfl, hcell⟩ := HRC.out j (by have := HLN.out; omega)
      have hc := hcell wr (by rw [← HB0.out]; exact hb.out)
      have hO := own_later (HRS.out j (by have := HLN.out; omega)) (w' := wr) (by rw [← HB0.out]; exact hb.out)
      obtain ⟨q, hq⟩ : ∃ q, q = recs.getD j [] := ⟨_, rfl⟩
      have hqs : q.length ≤ 1000000 := by rw [hq]; exact HSS.out j (by have := HLN.out; omega)
      rw [← hq] at hO
      have HQ := Lib.hid hq
      clear hq
      obtain ⟨a1, c1, e1, hi1⟩ := isB_owned hO (by omega)
      rw [e1] at hc
      have HC := Lib.hid (clone_all a1 q.length c1 q wr hi1)
      have HBw : Hid (B0 ≤ wr.heap.size) := Lib.hid (by rw [HB0.out]; exact hb.out.size)
      obtain ⟨TJ, hTJ⟩ : ∃ TJ, TJ = recs.take j := ⟨_, rfl⟩
      rw [← hTJ] at hR
      have HTJ := Lib.hid hTJ
      obtain ⟨vv, hR1, hR2⟩ := hR.out
      have R1 := Lib.hid hR1
      have R2 := Lib.hid hR2
      have HTL : Hid (TJ.length = j) := Lib.hid (by rw [hTJ, List.length_take]; have := HLN.out; omega)
      clear hO hi1 hR1 hR2 hR hcell hTJ
      go_upto_region 8 with fail
      clear hc
      go_wp2_with (first | (go_at_call 31; refine HC.out.mono ?_; rintro e w2 ⟨v2, rfl, ho2, hb2⟩; obtain ⟨va, vn, vc, rfl⟩ := row_slice ho2) | (at_builtin; go_must (refine wpList_append_lies _ rfl (.tmp 19) (.tmp 22) 48 rfl B0 tBy i0 (.slice none 0 0) 1 24 Tryz.underlying48 HI.out HZ0.out HZ1.out HZ2.out rfl (by omega) _ TJ.length vv rfl ((own_later R1.out hb2).alloc _) ⟨w2.heap.size, 0, none⟩ 1 1 [.slice va vn vc] rfl rfl ?e1 ?e2 ?e3 ?e4 ?e5 ?e6 _ rfl ?e7)))
      case e1 =>
        intro j2 u hj2
        match j2, hj2 with
        | 0, hj2 => simp at hj2; subst hj2; simp [Addr.add]
      case e2 => intro u hu; simp at hu; subst hu; rfl
      case e3 => omega
      case e4 => rw [HTL.out]; unfold maxLen; omega
      case e5 => rw [HTL.out]; omega
      case e6 => have := hb2.size; have := HBw.out; simp; omega
      intro g cap2 w4 hown hgrow hlo hhi
      have RO : (w2.alloc (.cells #[.slice va vn vc] tBy)).ownsRow B0 tBy 1 _ TJ.length vv := (own_later R1.out hb2).alloc _
      have BA : Below B0 w (w2.alloc (.cells #[.slice va vn vc] tBy)) := (hb.out.trans (hb2.mono HBw.out)).alloc (Nat.le_trans HBw.out hb2.size) _
      have PN := owns_grown ((owns_lower ho2 HBw.out).alloc (.cells #[.slice va vn vc] tBy)) RO (by decide) hgrow
      have B4 : Hid (Below B0 w w4) := Lib.hid (row_below BA (by have := hb2.size; have := HBw.out; simp; omega) RO hgrow)
      have hvl : vv.length = TJ.length := by have := RO.1; omega
      have htk : recs.take (j + 1) = TJ ++ [q] := by
        rw [HTJ.out, List.take_succ_eq_append_getElem (by have := HLN.out; omega), HQ.out, List.getD_eq_getElem?_getD, List.getElem?_eq_getElem (by have := HLN.out; omega)]; rfl
      have R4 : Hid (Recs w4 B0 (.slice (some ⟨g, 0, none⟩) (TJ.length + 1) cap2) (recs.take (j + 1))) := Lib.hid (by
        rw [htk]
        refine ⟨vv ++ [.slice va vn vc], by rw [List.length_append]; exact hown, fun i hi => ?_⟩
        rw [List.length_append] at hi
        rcases Nat.lt_or_ge i TJ.length with h1 | h1
        · rw [getD_left _ _ _ _ (by omega), getD_left _ _ _ _ h1]
          exact owns_grown ((own_later (R2.out i h1) hb2).alloc _) RO (by decide) hgrow
        · have e : i = TJ.length := by simp only [List.length_cons, List.length_nil] at hi; omega
          subst e
          have e1 : (vv ++ [Value.slice va vn vc]).getD TJ.length undef = .slice va vn vc := by rw [← hvl]; simp [List.getD]
          have e2 : (TJ ++ [q]).getD TJ.length [] = q := by simp [List.getD]
          rw [e1, e2]
          exact PN)
      clear hown hgrow hlo hhi RO BA PN htk hvl ho2 hb2 R1 R2 hb
      go_wp2_with fail
      go_roundw
      case rel => exact ⟨j + 1, by omega, by go_num, R4, B4⟩
      case measure => simp [intOf]; omega
    · have hji : ¬ (j : Int) < (LN : Int) := by omega
      obtain rfl : j = LN := by omega
      rw [HLN.out, List.take_length] at hR
      go_wp2_with fail
      go_ret
      exact ⟨_, rfl, hR.out, hb.out⟩
end

end Go.Proofs.YtgjckddcnmbceaaGreatDoor

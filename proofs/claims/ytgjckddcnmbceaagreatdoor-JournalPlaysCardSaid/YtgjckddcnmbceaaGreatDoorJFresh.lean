/-
  The contracts of the law's fresh and same (where it is the same). Conditions: the journal's block.
-/
import Derived.Test.YtgjckddcnmbceaaGreatDoorJForm
import Derived.Test.YtgjckddcnmbceaaGreatDoorJTell
namespace Go.Proofs.YtgjckddcnmbceaaGreatDoor
open Go.RowKit
set_option linter.unusedVariables false

theorem Recs.lower {w : World} {B B' : Nat} {rV : Value} {recs : List (List UInt8)} (h : Recs w B rV recs) (hB : B' ≤ B) : Recs w B' rV recs := by
  obtain ⟨vs, h3, h4⟩ := h
  exact ⟨vs, owns_lower h3 hB, fun j hj => owns_lower (h4 j hj) hB⟩

/-- A journal on a device: what stands there, and the block that tells it. -/
structure Jn (w : World) (B Bo pd pj n k h m : Nat) (L base : List UInt8) (recs : List (List UInt8)) : Prop where
  dev : Dv w B pd n L 0 k
  on_ : On n L h m base recs
  own : ∃ bV rV, Has w pj (jC pd h (m + 1 + recs.length) bV rV (laidL m base recs).length false false) tJ ∧ w.ownsRow Bo 5 1 bV base.length (base.map bv) ∧ Recs w Bo rV recs
  pjB : B ≤ pj
theorem Jn.later {w w' : World} {B Bo pd pj n k h m : Nat} {L base : List UInt8} {recs : List (List UInt8)} (j : Jn w B Bo pd pj n k h m L base recs) (hb : Below w.heap.size w w') : Jn w' B Bo pd pj n k h m L base recs := by
  obtain ⟨h1, h2, ⟨bV, rV, h3, h4, h5⟩, h6⟩ := j
  exact ⟨h1.later hb, h2, ⟨bV, rV, (hb.block pj h3.lt).trans h3, own_later h4 hb, h5.later hb⟩, h6⟩
/-- Behind Open. -/
theorem Jn.of_load {w w' : World} {B pd n k h m : Nat} {L base : List UInt8} {recs : List (List UInt8)} {e : Ending} (hd : Dv w B pd n L 0 k) (hO : On n L h m base recs) (hB : B ≤ w.heap.size) (hp : LoadP pd n h m base recs w e w') :
    ∃ pj, e = .returned (.tuple #[.pointer (some ⟨pj, 0, none⟩), .int .i64 0]) ∧ Jn w' B w.heap.size pd pj n k h m L base recs ∧ Below w.heap.size w w' := by
  obtain ⟨pj, bV, rV, he, h1, h2, h3, h4, h5⟩ := hp
  exact ⟨pj, he, ⟨hd.later h5, hO, ⟨bV, rV, h2, h3, h4⟩, Nat.le_trans hB h1⟩, h5⟩
theorem Jn.lower {w : World} {B Bo Bo' pd pj n k h m : Nat} {L base : List UInt8} {recs : List (List UInt8)} (j : Jn w B Bo pd pj n k h m L base recs) (hB : Bo' ≤ Bo) : Jn w B Bo' pd pj n k h m L base recs := by
  obtain ⟨h1, h2, ⟨bV, rV, h3, h4, h5⟩, h6⟩ := j
  exact ⟨h1, h2, ⟨bV, rV, h3, owns_lower h4 hB, h5.lower hB⟩, h6⟩

def FreshP (n : Nat) (w : World) (e : Ending) (w' : World) : Prop :=
  ∃ pd pj L, e = .returned (.tuple #[.pointer (some ⟨pd, 0, none⟩), .pointer (some ⟨pj, 0, none⟩)]) ∧ Jn w' w.heap.size w.heap.size pd pj n 20000 1 1 L [] [] ∧ Below w.heap.size w w'

set_option maxRecDepth 100000 in
set_option maxHeartbeats 2000000 in
theorem fresh_any (n : Nat) (w : World) (hl : LaidW w) (hn : 6 ≤ n) (hn2 : n ≤ 100) : Calls Tryz.prog 9 #[.int .i64 (n : Int)] w (FreshP n w) := by
  have hh : 2 ≤ half n := by unfold half; omega
  have hhs : half n ≤ 49 := by unfold half; omega
  have HNEW := Lib.hid (new_any n w (by omega) (by omega))
  obtain ⟨B, hB⟩ : ∃ B, B = w.heap.size := ⟨_, rfl⟩
  have hgB : 3 < B := by rw [hB]; exact hl.two
  have hs0 : ∀ i, i < n → sec (zer (256 * n)) i = zer 256 := fun i hi => by
    unfold sec; rw [zer_drop, zer_take]; congr 1; omega
  have hz : newL (sec (zer (256 * n)) 0) (sec (zer (256 * n)) 1) = (0, 0, false) := by rw [hs0 0 (by omega), hs0 1 (by omega)]; exact new_zer _ _
  have hzl : (zer (256 * n)).length = 256 * n := zer_length _
  have HFM : Hid (∀ x pd, Dv x B pd n (zer (256 * n)) 0 0 → Below B w x → Calls Tryz.prog 27 #[.pointer (some ⟨pd, 0, none⟩)] x fun e w' => e = .returned (.int .i64 0) ∧ Dv w' B pd n (resetL n (zer (256 * n)) 1 2 []) 0 20000 ∧ Kp jT B x w') :=
    Lib.hid (fun x pd hd hx => (format_ok hd (hl.below hx hgB) hz (by omega) (by omega) hh (by omega) (by omega) (by have := hx.size; rw [hB]; exact this) hgB).mono fun e w' ⟨a, b, c⟩ => ⟨a, b.more (Nat.le_refl _) (by omega), c⟩)
  have HON : Hid (On n (resetL n (zer (256 * n)) 1 2 []) 1 1 [] []) := Lib.hid (on_reset (h := 1) (N := 2) (base := []) hzl (by omega) (by omega) hz (by omega) (by omega) (by simp; omega) (by omega))
  obtain ⟨L, hL⟩ : ∃ L, L = resetL n (zer (256 * n)) 1 2 [] := ⟨_, rfl⟩
  rw [← hL] at HFM HON
  have HOP : Hid (∀ x pd, Dv x B pd n L 0 20000 → Below B w x → Calls Tryz.prog 15 #[.pointer (some ⟨pd, 0, none⟩)] x (LoadP pd n 1 1 [] [] x)) :=
    Lib.hid (fun x pd hd hx => open_ok hd (hl.below hx hgB) HON.out hh (by omega) (by simp) (by simp))
  have HBB := Lib.hid hB
  clear hL hz hs0 hzl hh hhs hgB hl hB
  go_enter Tryz.func9, Tryz.ntmps9
  go_upto_region 2 with (go_at_call 26; refine HNEW.out.mono ?_; rintro e w1 ⟨pd, bd, bl, rfl, hd1, hb1⟩)
  have B1 : Hid (Below B w w1) := Lib.hid (by rw [HBB.out]; exact hb1)
  have D1 : Hid (Dv w1 B pd n (zer (256 * n)) 0 0) := Lib.hid (by rw [HBB.out]; exact dv_new hd1)
  have HF := Lib.hid (HFM.out w1 pd D1.out B1.out)
  clear hd1 hb1 HFM HNEW
  go_upto_region 4 with (go_at_call 27; refine HF.out.mono ?_; rintro e w2 ⟨rfl, hd2, hk2⟩)
  have hB1 : B ≤ w1.heap.size := by rw [HBB.out]; exact B1.out.size
  have B2 : Hid (Below B w w2) := Lib.hid (B1.out.trans (hk2.below hB1))
  have hB2 : B ≤ w2.heap.size := Nat.le_trans hB1 hk2.size
  have D2 := Lib.hid hd2
  have HO := Lib.hid (HOP.out w2 pd hd2 B2.out)
  have HB2 := Lib.hid hB2
  clear hd2 hk2 HF HOP D1 hB1 hB2
  go_wp2_with (go_at_call 15; refine HO.out.mono ?_; rintro e w3 hlp; obtain ⟨pj, rfl, hj3, hb3⟩ := Jn.of_load D2.out HON.out HB2.out hlp)
  go_ret2
  refine ⟨pd, pj, L, rfl, ?_, ?_⟩
  · rw [← HBB.out]; exact hj3.lower HB2.out
  · rw [← HBB.out]; exact B2.out.trans (hb3.mono HB2.out)

theorem conv_isB {w : World} {a : Option Addr} {n c : Nat} {l : List UInt8} (h : IsB w a n c l) : (convert 33 9 (.slice a n c)).run Tryz.prog w = .ok (.string ⟨l.toArray⟩) w := by
  have e := Go.Lib.BytesIn.convert (P := Tryz.prog) (bytesIn_of h) (by rw [List.length_map]; exact h.length) c 33 5 9 Tryz.underlying33 Tryz.underlying5 Tryz.underlying9
  rw [e]
  exact congrArg (fun s => Result.ok (Value.string s) w) (congrArg (fun l : List UInt8 => (⟨l.toArray⟩ : ByteArray)) (bytesOf_back l))

/-- Texts that lie in memory: the records as texts. -/
def Txts (w : World) (a : Option Addr) (recs : List (List UInt8)) : Prop := ∀ i, i < recs.length → ∃ b o, a = some ⟨b, o, none⟩ ∧ b < w.heap.size ∧ w.cell? ⟨b, o + i, none⟩ = some (.string ⟨(recs.getD i []).toArray⟩)

set_option maxRecDepth 100000 in
set_option maxHeartbeats 4000000 in
theorem same_any {w : World} {B Bo pd pj n k h m : Nat} {L base : List UInt8} {recs : List (List UInt8)} (j : Jn w B Bo pd pj n k h m L base recs) (hB : Bo ≤ w.heap.size) (hb : base.length ≤ 1000000) (hs : ∀ i, i < recs.length → (recs.getD i []).length ≤ 1000000) (hl : recs.length ≤ 1000000)
    (a : Option Addr) (c : Nat) (ht : Txts w a recs) (hc : recs.length ≤ c ∧ c ≤ maxLen) :
    Calls Tryz.prog 16 #[.pointer (some ⟨pj, 0, none⟩), .string ⟨base.toArray⟩, .slice a recs.length c] w fun e w' => e = .returned (.bool true) ∧ Below w.heap.size w w' := by
  obtain ⟨bV, rV, h3, h4, h5⟩ := j.own
  have HRC := Lib.hid (records_any h3 h5 hB hs hl)
  have HBS : Hid (∀ x, Below w.heap.size w x → Calls Tryz.prog 25 #[.pointer (some ⟨pj, 0, none⟩)] x fun e w' => ∃ v, e = .returned v ∧ w'.ownsRow x.heap.size 5 1 v base.length (base.map bv) ∧ Below x.heap.size x w') :=
    Lib.hid (fun x hx => base_any ((hx.block pj h3.lt).trans h3) (own_later h4 hx) (by omega))
  obtain ⟨S, hS⟩ : ∃ S : ByteArray, S = ⟨base.toArray⟩ := ⟨_, rfl⟩
  rw [← hS]
  obtain ⟨LN, hLN⟩ : ∃ LN, LN = recs.length := ⟨_, rfl⟩
  rw [← hLN] at hc ⊢
  have HS := Lib.hid hS
  have HLN := Lib.hid hLN
  have HSS := Lib.hid hs
  have HT := Lib.hid ht
  have hLs : LN ≤ 1000000 := by omega
  have hbs : Hid (base.length ≤ 140737488355328) := Lib.hid (by omega)
  have hcm : c ≤ 9223372036854775807 := by have := hc.2; unfold maxLen at this; omega
  have hLc : LN ≤ c := hc.1
  clear j h3 h4 h5 hS hLN hs hl ht hb hc
  go_enter Tryz.func16, Tryz.ntmps16
  go_upto_region 2 with (go_at_call 23; refine HRC.out.mono ?_; rintro e w1 ⟨v1, rfl, hr1, hb1⟩)
  obtain ⟨vs, hrv, hrs⟩ := hr1
  obtain ⟨ra, rc, rfl, hrc⟩ : ∃ ra rc, v1 = .slice ra LN rc ∧ LN ≤ rc ∧ (∀ i, i < LN → ∃ b, ra = some ⟨b, 0, none⟩ ∧ ∀ x, Below w1.heap.size w1 x → x.cell? ⟨b, i, none⟩ = some (vs.getD i undef)) := by
    rw [HLN.out]
    have hvl : vs.length = recs.length := by have := hrv.1; omega
    rcases hrv.2 with ⟨rfl, h0⟩ | ⟨g, cap, cur, rfl, hg, hgg, hle, hmx, hsz, htk⟩
    · exact ⟨none, 0, by rw [h0], by omega, fun i hi => by omega⟩
    · refine ⟨_, _, rfl, hle, fun i hi => ⟨g, rfl, fun x hx => ?_⟩⟩
      have hcc := World.ownsRow.cellAt hrv i (by omega)
      rw [(hx.cell (p := ⟨g, i, none⟩) (Array.getElem?_eq_some_iff.1 hgg).1), hcc, List.getD_eq_getElem?_getD, List.getElem?_eq_getElem (by omega)]; rfl
  have B1 := Lib.hid hb1
  have HRV := Lib.hid hrc.2
  have hrcl := hrc.1
  have HRS := Lib.hid hrs
  have HB1 := Lib.hid (HBS.out w1 hb1)
  clear hrv hrs hb1 hrc HBS HRC
  go_upto_region 4 with (first | (go_at_call 25; refine HB1.out.mono ?_; rintro e w2 ⟨v2, rfl, ho2, hb2⟩; obtain ⟨va, vc, rfl, hi2⟩ := isB_owned ho2 hbs.out; have hcv := conv_isB hi2; rw [← HS.out] at hcv; have B2 := Lib.hid hb2; clear hi2 ho2 hb2))
  clear hcv
  go_wp2_with fail
  go_loopw [8] (fun ii wr => ∃ j : Nat, j ≤ LN ∧ ii = .int .i64 j ∧ Hid (Below w1.heap.size w1 wr)) (fun ii _ => LN - (intOf ii).toNat)
  case atStart => exact ⟨0, Nat.zero_le _, rfl, B2⟩
  case round =>
    obtain ⟨j, hj, rfl, hb⟩ := hrel
    by_cases hlt : j < LN
    · have hji : (j : Int) < (LN : Int) := by omega
      obtain ⟨b, rfl, hcell⟩ := HRV.out j hlt
      have hc1 := hcell wr hb.out
      obtain ⟨tb, t0, rfl, htl, htc⟩ := HT.out j (by have := HLN.out; omega)
      have ht1 := ((B1.out.trans (hb.out.mono B1.out.size)).cell (p := ⟨tb, t0 + j, none⟩) htl).trans htc
      have hO := own_later (HRS.out j (by have := HLN.out; omega)) hb.out
      obtain ⟨q, hq⟩ : ∃ q, q = recs.getD j [] := ⟨_, rfl⟩
      have hqs := HSS.out j (by have := HLN.out; omega)
      rw [← hq] at hO ht1 hqs
      obtain ⟨a1, c1, e1, hi1⟩ := isB_owned hO (by omega)
      rw [e1] at hc1
      obtain ⟨T, hT⟩ : ∃ T : ByteArray, T = ⟨q.toArray⟩ := ⟨_, rfl⟩
      rw [← hT] at ht1
      have hcv : ∀ q2, (convert 33 9 (.slice a1 q.length c1)).run Tryz.prog (wr.drewN q2) = .ok (.string T) (wr.drewN q2) := fun q2 => by
        rw [hT]; exact conv_isB (hi1.later (w' := wr.drewN q2) ⟨rfl, rfl, rfl, Nat.le_refl _, fun _ _ => rfl⟩)
      obtain ⟨QL, hQL⟩ : ∃ QL, QL = q.length := ⟨_, rfl⟩
      rw [← hQL] at hcv hc1
      clear hO hi1 hcell htc htl hT hq hqs e1 hQL
      go_upto_region 7 with fail
      go_quiet (fail)
      go_wp2_with fail
      go_roundw
      case rel => exact ⟨j + 1, by omega, by go_num, Lib.hid (by repeat (first | exact hb.out | apply below_drewN))⟩
      case measure => simp [intOf]; omega
    · obtain rfl : j = LN := by omega
      go_wp2_with fail
      go_ret
      exact ⟨rfl, B1.out.trans (hb.out.mono B1.out.size)⟩

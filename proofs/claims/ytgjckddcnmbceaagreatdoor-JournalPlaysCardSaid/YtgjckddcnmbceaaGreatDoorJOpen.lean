/-
  The contracts of Format on a device whose sectors ahead are noughts, and of Open where a journal stands; what stands behind Reset and Append. Conditions: the device as Dv says, the digest's laid variables.
-/
import Derived.Test.YtgjckddcnmbceaaGreatDoorJLoad
import Derived.Test.YtgjckddcnmbceaaGreatDoorJReset
namespace Go.Proofs.YtgjckddcnmbceaaGreatDoor
open Go.RowKit
set_option linter.unusedVariables false

theorem sec_far {D p : List UInt8} {n o i : Nat} (h : D.length = 256 * n) (hf : o + p.length ≤ D.length) (hi : 256 * i + 256 ≤ o) : sec (splice D o p) i = sec D i := by
  refine List.ext_getElem? fun j => ?_
  by_cases hj : j < 256
  · rw [sec_get hj, sec_get hj, splice_get hf, if_neg (by omega)]
  · unfold sec
    rw [List.getElem?_eq_none (by rw [List.length_take]; omega), List.getElem?_eq_none (by rw [List.length_take]; omega)]
theorem reg_splice {D p : List UInt8} {n o h : Nat} (hf : o + p.length ≤ D.length) (ho : 256 * fst n h ≤ o) (he : o + p.length ≤ 256 * fst n h + 256 * half n) : reg n (splice D o p) h = splice (reg n D h) (o - 256 * fst n h) p := by
  unfold reg
  refine List.ext_getElem? fun j => ?_
  by_cases hj : j < 256 * half n
  · rw [List.getElem?_take_of_lt hj, List.getElem?_drop, splice_get hf]
    by_cases hl : 256 * fst n h + j < D.length
    · rw [splice_get (by rw [List.length_take, List.length_drop]; omega)]
      by_cases c : o ≤ 256 * fst n h + j ∧ 256 * fst n h + j < o + p.length
      · rw [if_pos c, if_pos (by omega)]; congr 1; omega
      · rw [if_neg c, if_neg (by omega), List.getElem?_take_of_lt hj, List.getElem?_drop]
    · rw [if_neg (by omega), List.getElem?_eq_none (by omega), List.getElem?_eq_none]
      rw [length_splice _ _ _ (by rw [List.length_take, List.length_drop]; omega), List.length_take, List.length_drop]; omega
  · rw [List.getElem?_eq_none (by rw [List.length_take]; omega), List.getElem?_eq_none]
    by_cases hl : o - 256 * fst n h + p.length ≤ ((D.drop (256 * fst n h)).take (256 * half n)).length
    · rw [length_splice _ _ _ hl, List.length_take]; omega
    · unfold splice
      simp only [List.length_append, List.length_take, List.length_drop] at hl ⊢
      omega
theorem splice_behind {Z p : List UInt8} {A : List UInt8} {k : Nat} (hp : p.length ≤ k) : splice (A ++ zer k) A.length p = A ++ p ++ zer (k - p.length) := by
  unfold splice
  rw [List.take_left, ← List.drop_drop, List.drop_left, zer_drop, List.append_assoc]

/-- A record more. -/
theorem on_append {n h m : Nat} {L base : List UInt8} {recs : List (List UInt8)} (hO : On n L h m base recs) (hL : L.length = 256 * n) (hn : 2 ≤ n) (p : List UInt8) (hf : (laidL m base recs).length + (32 + p.length) ≤ 256 * half n) :
    On n (splice L (256 * fst n h + (laidL m base recs).length) (packL (m + 1 + recs.length + 1) p)) h m base (recs ++ [p]) := by
  have hfe := fst_end (n := n) hO.hh
  have hmax : max n 2 = n := by omega
  have hpl := packL_length (m + 1 + recs.length + 1) p
  have h2 : 2 ≤ fst n h := by unfold fst; omega
  have hbd : 256 * fst n h + (laidL m base recs).length + (packL (m + 1 + recs.length + 1) p).length ≤ L.length := by rw [hL, hpl]; omega
  have hln : laidL m base (recs ++ [p]) = laidL m base recs ++ packL (m + 1 + recs.length + 1) p := by rw [laid_snoc, show m + 2 + recs.length = m + 1 + recs.length + 1 by omega]
  refine ⟨?_, hO.pos, hO.hh, ?_, ?_⟩
  · rw [sec_far hL hbd (by omega), sec_far hL hbd (by omega)]; exact hO.hd
  · rw [reg_splice hbd (by omega) (by omega), Nat.add_sub_cancel_left, hO.body, splice_behind (Z := []) (by rw [hpl]; omega), hln, List.length_append, hpl, Nat.sub_sub]
  · rw [hln, List.length_append, hpl]; exact hf
/-- Behind a Reset. -/
theorem on_reset {n h m N : Nat} {L base : List UInt8} (hL : L.length = 256 * n) (hn : 2 ≤ n) (hh : h ≤ 1) {t : Bool} (hw : newL (sec L 0) (sec L 1) = (1 - h, m, t)) (hm : m + 1 < N) (hN : N < 1000000000000) (hf : 32 + base.length ≤ 256 * half n) (hb : 256 * half n < 2147483648) :
    On n (resetL n L h N base) h (N - 1) base [] := by
  have hfe := fst_end (n := n) hh
  have h2 : 2 ≤ fst n h := by unfold fst; omega
  have hll : (layL n N base).length = 256 * half n := layL_length hf
  have hbd : 256 * fst n h + (layL n N base).length ≤ L.length := by rw [hL, hll]; omega
  have hL1 : (splice L (256 * fst n h) (layL n N base)).length = 256 * n := by rw [length_splice _ _ _ hbd, hL]
  have e0 : sec (splice L (256 * fst n h) (layL n N base)) 0 = sec L 0 := sec_far hL hbd (by omega)
  have e1 : sec (splice L (256 * fst n h) (layL n N base)) 1 = sec L 1 := sec_far hL hbd (by omega)
  have hv : valO (headS (N - 1)) = some (N - 1) := by unfold headS; exact val_pack (N - 1) [] _ (by simp) (by omega)
  have hN1 : N - 1 + 1 = N := by omega
  unfold resetL
  refine ⟨?_, by omega, hh, ?_, ?_⟩
  · rcases (show h = 0 ∨ h = 1 by omega) with rfl | rfl
    · rw [sec_splice_same hL1 (by omega) (headS_length _), sec_splice_other hL1 (by omega) (by omega) (by rw [headS_length]; exact Nat.le_refl _) (by omega), e1]
      exact new_a hw (by omega) (by omega) (by omega) hv
    · rw [sec_splice_same hL1 (by omega) (headS_length _), sec_splice_other hL1 (by omega) (by omega) (by rw [headS_length]; exact Nat.le_refl _) (by omega), e0]
      exact new_b hw (by omega) (by omega) (by omega) hv
  · have e2 : reg n (splice (splice L (256 * fst n h) (layL n N base)) (256 * h) (headS (N - 1))) h = reg n (splice L (256 * fst n h) (layL n N base)) h := by
      unfold reg
      refine List.ext_getElem? fun j => ?_
      by_cases hj : j < 256 * half n
      · rw [List.getElem?_take_of_lt hj, List.getElem?_take_of_lt hj, List.getElem?_drop, List.getElem?_drop, splice_get (by rw [headS_length]; omega), headS_length, if_neg (by omega)]
      · rw [List.getElem?_eq_none (by rw [List.length_take]; omega), List.getElem?_eq_none (by rw [List.length_take]; omega)]
    rw [e2, reg_splice hbd (Nat.le_refl _) (by omega), Nat.sub_self, laid_zero, hN1, packL_length]
    have hrl := reg_length (n := n) (h := h) hL hh hn
    unfold splice
    rw [List.take_zero, List.nil_append, Nat.zero_add, List.drop_eq_nil_of_le (by omega), List.append_nil]
    rfl
  · rw [laid_zero, hN1, packL_length]; exact hf

set_option maxRecDepth 100000 in
set_option maxHeartbeats 1000000 in
theorem fit_any {w : World} {B pd n m k : Nat} {L : List UInt8} (hd : Dv w B pd n L m k) (hh : 2 ≤ half n) : Calls Tryz.prog 34 #[.pointer (some ⟨pd, 0, none⟩)] w fun e w' => e = .returned (.int .i64 0) ∧ w = w' := by
  have HL := Lib.hid (dlen hd)
  have HH := Lib.hid (half_any n w hd.room)
  obtain ⟨H, hH⟩ : ∃ H, H = half n := ⟨_, rfl⟩
  rw [← hH] at HH hh
  have h2 : ¬ (H : Int) < 2 := by omega
  clear hd hH hh
  go_enter Tryz.func34, Tryz.ntmps34
  go_wp2_with (first | (go_at_call 38; refine HL.out.mono ?_; rintro e w1 ⟨rfl, rfl⟩) | (go_at_call 10; refine HH.out.mono ?_; rintro e w1 ⟨rfl, rfl⟩))
  go_ret
  exact ⟨rfl, rfl⟩

set_option maxRecDepth 100000 in
set_option maxHeartbeats 2000000 in
theorem open_ok {w : World} {B pd n m k h : Nat} {L base : List UInt8} {recs : List (List UInt8)} (hd : Dv w B pd n L 0 k) (hl : LaidW w) (hO : On n L h m base recs) (hh : 2 ≤ half n) (hbig : 256 * half n ≤ 1000000) (hM : m + recs.length < 100000000000) (hrl : recs.length ≤ 1000000) :
    Calls Tryz.prog 15 #[.pointer (some ⟨pd, 0, none⟩)] w (LoadP pd n h m base recs w) := by
  have HF := Lib.hid (fit_any hd hh)
  have HLD := Lib.hid (load_ok hd hl hO (by unfold half at hh; omega) hbig hM hrl)
  have HD := Lib.hid hd
  clear hd hl hO hh hbig hM hrl
  go_enter Tryz.func15, Tryz.ntmps15
  go_wp2_with (first | (go_at_call 34; refine HF.out.mono ?_; rintro e w1 ⟨rfl, rfl⟩) | (go_at_call 35; refine HLD.out.mono ?_; rintro e w1 ⟨pj, bV, rV, rfl, h1, h2, h3, h4, h5⟩; have H1 := Lib.hid h1; have H2 := Lib.hid h2; have H3 := Lib.hid h3; have H4 := Lib.hid h4; have H5 := Lib.hid h5; have HW := Lib.hid (dway (HD.out.later h5)); clear h1 h2 h3 h4 h5) | (go_at_call 36; refine HW.out.mono ?_; rintro e w2 ⟨rfl, rfl⟩))
  go_ret2
  exact ⟨pj, bV, rV, rfl, H1.out, H2.out, H3.out, H4.out, H5.out⟩

end Go.Proofs.YtgjckddcnmbceaaGreatDoor

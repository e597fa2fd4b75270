/-
  The parser's op: operands and the signs between them. Conditions: the parser's block.
-/
import Derived.Test.YtnajafnbickiiaaDoorPSel
namespace Go.Proofs.YtnajafnbickiiaaDoor
open Go.RowKit
set_option linter.unusedVariables false

theorem sgL_len (ts : List Tk) : (sgL ts).length = 3 := by unfold sgL; split <;> rfl
theorem sgL_size (ts : List Tk) : (sgL ts).toArray.size = 3 := by rw [List.size_toArray, sgL_len]
theorem sgL_one (ts : List Tk) : (sgL ts).toArray.all (·.oneCell') = true := by
  unfold sgL; split <;> exact all_oneCell_toArray (by intro v hv; simp at hv; rcases hv with rfl | rfl | rfl <;> rfl)
theorem sgL_st (ts : List Tk) : (sgL ts)[1]? = some (.int .i64 (sgS ts : Int)) := by unfold sgL sgS; cases signT ts <;> rfl
theorem sgL_some {ts : List Tk} {g : List UInt8 × Nat × Bool} (h : signT ts = some g) : sgL ts = sgC g := by unfold sgL; rw [h]; rfl
theorem sgS_some {ts : List Tk} {g : List UInt8 × Nat × Bool} (h : signT ts = some g) : sgS ts = g.2.1 := by unfold sgS; rw [h]
theorem has_range {w : World} {b : Nat} {L : List Value} {t : TypeId} (h : Has w b L t) : w.rangeAt b 0 L := fun j v hj => by rw [Nat.zero_add]; exact h.cellAt hj
theorem info_sgs : (Tryd.prog.info? 74).map (·.size) = some 3 := by kernel_rfl

set_option maxRecDepth 100000 in
set_option maxHeartbeats 8000000 in
theorem op_ok {n : Nat} {w : World} {pb g off cap d s : Nat} {ts : List Tk} {rm : Int} (hs1 : 1 ≤ s) (h : Ps w pb g off cap ts d rm) (x : Ex) (r : List Tk) (hp : pg n (.op s) d ts = .ok x r)
    (hpre : ∀ m, m < n → ∀ (W : World) (o c : Nat) (t1 : List Tk) (y : Ex) (r1 : List Tk), Ps W pb g o c t1 d rm → pg m .pre d t1 = .ok y r1 → Calls Tryd.prog 46 #[.pointer (some ⟨pb, 0, none⟩)] W (PX pb g d rm W y r1))
    (hright : ∀ m, m < n → ∀ (W : World) (o c : Nat) (t1 : List Tk) (sg : List UInt8 × Nat × Bool) (y : Ex) (r1 : List Tk), sg ∈ signsP → Ps W pb g o c t1 d rm → pg m (.right sg) d t1 = .ok y r1 →
      Calls Tryd.prog 48 #[.pointer (some ⟨pb, 0, none⟩), .agg (sgC sg).toArray] W (PX pb g d rm W y r1)) :
    Calls Tryd.prog 33 #[.pointer (some ⟨pb, 0, none⟩), .int .i64 (s : Int)] w (PX pb g d rm w x r) := by
  obtain ⟨m, x0, r0, rfl, hs0, hc0⟩ := op_inv hp
  have HPRE := Lib.hid hpre
  have HRIGHT := Lib.hid hright
  have HH := Lib.hid h
  have HL : Hid (pb < w.heap.size ∧ g < w.heap.size) := Lib.hid ⟨h.row.lt, h.lt⟩
  have HS0 := Lib.hid hs0
  have HC0 := Lib.hid hc0
  have HS1 := Lib.hid hs1
  clear h hp hpre hright hs0 hc0 hs1
  go_enter Tryd.func33, Tryd.ntmps33
  go_upto_region 1 with fail
  obtain ⟨G, hG⟩ : ∃ G, G = w.heap.size := ⟨_, rfl⟩
  rw [← hG]
  obtain ⟨w1, hx1⟩ : ∃ x, x = w.alloc (.cells #[.int .u8 0, .int .i64 0, .string ⟨#[]⟩, .slice none 0 0, .slice none 0 0, .bool false, .slice none 0 0, .int .i64 0] 28) := ⟨_, rfl⟩
  rw [← hx1]
  have Z1 : Hid (Has w1 G exZ 28) := Lib.hid (by rw [hx1, hG]; exact Has.new w exZ _)
  have B1 : Hid (But G pb w w1) := Lib.hid (by rw [hx1, hG]; exact But.of_below ((Below.refl _ _).alloc (Nat.le_refl _) _))
  have H1 : Hid (Ps w1 pb g off cap ts d rm) := Lib.hid (HH.out.later (by rw [hx1]; exact (Below.refl _ _).alloc (Nat.le_refl _) _))
  have HG := Lib.hid hG
  have HPG : Hid (pb < G ∧ g < G) := Lib.hid (by rw [hG]; exact HL.out)
  clear hx1 hG HH HL
  have HQ := Lib.hid (HPRE.out m (Nat.lt_succ_self m) w1 off cap ts x0 r0 H1.out HS0.out)
  have HLT := Lib.hid Z1.out.lt
  have HLP := Lib.hid H1.out.row.lt
  go_wp2_with fail
  refine HQ.out.mono ?_
  rintro e w4 ⟨cs, o4, c4, rfl, ix, bt, p4⟩
  have Z4 : Hid (Has w4 G exZ 28) := Lib.hid (Z1.out.but bt Z1.out.lt (by have := HPG.out; omega))
  have B4 : Hid (But G pb w w4) := Lib.hid (B1.out.trans (bt.mono (Nat.le_of_lt Z1.out.lt)))
  have H4 := Lib.hid p4
  obtain ⟨E, hE⟩ : ∃ E, E = cs.toArray := ⟨_, rfl⟩
  rw [← hE]
  have HE := Lib.hid hE
  have HEI : Hid ((Tryd.prog.info? 28).map (·.size) = some E.size) := Lib.hid (by rw [hE, List.size_toArray, ix.len]; exact info_ex)
  have HEO : Hid (E.all (·.oneCell') = true) := Lib.hid (by rw [hE]; exact ix.one)
  have HES : Hid (exZ.toArray.size = E.size) := Lib.hid (by rw [hE, List.size_toArray, List.size_toArray, ix.len]; rfl)
  have NW : Hid (Has (w4.alloc (.cells #[.int .u8 0, .int .i64 0, .string ⟨#[]⟩, .slice none 0 0, .slice none 0 0, .bool false, .slice none 0 0, .int .i64 0] 28)) w4.heap.size exZ 28) := Lib.hid (Has.new w4 exZ _)
  obtain ⟨X, hX⟩ : ∃ X, X = w4.heap.size := ⟨_, rfl⟩
  have IX : Hid (IsXS w4 (fun k => G < k ∧ k ≠ X) cs x0) := Lib.hid (IsXS.mono ix fun k h1 h2 => ⟨by have := HLT.out; omega, by rw [hX]; omega⟩)
  clear ix bt p4 hE HQ H1 Z1 B1
  go_upto_region 2 with (refine wpList_store_row rfl 28 _ _ rfl w4.heap.size E rfl rfl 28 _ NW.out HEI.out HES.out HEO.out ?_)
  obtain ⟨w5, hw5⟩ : ∃ y, y = (w4.alloc (.cells #[.int .u8 0, .int .i64 0, .string ⟨#[]⟩, .slice none 0 0, .slice none 0 0, .bool false, .slice none 0 0, .int .i64 0] 28)).setRow w4.heap.size E := ⟨_, rfl⟩
  rw [← hw5, ← hX]
  have X5 : Hid (Has w5 X cs 28) := Lib.hid (by rw [hw5, hX, HE.out]; exact NW.out.row _)
  have D5 : Hid (Below X w4 w5) := Lib.hid (by rw [hw5, hX]; exact below_setRow ((Below.refl _ _).alloc (Nat.le_refl _) _) (Nat.le_refl _) _)
  have H5 := Lib.hid (H4.out.later (by rw [← hX]; exact D5.out))
  have Z5 : Hid (Has w5 G exZ 28) := Lib.hid (Z4.out.below D5.out (by rw [hX]; exact Z4.out.lt))
  have B5 : Hid (But G pb w w5) := Lib.hid (B4.out.trans (But.of_below (D5.out.mono (by rw [hX]; exact Nat.le_of_lt Z4.out.lt))))
  have I5 : Hid (IsXS w5 (fun k => G < k ∧ k ≠ X) cs x0) := Lib.hid (IX.out.keep D5.out.size fun k _ h2 => D5.out.block k (by rw [hX]; exact h2))
  have HGX : Hid (G < X ∧ pb < X ∧ g < X) := Lib.hid (by rw [hX]; exact ⟨Z4.out.lt, H4.out.row.lt, H4.out.lt⟩)
  clear hw5 hX NW H4 Z4 B4 D5 IX HE HEI HEO HES
  simp only [Act.put]
  have KS := Lib.hid (sign_any2 H5.out)
  go_wp2_with fail
  refine KS.out.mono ?_
  rintro e w6 ⟨rfl, x6⟩
  have X6 := Lib.hid (X5.out.below x6 X5.out.lt)
  have Z6 := Lib.hid (Z5.out.below x6 Z5.out.lt)
  have H6 := Lib.hid (H5.out.later x6)
  have B6 : Hid (But G pb w w6) := Lib.hid (B5.out.trans (But.of_below (x6.mono (Nat.le_of_lt Z5.out.lt))))
  have I6 : Hid (IsXS w6 (fun k => G < k ∧ k ≠ X) cs x0) := Lib.hid (I5.out.keep x6.size fun k _ h2 => x6.block k h2)
  clear x6 KS X5 Z5 H5 B5 I5
  obtain ⟨F, hF⟩ : ∃ F, F = (sgL r0).toArray := ⟨_, rfl⟩
  rw [← hF]
  have HF := Lib.hid hF
  have HFI : Hid ((Tryd.prog.info? 74).map (·.size) = some F.size) := Lib.hid (by rw [hF, List.size_toArray, sgL_len]; exact info_sgs)
  have HFO : Hid (F.all (·.oneCell') = true) := Lib.hid (by rw [hF]; exact sgL_one r0)
  have HFS : Hid ((#[.string ⟨#[]⟩, .int .i64 0, .bool false] : Array Value).size = F.size) := Lib.hid (by rw [hF, sgL_size]; rfl)
  have NW : Hid (Has (w6.alloc (.cells #[.string ⟨#[]⟩, .int .i64 0, .bool false] 74)) w6.heap.size [.string ⟨#[]⟩, .int .i64 0, .bool false] 74) := Lib.hid (Has.new w6 _ _)
  clear hF
  go_upto_region 3 with (refine wpList_store_row rfl 74 _ _ rfl w6.heap.size F rfl rfl 74 _ NW.out HFI.out HFS.out HFO.out ?_)
  obtain ⟨gs0, hM⟩ : ∃ M, M = w6.heap.size := ⟨_, rfl⟩
  obtain ⟨w8, hwh⟩ : ∃ y, y = (w6.alloc (.cells #[.string ⟨#[]⟩, .int .i64 0, .bool false] 74)).setRow w6.heap.size F := ⟨_, rfl⟩
  rw [← hwh, ← hM]
  have DH : Hid (Below gs0 w6 w8) := Lib.hid (by rw [hwh, hM]; exact below_setRow ((Below.refl _ _).alloc (Nat.le_refl _) _) (Nat.le_refl _) _)
  have S8 : Hid (Has w8 gs0 (sgL r0) 74) := Lib.hid (by rw [hwh, hM, HF.out]; exact NW.out.row _)
  have HGS0 : Hid (G < gs0 ∧ gs0 ≠ X ∧ pb < gs0) := Lib.hid (by rw [hM]; exact ⟨Z6.out.lt, Nat.ne_of_gt X6.out.lt, H6.out.row.lt⟩)
  have X8 := Lib.hid (X6.out.below DH.out (by rw [hM]; exact X6.out.lt))
  have Z8 := Lib.hid (Z6.out.below DH.out (by rw [hM]; exact Z6.out.lt))
  have B8 : Hid (But G pb w w8) := Lib.hid (B6.out.trans (But.of_below (DH.out.mono (Nat.le_of_lt HGS0.out.1))))
  have H8 := Lib.hid (H6.out.later (by rw [← hM]; exact DH.out))
  have I8 : Hid (IsXS w8 (fun k => G < k ∧ k ≠ X) cs x0) := Lib.hid (I6.out.keep DH.out.size fun k _ h2 => DH.out.block k (by rw [hM]; exact h2))
  clear hM hwh NW HFI HFO HFS HF X6 Z6 B6 H6 I6 DH
  simp only [Act.put]
  go_loopg [6] m (fun gk v6 wr => ∃ (k gs : Nat) (xc : Ex) (tc : List Tk) (cc : List Value) (o c : Nat), gk = k ∧ k ≤ m ∧ v6 = .pointer (some ⟨gs, 0, none⟩) ∧ G < gs ∧ gs ≠ X ∧ pb < gs ∧ pg k (.ops s xc) d tc = .ok x r ∧ Ps wr pb g o c tc d rm ∧ Has wr gs (sgL tc) 74 ∧ Has wr X cc 28 ∧ IsXS wr (fun k => G < k ∧ k ≠ X) cc xc ∧ Has wr G exZ 28 ∧ But G pb w wr ∧ G < wr.heap.size)
  case atStart => exact ⟨m, gs0, x0, r0, cs, o4, c4, rfl, Nat.le_refl _, rfl, HGS0.out.1, HGS0.out.2.1, HGS0.out.2.2, HC0.out, H8.out, S8.out, X8.out, I8.out, Z8.out, B8.out, Z8.out.lt⟩
  case round =>
    obtain ⟨k, gs, xc, tc, cc, o, c, rfl, hk, rfl, hg1, hg2, hg3, hpg, hps, hsg, hxb, hix, hz, hbb, _⟩ := hrel
    obtain ⟨k1, rfl, hcase⟩ := ops_inv HS1.out hpg
    have HA := Lib.hid hps
    have SA := Lib.hid hsg
    have XA := Lib.hid hxb
    have IA := Lib.hid hix
    have ZA := Lib.hid hz
    have BA := Lib.hid hbb
    have HGS : Hid (G < gs ∧ gs ≠ X ∧ pb < gs) := Lib.hid ⟨hg1, hg2, hg3⟩
    have y1 : wr.cell? ⟨gs, 1, none⟩ = some (.int .i64 (sgS tc : Int)) := hsg.cellAt (i := 1) (sgL_st tc)
    clear hpg hps hsg hxb hix hz hbb hg1 hg2 hg3 H8 S8 X8 I8 Z8 B8 HC0 HS0 HGS0
    rcases hcase with ⟨ht, rfl, rfl⟩ | ⟨sg, hsig, hle, y, r1, hy, hnx⟩
    · as_aux_lemma =>
        have hcmp : ¬ (s : Int) ≤ (sgS r : Int) := by omega
        obtain ⟨sn, hsn⟩ : ∃ sn, sn = sgS r := ⟨_, rfl⟩
        rw [← hsn] at y1 hcmp
        obtain ⟨E, hE⟩ : ∃ E, E = cc.toArray := ⟨_, rfl⟩
        have HE := Lib.hid hE
        have HEI : Hid ((Tryd.prog.info? 28).map (·.size) = some E.size) := Lib.hid (by rw [hE, List.size_toArray, IA.out.len]; exact info_ex)
        have HEO : Hid (E.all (·.oneCell') = true) := Lib.hid (by rw [hE]; exact IA.out.one)
        have HES : Hid (exZ.toArray.size = E.size) := Lib.hid (by rw [hE, List.size_toArray, List.size_toArray, IA.out.len]; rfl)
        have HEX : Hid (wr.heap[X]? = some (.cells E 28 (0, 0))) := Lib.hid (by rw [hE]; exact XA.out)
        clear hE hsn ht
        go_wp2_with (first
          | (refine wpList_load_row rfl 28 _ rfl X rfl 28 E (0, 0) _ HEX.out Tryd.underlying28 rfl HEI.out ?_)
          | (refine wpList_store_row rfl 28 _ _ rfl G E rfl rfl 28 _ ZA.out HEI.out HES.out HEO.out ?_))
        refine bodyPost_ret (results_cell_row (fn := Tryd.f33) (p := 4) (ty := 28) Tryd.results33 _ _ G 28 E (0, 0) _ rfl (setRow_heap _ _ _ _ _ _ ZA.out) Tryd.underlying28 rfl HEI.out) rfl ?_
        refine ⟨cc, o, c, by rw [HE.out], ?_, ?_, HA.out.laterB (below_setRow (Below.refl G wr) (Nat.le_refl _) _) HPG.out.1 HPG.out.2⟩
        · rw [← HG.out]
          exact IsXS.mono (IA.out.keep (by simp) fun k h1 h2 => setRow_other _ _ _ _ (by omega)) fun k h1 _ => Nat.le_of_lt h1.1
        · rw [← HG.out]; exact BA.out.setRow (.inl (Nat.le_refl _)) _
    · as_aux_lemma =>
        have hst : stT tc 0 sg.1 = true := by unfold signT at hsig; exact List.find?_some (p := fun g : List UInt8 × Nat × Bool => stT tc 0 g.1) hsig
        have hmem : sg ∈ signsP := by unfold signT at hsig; exact List.mem_of_find?_eq_some hsig
        have hcmp : (s : Int) ≤ (sgS tc : Int) := by rw [sgS_some hsig]; omega
        match tc, hst, hsig, hy, hnx, hcmp, y1, HA, SA with
        | [], hst, _, _, _, _, _, _, _ => simp [stT] at hst
        | u :: q, hst, hsig, hy, hnx, hcmp, y1, HA, SA =>
        have HM := Lib.hid hmem
        have SS : Hid (Has wr gs (sgC sg) 74) := Lib.hid (by rw [← sgL_some hsig]; exact SA.out)
        have HY := Lib.hid (show pg k1 (.right sg) d q = .ok y r1 from hy)
        have HNX := Lib.hid (show pg k1 (.ops s (.mk 15 0 sg.1 [xc, y] u.at_)) d r1 = .ok x r from hnx)
        have KK := Lib.hid (take_any HA.out (stT_kind hst))
        obtain ⟨sn, hsn⟩ : ∃ sn, sn = sgS (u :: q) := ⟨_, rfl⟩
        rw [← hsn] at y1 hcmp
        clear hst hsig hy hnx hmem hsn hle SA
        go_wp2_with fail
        clear y1 hcmp
        refine KK.out.mono ?_
        rintro e wb ⟨rfl, bt, pe⟩
        rw [show (tokC u).toArray = #[.int .u8 (u.kind : Int), .string ⟨u.text.toArray⟩, .int .i64 (u.at_ : Int)] from rfl]
        have HC0 := Lib.hid pe
        have SC0 := Lib.hid (SS.out.but bt SS.out.lt (by have := HGS.out; omega))
        have XC0 := Lib.hid (XA.out.but bt XA.out.lt (by have := HGX.out; omega))
        have ZC0 := Lib.hid (ZA.out.but bt ZA.out.lt (by have := HPG.out; omega))
        have BC0 : Hid (But G pb w wb) := Lib.hid (BA.out.trans (bt.mono (Nat.le_of_lt ZA.out.lt)))
        have IC0 : Hid (IsXS wb (fun k => G < k ∧ k ≠ X) cc xc) := Lib.hid (IA.out.keep bt.size fun k h1 h2 => bt.block k h2 (by have := HPG.out; omega))
        clear bt pe HA SS XA ZA BA IA KK
        have hf2 := tok_field2 (.int .u8 (u.kind : Int)) (.string ⟨u.text.toArray⟩) (.int .i64 (u.at_ : Int))
        go_upto_region 6 with fail
        clear hf2
        obtain ⟨st, hst⟩ : ∃ st : ByteArray, st = ⟨sg.1.toArray⟩ := ⟨_, rfl⟩
        have HST := Lib.hid hst
        obtain ⟨sgn, hsgn⟩ : ∃ sgn : Nat, sgn = sg.2.1 := ⟨_, rfl⟩
        obtain ⟨sgr, hsgr⟩ : ∃ sgr : Bool, sgr = sg.2.2 := ⟨_, rfl⟩
        have HSGC : Hid (sgC sg = [.string st, .int .i64 (sgn : Int), .bool sgr]) := Lib.hid (by rw [hst, hsgn, hsgr]; rfl)
        clear hst hsgn hsgr
        refine wp_region_held_drew (S := fun W => W.rangeAt gs 0 [.string st, .int .i64 (sgn : Int), .bool sgr]) (by kernel_rfl) (by rw [← HSGC.out]; exact has_range SC0.out.drew) (fun hHeld => ?_)
        obtain ⟨wd, hwd⟩ : ∃ wd, wd = wb.drew := ⟨_, rfl⟩
        rw [← hwd]
        rw [← hwd] at hHeld
        have HC := Lib.hid (show Ps wd pb g (o + 3) (c - 1) q d rm by rw [hwd]; exact HC0.out.later (Below.refl _ _).drew)
        have SC : Hid (Has wd gs (sgC sg) 74) := Lib.hid (by rw [hwd]; exact SC0.out.drew)
        have XC : Hid (Has wd X cc 28) := Lib.hid (by rw [hwd]; exact XC0.out.drew)
        have ZC : Hid (Has wd G exZ 28) := Lib.hid (by rw [hwd]; exact ZC0.out.drew)
        have BC : Hid (But G pb w wd) := Lib.hid (by rw [hwd]; exact BC0.out.drew)
        have IC : Hid (IsXS wd (fun k => G < k ∧ k ≠ X) cc xc) := Lib.hid (by rw [hwd]; exact IC0.out.keep (Nat.le_refl _) fun k _ _ => rfl)
        have hq := HRIGHT.out k1 (by omega) wd _ _ q sg y r1 HM.out HC.out HY.out
        rw [HSGC.out] at hq
        have HQ := Lib.hid hq
        obtain ⟨D, hD⟩ : ∃ D, D = cc.toArray := ⟨_, rfl⟩
        have HD := Lib.hid hD
        have HDI : Hid ((Tryd.prog.info? 28).map (·.size) = some D.size) := Lib.hid (by rw [hD, List.size_toArray, IC.out.len]; exact info_ex)
        have HXD : Hid (wd.heap[X]? = some (.cells D 28 (0, 0))) := Lib.hid (by rw [hD]; exact XC.out)
        obtain ⟨i0, hi0, hi1, hi2, hi3⟩ := info_exp
        have HI0 := Lib.hid hi0
        have HI1 := Lib.hid hi1
        have HI2 := Lib.hid hi2
        have HI3 := Lib.hid hi3
        clear hq hwd HC0 SC0 XC0 ZC0 BC0 IC0 hD hi0 hi1 hi2 hi3
        refine wpAnyH_take (i := 0) (oi := { dst := some 21, op := Op.fieldAddr 74 (Operand.tmp 6) 0, type := 0, pos := "op.go:33", after := #[], guard := none }) (v := .pointer (some ⟨gs, 0, none⟩)) rfl (by kernel_rfl) (by kernel_rfl) (by kernel_rfl) (fun _ _ _ h => h)
          (Or.inl ⟨by rfl, by intro w hSw;  clear hSw; go_simp⟩) hHeld ?_
        try simp only [Act.put, List.setIfInBounds_toArray, List.set_cons_zero, List.set_cons_succ]
        refine wpAnyH_take (i := 1) (oi := { dst := some 22, op := Op.load 9 (Operand.tmp 21), type := 9, pos := "op.go:33", after := #[{ on := 0, ground := Ground.data }], guard := none }) (v := .string st) rfl (by kernel_rfl) (by kernel_rfl) (by kernel_rfl) (fun _ _ _ h => h)
          (Or.inl ⟨by rfl, by intro w hSw; have hcs := hSw 0 (.string st) rfl; clear hSw; go_simp⟩) hHeld ?_
        try simp only [Act.put, List.setIfInBounds_toArray, List.set_cons_zero, List.set_cons_succ]
        refine wpAnyH_take (i := 3) (oi := { dst := some 24, op := Op.move (Operand.tmp 0), type := 44, pos := "op.go:33", after := #[], guard := none }) (v := .pointer (some ⟨pb, 0, none⟩)) rfl (by kernel_rfl) (by kernel_rfl) (by kernel_rfl) (fun _ _ _ h => h)
          (Or.inl ⟨by rfl, by intro w hSw;  clear hSw; go_simp⟩) hHeld ?_
        try simp only [Act.put, List.setIfInBounds_toArray, List.set_cons_zero, List.set_cons_succ]
        refine wpAnyH_take (i := 4) (oi := { dst := some 25, op := Op.load 74 (Operand.tmp 6), type := 74, pos := "op.go:33", after := #[], guard := none }) rfl (by kernel_rfl) (by kernel_rfl) (by kernel_rfl) (fun _ _ _ h => h)
          (yieldsIf_load_mid (by rfl) 74 (.tmp 6) rfl gs (0) rfl [.string st, .int .i64 (sgn : Int), .bool sgr] _ (fun _ h => h) Tryd.underlying74 rfl info_sgs) hHeld ?_
        try simp only [Act.put, List.setIfInBounds_toArray, List.set_cons_zero, List.set_cons_succ]
        refine wpAnyH_take (i := 7) (oi := { dst := some 28, op := Op.move (Operand.tmp 7), type := 3, pos := "op.go:33", after := #[], guard := none }) (v := .int .i64 (u.at_ : Int)) rfl (by kernel_rfl) (by kernel_rfl) (by kernel_rfl) (fun _ _ _ h => h)
          (Or.inl ⟨by rfl, by intro w hSw;  clear hSw; go_simp⟩) hHeld ?_
        try simp only [Act.put, List.setIfInBounds_toArray, List.set_cons_zero, List.set_cons_succ]
        refine wpAnyH_ready (rs := [2, 5]) (by kernel_rfl) (by simp) ?_
        refine AllReadyH.cons (o := { dst := some 23, op := Op.load 28 (Operand.tmp 5), type := 28, pos := "op.go:33", after := #[], guard := none }) rfl (fun K hK => ?_) (AllReadyH.cons (o := { dst := some 26, op := Op.call { callee := Callee.value (Operand.func 48), args := #[Operand.tmp 24, Operand.tmp 25], argTypes := #[44, 74] }, type := 28, pos := "op.go:33", after := #[{ on := 3, ground := Ground.data }, { on := 4, ground := Ground.data }], guard := none }) rfl (fun K hK => ?_) AllReadyH.nil)
        · rw [if_pos (by rfl)]
          refine wp_load_row 28 (.tmp 5) rfl X rfl 28 D (0, 0) _ HXD.out Tryd.underlying28 rfl HDI.out ?_
          refine hK.out _ _ (by rw [← HSGC.out]; exact has_range SC.out) (fun hHw1 => ?_)
          clear hK K hHeld
          try simp only [Act.put, List.setIfInBounds_toArray, List.set_cons_zero, List.set_cons_succ]
          refine wpAnyH_ready (rs := [5]) (by kernel_rfl) (by simp) ?_
          refine AllReadyH.cons (o := { dst := some 26, op := Op.call { callee := Callee.value (Operand.func 48), args := #[Operand.tmp 24, Operand.tmp 25], argTypes := #[44, 74] }, type := 28, pos := "op.go:33", after := #[{ on := 3, ground := Ground.data }, { on := 4, ground := Ground.data }], guard := none }) rfl (fun K hK => ?_) AllReadyH.nil
          go_simp
          refine HQ.out.mono ?_
          rintro e we ⟨ys, oe, ce, rfl, iy, bt, pe⟩
          have HYL := Lib.hid iy.len
          have HE2 := Lib.hid pe
          have SE : Hid (Has we gs (sgC sg) 74) := Lib.hid (SC.out.but bt SC.out.lt (by have := HGS.out; omega))
          have XE : Hid (Has we X cc 28) := Lib.hid (XC.out.but bt XC.out.lt (by have := HGX.out; omega))
          have YE2 : Hid (Has we G exZ 28) := Lib.hid (ZC.out.but bt ZC.out.lt (by have := HPG.out; omega))
          have BE : Hid (But G pb w we) := Lib.hid (BC.out.trans (bt.mono (Nat.le_of_lt ZC.out.lt)))
          have IE : Hid (IsXS we (fun k => G < k ∧ k ≠ X) cc xc) := Lib.hid (IC.out.keep bt.size fun k h1 h2 => bt.block k h2 (by have := HPG.out; omega))
          have IY : Hid (IsXS we (fun k => G < k ∧ k ≠ X) ys y) := Lib.hid (IsXS.mono iy fun k h1 _ => ⟨by have := ZC.out.lt; omega, by have := XC.out.lt; omega⟩)
          clear iy bt pe HQ
          obtain ⟨Y, hY⟩ : ∃ Y, Y = ys.toArray := ⟨_, rfl⟩
          rw [← hY]
          have HYY := Lib.hid hY
          clear hY
          go_wp2_with fail
          refine hK.out _ _ (by rw [← HSGC.out]; exact has_range SE.out) (fun hHw2 => ?_)
          clear hK K hHw1
          try simp only [Act.put, List.setIfInBounds_toArray, List.set_cons_zero, List.set_cons_succ]
          refine wpAnyH_ready (rs := [6]) (by kernel_rfl) (by simp) ?_
          refine AllReadyH.cons (o := { dst := some 27, op := Op.buildSlice 26 2 #[(0, Operand.tmp 23), (1, Operand.tmp 26)], type := 26, pos := "op.go:33", after := #[{ on := 2, ground := Ground.data }, { on := 5, ground := Ground.data }], guard := none }) rfl (fun K hK => ?_) AllReadyH.nil
          rw [if_pos (by rfl)]
          refine wp_buildSlice 26 28 2 _ rfl (cc ++ ys).toArray i0 (.agg exZ.toArray) Tryd.underlying26 HI0.out HI1.out (by rw [HI2.out]; decide) (by rw [HI2.out]; decide) (by rw [HI2.out]; have := fill_two (l := cc) (m := ys) IE.out.len IY.out.len; refine Eq.trans (congrArg _ ?_) this; simp [Act.eval, HD.out, HYY.out]) ?_
          obtain ⟨N, hN⟩ : ∃ N, N = we.heap.size := ⟨_, rfl⟩
          obtain ⟨wf, hwf⟩ : ∃ y, y = we.alloc (.cells (cc ++ ys).toArray 28) := ⟨_, rfl⟩
          rw [← hwf, ← hN]
          have SF : Hid (Has wf gs (sgC sg) 74) := Lib.hid (by rw [hwf]; exact SE.out.alloc _)
          refine hK.out _ _ (by rw [← HSGC.out]; exact has_range SF.out) (fun hHw3 => ?_)
          clear hK K hHw2
          try simp only [Act.put, List.setIfInBounds_toArray, List.set_cons_zero, List.set_cons_succ]
          have XF : Hid (Has wf X cc 28) := Lib.hid (by rw [hwf]; exact XE.out.alloc _)
          have NF : Hid (Has wf N (cc ++ ys) 28) := Lib.hid (by rw [hwf, hN]; exact Has.new we _ _)
          have ZF : Hid (Has wf G exZ 28) := Lib.hid (by rw [hwf]; exact YE2.out.alloc _)
          have DF : Hid (Below N we wf) := Lib.hid (by rw [hwf, hN]; exact (Below.refl _ _).alloc (Nat.le_refl _) _)
          have BF : Hid (But G pb w wf) := Lib.hid (BE.out.trans (But.of_below (DF.out.mono (by rw [hN]; exact Nat.le_of_lt YE2.out.lt))))
          have PF := Lib.hid (HE2.out.later (by rw [← hN]; exact DF.out))
          have HNN : Hid (G < N ∧ X < N) := Lib.hid (by rw [hN]; exact ⟨YE2.out.lt, XE.out.lt⟩)
          have IF : Hid (IsXS wf (fun k => G < k ∧ k ≠ X) (exC 15 0 sg.1 (.slice (some ⟨N, 0, none⟩) 2 2) u.at_) (.mk 15 0 sg.1 [xc, y] u.at_)) := Lib.hid (node_two 15 sg.1 u.at_ NF.out ⟨HNN.out.1, by have := HNN.out.2; omega⟩ (IE.out.keep DF.out.size fun k _ h2 => DF.out.block k (by rw [hN]; exact h2)) (IY.out.keep DF.out.size fun k _ h2 => DF.out.block k (by rw [hN]; exact h2)))
          have IFL := Lib.hid IF.out.len
          rw [show exC 15 0 sg.1 (.slice (some ⟨N, 0, none⟩) 2 2) u.at_ = [.int .u8 15, .int .i64 0, .string st, .slice none 0 0, .slice none 0 0, .bool false, .slice (some ⟨N, 0, none⟩) 2 2, .int .i64 (u.at_ : Int)] by rw [HST.out]; rfl] at IF
          have CCL := Lib.hid IE.out.len
          clear hN hwf XE YE2 BE HE2 IE IY SE DF NF
          refine wpAnyH_take (i := 8) (oi := { dst := some 29, op := Op.build 28 #[(0, Operand.const (Value.int IntKind.u8 15)), (2, Operand.tmp 22), (6, Operand.tmp 27), (7, Operand.tmp 28)], type := 28, pos := "op.go:33", after := #[{ on := 1, ground := Ground.data }, { on := 6, ground := Ground.data }, { on := 7, ground := Ground.data }], guard := none }) (v := .agg #[.int .u8 15, .int .i64 0, .string st, .slice none 0 0, .slice none 0 0, .bool false, .slice (some ⟨N, 0, none⟩) 2 2, .int .i64 (u.at_ : Int)]) rfl (by kernel_rfl) (by kernel_rfl) (by kernel_rfl) (fun _ _ _ h => h)
            (Or.inl ⟨by rfl, by intro w hSw;  clear hSw; go_simp⟩) hHw3 ?_
          try simp only [Act.put, List.setIfInBounds_toArray, List.set_cons_zero, List.set_cons_succ]
          refine wpAnyH_ready (rs := [9]) (by kernel_rfl) (by simp) ?_
          refine AllReadyH.cons (o := { dst := none, op := Op.store 28 (Operand.tmp 5) (Operand.tmp 29), type := 0, pos := "op.go:33", after := #[{ on := 8, ground := Ground.data }, { on := 5, ground := Ground.chain }, { on := 0, ground := Ground.phase }, { on := 1, ground := Ground.phase }, { on := 2, ground := Ground.phase }, { on := 3, ground := Ground.phase }, { on := 4, ground := Ground.phase }, { on := 5, ground := Ground.phase }, { on := 6, ground := Ground.phase }, { on := 7, ground := Ground.phase }, { on := 8, ground := Ground.phase }], guard := none }) rfl (fun K hK => ?_) AllReadyH.nil
          rw [if_pos (by rfl)]
          refine wp_store_row 28 (.tmp 5) (.tmp 29) rfl X #[.int .u8 15, .int .i64 0, .string st, .slice none 0 0, .slice none 0 0, .bool false, .slice (some ⟨N, 0, none⟩) 2 2, .int .i64 (u.at_ : Int)] rfl rfl 28 cc.toArray XF.out info_ex (by rw [List.size_toArray, CCL.out]; rfl) IF.out.one ?_
          obtain ⟨wg, hwg⟩ : ∃ y, y = wf.setRow X #[.int .u8 15, .int .i64 0, .string st, .slice none 0 0, .slice none 0 0, .bool false, .slice (some ⟨N, 0, none⟩) 2 2, .int .i64 (u.at_ : Int)] := ⟨_, rfl⟩
          rw [← hwg]
          have SG : Hid (Has wg gs (sgC sg) 74) := Lib.hid (by rw [hwg]; exact SF.out.rowOther (by have := HGS.out; omega) _)
          have XG : Hid (Has wg X [.int .u8 15, .int .i64 0, .string st, .slice none 0 0, .slice none 0 0, .bool false, .slice (some ⟨N, 0, none⟩) 2 2, .int .i64 (u.at_ : Int)] 28) := Lib.hid (by rw [hwg]; exact XF.out.row _)
          have ZG : Hid (Has wg G exZ 28) := Lib.hid (by rw [hwg]; exact ZF.out.rowOther (by have := HGX.out; omega) _)
          have BG : Hid (But G pb w wg) := Lib.hid (by rw [hwg]; exact BF.out.setRow (.inl (Nat.le_of_lt HGX.out.1)) _)
          have PG := Lib.hid (show Ps wg pb g oe ce r1 d rm by rw [hwg]; exact PF.out.laterB (B := G) (below_setRow (Below.refl G wf) (Nat.le_of_lt HGX.out.1) _) HPG.out.1 HPG.out.2)
          have IG : Hid (IsXS wg (fun k => G < k ∧ k ≠ X) [.int .u8 15, .int .i64 0, .string st, .slice none 0 0, .slice none 0 0, .bool false, .slice (some ⟨N, 0, none⟩) 2 2, .int .i64 (u.at_ : Int)] (.mk 15 0 sg.1 [xc, y] u.at_)) := Lib.hid (by rw [hwg]; exact IF.out.keep (by simp) fun k h1 h2 => setRow_other _ _ _ _ h1.2)
          clear hwg XF ZF BF PF IF SF
          refine hK.out _ _ (by rw [← HSGC.out]; exact has_range SG.out) (fun hHw4 => ?_)
          clear hK K hHw3
          try simp only [Act.put]
          refine wpAnyH_done (by kernel_rfl) ?_ _
          clear hHw4
          have HSC3 : Hid ((sgC sg).length = 3) := Lib.hid rfl
          obtain ⟨E, hE⟩ : ∃ E, E = (sgC sg).toArray := ⟨_, rfl⟩
          have HE := Lib.hid hE
          have HEI : Hid ((Tryd.prog.info? 74).map (·.size) = some E.size) := Lib.hid (by rw [hE]; exact info_sg sg)
          have HEO : Hid (E.all (·.oneCell') = true) := Lib.hid (by rw [hE]; exact all_oneCell_toArray (by intro v hv; simp [sgC] at hv; rcases hv with rfl | rfl | rfl <;> rfl))
          have HES : Hid ((#[.string ⟨#[]⟩, .int .i64 0, .bool false] : Array Value).size = E.size) := Lib.hid (by rw [hE]; rfl)
          have HEX : Hid (wg.heap[gs]? = some (.cells E 74 (0, 0))) := Lib.hid (by rw [hE]; exact SG.out)
          have NW : Hid (Has (wg.alloc (.cells #[.string ⟨#[]⟩, .int .i64 0, .bool false] 74)) wg.heap.size [.string ⟨#[]⟩, .int .i64 0, .bool false] 74) := Lib.hid (Has.new wg _ _)
          clear hE
          go_upto_region 4 with (first | (refine wpList_load_row rfl 74 _ rfl gs rfl 74 E (0, 0) _ HEX.out Tryd.underlying74 rfl HEI.out ?_) | (refine wpList_store_row rfl 74 _ _ rfl wg.heap.size E rfl rfl 74 _ NW.out HEI.out HES.out HEO.out ?_))
          obtain ⟨M, hM⟩ : ∃ M, M = wg.heap.size := ⟨_, rfl⟩
          obtain ⟨wh, hwh⟩ : ∃ y, y = (wg.alloc (.cells #[.string ⟨#[]⟩, .int .i64 0, .bool false] 74)).setRow wg.heap.size E := ⟨_, rfl⟩
          rw [← hwh, ← hM]
          have DH : Hid (Below M wg wh) := Lib.hid (by rw [hwh, hM]; exact below_setRow ((Below.refl _ _).alloc (Nat.le_refl _) _) (Nat.le_refl _) _)
          have MH : Hid (Has wh M (sgC sg) 74) := Lib.hid (by rw [hwh, hM, HE.out]; exact NW.out.row _)
          have HMX : Hid (G < M ∧ X < M ∧ pb < M) := Lib.hid (by rw [hM]; exact ⟨ZG.out.lt, XG.out.lt, PG.out.row.lt⟩)
          have XH := Lib.hid (XG.out.below DH.out (by rw [hM]; exact XG.out.lt))
          have ZH := Lib.hid (ZG.out.below DH.out (by rw [hM]; exact ZG.out.lt))
          have BH : Hid (But G pb w wh) := Lib.hid (BG.out.trans (But.of_below (DH.out.mono (Nat.le_of_lt HMX.out.1))))
          have PH := Lib.hid (PG.out.later (by rw [← hM]; exact DH.out))
          have IH : Hid (IsXS wh (fun k => G < k ∧ k ≠ X ∧ k ≠ M) [.int .u8 15, .int .i64 0, .string st, .slice none 0 0, .slice none 0 0, .bool false, .slice (some ⟨N, 0, none⟩) 2 2, .int .i64 (u.at_ : Int)] (.mk 15 0 sg.1 [xc, y] u.at_)) := Lib.hid (IsXS.mono (IsXS.keep (IsXS.mono IG.out (S' := fun k => G < k ∧ k ≠ X ∧ k ≠ M) fun k h1 h2 => ⟨h1.1, h1.2, by rw [hM]; exact Nat.ne_of_lt h2⟩) DH.out.size fun k _ h2 => DH.out.block k (by rw [hM]; exact h2)) fun k h1 _ => h1)
          clear hM hwh NW HEX HEI HEO HES HE XG ZG BG PG IG SG DH
          have KS := Lib.hid (sign_any2 PH.out)
          go_wp2_with fail
          refine KS.out.mono ?_
          rintro e wi ⟨rfl, xi⟩
          have XI := Lib.hid (XH.out.below xi XH.out.lt)
          have ZI := Lib.hid (ZH.out.below xi ZH.out.lt)
          have MI := Lib.hid (MH.out.below xi MH.out.lt)
          have BI : Hid (But G pb w wi) := Lib.hid (BH.out.trans (But.of_below (xi.mono (Nat.le_of_lt ZH.out.lt))))
          have PI := Lib.hid (PH.out.later xi)
          have II : Hid (IsXS wi (fun k => G < k ∧ k ≠ X ∧ k ≠ M) [.int .u8 15, .int .i64 0, .string st, .slice none 0 0, .slice none 0 0, .bool false, .slice (some ⟨N, 0, none⟩) 2 2, .int .i64 (u.at_ : Int)] (.mk 15 0 sg.1 [xc, y] u.at_)) := Lib.hid (IH.out.keep xi.size fun k _ h2 => xi.block k h2)
          clear xi XH ZH MH BH PH IH KS
          obtain ⟨F, hF⟩ : ∃ F, F = (sgL r1).toArray := ⟨_, rfl⟩
          rw [← hF]
          have HF := Lib.hid hF
          have HFI : Hid ((Tryd.prog.info? 74).map (·.size) = some F.size) := Lib.hid (by rw [hF, List.size_toArray, sgL_len]; exact info_sgs)
          have HFO : Hid (F.all (·.oneCell') = true) := Lib.hid (by rw [hF]; exact sgL_one r1)
          have HFS : Hid ((sgC sg).toArray.size = F.size) := Lib.hid (by rw [hF, sgL_size]; rfl)
          clear hF
          go_wp2_with (refine wpList_store_row rfl 74 _ _ rfl M F rfl rfl 74 _ MI.out HFI.out HFS.out HFO.out ?_)
          go_roundg k1
          case rel => exact ⟨k1, M, .mk 15 0 sg.1 [xc, y] u.at_, r1, [.int .u8 15, .int .i64 0, .string st, .slice none 0 0, .slice none 0 0, .bool false, .slice (some ⟨N, 0, none⟩) 2 2, .int .i64 (u.at_ : Int)], oe, ce, rfl, by omega, rfl, HMX.out.1, by have := HMX.out; omega, HMX.out.2.2, HNX.out, PI.out.laterB (B := G) (below_setRow (Below.refl G wi) (Nat.le_of_lt HMX.out.1) _) HPG.out.1 HPG.out.2, by rw [HF.out]; exact MI.out.row _, XI.out.rowOther (by have := HMX.out; omega) _, IsXS.mono (II.out.keep (by simp) fun k h1 h2 => setRow_other _ _ _ _ h1.2.2) fun k h1 _ => ⟨h1.1, h1.2.1⟩, ZI.out.rowOther (by have := HMX.out; omega) _, BI.out.setRow (.inl (Nat.le_of_lt HMX.out.1)) _, by simpa using ZI.out.lt⟩
          case measure => omega
        · go_simp
          refine HQ.out.mono ?_
          rintro e we ⟨ys, oe, ce, rfl, iy, bt, pe⟩
          have HYL := Lib.hid iy.len
          have HE2 := Lib.hid pe
          have SE : Hid (Has we gs (sgC sg) 74) := Lib.hid (SC.out.but bt SC.out.lt (by have := HGS.out; omega))
          have XE : Hid (Has we X cc 28) := Lib.hid (XC.out.but bt XC.out.lt (by have := HGX.out; omega))
          have YE2 : Hid (Has we G exZ 28) := Lib.hid (ZC.out.but bt ZC.out.lt (by have := HPG.out; omega))
          have BE : Hid (But G pb w we) := Lib.hid (BC.out.trans (bt.mono (Nat.le_of_lt ZC.out.lt)))
          have IE : Hid (IsXS we (fun k => G < k ∧ k ≠ X) cc xc) := Lib.hid (IC.out.keep bt.size fun k h1 h2 => bt.block k h2 (by have := HPG.out; omega))
          have IY : Hid (IsXS we (fun k => G < k ∧ k ≠ X) ys y) := Lib.hid (IsXS.mono iy fun k h1 _ => ⟨by have := ZC.out.lt; omega, by have := XC.out.lt; omega⟩)
          clear iy bt pe HQ
          obtain ⟨Y, hY⟩ : ∃ Y, Y = ys.toArray := ⟨_, rfl⟩
          rw [← hY]
          have HYY := Lib.hid hY
          clear hY
          go_wp2_with fail
          refine hK.out _ _ (by rw [← HSGC.out]; exact has_range SE.out) (fun hHw1 => ?_)
          clear hK K hHeld
          try simp only [Act.put, List.setIfInBounds_toArray, List.set_cons_zero, List.set_cons_succ]
          refine wpAnyH_ready (rs := [2]) (by kernel_rfl) (by simp) ?_
          refine AllReadyH.cons (o := { dst := some 23, op := Op.load 28 (Operand.tmp 5), type := 28, pos := "op.go:33", after := #[], guard := none }) rfl (fun K hK => ?_) AllReadyH.nil
          rw [if_pos (by rfl)]
          refine wp_load_row 28 (.tmp 5) rfl X rfl 28 D (0, 0) _ (by rw [HD.out]; exact XE.out) Tryd.underlying28 rfl HDI.out ?_
          refine hK.out _ _ (by rw [← HSGC.out]; exact has_range SE.out) (fun hHw2 => ?_)
          clear hK K hHw1
          try simp only [Act.put, List.setIfInBounds_toArray, List.set_cons_zero, List.set_cons_succ]
          refine wpAnyH_ready (rs := [6]) (by kernel_rfl) (by simp) ?_
          refine AllReadyH.cons (o := { dst := some 27, op := Op.buildSlice 26 2 #[(0, Operand.tmp 23), (1, Operand.tmp 26)], type := 26, pos := "op.go:33", after := #[{ on := 2, ground := Ground.data }, { on := 5, ground := Ground.data }], guard := none }) rfl (fun K hK => ?_) AllReadyH.nil
          rw [if_pos (by rfl)]
          refine wp_buildSlice 26 28 2 _ rfl (cc ++ ys).toArray i0 (.agg exZ.toArray) Tryd.underlying26 HI0.out HI1.out (by rw [HI2.out]; decide) (by rw [HI2.out]; decide) (by rw [HI2.out]; have := fill_two (l := cc) (m := ys) IE.out.len IY.out.len; refine Eq.trans (congrArg _ ?_) this; simp [Act.eval, HD.out, HYY.out]) ?_
          obtain ⟨N, hN⟩ : ∃ N, N = we.heap.size := ⟨_, rfl⟩
          obtain ⟨wf, hwf⟩ : ∃ y, y = we.alloc (.cells (cc ++ ys).toArray 28) := ⟨_, rfl⟩
          rw [← hwf, ← hN]
          have SF : Hid (Has wf gs (sgC sg) 74) := Lib.hid (by rw [hwf]; exact SE.out.alloc _)
          refine hK.out _ _ (by rw [← HSGC.out]; exact has_range SF.out) (fun hHw3 => ?_)
          clear hK K hHw2
          try simp only [Act.put, List.setIfInBounds_toArray, List.set_cons_zero, List.set_cons_succ]
          have XF : Hid (Has wf X cc 28) := Lib.hid (by rw [hwf]; exact XE.out.alloc _)
          have NF : Hid (Has wf N (cc ++ ys) 28) := Lib.hid (by rw [hwf, hN]; exact Has.new we _ _)
          have ZF : Hid (Has wf G exZ 28) := Lib.hid (by rw [hwf]; exact YE2.out.alloc _)
          have DF : Hid (Below N we wf) := Lib.hid (by rw [hwf, hN]; exact (Below.refl _ _).alloc (Nat.le_refl _) _)
          have BF : Hid (But G pb w wf) := Lib.hid (BE.out.trans (But.of_below (DF.out.mono (by rw [hN]; exact Nat.le_of_lt YE2.out.lt))))
          have PF := Lib.hid (HE2.out.later (by rw [← hN]; exact DF.out))
          have HNN : Hid (G < N ∧ X < N) := Lib.hid (by rw [hN]; exact ⟨YE2.out.lt, XE.out.lt⟩)
          have IF : Hid (IsXS wf (fun k => G < k ∧ k ≠ X) (exC 15 0 sg.1 (.slice (some ⟨N, 0, none⟩) 2 2) u.at_) (.mk 15 0 sg.1 [xc, y] u.at_)) := Lib.hid (node_two 15 sg.1 u.at_ NF.out ⟨HNN.out.1, by have := HNN.out.2; omega⟩ (IE.out.keep DF.out.size fun k _ h2 => DF.out.block k (by rw [hN]; exact h2)) (IY.out.keep DF.out.size fun k _ h2 => DF.out.block k (by rw [hN]; exact h2)))
          have IFL := Lib.hid IF.out.len
          rw [show exC 15 0 sg.1 (.slice (some ⟨N, 0, none⟩) 2 2) u.at_ = [.int .u8 15, .int .i64 0, .string st, .slice none 0 0, .slice none 0 0, .bool false, .slice (some ⟨N, 0, none⟩) 2 2, .int .i64 (u.at_ : Int)] by rw [HST.out]; rfl] at IF
          have CCL := Lib.hid IE.out.len
          clear hN hwf XE YE2 BE HE2 IE IY SE DF NF
          refine wpAnyH_take (i := 8) (oi := { dst := some 29, op := Op.build 28 #[(0, Operand.const (Value.int IntKind.u8 15)), (2, Operand.tmp 22), (6, Operand.tmp 27), (7, Operand.tmp 28)], type := 28, pos := "op.go:33", after := #[{ on := 1, ground := Ground.data }, { on := 6, ground := Ground.data }, { on := 7, ground := Ground.data }], guard := none }) (v := .agg #[.int .u8 15, .int .i64 0, .string st, .slice none 0 0, .slice none 0 0, .bool false, .slice (some ⟨N, 0, none⟩) 2 2, .int .i64 (u.at_ : Int)]) rfl (by kernel_rfl) (by kernel_rfl) (by kernel_rfl) (fun _ _ _ h => h)
            (Or.inl ⟨by rfl, by intro w hSw;  clear hSw; go_simp⟩) hHw3 ?_
          try simp only [Act.put, List.setIfInBounds_toArray, List.set_cons_zero, List.set_cons_succ]
          refine wpAnyH_ready (rs := [9]) (by kernel_rfl) (by simp) ?_
          refine AllReadyH.cons (o := { dst := none, op := Op.store 28 (Operand.tmp 5) (Operand.tmp 29), type := 0, pos := "op.go:33", after := #[{ on := 8, ground := Ground.data }, { on := 5, ground := Ground.chain }, { on := 0, ground := Ground.phase }, { on := 1, ground := Ground.phase }, { on := 2, ground := Ground.phase }, { on := 3, ground := Ground.phase }, { on := 4, ground := Ground.phase }, { on := 5, ground := Ground.phase }, { on := 6, ground := Ground.phase }, { on := 7, ground := Ground.phase }, { on := 8, ground := Ground.phase }], guard := none }) rfl (fun K hK => ?_) AllReadyH.nil
          rw [if_pos (by rfl)]
          refine wp_store_row 28 (.tmp 5) (.tmp 29) rfl X #[.int .u8 15, .int .i64 0, .string st, .slice none 0 0, .slice none 0 0, .bool false, .slice (some ⟨N, 0, none⟩) 2 2, .int .i64 (u.at_ : Int)] rfl rfl 28 cc.toArray XF.out info_ex (by rw [List.size_toArray, CCL.out]; rfl) IF.out.one ?_
          obtain ⟨wg, hwg⟩ : ∃ y, y = wf.setRow X #[.int .u8 15, .int .i64 0, .string st, .slice none 0 0, .slice none 0 0, .bool false, .slice (some ⟨N, 0, none⟩) 2 2, .int .i64 (u.at_ : Int)] := ⟨_, rfl⟩
          rw [← hwg]
          have SG : Hid (Has wg gs (sgC sg) 74) := Lib.hid (by rw [hwg]; exact SF.out.rowOther (by have := HGS.out; omega) _)
          have XG : Hid (Has wg X [.int .u8 15, .int .i64 0, .string st, .slice none 0 0, .slice none 0 0, .bool false, .slice (some ⟨N, 0, none⟩) 2 2, .int .i64 (u.at_ : Int)] 28) := Lib.hid (by rw [hwg]; exact XF.out.row _)
          have ZG : Hid (Has wg G exZ 28) := Lib.hid (by rw [hwg]; exact ZF.out.rowOther (by have := HGX.out; omega) _)
          have BG : Hid (But G pb w wg) := Lib.hid (by rw [hwg]; exact BF.out.setRow (.inl (Nat.le_of_lt HGX.out.1)) _)
          have PG := Lib.hid (show Ps wg pb g oe ce r1 d rm by rw [hwg]; exact PF.out.laterB (B := G) (below_setRow (Below.refl G wf) (Nat.le_of_lt HGX.out.1) _) HPG.out.1 HPG.out.2)
          have IG : Hid (IsXS wg (fun k => G < k ∧ k ≠ X) [.int .u8 15, .int .i64 0, .string st, .slice none 0 0, .slice none 0 0, .bool false, .slice (some ⟨N, 0, none⟩) 2 2, .int .i64 (u.at_ : Int)] (.mk 15 0 sg.1 [xc, y] u.at_)) := Lib.hid (by rw [hwg]; exact IF.out.keep (by simp) fun k h1 h2 => setRow_other _ _ _ _ h1.2)
          clear hwg XF ZF BF PF IF SF
          refine hK.out _ _ (by rw [← HSGC.out]; exact has_range SG.out) (fun hHw4 => ?_)
          clear hK K hHw3
          try simp only [Act.put]
          refine wpAnyH_done (by kernel_rfl) ?_ _
          clear hHw4
          have HSC3 : Hid ((sgC sg).length = 3) := Lib.hid rfl
          obtain ⟨E, hE⟩ : ∃ E, E = (sgC sg).toArray := ⟨_, rfl⟩
          have HE := Lib.hid hE
          have HEI : Hid ((Tryd.prog.info? 74).map (·.size) = some E.size) := Lib.hid (by rw [hE]; exact info_sg sg)
          have HEO : Hid (E.all (·.oneCell') = true) := Lib.hid (by rw [hE]; exact all_oneCell_toArray (by intro v hv; simp [sgC] at hv; rcases hv with rfl | rfl | rfl <;> rfl))
          have HES : Hid ((#[.string ⟨#[]⟩, .int .i64 0, .bool false] : Array Value).size = E.size) := Lib.hid (by rw [hE]; rfl)
          have HEX : Hid (wg.heap[gs]? = some (.cells E 74 (0, 0))) := Lib.hid (by rw [hE]; exact SG.out)
          have NW : Hid (Has (wg.alloc (.cells #[.string ⟨#[]⟩, .int .i64 0, .bool false] 74)) wg.heap.size [.string ⟨#[]⟩, .int .i64 0, .bool false] 74) := Lib.hid (Has.new wg _ _)
          clear hE
          go_upto_region 4 with (first | (refine wpList_load_row rfl 74 _ rfl gs rfl 74 E (0, 0) _ HEX.out Tryd.underlying74 rfl HEI.out ?_) | (refine wpList_store_row rfl 74 _ _ rfl wg.heap.size E rfl rfl 74 _ NW.out HEI.out HES.out HEO.out ?_))
          obtain ⟨M, hM⟩ : ∃ M, M = wg.heap.size := ⟨_, rfl⟩
          obtain ⟨wh, hwh⟩ : ∃ y, y = (wg.alloc (.cells #[.string ⟨#[]⟩, .int .i64 0, .bool false] 74)).setRow wg.heap.size E := ⟨_, rfl⟩
          rw [← hwh, ← hM]
          have DH : Hid (Below M wg wh) := Lib.hid (by rw [hwh, hM]; exact below_setRow ((Below.refl _ _).alloc (Nat.le_refl _) _) (Nat.le_refl _) _)
          have MH : Hid (Has wh M (sgC sg) 74) := Lib.hid (by rw [hwh, hM, HE.out]; exact NW.out.row _)
          have HMX : Hid (G < M ∧ X < M ∧ pb < M) := Lib.hid (by rw [hM]; exact ⟨ZG.out.lt, XG.out.lt, PG.out.row.lt⟩)
          have XH := Lib.hid (XG.out.below DH.out (by rw [hM]; exact XG.out.lt))
          have ZH := Lib.hid (ZG.out.below DH.out (by rw [hM]; exact ZG.out.lt))
          have BH : Hid (But G pb w wh) := Lib.hid (BG.out.trans (But.of_below (DH.out.mono (Nat.le_of_lt HMX.out.1))))
          have PH := Lib.hid (PG.out.later (by rw [← hM]; exact DH.out))
          have IH : Hid (IsXS wh (fun k => G < k ∧ k ≠ X ∧ k ≠ M) [.int .u8 15, .int .i64 0, .string st, .slice none 0 0, .slice none 0 0, .bool false, .slice (some ⟨N, 0, none⟩) 2 2, .int .i64 (u.at_ : Int)] (.mk 15 0 sg.1 [xc, y] u.at_)) := Lib.hid (IsXS.mono (IsXS.keep (IsXS.mono IG.out (S' := fun k => G < k ∧ k ≠ X ∧ k ≠ M) fun k h1 h2 => ⟨h1.1, h1.2, by rw [hM]; exact Nat.ne_of_lt h2⟩) DH.out.size fun k _ h2 => DH.out.block k (by rw [hM]; exact h2)) fun k h1 _ => h1)
          clear hM hwh NW HEX HEI HEO HES HE XG ZG BG PG IG SG DH
          have KS := Lib.hid (sign_any2 PH.out)
          go_wp2_with fail
          refine KS.out.mono ?_
          rintro e wi ⟨rfl, xi⟩
          have XI := Lib.hid (XH.out.below xi XH.out.lt)
          have ZI := Lib.hid (ZH.out.below xi ZH.out.lt)
          have MI := Lib.hid (MH.out.below xi MH.out.lt)
          have BI : Hid (But G pb w wi) := Lib.hid (BH.out.trans (But.of_below (xi.mono (Nat.le_of_lt ZH.out.lt))))
          have PI := Lib.hid (PH.out.later xi)
          have II : Hid (IsXS wi (fun k => G < k ∧ k ≠ X ∧ k ≠ M) [.int .u8 15, .int .i64 0, .string st, .slice none 0 0, .slice none 0 0, .bool false, .slice (some ⟨N, 0, none⟩) 2 2, .int .i64 (u.at_ : Int)] (.mk 15 0 sg.1 [xc, y] u.at_)) := Lib.hid (IH.out.keep xi.size fun k _ h2 => xi.block k h2)
          clear xi XH ZH MH BH PH IH KS
          obtain ⟨F, hF⟩ : ∃ F, F = (sgL r1).toArray := ⟨_, rfl⟩
          rw [← hF]
          have HF := Lib.hid hF
          have HFI : Hid ((Tryd.prog.info? 74).map (·.size) = some F.size) := Lib.hid (by rw [hF, List.size_toArray, sgL_len]; exact info_sgs)
          have HFO : Hid (F.all (·.oneCell') = true) := Lib.hid (by rw [hF]; exact sgL_one r1)
          have HFS : Hid ((sgC sg).toArray.size = F.size) := Lib.hid (by rw [hF, sgL_size]; rfl)
          clear hF
          go_wp2_with (refine wpList_store_row rfl 74 _ _ rfl M F rfl rfl 74 _ MI.out HFI.out HFS.out HFO.out ?_)
          go_roundg k1
          case rel => exact ⟨k1, M, .mk 15 0 sg.1 [xc, y] u.at_, r1, [.int .u8 15, .int .i64 0, .string st, .slice none 0 0, .slice none 0 0, .bool false, .slice (some ⟨N, 0, none⟩) 2 2, .int .i64 (u.at_ : Int)], oe, ce, rfl, by omega, rfl, HMX.out.1, by have := HMX.out; omega, HMX.out.2.2, HNX.out, PI.out.laterB (B := G) (below_setRow (Below.refl G wi) (Nat.le_of_lt HMX.out.1) _) HPG.out.1 HPG.out.2, by rw [HF.out]; exact MI.out.row _, XI.out.rowOther (by have := HMX.out; omega) _, IsXS.mono (II.out.keep (by simp) fun k h1 h2 => setRow_other _ _ _ _ h1.2.2) fun k h1 _ => ⟨h1.1, h1.2.1⟩, ZI.out.rowOther (by have := HMX.out; omega) _, BI.out.setRow (.inl (Nat.le_of_lt HMX.out.1)) _, by simpa using ZI.out.lt⟩
          case measure => omega
end Go.Proofs.YtnajafnbickiiaaDoor

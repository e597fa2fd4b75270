/-
  The parser's pre, where no sign stands ahead: a thing, and what is called. Conditions: the parser's block.
-/
import Derived.Test.YtnajafnbickiiaaDoorPBuild
import Derived.Deep.LoopGhost
import Derived.Deep.RegionHeld
namespace Go.Proofs.YtnajafnbickiiaaDoor
open Go.RowKit
set_option linter.unusedVariables false

theorem pre_inv {n d : Nat} {ts : List Tk} {x : Ex} {r : List Tk} (h : pg n .pre d ts = .ok x r) :
    ∃ m x0 r0, n = m + 1 ∧ stT ts 0 [33] = false ∧ stT ts 0 [45] = false ∧ pg m .sel d ts = .ok x0 r0 ∧ pg m (.calls x0) d r0 = .ok x r := by
  cases n with
  | zero => simp [pg] at h
  | succ m =>
    simp only [pg] at h
    split at h
    · cases h
    · rename_i hb
      split at h
      · rename_i x0 r0 hs
        simp at hb
        exact ⟨m, x0, r0, rfl, hb.1, hb.2, hs, h⟩
      · rename_i hne
        exact (hne _ _ h).elim
theorem calls_inv {n d : Nat} {ts : List Tk} {x0 x : Ex} {r : List Tk} (h : pg n (.calls x0) d ts = .ok x r) :
    ∃ m, n = m + 1 ∧ ((thingT ts = false ∧ x = x0 ∧ r = ts) ∨ (thingT ts = true ∧ ∃ y r1, pg m .sel d ts = .ok y r1 ∧ pg m (.calls (.mk 8 0 [] [x0, y] (atT ts))) d r1 = .ok x r)) := by
  cases n with
  | zero => simp [pg] at h
  | succ m =>
    simp only [pg] at h
    refine ⟨m, rfl, ?_⟩
    split at h
    · rename_i hb
      split at h
      · rename_i y r1 hs
        exact .inr ⟨hb, y, r1, hs, h⟩
      · rename_i hne
        exact (hne _ _ h).elim
    · rename_i hb
      simp only [PR.ok.injEq] at h
      exact .inl ⟨by simpa using hb, h.1.symm, h.2.symm⟩

set_option maxRecDepth 100000 in
set_option maxHeartbeats 8000000 in
theorem pre_ok {n : Nat} {w : World} {pb g off cap d : Nat} {ts : List Tk} {rm : Int} (h : Ps w pb g off cap ts d rm) (x : Ex) (r : List Tk) (hp : pg n .pre d ts = .ok x r)
    (hsel : ∀ m, m < n → ∀ (W : World) (o c : Nat) (t1 : List Tk) (y : Ex) (r1 : List Tk), Ps W pb g o c t1 d rm → pg m .sel d t1 = .ok y r1 → Calls Tryd.prog 58 #[.pointer (some ⟨pb, 0, none⟩)] W (PX pb g d rm W y r1)) :
    Calls Tryd.prog 46 #[.pointer (some ⟨pb, 0, none⟩)] w (PX pb g d rm w x r) := by
  obtain ⟨m, x0, r0, rfl, hv1, hv2, hs0, hc0⟩ := pre_inv hp
  have HSEL := Lib.hid hsel
  have HH := Lib.hid h
  have HL : Hid (pb < w.heap.size ∧ g < w.heap.size) := Lib.hid ⟨h.row.lt, h.lt⟩
  have V1 := Lib.hid hv1
  have V2 := Lib.hid hv2
  have HS0 := Lib.hid hs0
  have HC0 := Lib.hid hc0
  obtain ⟨t, hts⟩ : ∃ t, ts[0]? = some t := ⟨_, List.getElem?_eq_getElem h.ends.pos⟩
  have HTS := Lib.hid hts
  clear h hp hsel hv1 hv2 hs0 hc0 hts
  go_enter Tryd.func46, Tryd.ntmps46
  go_upto_region 1 with fail
  obtain ⟨G, hG⟩ : ∃ G, G = w.heap.size := ⟨_, rfl⟩
  rw [← hG]
  obtain ⟨w1, hx1⟩ : ∃ x, x = w.alloc (.cells #[.int .u8 0, .int .i64 0, .string ⟨#[]⟩, .slice none 0 0, .slice none 0 0, .bool false, .slice none 0 0, .int .i64 0] 28) := ⟨_, rfl⟩
  rw [← hx1]
  have Z1 : Hid (Has w1 G exZ 28) := Lib.hid (by rw [hx1, hG]; exact Has.new w exZ _)
  have B1 : Hid (But G pb w w1) := Lib.hid (by rw [hx1, hG]; exact But.of_below ((Below.refl _ _).alloc (Nat.le_refl _) _))
  have H1 : Hid (Ps w1 pb g off cap ts d rm) := Lib.hid (HH.out.later (by rw [hx1]; exact (Below.refl _ _).alloc (Nat.le_refl _) _))
  have HG := Lib.hid hG
  have HPG : Hid (pb < G ∧ g < G) := Lib.hid (by rw [hG]; exact HL.out)
  have y0 : w1.cell? ⟨pb, 0, none⟩ = some (.slice (some ⟨g, off, none⟩) ts.length cap) := H1.out.row.cellAt (i := 0) rfl
  have z2 : w1.cell? ⟨g, off + 2, none⟩ = some (.int .i64 (t.at_ : Int)) := by have := (H1.out.cell HTS.out).2.2; simpa using this
  have hlen : (0 : Int) < (ts.length : Int) := by have := H1.out.ends.pos; omega
  clear hx1 hG HH HL
  go_upto_region 2 with fail
  clear y0 z2 hlen HTS
  have K2 := Lib.hid (skip_no H1.out ⟨#[33]⟩ V1.out)
  go_wp2_with fail
  refine K2.out.mono ?_
  rintro e w2 ⟨rfl, x2⟩
  have H2 := Lib.hid (H1.out.later x2)
  have Z2 := Lib.hid (Z1.out.below x2 Z1.out.lt)
  have B2 : Hid (But G pb w w2) := Lib.hid (B1.out.trans (But.of_below (x2.mono (Nat.le_of_lt Z1.out.lt))))
  clear x2 H1 Z1 B1 K2
  have K3 := Lib.hid (skip_no H2.out ⟨#[45]⟩ V2.out)
  go_wp2_with fail
  refine K3.out.mono ?_
  rintro e w3 ⟨rfl, x3⟩
  have H3 := Lib.hid (H2.out.later x3)
  have Z3 := Lib.hid (Z2.out.below x3 Z2.out.lt)
  have B3 : Hid (But G pb w w3) := Lib.hid (B2.out.trans (But.of_below (x3.mono (Nat.le_of_lt Z2.out.lt))))
  clear x3 H2 Z2 B2 K3
  have HQ := Lib.hid (HSEL.out m (Nat.lt_succ_self m) w3 off cap ts x0 r0 H3.out HS0.out)
  have HLT := Lib.hid Z3.out.lt
  have HLP := Lib.hid H3.out.row.lt
  go_wp2_with fail
  refine HQ.out.mono ?_
  rintro e w4 ⟨cs, o4, c4, rfl, ix, bt, p4⟩
  have Z4 : Hid (Has w4 G exZ 28) := Lib.hid (Z3.out.but bt Z3.out.lt (by have := HPG.out; omega))
  have B4 : Hid (But G pb w w4) := Lib.hid (B3.out.trans (bt.mono (Nat.le_of_lt Z3.out.lt)))
  have H4 := Lib.hid p4
  obtain ⟨E, hE⟩ : ∃ E, E = cs.toArray := ⟨_, rfl⟩
  rw [← hE]
  have HE := Lib.hid hE
  have HEI : Hid ((Tryd.prog.info? 28).map (·.size) = some E.size) := Lib.hid (by rw [hE, List.size_toArray, ix.len]; exact info_ex)
  have HEO : Hid (E.all (·.oneCell') = true) := Lib.hid (by rw [hE]; exact ix.one)
  have HES : Hid (exZ.toArray.size = E.size) := Lib.hid (by rw [hE, List.size_toArray, List.size_toArray, ix.len]; rfl)
  have NW : Hid (Has (w4.alloc (.cells #[.int .u8 0, .int .i64 0, .string ⟨#[]⟩, .slice none 0 0, .slice none 0 0, .bool false, .slice none 0 0, .int .i64 0] 28)) w4.heap.size exZ 28) := Lib.hid (Has.new w4 exZ _)
  obtain ⟨X, hX⟩ : ∃ X, X = w4.heap.size := ⟨_, rfl⟩
  have IX : Hid (IsXS w4 (fun k => G < k ∧ k ≠ X) cs x0) := Lib.hid (IsXS.mono ix fun k h1 h2 => ⟨by have := HLT.out; omega, by rw [hX]; omega⟩)
  clear ix bt p4 hE HQ H3 Z3 B3
  go_upto_region 7 with (refine wpList_store_row rfl 28 _ _ rfl w4.heap.size E rfl rfl 28 _ NW.out HEI.out HES.out HEO.out ?_)
  obtain ⟨w5, hw5⟩ : ∃ y, y = (w4.alloc (.cells #[.int .u8 0, .int .i64 0, .string ⟨#[]⟩, .slice none 0 0, .slice none 0 0, .bool false, .slice none 0 0, .int .i64 0] 28)).setRow w4.heap.size E := ⟨_, rfl⟩
  rw [← hw5, ← hX]
  have X5 : Hid (Has w5 X cs 28) := Lib.hid (by rw [hw5, hX, HE.out]; exact NW.out.row _)
  have D5 : Hid (Below X w4 w5) := Lib.hid (by rw [hw5, hX]; exact below_setRow ((Below.refl _ _).alloc (Nat.le_refl _) _) (Nat.le_refl _) _)
  have H5 := Lib.hid (H4.out.later (by rw [← hX]; exact D5.out))
  have Z5 : Hid (Has w5 G exZ 28) := Lib.hid (Z4.out.below D5.out (by rw [hX]; exact Z4.out.lt))
  have B5 : Hid (But G pb w w5) := Lib.hid (B4.out.trans (But.of_below (D5.out.mono (by rw [hX]; exact Nat.le_of_lt Z4.out.lt))))
  have I5 : Hid (IsXS w5 (fun k => G < k ∧ k ≠ X) cs x0) := Lib.hid (IX.out.keep D5.out.size fun k _ h2 => D5.out.block k (by rw [hX]; exact h2))
  have HGX : Hid (G < X ∧ pb < X) := Lib.hid (by rw [hX]; exact ⟨Z4.out.lt, H4.out.row.lt⟩)
  clear hw5 hX NW H4 Z4 B4 D5 IX HE HEI HEO HES
  simp only [Act.put]
  go_loopg [5] m (fun gk v5 wr => ∃ (k : Nat) (xc : Ex) (tc : List Tk) (cc : List Value) (o c : Nat), gk = k ∧ k ≤ m ∧ pg k (.calls xc) d tc = .ok x r ∧ Ps wr pb g o c tc d rm ∧ Has wr X cc 28 ∧ IsXS wr (fun k => G < k ∧ k ≠ X) cc xc ∧ Has wr G exZ 28 ∧ But G pb w wr ∧ G < wr.heap.size)
  case atStart => exact ⟨m, x0, r0, cs, o4, c4, rfl, Nat.le_refl _, HC0.out, H5.out, X5.out, I5.out, Z5.out, B5.out, Z5.out.lt⟩
  case round =>
    obtain ⟨k, xc, tc, cc, o, c, rfl, hk, hpg, hps, hxb, hix, hz, hbb, _⟩ := hrel
    obtain ⟨k1, rfl, hcase⟩ := calls_inv hpg
    have HA := Lib.hid hps
    have XA := Lib.hid hxb
    have IA := Lib.hid hix
    have ZA := Lib.hid hz
    have BA := Lib.hid hbb
    have KT := Lib.hid (isthing_any hps)
    clear hpg hps hxb hix hz hbb H5 X5 I5 Z5 B5 HC0 HS0
    rcases hcase with ⟨ht, rfl, rfl⟩ | ⟨ht, y, r1, hsy, hnx⟩
    · as_aux_lemma =>
        go_wp2_with fail
        refine KT.out.mono ?_
        rw [ht]
        rintro e wa ⟨rfl, xa⟩
        have HB := Lib.hid (HA.out.later xa)
        have XB := Lib.hid (XA.out.below xa XA.out.lt)
        have ZB := Lib.hid (ZA.out.below xa ZA.out.lt)
        have BB : Hid (But G pb w wa) := Lib.hid (BA.out.trans (But.of_below (xa.mono (Nat.le_of_lt ZA.out.lt))))
        have IB : Hid (IsXS wa (fun k => G < k ∧ k ≠ X) cc x) := Lib.hid (IA.out.keep xa.size fun k _ h2 => xa.block k h2)
        obtain ⟨E, hE⟩ : ∃ E, E = cc.toArray := ⟨_, rfl⟩
        have HE := Lib.hid hE
        have HEI : Hid ((Tryd.prog.info? 28).map (·.size) = some E.size) := Lib.hid (by rw [hE, List.size_toArray, IB.out.len]; exact info_ex)
        have HEO : Hid (E.all (·.oneCell') = true) := Lib.hid (by rw [hE]; exact IB.out.one)
        have HES : Hid (exZ.toArray.size = E.size) := Lib.hid (by rw [hE, List.size_toArray, List.size_toArray, IB.out.len]; rfl)
        have HEX : Hid (wa.heap[X]? = some (.cells E 28 (0, 0))) := Lib.hid (by rw [hE]; exact XB.out)
        clear xa hE HA XA ZA BA IA KT ht
        go_wp2_with (first
          | (refine wpList_load_row rfl 28 _ rfl X rfl 28 E (0, 0) _ HEX.out Tryd.underlying28 rfl HEI.out ?_)
          | (refine wpList_store_row rfl 28 _ _ rfl G E rfl rfl 28 _ ZB.out HEI.out HES.out HEO.out ?_))
        refine bodyPost_ret (results_cell_row (fn := Tryd.f46) (p := 2) (ty := 28) Tryd.results46 _ _ G 28 E (0, 0) _ rfl (setRow_heap _ _ _ _ _ _ ZB.out) Tryd.underlying28 rfl HEI.out) rfl ?_
        refine ⟨cc, o, c, by rw [HE.out], ?_, ?_, HB.out.laterB (below_setRow (Below.refl G wa) (Nat.le_refl _) _) HPG.out.1 HPG.out.2⟩
        · rw [← HG.out]
          exact IsXS.mono (IB.out.keep (by simp) fun k h1 h2 => setRow_other _ _ _ _ (by omega)) fun k h1 _ => Nat.le_of_lt h1.1
        · rw [← HG.out]; exact BB.out.setRow (.inl (Nat.le_refl _)) _
    · as_aux_lemma =>
        go_wp2_with fail
        refine KT.out.mono ?_
        rw [ht]
        rintro e wa ⟨rfl, xa⟩
        have HB := Lib.hid (HA.out.later xa)
        have XB := Lib.hid (XA.out.below xa XA.out.lt)
        have ZB := Lib.hid (ZA.out.below xa ZA.out.lt)
        have BB : Hid (But G pb w wa) := Lib.hid (BA.out.trans (But.of_below (xa.mono (Nat.le_of_lt ZA.out.lt))))
        have IB : Hid (IsXS wa (fun k => G < k ∧ k ≠ X) cc xc) := Lib.hid (IA.out.keep xa.size fun k _ h2 => xa.block k h2)
        clear xa HA XA ZA BA IA KT
        cases tc with
        | nil => simp [thingT] at ht
        | cons u q =>
        have y0 : wa.cell? ⟨pb, 0, none⟩ = some (.slice (some ⟨g, o, none⟩) (u :: q).length c) := HB.out.row.cellAt (i := 0) rfl
        have z2 : wa.cell? ⟨g, o + 2, none⟩ = some (.int .i64 (u.at_ : Int)) := by have := (HB.out.cell (i := 0) (t := u) rfl).2.2; simpa using this
        have hlen : (0 : Int) < ((u :: q).length : Int) := by rw [List.length_cons]; omega
        obtain ⟨nn, hnn⟩ : ∃ nn, nn = (u :: q).length := ⟨_, rfl⟩
        rw [← hnn] at y0 hlen
        have HSY := Lib.hid hsy
        have HNX := Lib.hid hnx
        clear ht hsy hnx hnn
        go_upto_region 9 with fail
        clear y0 z2 hlen
        refine wp_region_held_drew (S := fun _ => True) (by kernel_rfl) trivial (fun hHeld => ?_)
        obtain ⟨wd, hwd⟩ : ∃ wd, wd = wa.drew := ⟨_, rfl⟩
        rw [← hwd]
        have HC := Lib.hid (show Ps wd pb g o c (u :: q) d rm by rw [hwd]; exact HB.out.later (Below.refl _ _).drew)
        have XC : Hid (Has wd X cc 28) := Lib.hid (by rw [hwd]; exact XB.out.drew)
        have ZC : Hid (Has wd G exZ 28) := Lib.hid (by rw [hwd]; exact ZB.out.drew)
        have BC : Hid (But G pb w wd) := Lib.hid (by rw [hwd]; exact BB.out.drew)
        have IC : Hid (IsXS wd (fun k => G < k ∧ k ≠ X) cc xc) := Lib.hid (by rw [hwd]; exact IB.out.keep (Nat.le_refl _) fun k _ _ => rfl)
        have HSIZ : Hid (wd.heap.size = wa.heap.size) := Lib.hid (by rw [hwd]; rfl)
        have HQ := Lib.hid (HSEL.out k1 (by omega) wd o c (u :: q) y r1 HC.out HSY.out)
        obtain ⟨D, hD⟩ : ∃ D, D = cc.toArray := ⟨_, rfl⟩
        have HD := Lib.hid hD
        have HDI : Hid ((Tryd.prog.info? 28).map (·.size) = some D.size) := Lib.hid (by rw [hD, List.size_toArray, IC.out.len]; exact info_ex)
        have hXD : wd.heap[X]? = some (.cells D 28 (0, 0)) := by rw [hD]; exact XC.out
        have HXD := Lib.hid hXD
        obtain ⟨i0, hi0, hi1, hi2, _⟩ := info_exp
        have HI0 := Lib.hid hi0
        have HI1 := Lib.hid hi1
        have HI2 := Lib.hid hi2
        clear hwd HB XB ZB BB IB hD hXD hi0 hi1 hi2
        refine wpAnyH_take (i := 1) (oi := { dst := some 37, op := Op.move (Operand.tmp 0), type := 44, pos := "op.go:70", after := #[], guard := none }) (v := .pointer (some ⟨pb, 0, none⟩)) rfl (by kernel_rfl) (by kernel_rfl) (by kernel_rfl) (fun _ _ _ h => h)
          (Or.inl ⟨by rfl, by intro w hSw;  clear hSw; go_simp⟩) trivial ?_
        try simp only [Act.put, List.setIfInBounds_toArray, List.set_cons_zero, List.set_cons_succ]
        refine wpAnyH_take (i := 4) (oi := { dst := some 40, op := Op.move (Operand.tmp 5), type := 3, pos := "op.go:70", after := #[], guard := none }) (v := .int .i64 (u.at_ : Int)) rfl (by kernel_rfl) (by kernel_rfl) (by kernel_rfl) (fun _ _ _ h => h)
          (Or.inl ⟨by rfl, by intro w hSw;  clear hSw; go_simp⟩) trivial ?_
        try simp only [Act.put, List.setIfInBounds_toArray, List.set_cons_zero, List.set_cons_succ]
        refine wpAnyH_ready (rs := [0, 2]) (by kernel_rfl) (by simp) ?_
        refine AllReadyH.cons (o := { dst := some 36, op := Op.load 28 (Operand.tmp 4), type := 28, pos := "op.go:70", after := #[], guard := none }) rfl (fun K hK => ?_) (AllReadyH.cons (o := { dst := some 38, op := Op.call { callee := Callee.value (Operand.func 58), args := #[Operand.tmp 37], argTypes := #[44] }, type := 28, pos := "op.go:70", after := #[{ on := 1, ground := Ground.data }], guard := none }) rfl (fun K hK => ?_) AllReadyH.nil)
        · as_aux_lemma =>
            rw [if_pos (by rfl)]
            refine wp_load_row 28 (.tmp 4) rfl X rfl 28 D (0, 0) _ HXD.out Tryd.underlying28 rfl HDI.out ?_
            refine hK.out _ _ trivial (fun _ => ?_)
            clear hK K
            try simp only [Act.put, List.setIfInBounds_toArray, List.set_cons_zero, List.set_cons_succ]
            refine wpAnyH_ready (rs := [2]) (by kernel_rfl) (by simp) ?_
            refine AllReadyH.cons (o := { dst := some 38, op := Op.call { callee := Callee.value (Operand.func 58), args := #[Operand.tmp 37], argTypes := #[44] }, type := 28, pos := "op.go:70", after := #[{ on := 1, ground := Ground.data }], guard := none }) rfl (fun K hK => ?_) AllReadyH.nil
            go_simp
            refine HQ.out.mono ?_
            rintro e we ⟨ys, oe, ce, rfl, iy, bt, pe⟩
            have HYL := Lib.hid iy.len
            have HE2 := Lib.hid pe
            have XE : Hid (Has we X cc 28) := Lib.hid (XC.out.but bt XC.out.lt (by have := HGX.out; omega))
            have YE2 : Hid (Has we G exZ 28) := Lib.hid (ZC.out.but bt ZC.out.lt (by have := HPG.out; omega))
            have BE : Hid (But G pb w we) := Lib.hid (BC.out.trans (bt.mono (Nat.le_of_lt ZC.out.lt)))
            have IE : Hid (IsXS we (fun k => G < k ∧ k ≠ X) cc xc) := Lib.hid (IC.out.keep bt.size fun k h1 h2 => bt.block k h2 (by have := HPG.out; omega))
            have IY : Hid (IsXS we (fun k => G < k ∧ k ≠ X) ys y) := Lib.hid (IsXS.mono iy fun k h1 _ => ⟨by have := ZC.out.lt; omega, by have := XC.out.lt; omega⟩)
            clear iy bt pe HQ
            go_wp2_with fail
            refine hK.out _ _ trivial (fun _ => ?_)
            clear hK K
            try simp only [Act.put, List.setIfInBounds_toArray, List.set_cons_zero, List.set_cons_succ]
            refine wpAnyH_ready (rs := [3]) (by kernel_rfl) (by simp) ?_
            refine AllReadyH.cons (o := { dst := some 39, op := Op.buildSlice 26 2 #[(0, Operand.tmp 36), (1, Operand.tmp 38)], type := 26, pos := "op.go:70", after := #[{ on := 0, ground := Ground.data }, { on := 2, ground := Ground.data }], guard := none }) rfl (fun K hK => ?_) AllReadyH.nil
            rw [if_pos (by rfl)]
            refine wp_buildSlice 26 28 2 _ rfl (cc ++ ys).toArray i0 (.agg exZ.toArray) Tryd.underlying26 HI0.out HI1.out (by rw [HI2.out]; decide) (by rw [HI2.out]; decide) (by rw [HI2.out]; have := fill_two (l := cc) (m := ys) IE.out.len IY.out.len; rw [← HD.out] at this; refine Eq.trans (congrArg _ ?_) this; simp [Act.eval]) ?_
            refine hK.out _ _ trivial (fun _ => ?_)
            clear hK K
            try simp only [Act.put, List.setIfInBounds_toArray, List.set_cons_zero, List.set_cons_succ]
            obtain ⟨N, hN⟩ : ∃ N, N = we.heap.size := ⟨_, rfl⟩
            obtain ⟨wf, hwf⟩ : ∃ y, y = we.alloc (.cells (cc ++ ys).toArray 28) := ⟨_, rfl⟩
            rw [← hwf, ← hN]
            refine wpAnyH_take (i := 5) (oi := { dst := some 41, op := Op.build 28 #[(0, Operand.const (Value.int IntKind.u8 8)), (6, Operand.tmp 39), (7, Operand.tmp 40)], type := 28, pos := "op.go:70", after := #[{ on := 3, ground := Ground.data }, { on := 4, ground := Ground.data }], guard := none }) (v := .agg #[.int .u8 8, .int .i64 0, .string ⟨#[]⟩, .slice none 0 0, .slice none 0 0, .bool false, .slice (some ⟨N, 0, none⟩) 2 2, .int .i64 (u.at_ : Int)]) rfl (by kernel_rfl) (by kernel_rfl) (by kernel_rfl) (fun _ _ _ h => h)
              (Or.inl ⟨by rfl, by intro w hSw;  clear hSw; go_simp⟩) trivial ?_
            try simp only [Act.put, List.setIfInBounds_toArray, List.set_cons_zero, List.set_cons_succ]
            have XF : Hid (Has wf X cc 28) := Lib.hid (by rw [hwf]; exact XE.out.alloc _)
            have NF : Hid (Has wf N (cc ++ ys) 28) := Lib.hid (by rw [hwf, hN]; exact Has.new we _ _)
            have ZF : Hid (Has wf G exZ 28) := Lib.hid (by rw [hwf]; exact YE2.out.alloc _)
            have DF : Hid (Below N we wf) := Lib.hid (by rw [hwf, hN]; exact (Below.refl _ _).alloc (Nat.le_refl _) _)
            have BF : Hid (But G pb w wf) := Lib.hid (BE.out.trans (But.of_below (DF.out.mono (by rw [hN]; exact Nat.le_of_lt YE2.out.lt))))
            have PF := Lib.hid (HE2.out.later (by rw [← hN]; exact DF.out))
            have HNN : Hid (G < N ∧ X < N) := Lib.hid (by rw [hN]; exact ⟨YE2.out.lt, XE.out.lt⟩)
            have IF : Hid (IsXS wf (fun k => G < k ∧ k ≠ X) (exC 8 0 [] (.slice (some ⟨N, 0, none⟩) 2 2) u.at_) (.mk 8 0 [] [xc, y] u.at_)) := Lib.hid (node_two 8 [] u.at_ NF.out ⟨HNN.out.1, by have := HNN.out.2; omega⟩ (IE.out.keep DF.out.size fun k _ h2 => DF.out.block k (by rw [hN]; exact h2)) (IY.out.keep DF.out.size fun k _ h2 => DF.out.block k (by rw [hN]; exact h2)))
            clear hN hwf
            refine wpAnyH_ready (rs := [6]) (by kernel_rfl) (by simp) ?_
            refine AllReadyH.cons (o := { dst := none, op := Op.store 28 (Operand.tmp 4) (Operand.tmp 41), type := 0, pos := "op.go:70", after := #[{ on := 5, ground := Ground.data }, { on := 2, ground := Ground.chain }, { on := 0, ground := Ground.phase }, { on := 1, ground := Ground.phase }, { on := 2, ground := Ground.phase }, { on := 3, ground := Ground.phase }, { on := 4, ground := Ground.phase }, { on := 5, ground := Ground.phase }], guard := none }) rfl (fun K hK => ?_) AllReadyH.nil
            rw [if_pos (by rfl)]
            refine wp_store_row 28 (.tmp 4) (.tmp 41) rfl X (exC 8 0 [] (.slice (some ⟨N, 0, none⟩) 2 2) u.at_).toArray rfl rfl 28 cc.toArray XF.out (by rw [List.size_toArray, IF.out.len]; exact info_ex) (by rw [List.size_toArray, List.size_toArray, IF.out.len, IE.out.len]) IF.out.one ?_
            refine hK.out _ _ trivial (fun _ => ?_)
            clear hK K
            try simp only [Act.put]
            refine wpAnyH_done (by kernel_rfl) ?_ _
            go_wp2_with fail
            go_roundg k1
            case rel => exact ⟨k1, .mk 8 0 [] [xc, y] u.at_, r1, exC 8 0 [] (.slice (some ⟨N, 0, none⟩) 2 2) u.at_, oe, ce, rfl, by omega, HNX.out, PF.out.laterB (B := G) (below_setRow (Below.refl G wf) (Nat.le_of_lt HGX.out.1) _) HPG.out.1 HPG.out.2, XF.out.row _, IF.out.keep (by simp) fun k h1 h2 => setRow_other _ _ _ _ h1.2, ZF.out.rowOther (by have := HGX.out; omega) _, BF.out.setRow (.inl (Nat.le_of_lt HGX.out.1)) _, by simpa using ZF.out.lt⟩
            case measure => omega
        · as_aux_lemma =>
            go_simp
            refine HQ.out.mono ?_
            rintro e we ⟨ys, oe, ce, rfl, iy, bt, pe⟩
            have HYL := Lib.hid iy.len
            have HE2 := Lib.hid pe
            have XE : Hid (Has we X cc 28) := Lib.hid (XC.out.but bt XC.out.lt (by have := HGX.out; omega))
            have YE2 : Hid (Has we G exZ 28) := Lib.hid (ZC.out.but bt ZC.out.lt (by have := HPG.out; omega))
            have BE : Hid (But G pb w we) := Lib.hid (BC.out.trans (bt.mono (Nat.le_of_lt ZC.out.lt)))
            have IE : Hid (IsXS we (fun k => G < k ∧ k ≠ X) cc xc) := Lib.hid (IC.out.keep bt.size fun k h1 h2 => bt.block k h2 (by have := HPG.out; omega))
            have IY : Hid (IsXS we (fun k => G < k ∧ k ≠ X) ys y) := Lib.hid (IsXS.mono iy fun k h1 _ => ⟨by have := ZC.out.lt; omega, by have := XC.out.lt; omega⟩)
            clear iy bt pe HQ
            go_wp2_with fail
            refine hK.out _ _ trivial (fun _ => ?_)
            clear hK K
            try simp only [Act.put, List.setIfInBounds_toArray, List.set_cons_zero, List.set_cons_succ]
            refine wpAnyH_ready (rs := [0]) (by kernel_rfl) (by simp) ?_
            refine AllReadyH.cons (o := { dst := some 36, op := Op.load 28 (Operand.tmp 4), type := 28, pos := "op.go:70", after := #[], guard := none }) rfl (fun K hK => ?_) AllReadyH.nil
            rw [if_pos (by rfl)]
            refine wp_load_row 28 (.tmp 4) rfl X rfl 28 D (0, 0) _ (by rw [HD.out]; exact XE.out) Tryd.underlying28 rfl HDI.out ?_
            refine hK.out _ _ trivial (fun _ => ?_)
            clear hK K
            try simp only [Act.put, List.setIfInBounds_toArray, List.set_cons_zero, List.set_cons_succ]
            refine wpAnyH_ready (rs := [3]) (by kernel_rfl) (by simp) ?_
            refine AllReadyH.cons (o := { dst := some 39, op := Op.buildSlice 26 2 #[(0, Operand.tmp 36), (1, Operand.tmp 38)], type := 26, pos := "op.go:70", after := #[{ on := 0, ground := Ground.data }, { on := 2, ground := Ground.data }], guard := none }) rfl (fun K hK => ?_) AllReadyH.nil
            rw [if_pos (by rfl)]
            refine wp_buildSlice 26 28 2 _ rfl (cc ++ ys).toArray i0 (.agg exZ.toArray) Tryd.underlying26 HI0.out HI1.out (by rw [HI2.out]; decide) (by rw [HI2.out]; decide) (by rw [HI2.out]; have := fill_two (l := cc) (m := ys) IE.out.len IY.out.len; rw [← HD.out] at this; refine Eq.trans (congrArg _ ?_) this; simp [Act.eval]) ?_
            refine hK.out _ _ trivial (fun _ => ?_)
            clear hK K
            try simp only [Act.put, List.setIfInBounds_toArray, List.set_cons_zero, List.set_cons_succ]
            obtain ⟨N, hN⟩ : ∃ N, N = we.heap.size := ⟨_, rfl⟩
            obtain ⟨wf, hwf⟩ : ∃ y, y = we.alloc (.cells (cc ++ ys).toArray 28) := ⟨_, rfl⟩
            rw [← hwf, ← hN]
            refine wpAnyH_take (i := 5) (oi := { dst := some 41, op := Op.build 28 #[(0, Operand.const (Value.int IntKind.u8 8)), (6, Operand.tmp 39), (7, Operand.tmp 40)], type := 28, pos := "op.go:70", after := #[{ on := 3, ground := Ground.data }, { on := 4, ground := Ground.data }], guard := none }) (v := .agg #[.int .u8 8, .int .i64 0, .string ⟨#[]⟩, .slice none 0 0, .slice none 0 0, .bool false, .slice (some ⟨N, 0, none⟩) 2 2, .int .i64 (u.at_ : Int)]) rfl (by kernel_rfl) (by kernel_rfl) (by kernel_rfl) (fun _ _ _ h => h)
              (Or.inl ⟨by rfl, by intro w hSw;  clear hSw; go_simp⟩) trivial ?_
            try simp only [Act.put, List.setIfInBounds_toArray, List.set_cons_zero, List.set_cons_succ]
            have XF : Hid (Has wf X cc 28) := Lib.hid (by rw [hwf]; exact XE.out.alloc _)
            have NF : Hid (Has wf N (cc ++ ys) 28) := Lib.hid (by rw [hwf, hN]; exact Has.new we _ _)
            have ZF : Hid (Has wf G exZ 28) := Lib.hid (by rw [hwf]; exact YE2.out.alloc _)
            have DF : Hid (Below N we wf) := Lib.hid (by rw [hwf, hN]; exact (Below.refl _ _).alloc (Nat.le_refl _) _)
            have BF : Hid (But G pb w wf) := Lib.hid (BE.out.trans (But.of_below (DF.out.mono (by rw [hN]; exact Nat.le_of_lt YE2.out.lt))))
            have PF := Lib.hid (HE2.out.later (by rw [← hN]; exact DF.out))
            have HNN : Hid (G < N ∧ X < N) := Lib.hid (by rw [hN]; exact ⟨YE2.out.lt, XE.out.lt⟩)
            have IF : Hid (IsXS wf (fun k => G < k ∧ k ≠ X) (exC 8 0 [] (.slice (some ⟨N, 0, none⟩) 2 2) u.at_) (.mk 8 0 [] [xc, y] u.at_)) := Lib.hid (node_two 8 [] u.at_ NF.out ⟨HNN.out.1, by have := HNN.out.2; omega⟩ (IE.out.keep DF.out.size fun k _ h2 => DF.out.block k (by rw [hN]; exact h2)) (IY.out.keep DF.out.size fun k _ h2 => DF.out.block k (by rw [hN]; exact h2)))
            clear hN hwf
            refine wpAnyH_ready (rs := [6]) (by kernel_rfl) (by simp) ?_
            refine AllReadyH.cons (o := { dst := none, op := Op.store 28 (Operand.tmp 4) (Operand.tmp 41), type := 0, pos := "op.go:70", after := #[{ on := 5, ground := Ground.data }, { on := 2, ground := Ground.chain }, { on := 0, ground := Ground.phase }, { on := 1, ground := Ground.phase }, { on := 2, ground := Ground.phase }, { on := 3, ground := Ground.phase }, { on := 4, ground := Ground.phase }, { on := 5, ground := Ground.phase }], guard := none }) rfl (fun K hK => ?_) AllReadyH.nil
            rw [if_pos (by rfl)]
            refine wp_store_row 28 (.tmp 4) (.tmp 41) rfl X (exC 8 0 [] (.slice (some ⟨N, 0, none⟩) 2 2) u.at_).toArray rfl rfl 28 cc.toArray XF.out (by rw [List.size_toArray, IF.out.len]; exact info_ex) (by rw [List.size_toArray, List.size_toArray, IF.out.len, IE.out.len]) IF.out.one ?_
            refine hK.out _ _ trivial (fun _ => ?_)
            clear hK K
            try simp only [Act.put]
            refine wpAnyH_done (by kernel_rfl) ?_ _
            go_wp2_with fail
            go_roundg k1
            case rel => exact ⟨k1, .mk 8 0 [] [xc, y] u.at_, r1, exC 8 0 [] (.slice (some ⟨N, 0, none⟩) 2 2) u.at_, oe, ce, rfl, by omega, HNX.out, PF.out.laterB (B := G) (below_setRow (Below.refl G wf) (Nat.le_of_lt HGX.out.1) _) HPG.out.1 HPG.out.2, XF.out.row _, IF.out.keep (by simp) fun k h1 h2 => setRow_other _ _ _ _ h1.2, ZF.out.rowOther (by have := HGX.out; omega) _, BF.out.setRow (.inl (Nat.le_of_lt HGX.out.1)) _, by simpa using ZF.out.lt⟩
            case measure => omega
end Go.Proofs.YtnajafnbickiiaaDoor

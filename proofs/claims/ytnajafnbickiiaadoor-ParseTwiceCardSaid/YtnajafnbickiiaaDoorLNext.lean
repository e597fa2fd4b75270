/-
  The contracts of the lexer's inString and next. Conditions: the listed variables lie as the text lays them; bounds on the numbers.
-/
import Derived.Test.YtnajafnbickiiaaDoorLPart
namespace Go.Proofs.YtnajafnbickiiaaDoor
open Go.RowKit
set_option linter.unusedVariables false

theorem stepq_quote {l : List UInt8} {a : Nat} {p : List Nat} (h : [34].isPrefixOf l = true) : stepL l a true p = .ok ([⟨5, [34], a⟩], 1, false, p) := by
  unfold stepL; rw [if_pos rfl, if_pos h]
theorem stepq_open {l : List UInt8} {a : Nat} {p : List Nat} (h0 : [34].isPrefixOf l = false) (h : [36, 123].isPrefixOf l = true) : stepL l a true p = .ok ([⟨7, [36, 123], a⟩], 2, false, 0 :: p) := by
  unfold stepL; rw [if_pos rfl, if_neg (by rw [h0]; simp), if_pos h]
theorem stepq_part {l : List UInt8} {a : Nat} {p : List Nat} (h0 : [34].isPrefixOf l = false) (h1 : [36, 123].isPrefixOf l = false) : stepL l a true p = if (partL l).1 = true then .ok ([⟨6, (partL l).2.2, a⟩], (partL l).2.1, true, p) else .error (a + (partL l).2.1, 4) := by
  unfold stepL; rw [if_pos rfl, if_neg (by rw [h0]; simp), if_neg (by rw [h1]; simp)]
theorem pre_take {g l : List UInt8} (h : g.isPrefixOf l = true) : l.take g.length = g := (List.prefix_iff_eq_take.1 (List.isPrefixOf_iff_prefix.1 h)).symm
theorem pre_le {s : ByteArray} {a : Nat} {g : List UInt8} (ha : a ≤ s.size) (h : g.isPrefixOf (s.data.toList.drop a) = true) : a + g.length ≤ s.size := by
  have h1 := (List.isPrefixOf_iff_prefix.1 h).length_le
  rw [List.length_drop] at h1
  have h2 : s.data.toList.length = s.size := by simp
  omega

set_option maxRecDepth 100000 in
set_option maxHeartbeats 8000000 in
theorem inString_any (B lb : Nat) (w0 : World) (s : ByteArray) (a : Nat) (ts : List Tk) (p : List Nat) (w : World) (hx : Lx B lb w0 s a ts true p w) (ha : a < s.size) (hs : s.size ≤ 8000) (hts : ts.length ≤ 8000) (hp : p.length ≤ 8000) :
    Calls Tryd.prog 17 #[.pointer (some ⟨lb, 0, none⟩)] w (NxPost B lb w0 s a ts true p) := by
  obtain ⟨i0, hi, hz0, hz1, hz2⟩ := info_parts info_int
  have HI := Lib.hid hi
  have HZ0 := Lib.hid hz0
  have HZ1 := Lib.hid hz1
  have HZ2 := Lib.hid hz2
  clear hi hz0 hz1 hz2
  have HX := Lib.hid hx
  obtain ⟨vl, vp, h1, _⟩ := hx
  have c0 := h1.cellAt (i := 0) rfl
  have c1 := h1.cellAt (i := 1) rfl
  have hai : (a : Int) ≤ (s.size : Int) := by omega
  clear h1
  obtain ⟨rs, hrs⟩ : ∃ rs, rs = s.extract a s.size := ⟨_, rfl⟩
  have hrl : rs.data.toList = s.data.toList.drop a := by rw [hrs, ext_list s a (by omega)]
  have HC1 : Hid (∀ w, Calls Tryd.prog 35 #[.string rs, .string ⟨#[34]⟩] w fun e w' => e = .returned (.bool ([34].isPrefixOf (s.data.toList.drop a))) ∧ w = w') := Lib.hid (fun w => by
    have := Tryd.strings_HasPrefix rs ⟨#[34]⟩ w
    rw [hrl, hasPrefix_eq] at this; exact this.mono (fun e w' h => ⟨h.1, h.2.symm⟩))
  have HC2 : Hid (∀ w, Calls Tryd.prog 35 #[.string rs, .string ⟨#[36, 123]⟩] w fun e w' => e = .returned (.bool ([36, 123].isPrefixOf (s.data.toList.drop a))) ∧ w = w') := Lib.hid (fun w => by
    have := Tryd.strings_HasPrefix rs ⟨#[36, 123]⟩ w
    rw [hrl, hasPrefix_eq] at this; exact this.mono (fun e w' h => ⟨h.1, h.2.symm⟩))
  have HRS := Lib.hid hrs
  clear hrs hrl
  cases hb1 : [34].isPrefixOf (s.data.toList.drop a)
  · cases hb2 : [36, 123].isPrefixOf (s.data.toList.drop a)
    · have HST := Lib.hid (stepq_part (a := a) (p := p) hb1 hb2)
      have B1 := Lib.hid hb1
      have B2 := Lib.hid hb2
      clear hb1 hb2
      go_enter Tryd.func17, Tryd.ntmps17
      go_wp2_with fail
      go_quiet (fail)
      rw [← HRS.out]
      clear c0 c1
      go_wp2_with fail
      refine (HC1.out _).mono ?_
      rintro e w' ⟨rfl, rfl⟩
      rw [B1.out]
      go_wp2_with fail
      refine (HC2.out _).mono ?_
      rintro e w' ⟨rfl, rfl⟩
      rw [B2.out]
      go_wp2_with fail
      refine (part_any B lb w0 s a ts p _ (HX.out.drewN _) ha hs hts HST.out).mono ?_
      intro e w5 hp5
      have HP5 := Lib.hid hp5
      clear hp5
      cases hst : stepL (s.data.toList.drop a) a true p with
      | error q =>
        obtain ⟨pl, er⟩ := q
        have h5 := HP5.out
        unfold NxPost at h5
        rw [hst] at h5
        obtain ⟨rfl, ts', q', p', hx5⟩ := h5
        have HX5 := Lib.hid hx5
        have HSS := Lib.hid hst
        clear hx5 hst HP5
        go_wp2_with fail
        go_ret
        exact nx_error HSS.out rfl HX5.out
      | ok r =>
        obtain ⟨ts', k, q', p'⟩ := r
        have h5 := HP5.out
        unfold NxPost at h5
        rw [hst] at h5
        obtain ⟨rfl, hx5⟩ := h5
        have HX5 := Lib.hid hx5
        have HSS := Lib.hid hst
        clear hx5 hst HP5
        go_wp2_with fail
        go_ret
        exact nx_ok HSS.out rfl HX5.out
    · have HST := Lib.hid (stepq_open (a := a) (p := p) hb1 hb2)
      have HTK := Lib.hid (pre_take hb2)
      have HLE := Lib.hid (pre_le (by omega) hb2)
      have B1 := Lib.hid hb1
      have B2 := Lib.hid hb2
      clear hb1 hb2
      go_enter Tryd.func17, Tryd.ntmps17
      go_wp2_with fail
      go_quiet (fail)
      rw [← HRS.out]
      clear c0 c1
      go_wp2_with fail
      refine (HC1.out _).mono ?_
      rintro e w' ⟨rfl, rfl⟩
      rw [B1.out]
      go_wp2_with fail
      refine (HC2.out _).mono ?_
      rintro e w' ⟨rfl, rfl⟩
      rw [B2.out]
      go_wp2_with fail
      have hadd := add_any B lb w0 s a ts true p _ (HX.out.drewN nq) 7 2 HLE.out hs (by omega)
      rw [show (s.data.toList.drop a).take 2 = [36, 123] from HTK.out] at hadd
      have HA := Lib.hid hadd
      clear hadd
      refine HA.out.mono ?_
      rintro e w6 ⟨rfl, hx6⟩
      have HX6 := Lib.hid hx6
      obtain ⟨vl, vp, h1, _⟩ := hx6
      have c3 := h1.cellAt (i := 3) rfl
      have f3 := h1.frozen 3
      clear h1
      go_upto_region 9 with fail
      clear c3 f3
      obtain ⟨w7, hw7⟩ : ∃ w7, w7 = w6.setCell ⟨lb, 3, none⟩ (.bool false) := ⟨_, rfl⟩
      have HX7 := Lib.hid (HX6.out.setQ false)
      rw [← hw7] at HX7 ⊢
      clear hw7
      obtain ⟨vl, vp, k1, k2, k3, k4, k5⟩ := HX7.out
      obtain ⟨pa, pc, rfl⟩ := row_len k3
      have K1 := Lib.hid k1
      have K2 := Lib.hid k2
      have K3 := Lib.hid k3
      have K4 := Lib.hid k4
      have K5 := Lib.hid k5
      have c4 := k1.cellAt (i := 4) rfl
      have hlt := k1.lt
      clear k1 k2 k3 k4 k5
      go_wp2_with (at_builtin; go_must (refine wpList_append_lies _ rfl (.tmp 35) (.tmp 36) 24 rfl B 3 i0 (.int .i64 0) 1 8 Tryd.underlying24 HI.out HZ0.out HZ1.out HZ2.out rfl (by omega) _ p.length (p.reverse.map iv) rfl (K3.out.alloc _) ⟨w7.heap.size, 0, none⟩ 1 1 [.int .i64 0] rfl rfl ?c1 ?c2 ?c3 ?c4 ?c5 ?c6 _ rfl ?c7))
      case c1 => intro j u hj; rw [Addr.add_mid]; exact (Has.new w7 [.int .i64 0] _).cellAt (by rw [Nat.zero_add]; exact hj)
      case c2 => intro u hu; simp at hu; subst hu; rfl
      case c3 => omega
      case c4 => unfold maxLen; omega
      case c5 => omega
      case c6 => have := K5.out; simp; omega
      intro g cap2 w8 hown3 hgrow2 hlo2 hhi2
      have hpo := Lx.opened (K1.out.alloc _) (K2.out.alloc _) (K3.out.alloc _) (K4.out.alloc (by have := K5.out; omega) _) K5.out hgrow2 (vp' := .slice (some ⟨g, 0, none⟩) (p.length + 1) cap2) (by rw [List.map_reverse]; exact hown3)
      have HPO := Lib.hid hpo
      have h8 := has_grown (K1.out.alloc _) (K3.out.alloc _) (by decide) hgrow2
      have c4' := h8.cellAt (i := 4) rfl
      have f4' := h8.frozen 4
      clear c4 hown3 hgrow2 hlo2 hhi2 hpo h8
      go_wp2_with fail
      go_ret
      exact nx_ok HST.out rfl HPO.out
  · have HST := Lib.hid (stepq_quote (a := a) (p := p) hb1)
    have HTK := Lib.hid (pre_take hb1)
    have HLE := Lib.hid (pre_le (by omega) hb1)
    have B1 := Lib.hid hb1
    clear hb1
    go_enter Tryd.func17, Tryd.ntmps17
    go_wp2_with fail
    go_quiet (fail)
    rw [← HRS.out]
    clear c0 c1
    go_wp2_with fail
    refine (HC1.out _).mono ?_
    rintro e w' ⟨rfl, rfl⟩
    rw [B1.out]
    go_wp2_with fail
    have hadd := add_any B lb w0 s a ts true p _ (HX.out.drewN nq) 5 1 HLE.out hs (by omega)
    rw [show (s.data.toList.drop a).take 1 = [34] from HTK.out] at hadd
    have HA := Lib.hid hadd
    clear hadd
    refine HA.out.mono ?_
    rintro e w6 ⟨rfl, hx6⟩
    have HX6 := Lib.hid hx6
    obtain ⟨vl, vp, h1, _⟩ := hx6
    have c3 := h1.cellAt (i := 3) rfl
    have f3 := h1.frozen 3
    clear h1
    go_wp2_with fail
    go_ret
    exact nx_ok HST.out rfl (HX6.out.setQ false)

set_option maxRecDepth 100000 in
set_option maxHeartbeats 8000000 in
theorem next_any (B lb : Nat) (w0 : World) (s : ByteArray) (a : Nat) (ts : List Tk) (q : Bool) (p : List Nat) (w : World) (hx : Lx B lb w0 s a ts q p w) (ha : a < s.size) (hs : s.size ≤ 8000) (hts : ts.length ≤ 8000) (hp : p.length ≤ 8000) (hm : ∀ m ∈ p, m ≤ 8000) (hl : LaidL w)
    (hnb : q = false → blkL (s.data.toList.getD a 0) = false ∧ (s.data.toList.getD a 0).toNat ≠ 35) :
    Calls Tryd.prog 11 #[.pointer (some ⟨lb, 0, none⟩)] w (NxPost B lb w0 s a ts q p) := by
  have HX := Lib.hid hx
  obtain ⟨vl, vp, h1, _⟩ := hx
  have c3 := h1.cellAt (i := 3) rfl
  have H1 := Lib.hid h1
  clear h1
  have HFIN : Hid (∀ (e : Ending) (w5 : World), NxPost B lb w0 s a ts q p e w5 → ∃ er : Int, e = .returned (.int .i64 er)) := Lib.hid (fun e w5 h => by
    unfold NxPost at h
    split at h
    · exact ⟨_, h.1⟩
    · exact ⟨_, h.1⟩)
  cases q
  · obtain ⟨hb0, h35⟩ := hnb rfl
    have c0 := H1.out.cellAt (i := 0) rfl
    have c1 := H1.out.cellAt (i := 1) rfl
    have hai : (a : Int) < (s.size : Int) := by omega
    have hget := str_get s a ha
    have hcons := lexA_cons ha
    obtain ⟨c, hc⟩ : ∃ c, c = s.data.toList.getD a 0 := ⟨_, rfl⟩
    obtain ⟨t, ht⟩ : ∃ t, t = s.data.toList.drop (a + 1) := ⟨_, rfl⟩
    rw [← hc] at hget hcons hb0 h35
    rw [← ht] at hcons
    have HCONS := Lib.hid hcons
    have HB0 := Lib.hid hb0
    have H35 := Lib.hid h35
    have HL := Lib.hid hl
    have HM := Lib.hid hm
    clear hc ht hcons hb0 h35 hl hm
    cases hbg : bgnL c
    · cases hdg : digL c
      · by_cases h34 : c.toNat = 34
        · have h34i : (c.toNat : Int) = 34 := by omega
          have HST : Hid (stepL (s.data.toList.drop a) a false p = .ok ([⟨5, [34], a⟩], 1, true, p)) := Lib.hid (by rw [HCONS.out]; exact step_quote h34)
          have HTK : Hid ((s.data.toList.drop a).take 1 = [34]) := Lib.hid (by rw [HCONS.out]; simp; exact UInt8.toNat_inj.1 h34)
          have HBG := Lib.hid hbg
          have HDG := Lib.hid hdg
          have HBC := Lib.hid (fun w => bgn_z c 34 (Lib.hid h34i.symm) false HBG w)
          have HDC := Lib.hid (fun w => dig_z c 34 (Lib.hid h34i.symm) false HDG w)
          clear hbg hdg h34
          go_enter Tryd.func11, Tryd.ntmps11
          go_wp2_with fail
          go_quiet (fail)
          clear c0 c1 c3
          go_wp2_with fail
          refine (HBC.out _).mono ?_
          rintro e w' ⟨rfl, rfl⟩
          go_wp2_with fail
          refine (HDC.out _).mono ?_
          rintro e w' ⟨rfl, rfl⟩
          go_wp2_with fail
          have hadd := add_any B lb w0 s a ts false p _ (HX.out.drewN nq) 5 1 ha hs (by omega)
          rw [HTK.out] at hadd
          have HA := Lib.hid hadd
          clear hadd
          refine HA.out.mono ?_
          rintro e w6 ⟨rfl, hx6⟩
          have HX6 := Lib.hid hx6
          obtain ⟨vl, vp, h1, _⟩ := hx6
          have c3 := h1.cellAt (i := 3) rfl
          have f3 := h1.frozen 3
          clear h1
          go_wp2_with fail
          go_ret
          exact nx_ok HST.out rfl (HX6.out.setQ true)
        · have h34i : ¬ (c.toNat : Int) = 34 := by omega
          have HST := Lib.hid (show stepL (s.data.toList.drop a) a false p = match signOf (s.data.toList.drop a) with
            | none => .error (a, 4)
            | some g => .ok (signTok g a p) by rw [HCONS.out]; exact step_sign HB0.out H35.out hbg hdg h34)
          have hq : ∀ h, ((⟨#[34]⟩ : ByteArray)[0]'h) = 34 := fun _ => rfl
          have HBG := Lib.hid hbg
          have HDG := Lib.hid hdg
          clear hbg hdg h34
          go_enter Tryd.func11, Tryd.ntmps11
          go_wp2_with fail
          go_quiet (fail)
          clear c0 c1 c3
          go_wp2_with fail
          refine (bgn_any c _).mono ?_
          rintro e w' ⟨rfl, rfl⟩
          rw [HBG.out]
          go_wp2_with fail
          refine (dig_any c _).mono ?_
          rintro e w' ⟨rfl, rfl⟩
          rw [HDG.out]
          go_wp2_with fail
          refine (sign_any B lb w0 s a ts p _ (HX.out.drewN _) ha hs hts hp HM.out (HL.out.same (has_drewN_heap _ _)) HST.out).mono ?_
          intro e w5 hp5
          obtain ⟨er, rfl⟩ := HFIN.out e w5 hp5
          have HP5 := Lib.hid hp5
          clear hp5
          go_wp2_with fail
          go_ret
          exact HP5.out
      · obtain ⟨n, hn⟩ : ∃ n, lenOf digL (s.data.toList.drop a) = n := ⟨_, rfl⟩
        have hn1 : 1 ≤ n := by rw [← hn, HCONS.out]; exact lenOf_pos hdg
        have HST := Lib.hid (show stepL (s.data.toList.drop a) a false p = if badNum ((s.data.toList.drop a).drop n) then .error (a + n, 4)
            else if 9223372036854775807 < decV ((s.data.toList.drop a).take n) then .error (a, 13)
            else .ok ([⟨3, (s.data.toList.drop a).take n, a⟩], n, false, p) by
              rw [← hn, HCONS.out]; exact step_num HB0.out H35.out hbg hdg)
        have HBG := Lib.hid hbg
        have HDG := Lib.hid hdg
        have HN := Lib.hid hn
        clear hbg hdg hn
        go_enter Tryd.func11, Tryd.ntmps11
        go_wp2_with fail
        go_quiet (fail)
        clear c0 c1 c3
        go_wp2_with fail
        refine (bgn_any c _).mono ?_
        rintro e w' ⟨rfl, rfl⟩
        rw [HBG.out]
        go_wp2_with fail
        refine (dig_any c _).mono ?_
        rintro e w' ⟨rfl, rfl⟩
        rw [HDG.out]
        go_wp2_with fail
        refine (number_any B lb w0 s a ts p _ (HX.out.drewN _) ha hs hts (HL.out.same (has_drewN_heap _ _)) n HN.out hn1 HST.out).mono ?_
        intro e w5 hp5
        obtain ⟨er, rfl⟩ := HFIN.out e w5 hp5
        have HP5 := Lib.hid hp5
        clear hp5
        go_wp2_with fail
        go_ret
        exact HP5.out
    · obtain ⟨n, hn⟩ : ∃ n, lenOf inL (s.data.toList.drop a) = n := ⟨_, rfl⟩
      have HST := Lib.hid (show stepL (s.data.toList.drop a) a false p = .ok ([⟨if (s.data.toList.drop a).take n ∈ wordsL then 2 else 1, (s.data.toList.drop a).take n, a⟩], n, false, p) by
        rw [← hn, HCONS.out]; exact step_name HB0.out H35.out hbg)
      have HBG := Lib.hid hbg
      have HN := Lib.hid hn
      clear hbg hn
      go_enter Tryd.func11, Tryd.ntmps11
      go_wp2_with fail
      go_quiet (fail)
      clear c0 c1 c3
      go_wp2_with fail
      refine (bgn_any c _).mono ?_
      rintro e w' ⟨rfl, rfl⟩
      rw [HBG.out]
      go_wp2_with fail
      refine (name_any B lb w0 s a ts p _ (HX.out.drewN _) ha hs hts (HL.out.same (has_drewN_heap _ _)) n HN.out).mono ?_
      rintro e w5 ⟨rfl, hx5⟩
      have HX5 := Lib.hid hx5
      clear hx5
      go_wp2_with fail
      go_ret
      exact nx_ok HST.out rfl HX5.out
  · clear hnb hl
    go_enter Tryd.func11, Tryd.ntmps11
    go_wp2_with fail
    refine (inString_any B lb w0 s a ts p _ HX.out ha hs hts hp).mono ?_
    intro e w5 hp5
    obtain ⟨er, rfl⟩ := HFIN.out e w5 hp5
    have HP5 := Lib.hid hp5
    clear hp5
    go_wp2_with fail
    go_ret
    exact HP5.out

end Go.Proofs.YtnajafnbickiiaaDoor

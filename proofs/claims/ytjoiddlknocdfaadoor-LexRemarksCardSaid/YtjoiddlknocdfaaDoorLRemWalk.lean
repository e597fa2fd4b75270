/-
  The walk of the law LexRemarks. Conditions: the listed variables lie as the text lays them.
-/
import Derived.Test.YtjoiddlknocdfaaDoorLJoinWalk
namespace Go.Proofs.YtjoiddlknocdfaaDoor
open Go.RowKit
set_option linter.unusedVariables false

theorem lineL_rem : ∀ (r y : List UInt8), (∀ c ∈ r, c ≠ 10) → lineL (r ++ 10 :: y) = r.length
  | [], y, _ => by
    unfold lineL
    show lenOf _ (10 :: y) = 0
    rw [lenOf, if_neg (by decide)]
  | c :: r, y, h => by
    have hc : (c.toNat != 10) = true := by
      have : c.toNat ≠ 10 := fun e => h c (by simp) (UInt8.toNat_inj.1 e)
      simpa using this
    have ih := lineL_rem r y (fun d hd => h d (by simp [hd]))
    unfold lineL at ih ⊢
    show lenOf _ (c :: (r ++ 10 :: y)) = _
    rw [lenOf, if_pos hc, ih]; rfl
/-- A blank line and a remark are passed over. -/
theorem lex_rem {r y : List UInt8} (hr : ∀ c ∈ r, c ≠ 10) : lexA (32 :: 9 :: 35 :: (r ++ 10 :: y)) 0 false [] = shE (r.length + 4) (lexA y 0 false []) := by
  have e : lineL (35 :: (r ++ 10 :: y)) = r.length + 1 := by
    have := lineL_rem (35 :: r) y (fun c hc => by
      rcases List.mem_cons.1 hc with e | e
      · rw [e]; decide
      · exact hr c e)
    rw [List.cons_append] at this
    rw [this]; rfl
  rw [lexA_ok (by simp) (step_blank (by decide)), ahead_nil]
  show lexA (9 :: 35 :: (r ++ 10 :: y)) 1 false [] = _
  rw [lexA_ok (by simp) (step_blank (by decide)), ahead_nil]
  show lexA (35 :: (r ++ 10 :: y)) 2 false [] = _
  rw [lexA_ok (by simp) (step_line (by decide)), ahead_nil, e]
  show lexA ((r ++ 10 :: y).drop r.length) (2 + (r.length + 1)) false [] = _
  rw [List.drop_left, lexA_ok (by simp) (step_blank (by decide)), ahead_nil]
  show lexA y (2 + (r.length + 1) + 1) false [] = _
  rw [show 2 + (r.length + 1) + 1 = 0 + (r.length + 4) by omega, lexA_sh]
theorem top_rem {r y : List UInt8} (hr : ∀ c ∈ r, c ≠ 10) (hl : r.length + 4 + y.length ≤ 8000) : lexTop (32 :: 9 :: 35 :: (r ++ 10 :: y)) = shE (r.length + 4) (lexTop y) := by
  unfold lexTop
  rw [if_neg (by simp; omega), if_neg (by omega), lex_rem hr]

theorem gap_list (a r b : ByteArray) : (a ++ (⟨#[10, 32, 9, 35]⟩ ++ r ++ ⟨#[10]⟩) ++ b).data.toList = a.data.toList ++ 10 :: (32 :: 9 :: 35 :: (r.data.toList ++ 10 :: b.data.toList)) := by
  simp [ByteArray.data_append]
theorem shT_shT (c d : Nat) (t : Tk) : shT c (shT d t) = shT (d + c) t := by simp [shT, Nat.add_assoc]
theorem shE_shE (c d : Nat) (r : Except (Nat × Int) (List Tk)) : shE c (shE d r) = shE (d + c) r := by
  cases r with
  | error e => simp [shE, Nat.add_assoc]
  | ok ts => simp [shE, Function.comp_def, shT_shT]

set_option maxRecDepth 100000 in
set_option maxHeartbeats 16000000 in
theorem walk_LexRemarks (w : World) (a : ByteArray) (ha : a.size ≤ 140737488351232) (b : ByteArray) (hb : b.size ≤ 140737488351232) (r : ByteArray) (hr : r.size ≤ 140737488351232) (hl : LaidL w) : Calls Tryd.prog 6 #[.string a, .string b, .string r] w fun e w' => e = .returned (.bool true) ∧ Below w.heap.size w w' := by
  have HL := Lib.hid hl
  have HLW : Hid (∀ w', Below w.heap.size w w' → LaidL w') := Lib.hid (fun w' hb => hl.below hb hl.size)
  have haz : a.data.toList.length = a.size := by simp
  have hbz : b.data.toList.length = b.size := by simp
  have hrz : r.data.toList.length = r.size := by simp
  have HAZ := Lib.hid haz
  have HBZ := Lib.hid hbz
  have HRZ := Lib.hid hrz
  clear hl haz hbz hrz
  by_cases h5 : 5000 < a.size + b.size + r.size
  · have h5i : (5000 : Int) < (a.size : Int) + (b.size : Int) + (r.size : Int) := by omega
    clear h5
    go_enter Tryd.func6, Tryd.ntmps6
    go_wp2_with fail
    refine (awake_any w HL.out).mono ?_
    rintro e w1 ⟨rfl, hb1⟩
    have HB1 := Lib.hid hb1
    clear hb1
    go_wp2_with fail
    refine (awake_any w1 (HLW.out _ HB1.out)).mono ?_
    rintro e w2 ⟨rfl, hb2⟩
    have HB2 := Lib.hid (HB1.out.trans (hb2.mono HB1.out.size))
    clear hb2
    go_wp2_with fail
    go_ret
    exact ⟨rfl, HB2.out⟩
  have h5i : ¬ (5000 : Int) < (a.size : Int) + (b.size : Int) + (r.size : Int) := by omega
  have h5n : a.size + b.size + r.size ≤ 5000 := by omega
  clear h5
  go_enter Tryd.func6, Tryd.ntmps6
  go_wp2_with fail
  refine (awake_any w HL.out).mono ?_
  rintro e w1 ⟨rfl, hb1⟩
  have HB1 := Lib.hid hb1
  clear hb1
  go_wp2_with fail
  go_loopg [7] r.size (fun gk v7 wr => wr = w1 ∧ ∃ k : Nat, gk = r.size - k ∧ k ≤ r.size ∧ v7 = .int .i64 k ∧ Hid (∀ j, j < k → r.data.toList.getD j 0 ≠ 10))
  case atStart => exact ⟨rfl, 0, rfl, Nat.zero_le _, rfl, Lib.hid (fun j hj => by omega)⟩
  case round =>
    obtain ⟨rfl, k, rfl, hk, rfl, hno⟩ := hrel
    by_cases hlt : k < r.size
    · have hki : (k : Int) < (r.size : Int) := by omega
      have hget := str_get r k hlt
      obtain ⟨c, hc⟩ : ∃ c, c = r.data.toList.getD k 0 := ⟨_, rfl⟩
      rw [← hc] at hget
      have HC := Lib.hid hc
      clear hc
      by_cases h10 : (c.toNat : Int) = 10
      · go_wp2_with fail
        go_ret
        exact ⟨rfl, HB1.out⟩
      · have HNO : Hid (∀ j, j < k + 1 → r.data.toList.getD j 0 ≠ 10) := Lib.hid (fun j hj => by
          by_cases e : j = k
          · rw [e, ← HC.out]; intro e2; apply h10; rw [e2]; rfl
          · exact hno.out j (by omega))
        go_wp2_with fail
        go_roundg (r.size - (k + 1))
        case rel => exact ⟨rfl, k + 1, rfl, by omega, by go_num, HNO⟩
        case measure => omega
    · obtain rfl : k = r.size := by omega
      have hki : ¬ (r.size : Int) < (r.size : Int) := by omega
      have HREM : Hid (∀ c ∈ r.data.toList, c ≠ 10) := Lib.hid (fun c hc => by
        obtain ⟨j, hj, rfl⟩ := List.mem_iff_getElem.1 hc
        have := hno.out j (by rw [← HRZ.out]; exact hj)
        rwa [List.getD_eq_getElem?_getD, List.getElem?_eq_getElem hj] at this)
      clear hno
      go_wp2_with fail
      refine (tokens_any a wr (HLW.out _ HB1.out)).mono ?_
      intro e w2 hp
      cases hra : lexTop a.data.toList with
      | error q =>
        obtain ⟨pl, er⟩ := q
        rw [hra] at hp
        obtain ⟨rfl, hb2⟩ := hp
        have HB2 := Lib.hid (HB1.out.trans (hb2.mono HB1.out.size))
        have her := top_err hra
        have heri : (er != 0) = true := by simpa using her
        clear hb2 hra
        go_wp2_with fail
        refine (tokens_any _ w2 (HLW.out _ HB2.out)).mono ?_
        intro e w3 hp3
        have hbb : Below w2.heap.size w2 w3 := hp3.2
        have HB3 := Lib.hid (HB2.out.trans (hbb.mono HB2.out.size))
        obtain ⟨v3, p3, e3, rfl⟩ := tok_form hp3
        clear hp3 hbb
        go_wp2_with fail
        refine (tokens_any _ w3 (HLW.out _ HB3.out)).mono ?_
        intro e w4 hp4
        have hbb : Below w3.heap.size w3 w4 := hp4.2
        have HB4 := Lib.hid (HB3.out.trans (hbb.mono HB3.out.size))
        obtain ⟨v4, p4, e4, rfl⟩ := tok_form hp4
        clear hp4 hbb
        go_wp2_with fail
        go_ret
        exact ⟨rfl, HB4.out⟩
      | ok ts =>
        rw [hra] at hp
        obtain ⟨g1, c1, rfl, hT1, hb2, hn1, hc1, hm1⟩ := tok_list hp hra
        have HB2 := Lib.hid (HB1.out.trans (hb2.mono HB1.out.size))
        obtain ⟨ts0, hts, hjoin⟩ := top_join (x := b.data.toList) hra (by rw [HAZ.out, HBZ.out]; omega)
        obtain ⟨ts0', hts', hgap⟩ := top_join (x := 32 :: 9 :: 35 :: (r.data.toList ++ 10 :: b.data.toList)) hra (by simp only [List.length_cons, List.length_append]; rw [HAZ.out, HBZ.out, HRZ.out]; omega)
        obtain rfl : ts0' = ts0 := by
          have := hts'.symm.trans hts
          exact List.append_cancel_right this
        rw [top_rem HREM.out (by rw [HRZ.out, HBZ.out]; omega), shE_shE] at hgap
        rw [HAZ.out] at hjoin hgap
        rw [HRZ.out] at hgap
        obtain ⟨p, hp0⟩ : ∃ p, p = ts0'.length := ⟨_, rfl⟩
        have htl : ts.length = p + 1 := by rw [hts, List.length_append, hp0]; rfl
        rw [htl, HAZ.out] at hm1
        rw [htl] at hn1 hc1 ⊢
        have HP0 := Lib.hid hp0
        have HLO : Hid (∀ (i : Nat) (t : Tk), ts0'[i]? = some t → t.at_ ≤ a.size) := Lib.hid (fun i t ht => by
          have hi : i < ts0'.length := (List.getElem?_eq_some_iff.1 ht).1
          have := (good_get ts 0 i t (top_good hra) (by rw [hts, List.getElem?_append_left hi]; exact ht)).2.1
          rw [HAZ.out] at this; exact this)
        have HJ := Lib.hid hjoin
        have HGAP := Lib.hid hgap
        clear hp hb2 hra hT1 hts hts' hp0 htl hjoin hgap
        cases hrb : lexTop b.data.toList with
        | error q =>
          obtain ⟨pl, er⟩ := q
          have her := top_err hrb
          have HRC : Hid (lexTop (a ++ ⟨#[10]⟩ ++ b).data.toList = .error (pl + (a.size + 1), er)) := Lib.hid (by rw [cat_list, HJ.out, hrb]; rfl)
          have HRD : Hid (lexTop (a ++ (⟨#[10, 32, 9, 35]⟩ ++ r ++ ⟨#[10]⟩) ++ b).data.toList = .error (pl + (r.size + 4 + (a.size + 1)), er)) := Lib.hid (by rw [gap_list, HGAP.out, hrb]; rfl)
          clear hrb
          go_wp2_with fail
          refine (tokens_any _ w2 (HLW.out _ HB2.out)).mono ?_
          intro e w3 hp3
          rw [HRC.out] at hp3
          obtain ⟨rfl, hb3⟩ := hp3
          have HB3 := Lib.hid (HB2.out.trans (hb3.mono HB2.out.size))
          clear hb3
          go_wp2_with fail
          refine (tokens_any _ w3 (HLW.out _ HB3.out)).mono ?_
          intro e w4 hp4
          rw [HRD.out] at hp4
          obtain ⟨rfl, hb4⟩ := hp4
          have HB4 := Lib.hid (HB3.out.trans (hb4.mono HB3.out.size))
          clear hb4
          go_wp2_with fail
          go_loopg [18] 1 (fun gk v18 wr => wr = w4 ∧ gk = 1 ∧ v18 = .int .i64 0)
          case atStart => exact ⟨rfl, rfl, rfl⟩
          case round =>
            obtain ⟨rfl, rfl, rfl⟩ := hrel
            go_wp2_with fail
            go_ret
            exact ⟨rfl, HB4.out⟩
        | ok us =>
          obtain ⟨m, hm⟩ : ∃ m, m = us.length := ⟨_, rfl⟩
          have HRC : Hid (lexTop (a ++ ⟨#[10]⟩ ++ b).data.toList = .ok (ts0' ++ us.map (shT (a.size + 1)))) := Lib.hid (by rw [cat_list, HJ.out, hrb]; rfl)
          have HRD : Hid (lexTop (a ++ (⟨#[10, 32, 9, 35]⟩ ++ r ++ ⟨#[10]⟩) ++ b).data.toList = .ok (ts0' ++ us.map (shT (r.size + 4 + (a.size + 1))))) := Lib.hid (by rw [gap_list, HGAP.out, hrb]; rfl)
          have hl3 : (ts0' ++ us.map (shT (a.size + 1))).length = p + m := by rw [List.length_append, List.length_map, ← HP0.out, hm]
          have hl4 : (ts0' ++ us.map (shT (r.size + 4 + (a.size + 1)))).length = p + m := by rw [List.length_append, List.length_map, ← HP0.out, hm]
          have hm2 : m ≤ b.size + 1 := by
            have := good_len us 0 (top_good hrb)
            rw [HBZ.out] at this; omega
          have HUS : Hid (∀ (j : Nat) (t : Tk), us[j]? = some t → t.at_ ≤ b.size) := Lib.hid (fun j t ht => by
            have := (good_get us 0 j t (top_good hrb) ht).2.1
            rw [HBZ.out] at this; exact this)
          have HM := Lib.hid hm
          clear hrb hm
          go_wp2_with fail
          refine (tokens_any _ w2 (HLW.out _ HB2.out)).mono ?_
          intro e w3 hp3
          rw [HRC.out] at hp3
          obtain ⟨g3, c3, rfl, hT3, hb3, hn3, hc3, -⟩ := tok_list hp3 HRC.out
          have HB3 := Lib.hid (HB2.out.trans (hb3.mono HB2.out.size))
          have HT3 := Lib.hid hT3
          rw [hl3] at hn3 hc3 ⊢
          clear hp3 hb3 hT3
          go_wp2_with fail
          refine (tokens_any _ w3 (HLW.out _ HB3.out)).mono ?_
          intro e w4 hp4
          rw [HRD.out] at hp4
          obtain ⟨g4, c4, rfl, hT4, hb4, hn4, hc4, -⟩ := tok_list hp4 HRD.out
          have HB4 := Lib.hid (HB3.out.trans (hb4.mono HB3.out.size))
          have HT4 := Lib.hid hT4
          have HT3c := Lib.hid (HT3.out.later hb4 (Nat.le_refl _))
          rw [hl4] at hn4 hc4 ⊢
          have hp7 : p ≤ 5001 := by omega
          have hm7 : m ≤ 5001 := by omega
          clear hp4 hb4 hT4 hl3 hl4 HT3
          go_wp2_with fail
          obtain ⟨gp, hgp⟩ : ∃ gp : ByteArray, gp = ⟨#[10, 32, 9, 35]⟩ ++ r ++ ⟨#[10]⟩ := ⟨_, rfl⟩
          have hgs : gp.size = r.size + 5 := by
            rw [hgp, ByteArray.size_append, ByteArray.size_append]
            show 4 + r.size + 1 = _
            omega
          rw [← hgp]
          clear hgp
          go_loopg [18] (p + m) (fun gk v18 wr => ∃ i : Nat, gk = p + m - i ∧ i ≤ p + m ∧ v18 = .int .i64 i ∧ Below w4.heap.size w4 wr)
          case atStart => exact ⟨0, rfl, Nat.zero_le _, rfl, Below.refl _ _⟩
          case round =>
            obtain ⟨i, rfl, hin, rfl, hb⟩ := hrel
            have HBR := Lib.hid hb
            clear hb
            by_cases hlt : i < p + m
            · have hii : (i : Int) < ((p + m : Nat) : Int) := by omega
              by_cases hip : i < p
              · obtain ⟨t, ht0⟩ : ∃ t, ts0'[i]? = some t := ⟨_, List.getElem?_eq_getElem (by rw [← HP0.out]; exact hip)⟩
                have ht3 : (ts0' ++ us.map (shT (a.size + 1)))[i]? = some t := by rw [List.getElem?_append_left (by rw [← HP0.out]; exact hip)]; exact ht0
                have ht4 : (ts0' ++ us.map (shT (r.size + 4 + (a.size + 1))))[i]? = some t := by rw [List.getElem?_append_left (by rw [← HP0.out]; exact hip)]; exact ht0
                have hta := HLO.out i t ht0
                obtain ⟨d0, d1, d2⟩ := (HT3c.out.later HBR.out (Nat.le_refl _)).2 i t ht3
                obtain ⟨e0, e1, e2⟩ := (HT4.out.later HBR.out (Nat.le_refl _)).2 i t ht4
                have hlg : g4 < wr.heap.size := (HT4.out.later HBR.out (Nat.le_refl _)).1
                obtain ⟨kd, hkd⟩ : ∃ kd : Int, kd = (t.kind : Int) := ⟨_, rfl⟩
                obtain ⟨z, hz⟩ : ∃ z : Int, z = (t.at_ : Int) := ⟨_, rfl⟩
                obtain ⟨tx, htx⟩ : ∃ tx : ByteArray, tx = ⟨t.text.toArray⟩ := ⟨_, rfl⟩
                rw [← hkd] at d0 e0
                rw [← htx] at d1 e1
                rw [← hz] at d2 e2
                have hza : ¬ (a.size : Int) < z := by omega
                clear hkd hz htx ht0 ht3 ht4 hta
                go_upto_region 22 with fail
                obtain ⟨wz, hwz⟩ : ∃ wz, wz = wr.alloc (.cells #[.int .u8 kd, .string tx, .int .i64 (z)] 28) := ⟨_, rfl⟩
                obtain ⟨tb, htb⟩ : ∃ tb, tb = wr.heap.size := ⟨_, rfl⟩
                have hT : Has wz tb [.int .u8 kd, .string tx, .int .i64 (z)] 28 := by rw [hwz, htb]; exact Has.new wr [.int .u8 kd, .string tx, .int .i64 (z)] _
                have HBZ : Hid (Below w4.heap.size w4 wz) := Lib.hid (by rw [hwz]; exact HBR.out.alloc HBR.out.size _)
                have bz : Below wr.heap.size wr wz := by rw [hwz]; exact (Below.refl _ _).alloc (Nat.le_refl _) _
                have k0 := (bz.cell (p := ⟨g4, i * 3, none⟩) hlg).trans e0
                have k1 := (bz.cell (p := ⟨g4, i * 3 + 1, none⟩) hlg).trans e1
                have k2 := (bz.cell (p := ⟨g4, i * 3 + 2, none⟩) hlg).trans e2
                rw [← hwz, ← htb]
                have f0 := hT.cellAt (i := 0) rfl
                have f1 := hT.cellAt (i := 1) rfl
                have f2 := hT.cellAt (i := 2) rfl
                clear hwz htb bz hT d0 d1 d2 e0 e1 e2 hlg
                go_quiet (fail)
                go_wp2_with fail
                go_roundg (p + m - (i + 1))
                case rel => exact ⟨i + 1, rfl, by omega, by go_num, below_drewN HBZ.out _⟩
                case measure => omega
              · obtain ⟨j, hj⟩ : ∃ j, i = p + j := ⟨i - p, by omega⟩
                have hjm : j < m := by omega
                obtain ⟨t, ht0⟩ : ∃ t, us[j]? = some t := ⟨_, List.getElem?_eq_getElem (by rw [← HM.out]; exact hjm)⟩
                have ht3 : (ts0' ++ us.map (shT (a.size + 1)))[i]? = some (shT (a.size + 1) t) := by
                  rw [List.getElem?_append_right (by rw [← HP0.out]; omega), ← HP0.out, show i - p = j by omega, List.getElem?_map, ht0]; rfl
                have ht4 : (ts0' ++ us.map (shT (r.size + 4 + (a.size + 1))))[i]? = some (shT (r.size + 4 + (a.size + 1)) t) := by
                  rw [List.getElem?_append_right (by rw [← HP0.out]; omega), ← HP0.out, show i - p = j by omega, List.getElem?_map, ht0]; rfl
                have hta := HUS.out j t ht0
                obtain ⟨x0, x1, x2⟩ := (HT3c.out.later HBR.out (Nat.le_refl _)).2 i _ ht3
                obtain ⟨y0, y1, y2⟩ := (HT4.out.later HBR.out (Nat.le_refl _)).2 i _ ht4
                have hlg : g4 < wr.heap.size := (HT4.out.later HBR.out (Nat.le_refl _)).1
                obtain ⟨kd, hkd⟩ : ∃ kd : Int, kd = (t.kind : Int) := ⟨_, rfl⟩
                obtain ⟨z, hz⟩ : ∃ z : Int, z = (t.at_ : Int) + ((a.size : Int) + 1) := ⟨_, rfl⟩
                obtain ⟨tx, htx⟩ : ∃ tx : ByteArray, tx = ⟨t.text.toArray⟩ := ⟨_, rfl⟩
                have d0 : wr.cell? ⟨g3, i * 3, none⟩ = some (.int .u8 kd) := by rw [x0, hkd]; rfl
                have d1 : wr.cell? ⟨g3, i * 3 + 1, none⟩ = some (.string tx) := by rw [x1, htx]; rfl
                have d2 : wr.cell? ⟨g3, i * 3 + 2, none⟩ = some (.int .i64 z) := by rw [x2, hz]; rfl
                have e0 : wr.cell? ⟨g4, i * 3, none⟩ = some (.int .u8 kd) := by rw [y0, hkd]; rfl
                have e1 : wr.cell? ⟨g4, i * 3 + 1, none⟩ = some (.string tx) := by rw [y1, htx]; rfl
                have e2 : wr.cell? ⟨g4, i * 3 + 2, none⟩ = some (.int .i64 (z + ((r.size : Int) + 5 - 1))) := by
                  rw [y2, hz]
                  show some (Value.int .i64 ((t.at_ + (r.size + 4 + (a.size + 1)) : Nat) : Int)) = _
                  congr 2
                  omega
                have hza : (a.size : Int) < z := by omega
                have hzb : z ≤ 10001 := by omega
                clear hkd hz htx ht0 ht3 ht4 hta hj x0 x1 x2 y0 y1 y2
                go_upto_region 22 with fail
                obtain ⟨wz, hwz⟩ : ∃ wz, wz = wr.alloc (.cells #[.int .u8 kd, .string tx, .int .i64 (z + ((r.size : Int) + 5 - 1))] 28) := ⟨_, rfl⟩
                obtain ⟨tb, htb⟩ : ∃ tb, tb = wr.heap.size := ⟨_, rfl⟩
                have hT : Has wz tb [.int .u8 kd, .string tx, .int .i64 (z + ((r.size : Int) + 5 - 1))] 28 := by rw [hwz, htb]; exact Has.new wr [.int .u8 kd, .string tx, .int .i64 (z + ((r.size : Int) + 5 - 1))] _
                have HBZ : Hid (Below w4.heap.size w4 wz) := Lib.hid (by rw [hwz]; exact HBR.out.alloc HBR.out.size _)
                have bz : Below wr.heap.size wr wz := by rw [hwz]; exact (Below.refl _ _).alloc (Nat.le_refl _) _
                have k0 := (bz.cell (p := ⟨g4, i * 3, none⟩) hlg).trans e0
                have k1 := (bz.cell (p := ⟨g4, i * 3 + 1, none⟩) hlg).trans e1
                have k2 := (bz.cell (p := ⟨g4, i * 3 + 2, none⟩) hlg).trans e2
                rw [← hwz, ← htb]
                have f0 := hT.cellAt (i := 0) rfl
                have f1 := hT.cellAt (i := 1) rfl
                have f2 := hT.cellAt (i := 2) rfl
                clear hwz htb bz hT d0 d1 d2 e0 e1 e2 hlg
                go_quiet (fail)
                go_wp2_with fail
                go_roundg (p + m - (i + 1))
                case rel => exact ⟨i + 1, rfl, by omega, by go_num, below_drewN HBZ.out _⟩
                case measure => omega
            · obtain rfl : i = p + m := by omega
              have hii : ¬ ((p + m : Nat) : Int) < ((p + m : Nat) : Int) := by omega
              have HBF : Hid (Below w.heap.size w wr) := Lib.hid (HB4.out.trans (HBR.out.mono HB4.out.size))
              go_wp2_with fail
              go_ret
              exact ⟨rfl, HBF.out⟩

end Go.Proofs.YtjoiddlknocdfaaDoor

/-
  The walk of the law LexJoins. Conditions: the listed variables lie as the text lays them.
-/
import Derived.Test.YtjoiddlknocdfaaDoorLAwake
import Derived.Test.YtjoiddlknocdfaaDoorLJoinM
namespace Go.Proofs.YtjoiddlknocdfaaDoor
open Go.RowKit
set_option linter.unusedVariables false

theorem good_len {S : List UInt8} : ∀ (ts : List Tk) (a : Nat), Good S a ts → ts.length + a ≤ S.length + 1
  | [], _, h => h.elim
  | t :: r, a, h => by
    obtain ⟨h1, h2, _, h4⟩ := h
    rcases h4 with ⟨rfl, _⟩ | h4
    · simp; omega
    · have := good_len r _ h4
      rw [List.length_cons]; omega

/-- The cells of a token. -/
def TkAt (w : World) (g i : Nat) (t : Tk) : Prop := w.cell? ⟨g, i * 3, none⟩ = some (.int .u8 (t.kind : Int)) ∧ w.cell? ⟨g, i * 3 + 1, none⟩ = some (.string ⟨t.text.toArray⟩) ∧ w.cell? ⟨g, i * 3 + 2, none⟩ = some (.int .i64 (t.at_ : Int))
/-- A list of tokens, at block g. -/
def TksAt (w : World) (g : Nat) (ts : List Tk) : Prop := g < w.heap.size ∧ ∀ i t, ts[i]? = some t → TkAt w g i t
theorem TksAt.later {w w' : World} {g : Nat} {ts : List Tk} (h : TksAt w g ts) {B : Nat} (hb : Below B w w') (hB : w.heap.size ≤ B) : TksAt w' g ts :=
  ⟨Nat.lt_of_lt_of_le h.1 hb.size, fun i t ht => by
    obtain ⟨h1, h2, h3⟩ := h.2 i t ht
    have hg : g < B := Nat.lt_of_lt_of_le h.1 hB
    exact ⟨(hb.cell (p := ⟨g, i * 3, none⟩) hg).trans h1, (hb.cell (p := ⟨g, i * 3 + 1, none⟩) hg).trans h2, (hb.cell (p := ⟨g, i * 3 + 2, none⟩) hg).trans h3⟩⟩

/-- What Tokens tells of a right text. -/
theorem tok_list {s : List UInt8} {w w' : World} {e : Ending} {ts : List Tk} (h : TokPost (.ok ts) w e w') (hs : lexTop s = .ok ts) :
    ∃ g cap, e = .returned (.tuple #[.slice (some ⟨g, 0, none⟩) ts.length cap, .int .i64 0, .int .i64 0]) ∧ TksAt w' g ts ∧ Below w.heap.size w w' ∧ 1 ≤ ts.length ∧ ts.length ≤ cap ∧ ts.length ≤ s.length + 1 := by
  obtain ⟨⟨v, rfl, ho⟩, hb⟩ := h
  have h1 := good_ne (top_good hs)
  obtain ⟨g, cap, rfl, hle⟩ := row_some ho h1
  have hm := good_len ts 0 (top_good hs)
  exact ⟨g, cap, rfl, ⟨(ho.lt g rfl).2, fun i t ht => tok_cells ho ht⟩, hb, h1, hle, by omega⟩

theorem tok_form {r : Except (Nat × Int) (List Tk)} {w w' : World} {e : Ending} (h : TokPost r w e w') : ∃ v p er, e = .returned (.tuple #[v, .int .i64 p, .int .i64 er]) := by
  obtain ⟨h, _⟩ := h
  cases r with
  | error q => obtain ⟨pl, er⟩ := q; exact ⟨_, _, _, h⟩
  | ok ts => obtain ⟨v, he, _⟩ := h; exact ⟨_, _, _, he⟩

theorem cat_list (a b : ByteArray) : (a ++ ⟨#[10]⟩ ++ b).data.toList = a.data.toList ++ 10 :: b.data.toList := by
  simp [ByteArray.data_append]

set_option maxRecDepth 100000 in
set_option maxHeartbeats 8000000 in
theorem walk_LexJoins (w : World) (a : ByteArray) (ha : a.size ≤ 140737488351232) (b : ByteArray) (hb : b.size ≤ 140737488351232) (hl : LaidL w) : Calls Tryd.prog 4 #[.string a, .string b] w fun e w' => e = .returned (.bool true) ∧ Below w.heap.size w w' := by
  have HL := Lib.hid hl
  have HLW : Hid (∀ w', Below w.heap.size w w' → LaidL w') := Lib.hid (fun w' hb => hl.below hb hl.size)
  have haz : a.data.toList.length = a.size := by simp
  have hbz : b.data.toList.length = b.size := by simp
  have HAZ := Lib.hid haz
  have HBZ := Lib.hid hbz
  clear hl haz hbz
  by_cases h7 : 7000 < a.size + b.size
  · have h7i : (7000 : Int) < (a.size : Int) + (b.size : Int) := by omega
    clear h7
    go_enter Tryd.func4, Tryd.ntmps4
    go_wp2_with fail
    refine (awake_any w HL.out).mono ?_
    rintro e w1 ⟨rfl, hb1⟩
    have HB1 := Lib.hid hb1
    clear hb1
    go_wp2_with fail
    refine (awake_any w1 (HLW.out _ HB1.out)).mono ?_
    rintro e w2 ⟨rfl, hb2⟩
    have HB2 := Lib.hid (HB1.out.trans (hb2.mono HB1.out.size))
    clear hb2
    go_wp2_with fail
    go_ret
    exact ⟨rfl, HB2.out⟩
  have h7i : ¬ (7000 : Int) < (a.size : Int) + (b.size : Int) := by omega
  have h7n : a.size + b.size ≤ 7000 := by omega
  clear h7
  go_enter Tryd.func4, Tryd.ntmps4
  go_wp2_with fail
  refine (awake_any w HL.out).mono ?_
  rintro e w1 ⟨rfl, hb1⟩
  have HB1 := Lib.hid hb1
  clear hb1
  go_wp2_with fail
  refine (tokens_any a w1 (HLW.out _ HB1.out)).mono ?_
  intro e w2 hp
  cases hra : lexTop a.data.toList with
  | error r =>
    obtain ⟨pl, er⟩ := r
    rw [hra] at hp
    obtain ⟨rfl, hb2⟩ := hp
    have HB2 := Lib.hid (HB1.out.trans (hb2.mono HB1.out.size))
    have her := top_err hra
    have heri : (er != 0) = true := by simpa using her
    clear hb2 hra
    go_wp2_with fail
    refine (tokens_any b w2 (HLW.out _ HB2.out)).mono ?_
    intro e w3 hp3
    have hbb : Below w2.heap.size w2 w3 := hp3.2
    have HB3 := Lib.hid (HB2.out.trans (hbb.mono HB2.out.size))
    obtain ⟨v3, p3, e3, rfl⟩ := tok_form hp3
    clear hp3 hbb
    go_wp2_with fail
    refine (tokens_any _ w3 (HLW.out _ HB3.out)).mono ?_
    intro e w4 hp4
    have hbb : Below w3.heap.size w3 w4 := hp4.2
    have HB4 := Lib.hid (HB3.out.trans (hbb.mono HB3.out.size))
    obtain ⟨v4, p4, e4, rfl⟩ := tok_form hp4
    clear hp4 hbb
    go_wp2_with fail
    go_ret
    exact ⟨rfl, HB4.out⟩
  | ok ts =>
    rw [hra] at hp
    obtain ⟨g1, c1, rfl, hT1, hb2, hn1, hc1, hm1⟩ := tok_list hp hra
    have HB2 := Lib.hid (HB1.out.trans (hb2.mono HB1.out.size))
    obtain ⟨ts0, hts, hjoin⟩ := top_join (x := b.data.toList) hra (by rw [HAZ.out, HBZ.out]; omega)
    obtain ⟨p, hp0⟩ : ∃ p, p = ts0.length := ⟨_, rfl⟩
    have htl : ts.length = p + 1 := by rw [hts, List.length_append, hp0]; rfl
    rw [htl] at hn1 hc1 ⊢
    have HT1 := Lib.hid hT1
    have HTS := Lib.hid hts
    have HP0 := Lib.hid hp0
    have htl' := Lib.hid htl
    have HJ := Lib.hid hjoin
    clear hp hb2 hra hT1 hts hp0 htl hjoin
    go_wp2_with fail
    refine (tokens_any b w2 (HLW.out _ HB2.out)).mono ?_
    intro e w3 hp3
    cases hrb : lexTop b.data.toList with
    | error r =>
      obtain ⟨pl, er⟩ := r
      rw [hrb] at hp3
      obtain ⟨rfl, hb3⟩ := hp3
      have HB3 := Lib.hid (HB2.out.trans (hb3.mono HB2.out.size))
      have her := top_err hrb
      have heri : (er != 0) = true := by simpa using her
      have HRC : Hid (lexTop (a ++ ⟨#[10]⟩ ++ b).data.toList = .error (pl + (a.size + 1), er)) := Lib.hid (by rw [cat_list, HJ.out, hrb, HAZ.out]; rfl)
      clear hb3 hrb
      go_wp2_with fail
      refine (tokens_any _ w3 (HLW.out _ HB3.out)).mono ?_
      intro e w4 hp4
      rw [HRC.out] at hp4
      obtain ⟨rfl, hb4⟩ := hp4
      have HB4 := Lib.hid (HB3.out.trans (hb4.mono HB3.out.size))
      clear hb4
      go_wp2_with fail
      go_ret
      exact ⟨rfl, HB4.out⟩
    | ok us =>
      rw [hrb] at hp3
      obtain ⟨g2, c2, rfl, hT2, hb3, hn2, hc2, hm2⟩ := tok_list hp3 hrb
      have HB3 := Lib.hid (HB2.out.trans (hb3.mono HB2.out.size))
      have HT2 := Lib.hid hT2
      have HT1b := Lib.hid (HT1.out.later hb3 (Nat.le_refl _))
      have HRC : Hid (lexTop (a ++ ⟨#[10]⟩ ++ b).data.toList = .ok (ts0 ++ us.map (shT (a.size + 1)))) := Lib.hid (by rw [cat_list, HJ.out, hrb, HAZ.out]; rfl)
      have HRB := Lib.hid hrb
      clear hp3 hb3 hrb hT2 HT1
      go_wp2_with fail
      refine (tokens_any _ w3 (HLW.out _ HB3.out)).mono ?_
      intro e w4 hp4
      rw [HRC.out] at hp4
      obtain ⟨g3, c3, rfl, hT3, hb4, hn3, hc3, -⟩ := tok_list hp4 HRC.out
      have HB4 := Lib.hid (HB3.out.trans (hb4.mono HB3.out.size))
      have HT3 := Lib.hid hT3
      have HT1c := Lib.hid (HT1b.out.later hb4 (Nat.le_refl _))
      have HT2c := Lib.hid (HT2.out.later hb4 (Nat.le_refl _))
      obtain ⟨m, hm⟩ : ∃ m, m = us.length := ⟨_, rfl⟩
      have hl3 : (ts0 ++ us.map (shT (a.size + 1))).length = p + m := by rw [List.length_append, List.length_map, ← HP0.out, hm]
      rw [hl3] at hn3 hc3 ⊢
      rw [← hm] at hn2 hc2 ⊢
      have HM := Lib.hid hm
      rw [HAZ.out] at hm1
      rw [HBZ.out] at hm2
      rw [htl'.out] at hm1
      rw [← HM.out] at hm2
      have hp7 : p ≤ 7001 := by omega
      have hm7 : m ≤ 7001 := by omega
      have hsum : ((p : Int) + (m : Int) != (p : Int) + 1 + (m : Int) - 1) = false := by
        rw [bne_eq_false_iff_eq]; omega
      clear hp4 hb4 hT3 hl3 hm HT1b HT2
      go_wp2_with fail
      clear hsum
      go_loopg [14] (p + m) (fun gk v14 wr => ∃ i : Nat, gk = p + m - i ∧ i ≤ p + m ∧ v14 = .int .i64 i ∧ Below w4.heap.size w4 wr)
      case atStart => exact ⟨0, rfl, Nat.zero_le _, rfl, Below.refl _ _⟩
      case round =>
        obtain ⟨i, rfl, hin, rfl, hb⟩ := hrel
        have HBR := Lib.hid hb
        clear hb
        by_cases hlt : i < p + m
        · have hii : (i : Int) < ((p + m : Nat) : Int) := by omega
          by_cases hip : i < p
          · have hipi : (i : Int) < ((p + 1 : Nat) : Int) - 1 := by omega
            have hii1 : (i : Int) < ((p + 1 : Nat) : Int) := by omega
            obtain ⟨t, ht0⟩ : ∃ t, ts0[i]? = some t := ⟨_, List.getElem?_eq_getElem (by rw [← HP0.out]; exact hip)⟩
            have ht1 : ts[i]? = some t := by rw [HTS.out, List.getElem?_append_left (by rw [← HP0.out]; exact hip)]; exact ht0
            have ht3 : (ts0 ++ us.map (shT (a.size + 1)))[i]? = some t := by rw [List.getElem?_append_left (by rw [← HP0.out]; exact hip)]; exact ht0
            obtain ⟨d0, d1, d2⟩ := (HT1c.out.later HBR.out (Nat.le_refl _)).2 i t ht1
            obtain ⟨e0, e1, e2⟩ := (HT3.out.later HBR.out (Nat.le_refl _)).2 i t ht3
            obtain ⟨kd, hkd⟩ : ∃ kd : Int, kd = (t.kind : Int) := ⟨_, rfl⟩
            obtain ⟨az, haz⟩ : ∃ az : Int, az = (t.at_ : Int) := ⟨_, rfl⟩
            obtain ⟨tx, htx⟩ : ∃ tx : ByteArray, tx = ⟨t.text.toArray⟩ := ⟨_, rfl⟩
            rw [← hkd] at d0 e0
            rw [← htx] at d1 e1
            rw [← haz] at d2 e2
            clear hkd haz htx ht0 ht1 ht3
            go_wp2_with fail
            go_quiet (fail)
            go_wp2_with fail
            go_roundg (p + m - (i + 1))
            case rel => exact ⟨i + 1, rfl, by omega, by go_num, below_drewN HBR.out _⟩
            case measure => omega
          · have hipi : ¬ (i : Int) < ((p + 1 : Nat) : Int) - 1 := by omega
            obtain ⟨j, hj⟩ : ∃ j, i = p + j := ⟨i - p, by omega⟩
            have hjm : j < m := by omega
            obtain ⟨t, ht0⟩ : ∃ t, us[j]? = some t := ⟨_, List.getElem?_eq_getElem (by rw [← HM.out]; exact hjm)⟩
            have ht3 : (ts0 ++ us.map (shT (a.size + 1)))[i]? = some (shT (a.size + 1) t) := by
              rw [List.getElem?_append_right (by rw [← HP0.out]; omega), ← HP0.out, show i - p = j by omega, List.getElem?_map, ht0]; rfl
            obtain ⟨d0, d1, d2⟩ := (HT2c.out.later HBR.out (Nat.le_refl _)).2 j t ht0
            obtain ⟨e0, e1, e2⟩ := (HT3.out.later HBR.out (Nat.le_refl _)).2 i _ ht3
            have e2' : wr.cell? ⟨g3, i * 3 + 2, none⟩ = some (.int .i64 ((t.at_ : Int) + ((a.size : Int) + 1))) := by
              rw [e2]; congr 2
            have hat : t.at_ ≤ b.size := by
              have := (good_get us 0 j t (top_good HRB.out) ht0).2.1
              rw [HBZ.out] at this; exact this
            have hlg : g3 < wr.heap.size := (HT3.out.later HBR.out (Nat.le_refl _)).1
            obtain ⟨kd, hkd⟩ : ∃ kd : Int, kd = (t.kind : Int) := ⟨_, rfl⟩
            obtain ⟨az, haz⟩ : ∃ az : Nat, az = t.at_ := ⟨_, rfl⟩
            obtain ⟨tx, htx⟩ : ∃ tx : ByteArray, tx = ⟨t.text.toArray⟩ := ⟨_, rfl⟩
            have e0' : wr.cell? ⟨g3, i * 3, none⟩ = some (.int .u8 kd) := by rw [e0, hkd]; rfl
            have e1' : wr.cell? ⟨g3, i * 3 + 1, none⟩ = some (.string tx) := by rw [e1, htx]; rfl
            rw [← hkd] at d0
            rw [← htx] at d1
            rw [← haz] at d2 e2' hat
            have hidx : (i : Int) - ((p : Int) + 1) + 1 = (j : Int) := by omega
            have hidx2 : (i : Int) - ((p + 1 : Nat) : Int) + 1 = (j : Int) := by omega
            have hji : (j : Int) < (m : Int) := by omega
            have HJ2 := Lib.hid hj
            clear hkd haz htx ht0 ht3 e0 e1 e2 hj
            go_wp2_with fail
            obtain ⟨wz, hwz⟩ : ∃ wz, wz = wr.alloc (.cells #[.int .u8 kd, .string tx, .int .i64 ((az : Int) + ((a.size : Int) + 1))] 28) := ⟨_, rfl⟩
            obtain ⟨tb, htb⟩ : ∃ tb, tb = wr.heap.size := ⟨_, rfl⟩
            have hT : Has wz tb [.int .u8 kd, .string tx, .int .i64 ((az : Int) + ((a.size : Int) + 1))] 28 := by rw [hwz, htb]; exact Has.new wr [.int .u8 kd, .string tx, .int .i64 ((az : Int) + ((a.size : Int) + 1))] _
            have HBZ : Hid (Below w4.heap.size w4 wz) := Lib.hid (by rw [hwz]; exact HBR.out.alloc HBR.out.size _)
            have bz : Below wr.heap.size wr wz := by rw [hwz]; exact (Below.refl _ _).alloc (Nat.le_refl _) _
            have k0 := (bz.cell (p := ⟨g3, i * 3, none⟩) hlg).trans e0'
            have k1 := (bz.cell (p := ⟨g3, i * 3 + 1, none⟩) hlg).trans e1'
            have k2 := (bz.cell (p := ⟨g3, i * 3 + 2, none⟩) hlg).trans e2'
            rw [← hwz, ← htb]
            have f0 := hT.cellAt (i := 0) rfl
            have f1 := hT.cellAt (i := 1) rfl
            have f2 := hT.cellAt (i := 2) rfl
            clear hwz htb bz hT d0 d1 d2 e0' e1' e2' hlg hidx hidx2 hji
            go_quiet (fail)
            go_wp2_with fail
            go_roundg (p + m - (i + 1))
            case rel => exact ⟨i + 1, rfl, by omega, by go_num, below_drewN HBZ.out _⟩
            case measure => omega
        · obtain rfl : i = p + m := by omega
          have hii : ¬ ((p + m : Nat) : Int) < ((p + m : Nat) : Int) := by omega
          have HBF : Hid (Below w.heap.size w wr) := Lib.hid (HB4.out.trans (HBR.out.mono HB4.out.size))
          go_wp2_with fail
          go_ret
          exact ⟨rfl, HBF.out⟩

end Go.Proofs.YtjoiddlknocdfaaDoor

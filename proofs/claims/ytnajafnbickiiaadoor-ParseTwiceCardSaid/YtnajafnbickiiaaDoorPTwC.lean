/-
  A bind and an argument: with a new name, and with a name that is there. Conditions: the parser's block; the expression's block lies behind it.
-/
import Derived.Test.YtnajafnbickiiaaDoorPTwB
import Derived.Test.YtnajafnbickiiaaDoorPThing
namespace Go.Proofs.YtnajafnbickiiaaDoor
open Go.RowKit
set_option linter.unusedVariables false
set_option maxRecDepth 100000

/-- What a step tells that gives the expression its first name. -/
def PN (X pb g d : Nat) (rm : Int) (s : ByteArray) (r : List Tk) (w : World) (e : Ending) (w' : World) : Prop :=
  e = .returned (.tuple #[]) ∧ S1 w' X s ∧ But X pb w w' ∧ ∃ o c, Ps w' pb g o c r d rm
theorem bind_bad {w : World} {pb g off cap d X : Nat} {t : Tk} {r : List Tk} {rm : Int} (h : Ps w pb g off cap (t :: r) d rm) (hk : t.kind = 1) (hx : S1 w X ⟨t.text.toArray⟩) (hpx : pb < X) :
    Calls Tryd.prog 55 #[.pointer (some ⟨pb, 0, none⟩), .pointer (some ⟨X, 0, none⟩)] w (PBB w.heap.size pb g d rm t.at_ 7 w) := by
  have HN := Lib.hid (new_bad h hk hx hpx)
  clear h hk hx hpx
  go_enter Tryd.func55, Tryd.ntmps55
  go_wp2_with fail
  refine HN.out.mono ?_
  rintro e w1 ⟨rfl, hb, hp⟩
  first | go_wp2_with fail | skip
  exact ⟨rfl, rfl, hb, hp⟩
theorem arg_bad {w : World} {pb g off cap d X : Nat} {t : Tk} {r : List Tk} {rm : Int} (h : Ps w pb g off cap (t :: r) d rm) (hk : t.kind = 1) (hx : S1 w X ⟨t.text.toArray⟩) (hpx : pb < X) :
    Calls Tryd.prog 54 #[.pointer (some ⟨pb, 0, none⟩), .pointer (some ⟨X, 0, none⟩)] w (PBB w.heap.size pb g d rm t.at_ 7 w) := by
  have HN := Lib.hid (new_bad h hk hx hpx)
  clear h hk hx hpx
  go_enter Tryd.func54, Tryd.ntmps54
  go_wp2_with fail
  refine HN.out.mono ?_
  rintro e w1 ⟨rfl, hb, hp⟩
  first | go_wp2_with fail | skip
  exact ⟨rfl, rfl, hb, hp⟩
set_option maxHeartbeats 4000000 in
theorem arg_ok {w : World} {pb g off cap d X k a : Nat} {t u : Tk} {r : List Tk} {rm : Int} (h : Ps w pb g off cap (t :: u :: r) d rm) (hk : t.kind = 1) (hu : stT (u :: r) 0 [63] = false) (hx : S0 w X k a) (hpx : pb < X) (hgx : g < X) :
    Calls Tryd.prog 54 #[.pointer (some ⟨pb, 0, none⟩), .pointer (some ⟨X, 0, none⟩)] w (PN X pb g d rm ⟨t.text.toArray⟩ (u :: r) w) := by
  have HN := Lib.hid (new_ok h hk hx hpx)
  have HX := Lib.hid hx
  have HPX := Lib.hid hpx
  have HGX := Lib.hid hgx
  have HU := Lib.hid hu
  clear h hk hx hpx hgx hu
  go_enter Tryd.func54, Tryd.ntmps54
  go_wp2_with fail
  refine HN.out.mono ?_
  rintro e w1 ⟨rfl, b1, p1⟩
  have P1 := Lib.hid p1
  have X1 := Lib.hid (HX.out.but b1 HPX.out)
  have B1 : Hid (But X pb w w1) := Lib.hid (b1.mono (Nat.le_of_lt HX.out.lt))
  clear p1 b1 HN HX
  have NW : Hid (Has (w1.alloc (.cells #[.int .u8 0, .string ⟨#[]⟩, .int .i64 0] 50)) w1.heap.size [.int .u8 0, .string ⟨#[]⟩, .int .i64 0] 50) := Lib.hid (Has.new w1 [.int .u8 0, .string ⟨#[]⟩, .int .i64 0] _)
  obtain ⟨C, hC⟩ : ∃ C, C = (tokC t).toArray := ⟨_, rfl⟩
  rw [← hC]
  have HC := Lib.hid hC
  have HCI : Hid ((Tryd.prog.info? 50).map (·.size) = some C.size) := Lib.hid (by rw [hC, List.size_toArray]; exact info_tokp)
  have HCO : Hid (C.all (·.oneCell') = true) := Lib.hid (by rw [hC]; exact tok_one t)
  have HCS : Hid (([.int .u8 0, .string ⟨#[]⟩, .int .i64 0] : List Value).toArray.size = C.size) := Lib.hid (by rw [hC]; rfl)
  clear hC
  go_upto_region 1 with (refine wpList_store_row rfl 50 _ _ rfl w1.heap.size C rfl rfl 50 _ NW.out HCI.out HCS.out HCO.out ?_)
  obtain ⟨T, hT⟩ : ∃ T, T = w1.heap.size := ⟨_, rfl⟩
  obtain ⟨w2, hw2⟩ : ∃ x, x = (w1.alloc (.cells #[.int .u8 0, .string ⟨#[]⟩, .int .i64 0] 50)).setRow w1.heap.size C := ⟨_, rfl⟩
  rw [← hw2, ← hT]
  have T2 : Hid (Has w2 T (tokC t) 50) := Lib.hid (by rw [hw2, hT, HC.out]; exact NW.out.row _)
  have D2 : Hid (Below T w1 w2) := Lib.hid (by rw [hw2, hT]; exact below_setRow ((Below.refl _ _).alloc (Nat.le_refl _) _) (Nat.le_refl _) _)
  have P2 := Lib.hid (P1.out.later (by rw [← hT]; exact D2.out))
  have X2 := Lib.hid (X1.out.below (by rw [← hT]; exact D2.out))
  have HXT : Hid (X < T ∧ pb < T) := Lib.hid (by rw [hT]; exact ⟨X1.out.lt, P1.out.row.lt⟩)
  have B2 : Hid (But X pb w w2) := Lib.hid (B1.out.trans (But.of_below (D2.out.mono (Nat.le_of_lt HXT.out.1))))
  clear hw2 hT NW P1 X1 B1 D2 HCS HCO HCI HC
  have HQ := Lib.hid (skip_no P2.out ⟨#[63]⟩ HU.out)
  go_wp2_with fail
  refine HQ.out.mono ?_
  rintro e w3 ⟨rfl, b3⟩
  have P3 := Lib.hid (P2.out.later b3)
  have X3 := Lib.hid (X2.out.below b3)
  have T3 := Lib.hid (T2.out.below b3 T2.out.lt)
  have B3 : Hid (But X pb w w3) := Lib.hid (B2.out.trans (But.of_below (b3.mono (Nat.le_of_lt X2.out.lt))))
  clear b3 HQ P2 X2 T2 B2
  have k1 : w3.cell? ⟨T, 1, none⟩ = some (.string ⟨t.text.toArray⟩) := T3.out.cellAt (i := 1) rfl
  have HA := Lib.hid (add_nil X3.out ⟨t.text.toArray⟩ false exZ rfl (IsX.leaf (w := w) (B := 0) 0 0 [] 0).one)
  go_wp2_with fail
  refine HA.out.mono ?_
  rintro e w4 ⟨rfl, s4, b4⟩
  have S4 := Lib.hid s4
  have B4 : Hid (But X pb w w4) := Lib.hid (B3.out.trans (But.of_below b4))
  have P4 := Lib.hid (P3.out.laterB b4 HPX.out HGX.out)
  clear s4 b4 HA k1 T3 X3 B3 P3
  go_wp2_with fail
  first | go_end0 | (simp only [Exit.inBlock, Exit.then]; refine bodyPost_ret (results_none rfl _ _ _) rfl ?_) | refine bodyPost_ret (results_none rfl _ _ _) rfl ?_
  exact ⟨rfl, S4.out, B4.out, _, _, P4.out⟩

set_option maxHeartbeats 4000000 in
theorem bind_ok {w : World} {pb g off cap d X k a : Nat} {t u v : Tk} {q r : List Tk} {rm : Int} (h : Ps w pb g off cap (t :: u :: q) d rm) (hk : t.kind = 1) (hu : stT (u :: q) 0 [61] = true) (hx : S0 w X k a) (hpx : pb < X) (hgx : g < X)
    (x : Ex) (hv : stT (v :: r) 0 [59] = true) (hex : ∀ (W : World) (o c : Nat), Ps W pb g o c q d rm → Calls Tryd.prog 14 #[.pointer (some ⟨pb, 0, none⟩)] W (PX pb g d rm W x (v :: r))) :
    Calls Tryd.prog 55 #[.pointer (some ⟨pb, 0, none⟩), .pointer (some ⟨X, 0, none⟩)] w (PN X pb g d rm ⟨t.text.toArray⟩ r w) := by
  have HN := Lib.hid (new_ok h hk hx hpx)
  have HX := Lib.hid hx
  have HPX := Lib.hid hpx
  have HGX := Lib.hid hgx
  have HU := Lib.hid hu
  have HVV := Lib.hid hv
  have HEX := Lib.hid hex
  clear h hk hx hpx hgx hu hv hex
  go_enter Tryd.func55, Tryd.ntmps55
  go_wp2_with fail
  refine HN.out.mono ?_
  rintro e w1 ⟨rfl, b1, p1⟩
  have P1 := Lib.hid p1
  have X1 := Lib.hid (HX.out.but b1 HPX.out)
  have B1 : Hid (But X pb w w1) := Lib.hid (b1.mono (Nat.le_of_lt HX.out.lt))
  clear p1 b1 HN HX
  have NW : Hid (Has (w1.alloc (.cells #[.int .u8 0, .string ⟨#[]⟩, .int .i64 0] 50)) w1.heap.size [.int .u8 0, .string ⟨#[]⟩, .int .i64 0] 50) := Lib.hid (Has.new w1 [.int .u8 0, .string ⟨#[]⟩, .int .i64 0] _)
  obtain ⟨C, hC⟩ : ∃ C, C = (tokC t).toArray := ⟨_, rfl⟩
  rw [← hC]
  have HC := Lib.hid hC
  have HCI : Hid ((Tryd.prog.info? 50).map (·.size) = some C.size) := Lib.hid (by rw [hC, List.size_toArray]; exact info_tokp)
  have HCO : Hid (C.all (·.oneCell') = true) := Lib.hid (by rw [hC]; exact tok_one t)
  have HCS : Hid (([.int .u8 0, .string ⟨#[]⟩, .int .i64 0] : List Value).toArray.size = C.size) := Lib.hid (by rw [hC]; rfl)
  clear hC
  go_upto_region 1 with (refine wpList_store_row rfl 50 _ _ rfl w1.heap.size C rfl rfl 50 _ NW.out HCI.out HCS.out HCO.out ?_)
  obtain ⟨T, hT⟩ : ∃ T, T = w1.heap.size := ⟨_, rfl⟩
  obtain ⟨w2, hw2⟩ : ∃ x, x = (w1.alloc (.cells #[.int .u8 0, .string ⟨#[]⟩, .int .i64 0] 50)).setRow w1.heap.size C := ⟨_, rfl⟩
  rw [← hw2, ← hT]
  have T2 : Hid (Has w2 T (tokC t) 50) := Lib.hid (by rw [hw2, hT, HC.out]; exact NW.out.row _)
  have D2 : Hid (Below T w1 w2) := Lib.hid (by rw [hw2, hT]; exact below_setRow ((Below.refl _ _).alloc (Nat.le_refl _) _) (Nat.le_refl _) _)
  have P2 := Lib.hid (P1.out.later (by rw [← hT]; exact D2.out))
  have X2 := Lib.hid (X1.out.below (by rw [← hT]; exact D2.out))
  have HXT : Hid (X < T ∧ pb < T) := Lib.hid (by rw [hT]; exact ⟨X1.out.lt, P1.out.row.lt⟩)
  have B2 : Hid (But X pb w w2) := Lib.hid (B1.out.trans (But.of_below (D2.out.mono (Nat.le_of_lt HXT.out.1))))
  clear hw2 hT NW P1 X1 B1 D2 HCS HCO HCI HC
  have HQ := Lib.hid (need_ok P2.out ⟨#[61]⟩ HU.out)
  go_wp2_with fail
  refine HQ.out.mono ?_
  rintro e w3 ⟨rfl, b3, p3⟩
  have P3 := Lib.hid p3
  have X3 := Lib.hid (X2.out.but b3 HPX.out)
  have T3 := Lib.hid (T2.out.but b3 T2.out.lt (by have := HXT.out.2; omega))
  have B3 : Hid (But X pb w w3) := Lib.hid (B2.out.trans (b3.mono (Nat.le_of_lt X2.out.lt)))
  clear b3 p3 HQ P2 X2 T2 B2
  go_upto_region 2 with fail
  refine wp_region_held_drew (S := fun _ => True) (by kernel_rfl) trivial (fun hHeld => ?_)
  obtain ⟨v0, hv0⟩ : ∃ y, y = w3.drew := ⟨_, rfl⟩
  have hb0 : Below w3.heap.size w3 v0 := by rw [hv0]; exact (Below.refl _ _).drew
  have P0 := Lib.hid (P3.out.later hb0)
  have X0 := Lib.hid (X3.out.below hb0)
  have T0 := Lib.hid (T3.out.below hb0 T3.out.lt)
  have B0 : Hid (But X pb w v0) := Lib.hid (B3.out.trans (But.of_below (hb0.mono (Nat.le_of_lt X3.out.lt))))
  rw [← hv0]
  clear hv0 hb0 P3 X3 T3 B3
  refine wpAnyH_take (i := 0) (oi := { dst := some 10, op := Op.move (Operand.tmp 1), type := 72, pos := "thing.go:113", after := #[], guard := none }) (v := .pointer (some ⟨X, 0, none⟩)) rfl (by kernel_rfl) (by kernel_rfl) (by kernel_rfl) (fun _ _ _ h => h)
    (Or.inl ⟨by rfl, by intro w hSw;  clear hSw; go_simp⟩) hHeld ?_
  try simp only [Act.put, List.setIfInBounds_toArray, List.set_cons_zero, List.set_cons_succ]
  refine wpAnyH_take (i := 1) (oi := { dst := some 11, op := Op.fieldAddr 50 (Operand.tmp 4) 1, type := 0, pos := "thing.go:113", after := #[], guard := none }) (v := .pointer (some ⟨T, 1, none⟩)) rfl (by kernel_rfl) (by kernel_rfl) (by kernel_rfl) (fun _ _ _ h => h)
    (Or.inl ⟨by rfl, by intro w hSw;  clear hSw; go_simp⟩) hHeld ?_
  try simp only [Act.put, List.setIfInBounds_toArray, List.set_cons_zero, List.set_cons_succ]
  refine wpAnyH_take (i := 3) (oi := { dst := some 13, op := Op.move (Operand.tmp 0), type := 44, pos := "thing.go:113", after := #[], guard := none }) (v := .pointer (some ⟨pb, 0, none⟩)) rfl (by kernel_rfl) (by kernel_rfl) (by kernel_rfl) (fun _ _ _ h => h)
    (Or.inl ⟨by rfl, by intro w hSw;  clear hSw; go_simp⟩) hHeld ?_
  try simp only [Act.put, List.setIfInBounds_toArray, List.set_cons_zero, List.set_cons_succ]
  refine wpAnyH_ready (rs := [2, 4]) (by kernel_rfl) (by simp) ?_
  refine AllReadyH.cons (o := { dst := some 12, op := Op.load 9 (Operand.tmp 11), type := 9, pos := "thing.go:113", after := #[{ on := 1, ground := Ground.data }], guard := none }) rfl (fun K hK => ?_) (AllReadyH.cons (o := { dst := some 14, op := Op.call { callee := Callee.value (Operand.func 14), args := #[Operand.tmp 13], argTypes := #[44] }, type := 28, pos := "thing.go:113", after := #[{ on := 3, ground := Ground.data }], guard := none }) rfl (fun K hK => ?_) AllReadyH.nil)
  · have k1 : v0.cell? ⟨T, 1, none⟩ = some (.string ⟨t.text.toArray⟩) := Has.cellAt T0.out (i := 1) rfl
    go_simp
    refine hK.out _ _ trivial (fun hHw1 => ?_)
    clear hK K k1 hHeld
    try simp only [Act.put, List.setIfInBounds_toArray, List.set_cons_zero, List.set_cons_succ]
    refine wpAnyH_ready (rs := [4]) (by kernel_rfl) (by simp) ?_
    refine AllReadyH.cons (o := { dst := some 14, op := Op.call { callee := Callee.value (Operand.func 14), args := #[Operand.tmp 13], argTypes := #[44] }, type := 28, pos := "thing.go:113", after := #[{ on := 3, ground := Ground.data }], guard := none }) rfl (fun K hK => ?_) AllReadyH.nil
    go_simp
    refine (HEX.out v0 _ _ P0.out).mono ?_
    rintro e v0e ⟨cs, o4, c4, rfl, ix, bt, p4⟩
    have HIX := Lib.hid ix
    have P0e := Lib.hid p4
    have X0e := Lib.hid (X0.out.but bt HPX.out)
    have T0e := Lib.hid (T0.out.but bt T0.out.lt (by have := HXT.out.2; omega))
    have B0e : Hid (But X pb w v0e) := Lib.hid (B0.out.trans (bt.mono (Nat.le_of_lt X0.out.lt)))
    clear ix bt p4
    go_simp
    refine hK.out _ _ trivial (fun hHw2 => ?_)
    clear hK K hHw1
    try simp only [Act.put, List.setIfInBounds_toArray, List.set_cons_zero, List.set_cons_succ]
    refine wpAnyH_ready (rs := [5]) (by kernel_rfl) (by simp) ?_
    refine AllReadyH.cons (o := { dst := some 15, op := Op.call { callee := Callee.value (Operand.func 67), args := #[Operand.tmp 10, Operand.tmp 12, Operand.const (Value.bool false), Operand.tmp 14], argTypes := #[72, 9, 4, 28] }, type := 0, pos := "thing.go:113", after := #[{ on := 0, ground := Ground.data }, { on := 2, ground := Ground.data }, { on := 4, ground := Ground.data }, { on := 4, ground := Ground.chain }], guard := none }) rfl (fun K hK => ?_) AllReadyH.nil
    go_simp
    refine (add_nil X0e.out ⟨t.text.toArray⟩ false cs HIX.out.len HIX.out.one).mono ?_
    rintro e v0ea ⟨rfl, s5, b5⟩
    have S5 := Lib.hid s5
    have P0ea := Lib.hid (P0e.out.laterB b5 HPX.out HGX.out)
    have B0ea : Hid (But X pb w v0ea) := Lib.hid (B0e.out.trans (But.of_below b5))
    clear s5 b5
    go_simp
    refine hK.out _ _ trivial (fun hHw3 => ?_)
    clear hK K hHw2
    try simp only [Act.put]
    refine wpAnyH_done (by kernel_rfl) ?_ _
    clear hHw3
    have HZ := Lib.hid (need_ok P0ea.out ⟨#[59]⟩ HVV.out)
    go_wp2_with fail
    refine HZ.out.mono ?_
    rintro e w7 ⟨rfl, b7, p7⟩
    have S7 := Lib.hid (S5.out.but b7 HPX.out)
    have B7 : Hid (But X pb w w7) := Lib.hid (B0ea.out.trans (b7.mono (Nat.le_of_lt S5.out.lt)))
    have P7 := Lib.hid p7
    clear b7 p7 HZ
    go_wp2_with fail
    first | go_end0 | (simp only [Exit.inBlock, Exit.then]; refine bodyPost_ret (results_none rfl _ _ _) rfl ?_) | refine bodyPost_ret (results_none rfl _ _ _) rfl ?_
    exact ⟨rfl, S7.out, B7.out, _, _, P7.out⟩
  · go_simp
    refine (HEX.out v0 _ _ P0.out).mono ?_
    rintro e v0e ⟨cs, o4, c4, rfl, ix, bt, p4⟩
    have HIX := Lib.hid ix
    have P0e := Lib.hid p4
    have X0e := Lib.hid (X0.out.but bt HPX.out)
    have T0e := Lib.hid (T0.out.but bt T0.out.lt (by have := HXT.out.2; omega))
    have B0e : Hid (But X pb w v0e) := Lib.hid (B0.out.trans (bt.mono (Nat.le_of_lt X0.out.lt)))
    clear ix bt p4
    go_simp
    refine hK.out _ _ trivial (fun hHw1 => ?_)
    clear hK K hHeld
    try simp only [Act.put, List.setIfInBounds_toArray, List.set_cons_zero, List.set_cons_succ]
    refine wpAnyH_ready (rs := [2]) (by kernel_rfl) (by simp) ?_
    refine AllReadyH.cons (o := { dst := some 12, op := Op.load 9 (Operand.tmp 11), type := 9, pos := "thing.go:113", after := #[{ on := 1, ground := Ground.data }], guard := none }) rfl (fun K hK => ?_) AllReadyH.nil
    have k1 : v0e.cell? ⟨T, 1, none⟩ = some (.string ⟨t.text.toArray⟩) := Has.cellAt T0e.out (i := 1) rfl
    go_simp
    refine hK.out _ _ trivial (fun hHw2 => ?_)
    clear hK K k1 hHw1
    try simp only [Act.put, List.setIfInBounds_toArray, List.set_cons_zero, List.set_cons_succ]
    refine wpAnyH_ready (rs := [5]) (by kernel_rfl) (by simp) ?_
    refine AllReadyH.cons (o := { dst := some 15, op := Op.call { callee := Callee.value (Operand.func 67), args := #[Operand.tmp 10, Operand.tmp 12, Operand.const (Value.bool false), Operand.tmp 14], argTypes := #[72, 9, 4, 28] }, type := 0, pos := "thing.go:113", after := #[{ on := 0, ground := Ground.data }, { on := 2, ground := Ground.data }, { on := 4, ground := Ground.data }, { on := 4, ground := Ground.chain }], guard := none }) rfl (fun K hK => ?_) AllReadyH.nil
    go_simp
    refine (add_nil X0e.out ⟨t.text.toArray⟩ false cs HIX.out.len HIX.out.one).mono ?_
    rintro e v0ea ⟨rfl, s5, b5⟩
    have S5 := Lib.hid s5
    have P0ea := Lib.hid (P0e.out.laterB b5 HPX.out HGX.out)
    have B0ea : Hid (But X pb w v0ea) := Lib.hid (B0e.out.trans (But.of_below b5))
    clear s5 b5
    go_simp
    refine hK.out _ _ trivial (fun hHw3 => ?_)
    clear hK K hHw2
    try simp only [Act.put]
    refine wpAnyH_done (by kernel_rfl) ?_ _
    clear hHw3
    have HZ := Lib.hid (need_ok P0ea.out ⟨#[59]⟩ HVV.out)
    go_wp2_with fail
    refine HZ.out.mono ?_
    rintro e w7 ⟨rfl, b7, p7⟩
    have S7 := Lib.hid (S5.out.but b7 HPX.out)
    have B7 : Hid (But X pb w w7) := Lib.hid (B0ea.out.trans (b7.mono (Nat.le_of_lt S5.out.lt)))
    have P7 := Lib.hid p7
    clear b7 p7 HZ
    go_wp2_with fail
    first | go_end0 | (simp only [Exit.inBlock, Exit.then]; refine bodyPost_ret (results_none rfl _ _ _) rfl ?_) | refine bodyPost_ret (results_none rfl _ _ _) rfl ?_
    exact ⟨rfl, S7.out, B7.out, _, _, P7.out⟩
end Go.Proofs.YtnajafnbickiiaaDoor

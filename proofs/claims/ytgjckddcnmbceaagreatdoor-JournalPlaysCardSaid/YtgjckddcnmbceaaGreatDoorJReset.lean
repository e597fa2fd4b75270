/-
  The contracts of Reset where there is room, and of Format. Conditions: the journal's block, the device as Dv says, the digest's laid variables.
-/
import Derived.Test.YtgjckddcnmbceaaGreatDoorJAdd
namespace Go.Proofs.YtgjckddcnmbceaaGreatDoor
open Go.RowKit
set_option linter.unusedVariables false

theorem wp_build_to {P : Program} {o : Oper} {a : Act} {w : World} {K : Act → World → Prop} {Q : Exit → Act → World → Prop} (t : TypeId) (parts : Array (Nat × Operand)) (ho : o.op = .build t parts)
    (cs : Array Value) (hb : P.built t (parts.map fun (i, x) => (i, a.eval x)).toList = some cs) (h : K (a.put o.dst (.agg cs)) w) : o.wp P a w K Q :=
  wp_build t parts ho (by rw [hb]; rfl) (by rw [hb]; exact h)
theorem builtJ (pd h N : Nat) (va : Option Addr) (vn vc : Nat) (u : Nat) : Tryz.prog.built tJ [(0, .pointer (some ⟨pd, 0, none⟩)), (1, .int .i64 (h : Int)), (2, .int .u64 (N : Int)), (3, .slice va vn vc), (5, .int .i64 (u : Int))] = some (jC pd h N (.slice va vn vc) (.slice none 0 0) u false false).toArray := by kernel_rfl
theorem u64_two (N : Nat) (h : N < 1000000000000) : IntKind.u64.wrap ((N : Int) + 2) = ((N + 2 : Nat) : Int) := by simp [IntKind.wrap, IntKind.bits, IntKind.signed]; omega
theorem i64_one (h : Nat) (hh : h ≤ 1) : IntKind.i64.wrap (1 - (h : Int)) = ((1 - h : Nat) : Int) := by rw [IntKind.wrap_i64]; omega
def jZ : List Value := [.pointer none, .int .i64 0, .int .u64 0, .slice none 0 0, .slice none 0 0, .int .i64 0, .bool false, .bool false]
theorem infoJ (pd h N : Nat) (bV rV : Value) (used : Nat) (st lost : Bool) : (Tryz.prog.info? tJ).map (·.size) = some (jC pd h N bV rV used st lost).toArray.size := by
  show _ = some 8
  kernel_rfl
theorem jC_one (pd h N : Nat) (va : Option Addr) (vn vc : Nat) (used : Nat) (st lost : Bool) : (jC pd h N (.slice va vn vc) (.slice none 0 0) used st lost).toArray.all (·.oneCell') = true := by simp [jC, Value.oneCell']
theorem jC_size (pd h N : Nat) (bV rV : Value) (used : Nat) (st lost : Bool) : (jC pd h N bV rV used st lost).length = 8 := rfl

set_option maxRecDepth 100000 in
set_option maxHeartbeats 4000000 in
theorem reset_ok {w : World} {B pd pj n m k h N used : Nat} {L base : List UInt8} {bV rV : Value} {st : Bool} (hj : Has w pj (jC pd h N bV rV used st false) tJ) (a : Option Addr) (len cap : Nat) (hp : IsB w a len cap base)
    (hd : Dv w B pd n L m k) (hl : LaidW w) (hh : h ≤ 1) (hn : 2 ≤ n) (hfit : 32 + base.length ≤ 256 * half n) (hN : N < 1000000000000) (hk : k ≤ 1000000000000) (hm : m + 256 * half n ≤ 90000) (hB : B ≤ w.heap.size) (hgB : 3 < B) (hpj : B ≤ pj) :
    Calls Tryz.prog 13 #[.pointer (some ⟨pj, 0, none⟩), .slice a len cap] w fun e w' => e = .returned (.int .i64 0) ∧ Dv w' B pd n (resetL n L (1 - h) (N + 2) base) 0 (k + 256 * half n + 4) ∧ Kp jT B w w' ∧
      ∃ bV', Has w' pj (jC pd (1 - h) (N + 2) bV' (.slice none 0 0) (32 + base.length) false false) tJ ∧ w'.ownsRow w.heap.size 5 1 bV' base.length (base.map bv) := by
  have HRN := Lib.hid (renew_any hj)
  have HR := Lib.hid (room_any hj hd)
  have hlen := hp.length
  obtain ⟨RM, hRM⟩ : ∃ RM, RM = 256 * half n := ⟨_, rfl⟩
  rw [← hRM] at HR
  have hRMs : RM ≤ 90000 := by omega
  have hlens : len ≤ 90000 := by omega
  have hRMi : ¬ (RM : Int) - 32 < (len : Int) := by omega
  have e1 : wrap64 ((RM : Int) - 32) = (RM : Int) - 32 := by unfold wrap64; omega
  have c0 := hj.cellAt (i := 0) rfl
  have c1 := hj.cellAt (i := 1) rfl
  have c2 := hj.cellAt (i := 2) rfl
  go_enter Tryz.func13, Tryz.ntmps13
  obtain ⟨H1, hH1⟩ : ∃ H1, H1 = 1 - h := ⟨_, rfl⟩
  obtain ⟨N2, hN2⟩ : ∃ N2, N2 = N + 2 := ⟨_, rfl⟩
  obtain ⟨U2, hU2⟩ : ∃ U2, U2 = 32 + len := ⟨_, rfl⟩
  have k2 : len ≤ 1000000000 := by omega
  have k3 : N2 < 18446744073709551616 := by omega
  have k4 : 1 ≤ N2 := by omega
  have k5 : H1 ≤ 1 := by omega
  have K3 := Lib.hid k3
  have K4 := Lib.hid k4
  have K5 := Lib.hid k5
  have x1 := i64_one h hh
  have x1' : wrap64 (1 - (h : Int)) = ((1 - h : Nat) : Int) := (IntWalk.i64_left _).symm.trans x1
  have x2 := u64_two N hN
  have x3' := i64_head len k2
  have x3 : wrap64 (32 + (len : Int)) = ((32 + len : Nat) : Int) := (IntWalk.i64_left _).symm.trans x3'
  rw [← hH1] at x1 x1'
  rw [← hN2] at x2
  rw [← hU2] at x3 x3'
  clear k2 k3 k4 k5
  rw [← hH1, ← hN2, hlen, ← hU2]
  obtain ⟨RES, hRES⟩ : ∃ RES, RES = resetL n L H1 N2 base := ⟨_, rfl⟩
  obtain ⟨KK, hKK⟩ : ∃ KK, KK = k + 256 * half n + 4 := ⟨_, rfl⟩
  rw [← hRES, ← hKK]
  have HRES := Lib.hid hRES
  have HKK := Lib.hid hKK
  clear hRES hKK
  have HCL : Hid (∀ x, Below w.heap.size w x → Calls Tryz.prog 31 #[.slice a len cap] x fun e w' => ∃ v', e = .returned v' ∧ w'.ownsRow x.heap.size 5 1 v' base.length (base.map bv) ∧ Below x.heap.size x w') := Lib.hid (fun x hx => clone_all a len cap base x (hp.later hx))
  have JJ : Hid (∀ x, Below w.heap.size w x → Has x pj (jC pd h N bV rV used st false) tJ) := Lib.hid (fun x hx => (hx.block pj hj.lt).trans hj)
  have hz := (show (zeroValue tJ).run Tryz.prog w.drew = .ok (.agg jZ.toArray) w.drew from by kernel_rfl)
  have HJ := Lib.hid hj
  have HD := Lib.hid hd
  have HLd := Lib.hid hl
  have HLEN := Lib.hid hlen
  have HRM := Lib.hid hRM
  have HH1 := Lib.hid hH1
  have HN2 := Lib.hid hN2
  have HU2 := Lib.hid hU2
  have HN := Lib.hid hN
  have HFIT := Lib.hid hfit
  have HK := Lib.hid hk
  have HM := Lib.hid hm
  have HH := Lib.hid hh
  have HNN := Lib.hid hn
  have HB := Lib.hid hB
  have HGB := Lib.hid hgB
  clear hj hd hl hlen hRM hH1 hN2 hU2 hN hfit hk hm hh hn hB hgB hp
  go_upto_region 8 with (first | (go_at_call 28; refine HRN.out.mono ?_; rintro e w0 ⟨rfl, rfl⟩) | (go_at_call 19; refine HR.out.mono ?_; rintro e w0 ⟨rfl, rfl⟩))
  clear hRMi e1
  clear hz
  refine wp_region_held_drew (S := fun W => Has W pj (jC pd h N bV rV used st false) tJ) (by kernel_rfl) (JJ.out _ (Below.refl _ _).drew) (fun hHeld => ?_)
  refine wpAnyH_take (i := 0) (oi := { dst := some 21, op := Op.move (Operand.tmp 0), type := 25, pos := "journal.go:213", after := #[], guard := none }) (v := .pointer (some ⟨pj, 0, none⟩)) rfl (by kernel_rfl) (by kernel_rfl) (by kernel_rfl) (fun _ _ _ h => h)
    (Or.inl ⟨by rfl, by intro w hSw;  clear hSw; go_simp⟩) hHeld ?_
  try simp only [Act.put, List.setIfInBounds_toArray, List.set_cons_zero, List.set_cons_succ]
  refine wpAnyH_take (i := 1) (oi := { dst := some 22, op := Op.nilCheck (Operand.tmp 21), type := 0, pos := "journal.go:213", after := #[{ on := 0, ground := Ground.data }], guard := none }) (v := .pointer (some ⟨pj, 0, none⟩)) rfl (by kernel_rfl) (by kernel_rfl) (by kernel_rfl) (fun _ _ _ h => h)
    (Or.inl ⟨by rfl, by intro w hSw;  clear hSw; go_simp⟩) hHeld ?_
  try simp only [Act.put, List.setIfInBounds_toArray, List.set_cons_zero, List.set_cons_succ]
  refine wpAnyH_take (i := 2) (oi := { dst := some 23, op := Op.fieldAddr 62 (Operand.tmp 22) 0, type := 0, pos := "journal.go:213", after := #[{ on := 1, ground := Ground.data }], guard := none }) (v := .pointer (some ⟨pj, 0, none⟩)) rfl (by kernel_rfl) (by kernel_rfl) (by kernel_rfl) (fun _ _ _ h => h)
    (Or.inl ⟨by rfl, by intro w hSw;  clear hSw; go_simp⟩) hHeld ?_
  try simp only [Act.put, List.setIfInBounds_toArray, List.set_cons_zero, List.set_cons_succ]
  refine wpAnyH_take (i := 3) (oi := { dst := some 24, op := Op.load 24 (Operand.tmp 23), type := 24, pos := "journal.go:213", after := #[{ on := 2, ground := Ground.data }], guard := none }) (v := .pointer (some ⟨pd, 0, none⟩)) rfl (by kernel_rfl) (by kernel_rfl) (by kernel_rfl) (fun _ _ _ h => h)
    (Or.inl ⟨by rfl, by intro w hSw; have hq := hSw.cellAt (i := 0) rfl; clear hSw; go_simp⟩) hHeld ?_
  try simp only [Act.put, List.setIfInBounds_toArray, List.set_cons_zero, List.set_cons_succ]
  refine wpAnyH_take (i := 4) (oi := { dst := some 25, op := Op.move (Operand.tmp 0), type := 25, pos := "journal.go:213", after := #[], guard := none }) (v := .pointer (some ⟨pj, 0, none⟩)) rfl (by kernel_rfl) (by kernel_rfl) (by kernel_rfl) (fun _ _ _ h => h)
    (Or.inl ⟨by rfl, by intro w hSw;  clear hSw; go_simp⟩) hHeld ?_
  try simp only [Act.put, List.setIfInBounds_toArray, List.set_cons_zero, List.set_cons_succ]
  refine wpAnyH_take (i := 5) (oi := { dst := some 26, op := Op.nilCheck (Operand.tmp 25), type := 0, pos := "journal.go:213", after := #[{ on := 4, ground := Ground.data }], guard := none }) (v := .pointer (some ⟨pj, 0, none⟩)) rfl (by kernel_rfl) (by kernel_rfl) (by kernel_rfl) (fun _ _ _ h => h)
    (Or.inl ⟨by rfl, by intro w hSw;  clear hSw; go_simp⟩) hHeld ?_
  try simp only [Act.put, List.setIfInBounds_toArray, List.set_cons_zero, List.set_cons_succ]
  refine wpAnyH_take (i := 6) (oi := { dst := some 27, op := Op.fieldAddr 62 (Operand.tmp 26) 1, type := 0, pos := "journal.go:213", after := #[{ on := 5, ground := Ground.data }], guard := none }) (v := .pointer (some ⟨pj, 1, none⟩)) rfl (by kernel_rfl) (by kernel_rfl) (by kernel_rfl) (fun _ _ _ h => h)
    (Or.inl ⟨by rfl, by intro w hSw;  clear hSw; go_simp⟩) hHeld ?_
  try simp only [Act.put, List.setIfInBounds_toArray, List.set_cons_zero, List.set_cons_succ]
  refine wpAnyH_take (i := 7) (oi := { dst := some 28, op := Op.load 3 (Operand.tmp 27), type := 3, pos := "journal.go:213", after := #[{ on := 6, ground := Ground.data }], guard := none }) (v := .int .i64 (h : Int)) rfl (by kernel_rfl) (by kernel_rfl) (by kernel_rfl) (fun _ _ _ h => h)
    (Or.inl ⟨by rfl, by intro w hSw; have hq := hSw.cellAt (i := 1) rfl; clear hSw; go_simp⟩) hHeld ?_
  try simp only [Act.put, List.setIfInBounds_toArray, List.set_cons_zero, List.set_cons_succ]
  refine wpAnyH_take (i := 8) (oi := { dst := some 29, op := Op.binOp BinOp.sub 3 (Operand.const (Value.int IntKind.i64 1)) (Operand.tmp 28) 3, type := 3, pos := "journal.go:213", after := #[{ on := 7, ground := Ground.data }], guard := none }) (v := .int .i64 (H1 : Int)) rfl (by kernel_rfl) (by kernel_rfl) (by kernel_rfl) (fun _ _ _ h => h)
    (Or.inl ⟨by rfl, by intro w hSw;  clear hSw; go_simp⟩) hHeld ?_
  try simp only [Act.put, List.setIfInBounds_toArray, List.set_cons_zero, List.set_cons_succ]
  refine wpAnyH_take (i := 9) (oi := { dst := some 30, op := Op.move (Operand.tmp 0), type := 25, pos := "journal.go:213", after := #[], guard := none }) (v := .pointer (some ⟨pj, 0, none⟩)) rfl (by kernel_rfl) (by kernel_rfl) (by kernel_rfl) (fun _ _ _ h => h)
    (Or.inl ⟨by rfl, by intro w hSw;  clear hSw; go_simp⟩) hHeld ?_
  try simp only [Act.put, List.setIfInBounds_toArray, List.set_cons_zero, List.set_cons_succ]
  refine wpAnyH_take (i := 10) (oi := { dst := some 31, op := Op.nilCheck (Operand.tmp 30), type := 0, pos := "journal.go:213", after := #[{ on := 9, ground := Ground.data }], guard := none }) (v := .pointer (some ⟨pj, 0, none⟩)) rfl (by kernel_rfl) (by kernel_rfl) (by kernel_rfl) (fun _ _ _ h => h)
    (Or.inl ⟨by rfl, by intro w hSw;  clear hSw; go_simp⟩) hHeld ?_
  try simp only [Act.put, List.setIfInBounds_toArray, List.set_cons_zero, List.set_cons_succ]
  refine wpAnyH_take (i := 11) (oi := { dst := some 32, op := Op.fieldAddr 62 (Operand.tmp 31) 2, type := 0, pos := "journal.go:213", after := #[{ on := 10, ground := Ground.data }], guard := none }) (v := .pointer (some ⟨pj, 2, none⟩)) rfl (by kernel_rfl) (by kernel_rfl) (by kernel_rfl) (fun _ _ _ h => h)
    (Or.inl ⟨by rfl, by intro w hSw;  clear hSw; go_simp⟩) hHeld ?_
  try simp only [Act.put, List.setIfInBounds_toArray, List.set_cons_zero, List.set_cons_succ]
  refine wpAnyH_take (i := 12) (oi := { dst := some 33, op := Op.load 60 (Operand.tmp 32), type := 60, pos := "journal.go:213", after := #[{ on := 11, ground := Ground.data }], guard := none }) (v := .int .u64 (N : Int)) rfl (by kernel_rfl) (by kernel_rfl) (by kernel_rfl) (fun _ _ _ h => h)
    (Or.inl ⟨by rfl, by intro w hSw; have hq := hSw.cellAt (i := 2) rfl; clear hSw; go_simp⟩) hHeld ?_
  try simp only [Act.put, List.setIfInBounds_toArray, List.set_cons_zero, List.set_cons_succ]
  refine wpAnyH_take (i := 13) (oi := { dst := some 34, op := Op.binOp BinOp.add 60 (Operand.tmp 33) (Operand.const (Value.int IntKind.u64 2)) 60, type := 60, pos := "journal.go:213", after := #[{ on := 12, ground := Ground.data }], guard := none }) (v := .int .u64 (N2 : Int)) rfl (by kernel_rfl) (by kernel_rfl) (by kernel_rfl) (fun _ _ _ h => h)
    (Or.inl ⟨by rfl, by intro w hSw;  clear hSw; go_simp⟩) hHeld ?_
  try simp only [Act.put, List.setIfInBounds_toArray, List.set_cons_zero, List.set_cons_succ]
  refine wpAnyH_take (i := 14) (oi := { dst := some 35, op := Op.move (Operand.tmp 1), type := 33, pos := "journal.go:213", after := #[], guard := none }) (v := .slice a len cap) rfl (by kernel_rfl) (by kernel_rfl) (by kernel_rfl) (fun _ _ _ h => h)
    (Or.inl ⟨by rfl, by intro w hSw;  clear hSw; go_simp⟩) hHeld ?_
  try simp only [Act.put, List.setIfInBounds_toArray, List.set_cons_zero, List.set_cons_succ]
  refine wpAnyH_take (i := 16) (oi := { dst := some 37, op := Op.move (Operand.tmp 1), type := 33, pos := "journal.go:213", after := #[], guard := none }) (v := .slice a len cap) rfl (by kernel_rfl) (by kernel_rfl) (by kernel_rfl) (fun _ _ _ h => h)
    (Or.inl ⟨by rfl, by intro w hSw;  clear hSw; go_simp⟩) hHeld ?_
  try simp only [Act.put, List.setIfInBounds_toArray, List.set_cons_zero, List.set_cons_succ]
  refine wpAnyH_take (i := 17) (oi := { dst := some 38, op := Op.call { callee := Callee.builtin Builtin.len, args := #[Operand.tmp 37], argTypes := #[33] }, type := 3, pos := "journal.go:213", after := #[{ on := 16, ground := Ground.data }], guard := none }) (v := .int .i64 (len : Int)) rfl (by kernel_rfl) (by kernel_rfl) (by kernel_rfl) (fun _ _ _ h => h)
    (Or.inl ⟨by rfl, by intro w hSw;  clear hSw; go_simp⟩) hHeld ?_
  try simp only [Act.put, List.setIfInBounds_toArray, List.set_cons_zero, List.set_cons_succ]
  refine wpAnyH_take (i := 18) (oi := { dst := some 39, op := Op.binOp BinOp.add 3 (Operand.const (Value.int IntKind.i64 32)) (Operand.tmp 38) 3, type := 3, pos := "journal.go:213", after := #[{ on := 17, ground := Ground.data }], guard := none }) (v := .int .i64 (U2 : Int)) rfl (by kernel_rfl) (by kernel_rfl) (by kernel_rfl) (fun _ _ _ h => h)
    (Or.inl ⟨by rfl, by intro w hSw;  clear hSw; go_simp⟩) hHeld ?_
  try simp only [Act.put, List.setIfInBounds_toArray, List.set_cons_zero, List.set_cons_succ]
  refine wpAnyH_ready (rs := [15, 20]) (by kernel_rfl) (by simp) ?_
  refine AllReadyH.cons (o := { dst := some 36, op := Op.call { callee := Callee.value (Operand.func 31), args := #[Operand.tmp 35], argTypes := #[33] }, type := 33, pos := "journal.go:213", after := #[{ on := 14, ground := Ground.data }], guard := none }) rfl (fun K hK => ?_) (AllReadyH.cons (o := { dst := some 6, op := Op.alloc 62, type := 0, pos := "journal.go:213", after := #[], guard := none }) rfl (fun K hK => ?_) AllReadyH.nil)
  · go_simp
    refine (HCL.out w.drew (Below.refl w.heap.size w).drew).mono ?_
    rintro e wc ⟨v2, rfl, ho2, hb2⟩
    obtain ⟨va, vn, vc, rfl⟩ := row_slice ho2
    have Bc : Below w.heap.size w wc := ((Below.refl w.heap.size w).drew).trans (hb2.mono ((Below.refl w.heap.size w).drew).size)
    have Oc : wc.ownsRow w.heap.size 5 1 (.slice va vn vc) base.length (base.map bv) := owns_lower ho2 ((Below.refl w.heap.size w).drew).size
    clear ho2 hb2
    go_wp2_with fail
    refine hK.out _ _ (JJ.out wc Bc) (fun hHw1 => ?_)
    clear hK K hHeld
    try simp only [Act.put, List.setIfInBounds_toArray, List.set_cons_zero, List.set_cons_succ]
    refine wpAnyH_ready (rs := [19, 20]) (by kernel_rfl) (by simp) ?_
    refine AllReadyH.cons (o := { dst := some 40, op := Op.build 62 #[(0, Operand.tmp 24), (1, Operand.tmp 29), (2, Operand.tmp 34), (3, Operand.tmp 36), (5, Operand.tmp 39)], type := 62, pos := "journal.go:213", after := #[{ on := 3, ground := Ground.data }, { on := 8, ground := Ground.data }, { on := 13, ground := Ground.data }, { on := 15, ground := Ground.data }, { on := 18, ground := Ground.data }], guard := none }) rfl (fun K hK => ?_) (AllReadyH.cons (o := { dst := some 6, op := Op.alloc 62, type := 0, pos := "journal.go:213", after := #[], guard := none }) rfl (fun K hK => ?_) AllReadyH.nil)
    · rw [if_pos (by rfl)]
      refine wp_build_to tJ _ rfl (jC pd H1 N2 (.slice va vn vc) (.slice none 0 0) U2 false false).toArray (by simp only [List.map_toArray, List.map_cons, List.map_nil]; exact builtJ pd H1 N2 va vn vc U2) ?_
      refine hK.out _ _ (JJ.out wc Bc) (fun hHw2 => ?_)
      clear hK K hHw1
      try simp only [Act.put, List.setIfInBounds_toArray, List.set_cons_zero, List.set_cons_succ]
      refine wpAnyH_ready (rs := [20]) (by kernel_rfl) (by simp) ?_
      refine AllReadyH.cons (o := { dst := some 6, op := Op.alloc 62, type := 0, pos := "journal.go:213", after := #[], guard := none }) rfl (fun K hK => ?_) AllReadyH.nil
      go_simp
      obtain ⟨wa, hwa⟩ : ∃ wa, wa = wc.alloc (.cells jZ.toArray tJ) := ⟨_, rfl⟩
      obtain ⟨G, hG⟩ : ∃ G, G = wc.heap.size := ⟨_, rfl⟩
      have Ga : Has wa G jZ tJ := by rw [hwa, hG]; exact Has.new _ _ _
      have Ba : Below w.heap.size w wa := by rw [hwa]; exact (Bc).alloc (Bc).size _
      have hGw : w.heap.size ≤ G := by rw [hG]; exact (Bc).size
      have ea : wc.alloc (.cells #[.pointer none, .int .i64 0, .int .u64 0, .slice none 0 0, .slice none 0 0, .int .i64 0, .bool false, .bool false] tJ) = wa := by rw [hwa]; rfl
      have Oa : wa.ownsRow w.heap.size 5 1 (.slice va vn vc) base.length (base.map bv) := by rw [hwa]; exact Oc.alloc _
      rw [ea, ← hG]
      clear hwa ea hG
      refine hK.out _ _ (JJ.out wa Ba) (fun hHw3 => ?_)
      clear hK K hHw2
      try simp only [Act.put, List.setIfInBounds_toArray, List.set_cons_zero, List.set_cons_succ]
      refine wpAnyH_ready (rs := [21]) (by kernel_rfl) (by simp) ?_
      refine AllReadyH.cons (o := { dst := none, op := Op.store 62 (Operand.tmp 6) (Operand.tmp 40), type := 0, pos := "journal.go:213", after := #[{ on := 20, ground := Ground.data }, { on := 19, ground := Ground.data }, { on := 15, ground := Ground.chain }, { on := 0, ground := Ground.phase }, { on := 1, ground := Ground.phase }, { on := 2, ground := Ground.phase }, { on := 3, ground := Ground.phase }, { on := 4, ground := Ground.phase }, { on := 5, ground := Ground.phase }, { on := 6, ground := Ground.phase }, { on := 7, ground := Ground.phase }, { on := 8, ground := Ground.phase }, { on := 9, ground := Ground.phase }, { on := 10, ground := Ground.phase }, { on := 11, ground := Ground.phase }, { on := 12, ground := Ground.phase }, { on := 13, ground := Ground.phase }, { on := 14, ground := Ground.phase }, { on := 15, ground := Ground.phase }, { on := 16, ground := Ground.phase }, { on := 17, ground := Ground.phase }, { on := 18, ground := Ground.phase }, { on := 19, ground := Ground.phase }, { on := 20, ground := Ground.phase }], guard := none }) rfl (fun K hK => ?_) AllReadyH.nil
      rw [if_pos (by rfl)]
      refine wp_store_row tJ (.tmp 6) (.tmp 40) rfl G (jC pd H1 N2 (.slice va vn vc) (.slice none 0 0) U2 false false).toArray rfl rfl tJ jZ.toArray Ga (infoJ _ _ _ _ _ _ _ _) rfl (jC_one _ _ _ _ _ _ _ _ _) ?_
      obtain ⟨wz, hwz⟩ : ∃ wz, wz = wa.setRow G (jC pd H1 N2 (.slice va vn vc) (.slice none 0 0) U2 false false).toArray := ⟨_, rfl⟩
      have Gz : Hid (Has wz G (jC pd H1 N2 (.slice va vn vc) (.slice none 0 0) U2 false false) tJ) := Lib.hid (by rw [hwz]; exact Ga.row _)
      have Bz : Hid (Below w.heap.size w wz) := Lib.hid (by rw [hwz]; exact below_setRow Ba hGw _)
      have Oz : Hid (wz.ownsRow w.heap.size 5 1 (.slice va vn vc) base.length (base.map bv)) := Lib.hid (by rw [hwz]; exact owns_row Oa Ga (by decide) _)
      have HGW := Lib.hid hGw
      rw [← hwz]
      refine hK.out _ _ (JJ.out wz Bz.out) (fun hHw4 => ?_)
      clear hK K hHw3 hwz hGw
      try simp only [Act.put]
      refine wpAnyH_done (by kernel_rfl) ?_ _
      clear hHw4
      have HJz := Lib.hid (JJ.out wz Bz.out)
      have Dz := Lib.hid (HD.out.later Bz.out)
      have Lz := Lib.hid (HLd.out.below Bz.out HLd.out.two)
      have Oz' : Hid (wz.ownsRow B 5 1 (.slice va vn vc) base.length (base.map bv)) := Lib.hid (owns_lower Oz.out HB.out)
      have HBG : Hid (Calls Tryz.prog 32 #[.pointer (some ⟨G, 0, none⟩)] wz fun e w' => e = .returned (.int .i64 0) ∧ Dv w' B pd n RES 0 KK ∧ Kp devT B wz w') := Lib.hid (by
        rw [HRES.out, HKK.out]
        exact begin_ok Gz.out Oz'.out Dz.out Lz.out K5.out HNN.out HFIT.out K4.out K3.out HK.out HM.out (Nat.le_trans HB.out Bz.out.size) HGB.out)
      go_upto_region 13 with (go_at_call 32; refine HBG.out.mono ?_; rintro e wf ⟨rfl, hdf, hkf⟩)
      have Df := Lib.hid hdf
      have Kf : Hid (Kp devT B w wf) := Lib.hid ((Kp.of_below Bz.out).trans hkf)
      have Jf := Lib.hid (HJz.out.kp hkf (by decide))
      have Gf := Lib.hid (Gz.out.kp hkf (by decide))
      have Of := Lib.hid (ownsRow_kp Oz.out hkf (by decide))
      clear hdf hkf HBG HJz Dz Lz Gz Bz Oz Oz'
      go_wp2_with (first | (refine wpList_load_row rfl tJ (.tmp 6) rfl G rfl tJ (jC pd H1 N2 (.slice va vn vc) (.slice none 0 0) U2 false false).toArray (0, 0) _ Gf.out Tryz.underlying62 rfl (infoJ _ _ _ _ _ _ _ _) ?_) | (refine wpList_store_row rfl tJ (.tmp 50) (.tmp 49) rfl pj (jC pd H1 N2 (.slice va vn vc) (.slice none 0 0) U2 false false).toArray rfl rfl tJ (jC pd h N bV rV used st false).toArray Jf.out (infoJ _ _ _ _ _ _ _ _) rfl (jC_one _ _ _ _ _ _ _ _ _) ?_))
      go_ret
      have kk : Kp [tJ] B wf (wf.setRow pj (jC pd H1 N2 (.slice va vn vc) (.slice none 0 0) U2 false false).toArray) := Kp.of_but ((But.refl _ _ _).setRow (.inr rfl) _) hpj Jf.out (by simp)
      exact ⟨rfl, Df.out.kp kk (by decide) (by decide) (by decide), (kp_jT Kf.out).trans (kk.mono (Nat.le_refl _) (by decide)), .slice va vn vc, Jf.out.row _, by have h9 := owns_row Of.out Jf.out (by decide) (jC pd H1 N2 (.slice va vn vc) (.slice none 0 0) U2 false false).toArray; rw [HLEN.out] at h9; exact h9⟩
    · go_simp
      obtain ⟨wa, hwa⟩ : ∃ wa, wa = wc.alloc (.cells jZ.toArray tJ) := ⟨_, rfl⟩
      obtain ⟨G, hG⟩ : ∃ G, G = wc.heap.size := ⟨_, rfl⟩
      have Ga : Has wa G jZ tJ := by rw [hwa, hG]; exact Has.new _ _ _
      have Ba : Below w.heap.size w wa := by rw [hwa]; exact (Bc).alloc (Bc).size _
      have hGw : w.heap.size ≤ G := by rw [hG]; exact (Bc).size
      have ea : wc.alloc (.cells #[.pointer none, .int .i64 0, .int .u64 0, .slice none 0 0, .slice none 0 0, .int .i64 0, .bool false, .bool false] tJ) = wa := by rw [hwa]; rfl
      have Oa : wa.ownsRow w.heap.size 5 1 (.slice va vn vc) base.length (base.map bv) := by rw [hwa]; exact Oc.alloc _
      rw [ea, ← hG]
      clear hwa ea hG
      refine hK.out _ _ (JJ.out wa Ba) (fun hHw2 => ?_)
      clear hK K hHw1
      try simp only [Act.put, List.setIfInBounds_toArray, List.set_cons_zero, List.set_cons_succ]
      refine wpAnyH_ready (rs := [19]) (by kernel_rfl) (by simp) ?_
      refine AllReadyH.cons (o := { dst := some 40, op := Op.build 62 #[(0, Operand.tmp 24), (1, Operand.tmp 29), (2, Operand.tmp 34), (3, Operand.tmp 36), (5, Operand.tmp 39)], type := 62, pos := "journal.go:213", after := #[{ on := 3, ground := Ground.data }, { on := 8, ground := Ground.data }, { on := 13, ground := Ground.data }, { on := 15, ground := Ground.data }, { on := 18, ground := Ground.data }], guard := none }) rfl (fun K hK => ?_) AllReadyH.nil
      rw [if_pos (by rfl)]
      refine wp_build_to tJ _ rfl (jC pd H1 N2 (.slice va vn vc) (.slice none 0 0) U2 false false).toArray (by simp only [List.map_toArray, List.map_cons, List.map_nil]; exact builtJ pd H1 N2 va vn vc U2) ?_
      refine hK.out _ _ (JJ.out wa Ba) (fun hHw3 => ?_)
      clear hK K hHw2
      try simp only [Act.put, List.setIfInBounds_toArray, List.set_cons_zero, List.set_cons_succ]
      refine wpAnyH_ready (rs := [21]) (by kernel_rfl) (by simp) ?_
      refine AllReadyH.cons (o := { dst := none, op := Op.store 62 (Operand.tmp 6) (Operand.tmp 40), type := 0, pos := "journal.go:213", after := #[{ on := 20, ground := Ground.data }, { on := 19, ground := Ground.data }, { on := 15, ground := Ground.chain }, { on := 0, ground := Ground.phase }, { on := 1, ground := Ground.phase }, { on := 2, ground := Ground.phase }, { on := 3, ground := Ground.phase }, { on := 4, ground := Ground.phase }, { on := 5, ground := Ground.phase }, { on := 6, ground := Ground.phase }, { on := 7, ground := Ground.phase }, { on := 8, ground := Ground.phase }, { on := 9, ground := Ground.phase }, { on := 10, ground := Ground.phase }, { on := 11, ground := Ground.phase }, { on := 12, ground := Ground.phase }, { on := 13, ground := Ground.phase }, { on := 14, ground := Ground.phase }, { on := 15, ground := Ground.phase }, { on := 16, ground := Ground.phase }, { on := 17, ground := Ground.phase }, { on := 18, ground := Ground.phase }, { on := 19, ground := Ground.phase }, { on := 20, ground := Ground.phase }], guard := none }) rfl (fun K hK => ?_) AllReadyH.nil
      rw [if_pos (by rfl)]
      refine wp_store_row tJ (.tmp 6) (.tmp 40) rfl G (jC pd H1 N2 (.slice va vn vc) (.slice none 0 0) U2 false false).toArray rfl rfl tJ jZ.toArray Ga (infoJ _ _ _ _ _ _ _ _) rfl (jC_one _ _ _ _ _ _ _ _ _) ?_
      obtain ⟨wz, hwz⟩ : ∃ wz, wz = wa.setRow G (jC pd H1 N2 (.slice va vn vc) (.slice none 0 0) U2 false false).toArray := ⟨_, rfl⟩
      have Gz : Hid (Has wz G (jC pd H1 N2 (.slice va vn vc) (.slice none 0 0) U2 false false) tJ) := Lib.hid (by rw [hwz]; exact Ga.row _)
      have Bz : Hid (Below w.heap.size w wz) := Lib.hid (by rw [hwz]; exact below_setRow Ba hGw _)
      have Oz : Hid (wz.ownsRow w.heap.size 5 1 (.slice va vn vc) base.length (base.map bv)) := Lib.hid (by rw [hwz]; exact owns_row Oa Ga (by decide) _)
      have HGW := Lib.hid hGw
      rw [← hwz]
      refine hK.out _ _ (JJ.out wz Bz.out) (fun hHw4 => ?_)
      clear hK K hHw3 hwz hGw
      try simp only [Act.put]
      refine wpAnyH_done (by kernel_rfl) ?_ _
      clear hHw4
      have HJz := Lib.hid (JJ.out wz Bz.out)
      have Dz := Lib.hid (HD.out.later Bz.out)
      have Lz := Lib.hid (HLd.out.below Bz.out HLd.out.two)
      have Oz' : Hid (wz.ownsRow B 5 1 (.slice va vn vc) base.length (base.map bv)) := Lib.hid (owns_lower Oz.out HB.out)
      have HBG : Hid (Calls Tryz.prog 32 #[.pointer (some ⟨G, 0, none⟩)] wz fun e w' => e = .returned (.int .i64 0) ∧ Dv w' B pd n RES 0 KK ∧ Kp devT B wz w') := Lib.hid (by
        rw [HRES.out, HKK.out]
        exact begin_ok Gz.out Oz'.out Dz.out Lz.out K5.out HNN.out HFIT.out K4.out K3.out HK.out HM.out (Nat.le_trans HB.out Bz.out.size) HGB.out)
      go_upto_region 13 with (go_at_call 32; refine HBG.out.mono ?_; rintro e wf ⟨rfl, hdf, hkf⟩)
      have Df := Lib.hid hdf
      have Kf : Hid (Kp devT B w wf) := Lib.hid ((Kp.of_below Bz.out).trans hkf)
      have Jf := Lib.hid (HJz.out.kp hkf (by decide))
      have Gf := Lib.hid (Gz.out.kp hkf (by decide))
      have Of := Lib.hid (ownsRow_kp Oz.out hkf (by decide))
      clear hdf hkf HBG HJz Dz Lz Gz Bz Oz Oz'
      go_wp2_with (first | (refine wpList_load_row rfl tJ (.tmp 6) rfl G rfl tJ (jC pd H1 N2 (.slice va vn vc) (.slice none 0 0) U2 false false).toArray (0, 0) _ Gf.out Tryz.underlying62 rfl (infoJ _ _ _ _ _ _ _ _) ?_) | (refine wpList_store_row rfl tJ (.tmp 50) (.tmp 49) rfl pj (jC pd H1 N2 (.slice va vn vc) (.slice none 0 0) U2 false false).toArray rfl rfl tJ (jC pd h N bV rV used st false).toArray Jf.out (infoJ _ _ _ _ _ _ _ _) rfl (jC_one _ _ _ _ _ _ _ _ _) ?_))
      go_ret
      have kk : Kp [tJ] B wf (wf.setRow pj (jC pd H1 N2 (.slice va vn vc) (.slice none 0 0) U2 false false).toArray) := Kp.of_but ((But.refl _ _ _).setRow (.inr rfl) _) hpj Jf.out (by simp)
      exact ⟨rfl, Df.out.kp kk (by decide) (by decide) (by decide), (kp_jT Kf.out).trans (kk.mono (Nat.le_refl _) (by decide)), .slice va vn vc, Jf.out.row _, by have h9 := owns_row Of.out Jf.out (by decide) (jC pd H1 N2 (.slice va vn vc) (.slice none 0 0) U2 false false).toArray; rw [HLEN.out] at h9; exact h9⟩
  · go_simp
    obtain ⟨wa, hwa⟩ : ∃ wa, wa = (w.alloc (.cells jZ.toArray tJ)).drew := ⟨_, rfl⟩
    obtain ⟨G, hG⟩ : ∃ G, G = w.heap.size := ⟨_, rfl⟩
    have Ga : Has wa G jZ tJ := by rw [hwa, hG]; exact (Has.new _ _ _).drew
    have Ba : Below w.heap.size w wa := by rw [hwa]; exact ((Below.refl w.heap.size w).alloc (Nat.le_refl _) _).drew
    have hGw : w.heap.size ≤ G := by rw [hG]; exact (Below.refl w.heap.size w).size
    have ea : (w.alloc (.cells #[.pointer none, .int .i64 0, .int .u64 0, .slice none 0 0, .slice none 0 0, .int .i64 0, .bool false, .bool false] tJ)).drew = wa := by rw [hwa]; rfl
    rw [ea, ← hG]
    clear hwa ea hG
    refine hK.out _ _ (JJ.out wa Ba) (fun hHw1 => ?_)
    clear hK K hHeld
    try simp only [Act.put, List.setIfInBounds_toArray, List.set_cons_zero, List.set_cons_succ]
    refine wpAnyH_ready (rs := [15]) (by kernel_rfl) (by simp) ?_
    refine AllReadyH.cons (o := { dst := some 36, op := Op.call { callee := Callee.value (Operand.func 31), args := #[Operand.tmp 35], argTypes := #[33] }, type := 33, pos := "journal.go:213", after := #[{ on := 14, ground := Ground.data }], guard := none }) rfl (fun K hK => ?_) AllReadyH.nil
    go_simp
    refine (HCL.out wa Ba).mono ?_
    rintro e wc ⟨v2, rfl, ho2, hb2⟩
    obtain ⟨va, vn, vc, rfl⟩ := row_slice ho2
    have Bc : Below w.heap.size w wc := (Ba).trans (hb2.mono (Ba).size)
    have Oc : wc.ownsRow w.heap.size 5 1 (.slice va vn vc) base.length (base.map bv) := owns_lower ho2 (Ba).size
    have Gc : Has wc G jZ tJ := Ga.below hb2 Ga.lt
    clear ho2 hb2
    go_wp2_with fail
    refine hK.out _ _ (JJ.out wc Bc) (fun hHw2 => ?_)
    clear hK K hHw1
    try simp only [Act.put, List.setIfInBounds_toArray, List.set_cons_zero, List.set_cons_succ]
    refine wpAnyH_ready (rs := [19]) (by kernel_rfl) (by simp) ?_
    refine AllReadyH.cons (o := { dst := some 40, op := Op.build 62 #[(0, Operand.tmp 24), (1, Operand.tmp 29), (2, Operand.tmp 34), (3, Operand.tmp 36), (5, Operand.tmp 39)], type := 62, pos := "journal.go:213", after := #[{ on := 3, ground := Ground.data }, { on := 8, ground := Ground.data }, { on := 13, ground := Ground.data }, { on := 15, ground := Ground.data }, { on := 18, ground := Ground.data }], guard := none }) rfl (fun K hK => ?_) AllReadyH.nil
    rw [if_pos (by rfl)]
    refine wp_build_to tJ _ rfl (jC pd H1 N2 (.slice va vn vc) (.slice none 0 0) U2 false false).toArray (by simp only [List.map_toArray, List.map_cons, List.map_nil]; exact builtJ pd H1 N2 va vn vc U2) ?_
    refine hK.out _ _ (JJ.out wc Bc) (fun hHw3 => ?_)
    clear hK K hHw2
    try simp only [Act.put, List.setIfInBounds_toArray, List.set_cons_zero, List.set_cons_succ]
    refine wpAnyH_ready (rs := [21]) (by kernel_rfl) (by simp) ?_
    refine AllReadyH.cons (o := { dst := none, op := Op.store 62 (Operand.tmp 6) (Operand.tmp 40), type := 0, pos := "journal.go:213", after := #[{ on := 20, ground := Ground.data }, { on := 19, ground := Ground.data }, { on := 15, ground := Ground.chain }, { on := 0, ground := Ground.phase }, { on := 1, ground := Ground.phase }, { on := 2, ground := Ground.phase }, { on := 3, ground := Ground.phase }, { on := 4, ground := Ground.phase }, { on := 5, ground := Ground.phase }, { on := 6, ground := Ground.phase }, { on := 7, ground := Ground.phase }, { on := 8, ground := Ground.phase }, { on := 9, ground := Ground.phase }, { on := 10, ground := Ground.phase }, { on := 11, ground := Ground.phase }, { on := 12, ground := Ground.phase }, { on := 13, ground := Ground.phase }, { on := 14, ground := Ground.phase }, { on := 15, ground := Ground.phase }, { on := 16, ground := Ground.phase }, { on := 17, ground := Ground.phase }, { on := 18, ground := Ground.phase }, { on := 19, ground := Ground.phase }, { on := 20, ground := Ground.phase }], guard := none }) rfl (fun K hK => ?_) AllReadyH.nil
    rw [if_pos (by rfl)]
    refine wp_store_row tJ (.tmp 6) (.tmp 40) rfl G (jC pd H1 N2 (.slice va vn vc) (.slice none 0 0) U2 false false).toArray rfl rfl tJ jZ.toArray Gc (infoJ _ _ _ _ _ _ _ _) rfl (jC_one _ _ _ _ _ _ _ _ _) ?_
    obtain ⟨wz, hwz⟩ : ∃ wz, wz = wc.setRow G (jC pd H1 N2 (.slice va vn vc) (.slice none 0 0) U2 false false).toArray := ⟨_, rfl⟩
    have Gz : Hid (Has wz G (jC pd H1 N2 (.slice va vn vc) (.slice none 0 0) U2 false false) tJ) := Lib.hid (by rw [hwz]; exact Gc.row _)
    have Bz : Hid (Below w.heap.size w wz) := Lib.hid (by rw [hwz]; exact below_setRow Bc hGw _)
    have Oz : Hid (wz.ownsRow w.heap.size 5 1 (.slice va vn vc) base.length (base.map bv)) := Lib.hid (by rw [hwz]; exact owns_row Oc Gc (by decide) _)
    have HGW := Lib.hid hGw
    rw [← hwz]
    refine hK.out _ _ (JJ.out wz Bz.out) (fun hHw4 => ?_)
    clear hK K hHw3 hwz hGw
    try simp only [Act.put]
    refine wpAnyH_done (by kernel_rfl) ?_ _
    clear hHw4
    have HJz := Lib.hid (JJ.out wz Bz.out)
    have Dz := Lib.hid (HD.out.later Bz.out)
    have Lz := Lib.hid (HLd.out.below Bz.out HLd.out.two)
    have Oz' : Hid (wz.ownsRow B 5 1 (.slice va vn vc) base.length (base.map bv)) := Lib.hid (owns_lower Oz.out HB.out)
    have HBG : Hid (Calls Tryz.prog 32 #[.pointer (some ⟨G, 0, none⟩)] wz fun e w' => e = .returned (.int .i64 0) ∧ Dv w' B pd n RES 0 KK ∧ Kp devT B wz w') := Lib.hid (by
      rw [HRES.out, HKK.out]
      exact begin_ok Gz.out Oz'.out Dz.out Lz.out K5.out HNN.out HFIT.out K4.out K3.out HK.out HM.out (Nat.le_trans HB.out Bz.out.size) HGB.out)
    go_upto_region 13 with (go_at_call 32; refine HBG.out.mono ?_; rintro e wf ⟨rfl, hdf, hkf⟩)
    have Df := Lib.hid hdf
    have Kf : Hid (Kp devT B w wf) := Lib.hid ((Kp.of_below Bz.out).trans hkf)
    have Jf := Lib.hid (HJz.out.kp hkf (by decide))
    have Gf := Lib.hid (Gz.out.kp hkf (by decide))
    have Of := Lib.hid (ownsRow_kp Oz.out hkf (by decide))
    clear hdf hkf HBG HJz Dz Lz Gz Bz Oz Oz'
    go_wp2_with (first | (refine wpList_load_row rfl tJ (.tmp 6) rfl G rfl tJ (jC pd H1 N2 (.slice va vn vc) (.slice none 0 0) U2 false false).toArray (0, 0) _ Gf.out Tryz.underlying62 rfl (infoJ _ _ _ _ _ _ _ _) ?_) | (refine wpList_store_row rfl tJ (.tmp 50) (.tmp 49) rfl pj (jC pd H1 N2 (.slice va vn vc) (.slice none 0 0) U2 false false).toArray rfl rfl tJ (jC pd h N bV rV used st false).toArray Jf.out (infoJ _ _ _ _ _ _ _ _) rfl (jC_one _ _ _ _ _ _ _ _ _) ?_))
    go_ret
    have kk : Kp [tJ] B wf (wf.setRow pj (jC pd H1 N2 (.slice va vn vc) (.slice none 0 0) U2 false false).toArray) := Kp.of_but ((But.refl _ _ _).setRow (.inr rfl) _) hpj Jf.out (by simp)
    exact ⟨rfl, Df.out.kp kk (by decide) (by decide) (by decide), (kp_jT Kf.out).trans (kk.mono (Nat.le_refl _) (by decide)), .slice va vn vc, Jf.out.row _, by have h9 := owns_row Of.out Jf.out (by decide) (jC pd H1 N2 (.slice va vn vc) (.slice none 0 0) U2 false false).toArray; rw [HLEN.out] at h9; exact h9⟩

end Go.Proofs.YtgjckddcnmbceaaGreatDoor

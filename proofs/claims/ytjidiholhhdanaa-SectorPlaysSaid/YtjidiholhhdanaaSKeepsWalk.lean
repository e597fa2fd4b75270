/-
  The walk of the law SectorKeeps. Conditions: the bytes lie in old memory.
-/
import Derived.Test.YtjidiholhhdanaaSAwake
import Derived.Laws.IdiomStrings
namespace Go.Proofs.Ytjidiholhhdanaa
open Go.RowKit
set_option linter.unusedVariables false
set_option maxRecDepth 100000

theorem conv_str {w : World} {b : Nat} {l : List UInt8} (h : Has w b (l.map bv) 5) (n cap : Nat) (hn : l.length = n) : (convert 31 9 (.slice (some ⟨b, 0, none⟩) n cap)).run Try.prog w = .ok (.string ⟨l.toArray⟩) w := by
  subst hn
  refine run_convert_bytes_back (P := Try.prog) w 31 9 5 ⟨b, 0, none⟩ cap l Try.underlying31 Try.underlying5 Try.underlying9 (fun j hj => ?_)
  rw [Addr.add_mid, Nat.zero_add, h.cellAt (map_bv_get l j hj), List.getD_eq_getElem?_getD, List.getElem?_eq_getElem hj]; rfl
theorem kp_u8 {w : World} {b : Nat} {L : List Value} (h : Has w b L 5) (i : Nat) (u : Value) : Kp [5] 0 w (w.setCell ⟨b, i, none⟩ u) :=
  Kp.of_but ((But.refl _ _ _).setB i u) (Nat.zero_le _) h (by simp)
theorem below_u8 {B0 : Nat} {W w : World} (hb : Below B0 W w) {b : Nat} (hB : B0 ≤ b) (i : Nat) (u : Value) : Below B0 W (w.setCell ⟨b, i, none⟩ u) := hb.setCell (p := ⟨b, i, none⟩) hB u

set_option maxHeartbeats 8000000 in
theorem walk_SectorKeeps (W : World) (a : Option Addr) (len cap : Nat) (l : List UInt8) (hp : IsB W a len cap l) :
    Calls Try.prog 5 #[.slice a len cap] W fun e w' => e = .returned (.bool true) ∧ Below W.heap.size W w' := by
  have HP := Lib.hid hp
  clear hp
  obtain ⟨q, hq⟩ : ∃ q, q = wholeL l := ⟨_, rfl⟩
  have HQ := Lib.hid hq
  have HQL : Hid (q.length = 256) := Lib.hid (by rw [hq]; exact wholeL_length l)
  clear hq
  go_enter Try.func5, Try.ntmps5
  go_wp2_with fail
  refine (awake_any _).mono ?_
  rintro e w1 ⟨rfl, b1⟩
  have B1 := Lib.hid b1
  have P1 := Lib.hid (HP.out.later b1)
  clear b1
  go_wp2_with fail
  refine (new_any 1 w1 (by omega) (by omega)).mono ?_
  rintro e w2 ⟨pb, bd, bl, rfl, hd, hb⟩
  have D2 := Lib.hid hd
  have P2 := Lib.hid (P1.out.later hb)
  have B2 : Hid (Below W.heap.size W w2) := Lib.hid (B1.out.trans (hb.mono B1.out.size))
  have S2 := Lib.hid hb.size
  clear hd hb P1
  have HWH := Lib.hid (whole_any a len cap l w2 P2.out)
  go_wp2_with fail
  refine HWH.out.mono ?_
  rintro e w3 ⟨ba, rfl, hx, hlo, hb⟩
  have D3 := Lib.hid (D2.out.kp (ts := []) (B' := 0) (Kp.of_below hb) (by simp) (by simp) (by simp))
  have N3 : Hid (Has w3 ba (q.map bv) 5) := Lib.hid (by rw [HQ.out]; exact hx)
  have B3 : Hid (Below W.heap.size W w3) := Lib.hid (B2.out.trans (hb.mono B2.out.size))
  have S3 := Lib.hid (Nat.le_trans S2.out hb.size)
  have LA : Hid (W.heap.size ≤ ba) := Lib.hid (Nat.le_trans B2.out.size hlo)
  clear hx hlo hb HWH D2 P2
  have HW := Lib.hid (write_ok D3.out 0 (by omega) ba 0 256 q HQL.out (cells_of N3.out HQL.out) ⟨N3.out.lt, .inr ⟨_, N3.out⟩⟩ (by omega) (by simp) S3.out)
  go_wp2_with fail
  refine HW.out.mono ?_
  rintro e w4 ⟨v, rfl, hd, hk⟩
  have Dw4 : Hid (Dev w4 w1.heap.size pb bd bl v 1 (zer (256 * 1)) (splice (zer (256 * 1)) (256 * 0) q) [(0, q)] 1 0 false) := Lib.hid hd
  have N4 : Hid (Has w4 ba (q.map bv) 5) := Lib.hid (N3.out.kp hk (by decide))
  have Bw4 : Hid (Below W.heap.size W w4) := Lib.hid (B3.out.trans ((hk.below S3.out).mono B1.out.size))
  have Sw4 := Lib.hid (Nat.le_trans S3.out hk.size)
  clear hd hk HW D3 N3
  rw [if_neg (by decide)]
  obtain ⟨z0, c0⟩ : ∃ z : Int, w4.cell? ⟨ba, 0, none⟩ = some (.int .u8 z) := ⟨_, N4.out.cellAt (map_bv_get q 0 (by rw [HQL.out]; omega))⟩
  have f0 := N4.out.frozen 0
  obtain ⟨L4, hL4⟩ : ∃ L4, L4 = splice (zer (256 * 1)) (256 * 0) q := ⟨_, rfl⟩
  have HSEC : Hid (sec L4 0 = q) := Lib.hid (by rw [hL4]; exact sec_splice_same (n := 1) (by simp [zer]) (by omega) HQL.out)
  rw [← hL4] at Dw4
  clear hL4
  go_upto_region 8 with fail
  clear c0 f0
  obtain ⟨w5, hw5⟩ : ∃ x, x = w4.setCell ⟨ba, 0, none⟩ (.int .u8 (bits .xor .u8 z0 1)) := ⟨_, rfl⟩
  rw [← hw5]
  have Dw5 := Lib.hid (Dw4.out.kp (ts := [5]) (B' := 0) (show Kp [5] 0 _ w5 by rw [hw5]; exact kp_u8 N4.out 0 _) (by decide) (by decide) (by decide))
  have Bw5 : Hid (Below W.heap.size W w5) := Lib.hid (by rw [hw5]; exact below_u8 Bw4.out LA.out 0 _)
  have Sw5 : Hid (w1.heap.size ≤ w5.heap.size) := Lib.hid (by rw [hw5]; simpa using Sw4.out)
  clear hw5
  clear N4 Dw4
  have HRw6 := Lib.hid (read_ok Dw5.out 0 (by omega))
  go_wp2_with fail
  refine HRw6.out.mono ?_
  rintro e w6 ⟨bb, rfl, hx, hlo, hb⟩
  have Dw6 := Lib.hid (Dw5.out.kp (ts := []) (B' := 0) (Kp.of_below hb) (by simp) (by simp) (by simp))
  have N6 : Hid (Has w6 bb (q.map bv) 5) := Lib.hid (by rw [HSEC.out] at hx; exact hx)
  have Bw6 : Hid (Below W.heap.size W w6) := Lib.hid (Bw5.out.trans (hb.mono Bw5.out.size))
  have Sw6 : Hid (w1.heap.size ≤ w6.heap.size) := Lib.hid (Nat.le_trans Sw5.out hb.size)
  have LOw6 : Hid (W.heap.size ≤ bb) := Lib.hid (Nat.le_trans Bw5.out.size hlo)
  clear hx hlo hb HRw6 Dw5
  obtain ⟨z1, c1⟩ : ∃ z : Int, w6.cell? ⟨bb, 1, none⟩ = some (.int .u8 z) := ⟨_, N6.out.cellAt (map_bv_get q 1 (by rw [HQL.out]; omega))⟩
  have f1 := N6.out.frozen 1
  go_upto_region 10 with fail
  clear c1 f1
  obtain ⟨w7, hw7⟩ : ∃ x, x = w6.setCell ⟨bb, 1, none⟩ (.int .u8 (bits .xor .u8 z1 1)) := ⟨_, rfl⟩
  rw [← hw7]
  have Dw7 := Lib.hid (Dw6.out.kp (ts := [5]) (B' := 0) (show Kp [5] 0 _ w7 by rw [hw7]; exact kp_u8 N6.out 1 _) (by decide) (by decide) (by decide))
  have Bw7 : Hid (Below W.heap.size W w7) := Lib.hid (by rw [hw7]; exact below_u8 Bw6.out LOw6.out 1 _)
  have Sw7 : Hid (w1.heap.size ≤ w7.heap.size) := Lib.hid (by rw [hw7]; simpa using Sw6.out)
  clear hw7
  clear N6 Dw6
  have HRw8 := Lib.hid (read_ok Dw7.out 0 (by omega))
  go_wp2_with fail
  refine HRw8.out.mono ?_
  rintro e w8 ⟨bc, rfl, hx, hlo, hb⟩
  have Dw8 := Lib.hid (Dw7.out.kp (ts := []) (B' := 0) (Kp.of_below hb) (by simp) (by simp) (by simp))
  have N8 : Hid (Has w8 bc (q.map bv) 5) := Lib.hid (by rw [HSEC.out] at hx; exact hx)
  have Bw8 : Hid (Below W.heap.size W w8) := Lib.hid (Bw7.out.trans (hb.mono Bw7.out.size))
  have Sw8 : Hid (w1.heap.size ≤ w8.heap.size) := Lib.hid (Nat.le_trans Sw7.out hb.size)
  have LOw8 : Hid (W.heap.size ≤ bc) := Lib.hid (Nat.le_trans Bw7.out.size hlo)
  clear hx hlo hb HRw8 Dw7
  have HSY := Lib.hid (sync_ok Dw8.out (by omega) (by omega) (by simp))
  go_wp2_with fail
  refine HSY.out.mono ?_
  rintro e w9 ⟨rfl, hd, hk⟩
  have Dw9 := Lib.hid hd
  have N9 := Lib.hid (N8.out.kp hk (by decide))
  have Bw9 : Hid (Below W.heap.size W w9) := Lib.hid (Bw8.out.trans ((hk.below Sw8.out).mono B1.out.size))
  have Sw9 : Hid (w1.heap.size ≤ w9.heap.size) := Lib.hid (Nat.le_trans Sw8.out hk.size)
  clear hd hk HSY Dw8 N8
  obtain ⟨z2, c2⟩ : ∃ z : Int, w9.cell? ⟨bc, 2, none⟩ = some (.int .u8 z) := ⟨_, N9.out.cellAt (map_bv_get q 2 (by rw [HQL.out]; omega))⟩
  have f2 := N9.out.frozen 2
  go_upto_region 13 with fail
  clear c2 f2
  obtain ⟨w10, hw10⟩ : ∃ x, x = w9.setCell ⟨bc, 2, none⟩ (.int .u8 (bits .xor .u8 z2 1)) := ⟨_, rfl⟩
  rw [← hw10]
  have Dw10 := Lib.hid (Dw9.out.kp (ts := [5]) (B' := 0) (show Kp [5] 0 _ w10 by rw [hw10]; exact kp_u8 N9.out 2 _) (by decide) (by decide) (by decide))
  have Bw10 : Hid (Below W.heap.size W w10) := Lib.hid (by rw [hw10]; exact below_u8 Bw9.out LOw8.out 2 _)
  have Sw10 : Hid (w1.heap.size ≤ w10.heap.size) := Lib.hid (by rw [hw10]; simpa using Sw9.out)
  clear hw10
  clear N9 Dw9
  have HRw11 := Lib.hid (read_ok Dw10.out 0 (by omega))
  go_wp2_with fail
  refine HRw11.out.mono ?_
  rintro e w11 ⟨bx, rfl, hx, hlo, hb⟩
  have Dw11 := Lib.hid (Dw10.out.kp (ts := []) (B' := 0) (Kp.of_below hb) (by simp) (by simp) (by simp))
  have N11 : Hid (Has w11 bx (q.map bv) 5) := Lib.hid (by rw [HSEC.out] at hx; exact hx)
  have Bw11 : Hid (Below W.heap.size W w11) := Lib.hid (Bw10.out.trans (hb.mono Bw10.out.size))
  have Sw11 : Hid (w1.heap.size ≤ w11.heap.size) := Lib.hid (Nat.le_trans Sw10.out hb.size)
  have LOw11 : Hid (W.heap.size ≤ bx) := Lib.hid (Nat.le_trans Bw10.out.size hlo)
  clear hx hlo hb HRw11 Dw10
  have HWH := Lib.hid (fun w => whole_any a len cap l w)
  obtain ⟨Q, hQ⟩ : ∃ Q : ByteArray, Q = ⟨q.toArray⟩ := ⟨_, rfl⟩
  have HCV : Hid (∀ w, Has w bx (q.map bv) 5 → (convert 31 9 (.slice (some ⟨bx, 0, none⟩) 256 256)).run Try.prog w = .ok (.string Q) w) := Lib.hid (fun w h => by rw [hQ]; exact conv_str h 256 256 HQL.out)
  go_upto_region 14 with fail
  refine wp_region_held_drew (S := fun W' => Has W' bx (q.map bv) 5) (by kernel_rfl) N11.out.drew (fun hHeld => ?_)
  refine wpAnyH_take (i := 0) (oi := { dst := some 60, op := Op.move (Operand.tmp 7), type := 25, pos := "law.go:143", after := #[], guard := none }) (v := .int .i64 0) rfl (by kernel_rfl) (by kernel_rfl) (by kernel_rfl) (fun _ _ _ h => h)
    (Or.inl ⟨by rfl, by intro w hSw;  clear hSw; go_simp⟩) hHeld ?_
  try simp only [Act.put, List.setIfInBounds_toArray, List.set_cons_zero, List.set_cons_succ]
  refine wpAnyH_take (i := 1) (oi := { dst := some 61, op := Op.binOp BinOp.eql 25 (Operand.tmp 60) (Operand.const (Value.int IntKind.i64 0)) 25, type := 4, pos := "law.go:143", after := #[{ on := 0, ground := Ground.data }], guard := none }) (v := .bool true) rfl (by kernel_rfl) (by kernel_rfl) (by kernel_rfl) (fun _ _ _ h => h)
    (Or.inl ⟨by rfl, by intro w hSw;  clear hSw; go_simp⟩) hHeld ?_
  try simp only [Act.put, List.setIfInBounds_toArray, List.set_cons_zero, List.set_cons_succ]
  refine wpAnyH_take (i := 2) (oi := { dst := some 62, op := Op.move (Operand.tmp 61), type := 4, pos := "law.go:143", after := #[{ on := 1, ground := Ground.data }], guard := none }) (v := .bool true) rfl (by kernel_rfl) (by kernel_rfl) (by kernel_rfl) (fun _ _ _ h => h)
    (Or.inl ⟨by rfl, by intro w hSw;  clear hSw; go_simp⟩) hHeld ?_
  try simp only [Act.put, List.setIfInBounds_toArray, List.set_cons_zero, List.set_cons_succ]
  refine wpAnyH_take (i := 3) (oi := { dst := some 63, op := Op.move (Operand.tmp 9), type := 25, pos := "law.go:143", after := #[{ on := 2, ground := Ground.guard }], guard := some (2, true) }) (v := .int .i64 0) rfl (by kernel_rfl) (by kernel_rfl) (by kernel_rfl) (fun _ _ _ h => h)
    (Or.inl ⟨by rfl, by intro w hSw;  clear hSw; go_simp⟩) hHeld ?_
  try simp only [Act.put, List.setIfInBounds_toArray, List.set_cons_zero, List.set_cons_succ]
  refine wpAnyH_take (i := 4) (oi := { dst := some 64, op := Op.binOp BinOp.eql 25 (Operand.tmp 63) (Operand.const (Value.int IntKind.i64 0)) 25, type := 4, pos := "law.go:143", after := #[{ on := 3, ground := Ground.data }, { on := 2, ground := Ground.guard }], guard := some (2, true) }) (v := .bool true) rfl (by kernel_rfl) (by kernel_rfl) (by kernel_rfl) (fun _ _ _ h => h)
    (Or.inl ⟨by rfl, by intro w hSw;  clear hSw; go_simp⟩) hHeld ?_
  try simp only [Act.put, List.setIfInBounds_toArray, List.set_cons_zero, List.set_cons_succ]
  refine wpAnyH_take (i := 5) (oi := { dst := some 65, op := Op.pick (Operand.tmp 62) (Operand.tmp 64) (Operand.const (Value.bool false)), type := 4, pos := "law.go:143", after := #[{ on := 2, ground := Ground.data }, { on := 4, ground := Ground.data }], guard := none }) (v := .bool true) rfl (by kernel_rfl) (by kernel_rfl) (by kernel_rfl) (fun _ _ _ h => h)
    (Or.inl ⟨by rfl, by intro w hSw;  clear hSw; go_simp⟩) hHeld ?_
  try simp only [Act.put, List.setIfInBounds_toArray, List.set_cons_zero, List.set_cons_succ]
  refine wpAnyH_take (i := 6) (oi := { dst := some 66, op := Op.move (Operand.tmp 65), type := 4, pos := "law.go:143", after := #[{ on := 5, ground := Ground.data }, { on := 2, ground := Ground.chain }], guard := none }) (v := .bool true) rfl (by kernel_rfl) (by kernel_rfl) (by kernel_rfl) (fun _ _ _ h => h)
    (Or.inl ⟨by rfl, by intro w hSw;  clear hSw; go_simp⟩) hHeld ?_
  try simp only [Act.put, List.setIfInBounds_toArray, List.set_cons_zero, List.set_cons_succ]
  refine wpAnyH_take (i := 7) (oi := { dst := some 67, op := Op.move (Operand.tmp 10), type := 25, pos := "law.go:143", after := #[{ on := 6, ground := Ground.guard }], guard := some (6, true) }) (v := .int .i64 0) rfl (by kernel_rfl) (by kernel_rfl) (by kernel_rfl) (fun _ _ _ h => h)
    (Or.inl ⟨by rfl, by intro w hSw;  clear hSw; go_simp⟩) hHeld ?_
  try simp only [Act.put, List.setIfInBounds_toArray, List.set_cons_zero, List.set_cons_succ]
  refine wpAnyH_take (i := 8) (oi := { dst := some 68, op := Op.binOp BinOp.eql 25 (Operand.tmp 67) (Operand.const (Value.int IntKind.i64 0)) 25, type := 4, pos := "law.go:143", after := #[{ on := 7, ground := Ground.data }, { on := 6, ground := Ground.guard }], guard := some (6, true) }) (v := .bool true) rfl (by kernel_rfl) (by kernel_rfl) (by kernel_rfl) (fun _ _ _ h => h)
    (Or.inl ⟨by rfl, by intro w hSw;  clear hSw; go_simp⟩) hHeld ?_
  try simp only [Act.put, List.setIfInBounds_toArray, List.set_cons_zero, List.set_cons_succ]
  refine wpAnyH_take (i := 9) (oi := { dst := some 69, op := Op.pick (Operand.tmp 66) (Operand.tmp 68) (Operand.const (Value.bool false)), type := 4, pos := "law.go:143", after := #[{ on := 6, ground := Ground.data }, { on := 8, ground := Ground.data }], guard := none }) (v := .bool true) rfl (by kernel_rfl) (by kernel_rfl) (by kernel_rfl) (fun _ _ _ h => h)
    (Or.inl ⟨by rfl, by intro w hSw;  clear hSw; go_simp⟩) hHeld ?_
  try simp only [Act.put, List.setIfInBounds_toArray, List.set_cons_zero, List.set_cons_succ]
  refine wpAnyH_take (i := 10) (oi := { dst := some 70, op := Op.move (Operand.tmp 69), type := 4, pos := "law.go:143", after := #[{ on := 9, ground := Ground.data }, { on := 6, ground := Ground.chain }], guard := none }) (v := .bool true) rfl (by kernel_rfl) (by kernel_rfl) (by kernel_rfl) (fun _ _ _ h => h)
    (Or.inl ⟨by rfl, by intro w hSw;  clear hSw; go_simp⟩) hHeld ?_
  try simp only [Act.put, List.setIfInBounds_toArray, List.set_cons_zero, List.set_cons_succ]
  refine wpAnyH_take (i := 11) (oi := { dst := some 71, op := Op.move (Operand.tmp 12), type := 25, pos := "law.go:143", after := #[{ on := 10, ground := Ground.guard }], guard := some (10, true) }) (v := .int .i64 0) rfl (by kernel_rfl) (by kernel_rfl) (by kernel_rfl) (fun _ _ _ h => h)
    (Or.inl ⟨by rfl, by intro w hSw;  clear hSw; go_simp⟩) hHeld ?_
  try simp only [Act.put, List.setIfInBounds_toArray, List.set_cons_zero, List.set_cons_succ]
  refine wpAnyH_take (i := 12) (oi := { dst := some 72, op := Op.binOp BinOp.eql 25 (Operand.tmp 71) (Operand.const (Value.int IntKind.i64 0)) 25, type := 4, pos := "law.go:143", after := #[{ on := 11, ground := Ground.data }, { on := 10, ground := Ground.guard }], guard := some (10, true) }) (v := .bool true) rfl (by kernel_rfl) (by kernel_rfl) (by kernel_rfl) (fun _ _ _ h => h)
    (Or.inl ⟨by rfl, by intro w hSw;  clear hSw; go_simp⟩) hHeld ?_
  try simp only [Act.put, List.setIfInBounds_toArray, List.set_cons_zero, List.set_cons_succ]
  refine wpAnyH_take (i := 13) (oi := { dst := some 73, op := Op.pick (Operand.tmp 70) (Operand.tmp 72) (Operand.const (Value.bool false)), type := 4, pos := "law.go:143", after := #[{ on := 10, ground := Ground.data }, { on := 12, ground := Ground.data }], guard := none }) (v := .bool true) rfl (by kernel_rfl) (by kernel_rfl) (by kernel_rfl) (fun _ _ _ h => h)
    (Or.inl ⟨by rfl, by intro w hSw;  clear hSw; go_simp⟩) hHeld ?_
  try simp only [Act.put, List.setIfInBounds_toArray, List.set_cons_zero, List.set_cons_succ]
  refine wpAnyH_take (i := 14) (oi := { dst := some 74, op := Op.move (Operand.tmp 73), type := 4, pos := "law.go:143", after := #[{ on := 13, ground := Ground.data }, { on := 10, ground := Ground.chain }], guard := none }) (v := .bool true) rfl (by kernel_rfl) (by kernel_rfl) (by kernel_rfl) (fun _ _ _ h => h)
    (Or.inl ⟨by rfl, by intro w hSw;  clear hSw; go_simp⟩) hHeld ?_
  try simp only [Act.put, List.setIfInBounds_toArray, List.set_cons_zero, List.set_cons_succ]
  refine wpAnyH_take (i := 15) (oi := { dst := some 75, op := Op.move (Operand.tmp 11), type := 31, pos := "law.go:143", after := #[{ on := 14, ground := Ground.guard }], guard := some (14, true) }) (v := .slice (some ⟨bx, 0, none⟩) 256 256) rfl (by kernel_rfl) (by kernel_rfl) (by kernel_rfl) (fun _ _ _ h => h)
    (Or.inl ⟨by rfl, by intro w hSw;  clear hSw; go_simp⟩) hHeld ?_
  try simp only [Act.put, List.setIfInBounds_toArray, List.set_cons_zero, List.set_cons_succ]
  refine wpAnyH_take (i := 16) (oi := { dst := some 76, op := Op.convert 31 9 (Operand.tmp 75), type := 9, pos := "law.go:143", after := #[{ on := 15, ground := Ground.data }, { on := 14, ground := Ground.guard }], guard := some (14, true) }) (v := .string Q) rfl (by kernel_rfl) (by kernel_rfl) (by kernel_rfl) (fun _ _ _ h => h)
    (Or.inl ⟨by rfl, by intro w hSw; have hcv := HCV.out w hSw; clear hSw; go_simp⟩) hHeld ?_
  try simp only [Act.put, List.setIfInBounds_toArray, List.set_cons_zero, List.set_cons_succ]
  refine wpAnyH_take (i := 17) (oi := { dst := some 77, op := Op.move (Operand.tmp 0), type := 31, pos := "law.go:143", after := #[{ on := 14, ground := Ground.guard }], guard := some (14, true) }) (v := .slice a len cap) rfl (by kernel_rfl) (by kernel_rfl) (by kernel_rfl) (fun _ _ _ h => h)
    (Or.inl ⟨by rfl, by intro w hSw;  clear hSw; go_simp⟩) hHeld ?_
  try simp only [Act.put, List.setIfInBounds_toArray, List.set_cons_zero, List.set_cons_succ]
  refine wpAnyH_ready (rs := [18]) (by kernel_rfl) (by simp) ?_
  refine AllReadyH.cons (o := { dst := some 78, op := Op.call { callee := Callee.value (Operand.func 18), args := #[Operand.tmp 77], argTypes := #[31] }, type := 31, pos := "law.go:143", after := #[{ on := 17, ground := Ground.data }, { on := 14, ground := Ground.chain }, { on := 14, ground := Ground.guard }], guard := some (14, true) }) rfl (fun K hK => ?_) AllReadyH.nil
  go_simp
  refine (HWH.out w11.drew (HP.out.later Bw11.out.drew)).mono ?_
  rintro e w12 ⟨by_, rfl, hx, hlo, hb⟩
  have hb' : Below w11.heap.size w11 w12 := ((Below.refl _ _).drew).trans hb
  have N12 := Lib.hid (N11.out.below hb' N11.out.lt)
  have Bw12 : Hid (Below W.heap.size W w12) := Lib.hid (Bw11.out.trans (hb'.mono Bw11.out.size))
  have hcv : (convert 31 9 (.slice (some ⟨by_, 0, none⟩) 256 256)).run Try.prog w12 = .ok (.string Q) w12 := by rw [hQ, HQ.out]; exact conv_str hx 256 256 (wholeL_length l)
  clear hx hlo hb hb'
  refine hK.out _ _ N12.out (fun hHeld1 => ?_)
  clear hK K hHeld
  try simp only [Act.put, List.setIfInBounds_toArray, List.set_cons_zero, List.set_cons_succ]
  refine wpAnyH_ready (rs := [19]) (by kernel_rfl) (by simp) ?_
  refine AllReadyH.cons (o := { dst := some 79, op := Op.convert 31 9 (Operand.tmp 78), type := 9, pos := "law.go:143", after := #[{ on := 18, ground := Ground.data }, { on := 14, ground := Ground.guard }], guard := some (14, true) }) rfl (fun K hK => ?_) AllReadyH.nil
  go_simp
  refine hK.out _ _ N12.out (fun hHeld2 => ?_)
  clear hK K hHeld1 hcv
  try simp only [Act.put, List.setIfInBounds_toArray, List.set_cons_zero, List.set_cons_succ]
  refine wpAnyH_take (i := 20) (oi := { dst := some 80, op := Op.binOp BinOp.eql 9 (Operand.tmp 76) (Operand.tmp 79) 9, type := 4, pos := "law.go:143", after := #[{ on := 16, ground := Ground.data }, { on := 19, ground := Ground.data }, { on := 14, ground := Ground.guard }], guard := some (14, true) }) (v := .bool true) rfl (by kernel_rfl) (by kernel_rfl) (by kernel_rfl) (fun _ _ _ h => h)
    (Or.inl ⟨by rfl, by intro w hSw;  clear hSw; go_simp⟩) hHeld2 ?_
  try simp only [Act.put, List.setIfInBounds_toArray, List.set_cons_zero, List.set_cons_succ]
  refine wpAnyH_take (i := 21) (oi := { dst := some 81, op := Op.pick (Operand.tmp 74) (Operand.tmp 80) (Operand.const (Value.bool false)), type := 4, pos := "law.go:143", after := #[{ on := 14, ground := Ground.data }, { on := 20, ground := Ground.data }], guard := none }) (v := .bool true) rfl (by kernel_rfl) (by kernel_rfl) (by kernel_rfl) (fun _ _ _ h => h)
    (Or.inl ⟨by rfl, by intro w hSw;  clear hSw; go_simp⟩) hHeld2 ?_
  try simp only [Act.put, List.setIfInBounds_toArray, List.set_cons_zero, List.set_cons_succ]
  refine wpAnyH_take (i := 22) (oi := { dst := some 2, op := Op.assign (Operand.tmp 81), type := 4, pos := "law.go:143", after := #[{ on := 21, ground := Ground.data }, { on := 18, ground := Ground.chain }, { on := 0, ground := Ground.phase }, { on := 1, ground := Ground.phase }, { on := 2, ground := Ground.phase }, { on := 3, ground := Ground.phase }, { on := 4, ground := Ground.phase }, { on := 5, ground := Ground.phase }, { on := 6, ground := Ground.phase }, { on := 7, ground := Ground.phase }, { on := 8, ground := Ground.phase }, { on := 9, ground := Ground.phase }, { on := 10, ground := Ground.phase }, { on := 11, ground := Ground.phase }, { on := 12, ground := Ground.phase }, { on := 13, ground := Ground.phase }, { on := 14, ground := Ground.phase }, { on := 15, ground := Ground.phase }, { on := 16, ground := Ground.phase }, { on := 17, ground := Ground.phase }, { on := 18, ground := Ground.phase }, { on := 19, ground := Ground.phase }, { on := 20, ground := Ground.phase }, { on := 21, ground := Ground.phase }], guard := none }) (v := .bool true) rfl (by kernel_rfl) (by kernel_rfl) (by kernel_rfl) (fun _ _ _ h => h)
    (Or.inl ⟨by rfl, by intro w hSw;  clear hSw; go_simp⟩) hHeld2 ?_
  try simp only [Act.put, List.setIfInBounds_toArray, List.set_cons_zero, List.set_cons_succ]
  refine wpAnyH_done (by kernel_rfl) ?_ _
  clear hHeld2
  go_wp2_with fail
  go_ret
  exact ⟨rfl, Bw12.out⟩

end Go.Proofs.Ytjidiholhhdanaa

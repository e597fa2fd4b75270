/-
  The contract of put: strings are written behind an archive so far. Conditions: the list lies in a block of its own; what comes out is no longer than 10^9 bytes.
-/
import Derived.Test.YthjihibocobndaaNWr
import Derived.Lib.AppendStr
import Derived.Deep.MidRow
import Derived.Deep.RegionHeld
import Derived.Deep.Cut
import Derived.BigFrame
namespace Go.Proofs.Ythjihibocobndaa
open Go.RowKit
set_option linter.unusedVariables false

theorem le8_get (n i : Nat) (hi : i < 8) (hn : n ≤ 1000000000) : ([Value.int .u8 ((n : Int) / 2 ^ (8 * i) % 256)] : List Value) = [(le8 n).getD i 0].map bv := by
  have e : (le8 n).getD i 0 = UInt8.ofNat (n / 256 ^ i) := by
    rw [le8, List.getD_eq_getElem?_getD, List.getElem?_map, List.getElem?_range hi]; rfl
  have p : (2 : Int) ^ (8 * i) = ((256 ^ i : Nat) : Int) := by
    rw [show (256 : Nat) = 2 ^ 8 from rfl, ← Nat.pow_mul]; exact (Int.natCast_pow 2 (8 * i)).symm
  rw [e, List.map_cons, List.map_nil, bv, UInt8.toNat_ofNat', p]
  rfl
theorem le8_step (n i : Nat) (hi : i < 8) : (le8 n).take i ++ [(le8 n).getD i 0] = (le8 n).take (i + 1) := by
  rw [List.take_succ_eq_append_getElem (by rw [le8_length]; exact hi), List.getD_eq_getElem?_getD, List.getElem?_eq_getElem (by rw [le8_length]; exact hi)]
  rfl

theorem row_form {w : World} {B n size : Nat} {e : TypeId} {v : Value} {xs : List Value} (h : w.ownsRow B e size v n xs) : ∃ b m c, v = .slice b m c := by
  rcases h.2 with ⟨rfl, _⟩ | ⟨g, cap, cur', rfl, _⟩
  · exact ⟨_, _, _, rfl⟩
  · exact ⟨_, _, _, rfl⟩

set_option maxRecDepth 100000 in
set_option maxHeartbeats 8000000 in
theorem put_any (wb : Nat) (w0 : World) (l : List ByteArray) (L : List UInt8) (b : Nat) (v0 : Value) (w : World) (hw : Wr wb w0 L v0 w) (hl : Has w b (l.map Value.string) 9) (h9 : (L ++ strsN l).length ≤ 1000000000) (hll : l.length ≤ 1000) :
    Calls Try.prog 16 #[.pointer (some ⟨wb, 0, none⟩), .slice (some ⟨b, 0, none⟩) l.length l.length] w fun e w' => e = .returned (.tuple #[]) ∧ (∃ v, Wr wb w0 (L ++ strsN l) v w') ∧ Kp w w' := by
  obtain ⟨i0, hi, hz0, hz1, hz2⟩ := info_u8w_parts
  have HI := Lib.hid hi
  have HZ0 := Lib.hid hz0
  have HZ1 := Lib.hid hz1
  have HZ2 := Lib.hid hz2
  have HW := Lib.hid hw
  have HL := Lib.hid hl
  have H9 := Lib.hid h9
  clear hi hz0 hz1 hz2 hw hl h9
  go_enter Try.func16, Try.ntmps16
  go_wp2_with fail
  go_loopw [9] (fun ii wr => ∃ (j : Nat) (v : Value), j ≤ l.length ∧ ii = .int .i64 j ∧ Wr wb w0 (L ++ strsN (l.take j)) v wr ∧ Kp w wr) (fun ii _ => l.length - (intOf ii).toNat)
  case atStart => exact ⟨0, v0, Nat.zero_le _, rfl, by simpa [strsN] using HW.out, Kp.refl _⟩
  case round =>
    obtain ⟨j, v1, hj, rfl, hx, hk⟩ := hrel
    by_cases hlt : j < l.length
    · obtain ⟨s, hs⟩ : ∃ s, s = l.getD j ⟨#[]⟩ := ⟨_, rfl⟩
      obtain ⟨M, hM⟩ : ∃ M, M = L ++ strsN (l.take j) := ⟨_, rfl⟩
      have hstep : M ++ strN s.data.toList = L ++ strsN (l.take (j + 1)) := by rw [strsN_take hlt, ← hs, hM, List.append_assoc]
      have hlen : M.length + 8 + s.size + padN s.size ≤ 1000000000 := by
        have h1 := congrArg List.length hstep
        have h2 := strsN_prefix l (j + 1)
        have h3 := H9.out
        rw [List.length_append, strN_length, List.length_append] at h1
        rw [List.length_append] at h3
        have h4 : s.data.toList.length = s.size := by rw [Array.length_toList]; rfl
        rw [h4] at h1
        omega
      rw [← hM] at hx
      have hcs : wr.cell? ⟨b, j, none⟩ = some (.string s) := (hk.block _ _ _ HL.out (by decide) (by decide)).cellAt (by rw [List.getElem?_map, List.getElem?_eq_getElem hlt, hs, List.getD_eq_getElem?_getD, List.getElem?_eq_getElem hlt]; rfl)
      have hji : (j : Int) < (l.length : Int) := by omega
      have HX1 := Lib.hid hx
      have HK1 := Lib.hid hk
      have HSTEP := Lib.hid hstep
      have HLL := Lib.hid hlen
      clear hx hk hs hM hstep hlen
      go_wp2_with fail
      go_loopw [13] (fun ii w2 => ∃ (i : Nat) (v : Value), i ≤ 8 ∧ ii = .int .i64 i ∧ Wr wb w0 (M ++ (le8 s.size).take i) v w2 ∧ Kp w w2) (fun ii _ => 8 - (intOf ii).toNat)
      case atStart => exact ⟨0, v1, Nat.zero_le _, rfl, by simpa using HX1.out, HK1.out⟩
      case round =>
        clear hcs HX1 HK1
        obtain ⟨i, v, hi8, rfl, hx, hk⟩ := hrel
        have HX := Lib.hid hx
        have HK := Lib.hid hk
        clear hx hk
        by_cases hlt8 : i < 8
        · have hi8i : (i : Int) < 8 := by omega
          have HBY := Lib.hid (le8_get s.size i hlt8 (by have := HLL.out; omega))
          have HLS := Lib.hid (le8_step s.size i hlt8)
          have hsz : s.size ≤ 1000000000 := by have := HLL.out; omega
          have HTL : Hid ((M ++ (le8 s.size).take i).length = M.length + i) := Lib.hid (by rw [List.length_append, List.length_take, le8_length]; omega)
          have HW7 : Hid (IntKind.u64.wrap (s.size : Int) = (s.size : Int)) := Lib.hid (by simp [IntKind.wrap, IntKind.bits, IntKind.signed]; omega)
          have HW9 : Hid (IntKind.i64.wrap (8 * (i : Int)) = 8 * (i : Int)) := Lib.hid (by simp [IntKind.wrap, IntKind.bits, IntKind.signed]; omega)
          have HW10 : Hid ((8 * (i : Int)).toNat = 8 * i) := Lib.hid (by omega)
          have HW11 : Hid (IntKind.u8.wrap ((s.size : Int) / 2 ^ (8 * i)) = (s.size : Int) / 2 ^ (8 * i) % 256) := Lib.hid (IntKind.wrap_u8 _)
          go_upto_region 6 with fail
          refine wp_region_held_drew (S := fun W => ∃ u, Has W wb [u] 44) (by kernel_rfl) ⟨v, HX.out.1.drew⟩ (fun hHeld => ?_)
          refine wpAnyH_take (i := 0) (oi := { dst := some 16, op := Op.move (Operand.tmp 0), type := 58, pos := "write.go:14", after := #[], guard := none }) (v := .pointer (some ⟨wb, 0, none⟩)) rfl (by kernel_rfl) (by kernel_rfl) (by kernel_rfl) (fun _ _ _ h => h)
            (Or.inl ⟨by rfl, by intro w hSw; clear hSw; go_simp⟩) hHeld ?_
          try simp only [Act.put, List.setIfInBounds_toArray, List.set_cons_zero, List.set_cons_succ]
          refine wpAnyH_take (i := 1) (oi := { dst := some 17, op := Op.move (Operand.tmp 0), type := 58, pos := "write.go:14", after := #[], guard := none }) (v := .pointer (some ⟨wb, 0, none⟩)) rfl (by kernel_rfl) (by kernel_rfl) (by kernel_rfl) (fun _ _ _ h => h)
            (Or.inl ⟨by rfl, by intro w hSw; clear hSw; go_simp⟩) hHeld ?_
          try simp only [Act.put, List.setIfInBounds_toArray, List.set_cons_zero, List.set_cons_succ]
          refine wpAnyH_take (i := 2) (oi := { dst := some 18, op := Op.nilCheck (Operand.tmp 17), type := 0, pos := "write.go:14", after := #[{ on := 1, ground := Ground.data }], guard := none }) (v := .pointer (some ⟨wb, 0, none⟩)) rfl (by kernel_rfl) (by kernel_rfl) (by kernel_rfl) (fun _ _ _ h => h)
            (Or.inl ⟨by rfl, by intro w hSw; clear hSw; go_simp⟩) hHeld ?_
          try simp only [Act.put, List.setIfInBounds_toArray, List.set_cons_zero, List.set_cons_succ]
          refine wpAnyH_take (i := 3) (oi := { dst := some 19, op := Op.fieldAddr 44 (Operand.tmp 18) 0, type := 0, pos := "write.go:14", after := #[{ on := 2, ground := Ground.data }], guard := none }) (v := .pointer (some ⟨wb, 0, none⟩)) rfl (by kernel_rfl) (by kernel_rfl) (by kernel_rfl) (fun _ _ _ h => h)
            (Or.inl ⟨by rfl, by intro w hSw; clear hSw; go_simp⟩) hHeld ?_
          try simp only [Act.put, List.setIfInBounds_toArray, List.set_cons_zero, List.set_cons_succ]
          refine wpAnyH_take (i := 5) (oi := { dst := some 21, op := Op.move (Operand.tmp 5), type := 9, pos := "write.go:14", after := #[], guard := none }) (v := .string s) rfl (by kernel_rfl) (by kernel_rfl) (by kernel_rfl) (fun _ _ _ h => h)
            (Or.inl ⟨by rfl, by intro w hSw; clear hSw; go_simp⟩) hHeld ?_
          try simp only [Act.put, List.setIfInBounds_toArray, List.set_cons_zero, List.set_cons_succ]
          refine wpAnyH_take (i := 6) (oi := { dst := some 22, op := Op.call { callee := Callee.builtin Builtin.len, args := #[Operand.tmp 21], argTypes := #[9] }, type := 3, pos := "write.go:14", after := #[{ on := 5, ground := Ground.data }], guard := none }) (v := .int .i64 (s.size : Int)) rfl (by kernel_rfl) (by kernel_rfl) (by kernel_rfl) (fun _ _ _ h => h)
            (Or.inl ⟨by rfl, by intro w hSw; clear hSw; go_simp⟩) hHeld ?_
          try simp only [Act.put, List.setIfInBounds_toArray, List.set_cons_zero, List.set_cons_succ]
          refine wpAnyH_take (i := 7) (oi := { dst := some 23, op := Op.convert 3 59 (Operand.tmp 22), type := 59, pos := "write.go:14", after := #[{ on := 6, ground := Ground.data }], guard := none }) (v := .int .u64 (s.size : Int)) rfl (by kernel_rfl) (by kernel_rfl) (by kernel_rfl) (fun _ _ _ h => h)
            (Or.inl ⟨by rfl, by intro w hSw; clear hSw; go_simp; exact HW7.out⟩) hHeld ?_
          try simp only [Act.put, List.setIfInBounds_toArray, List.set_cons_zero, List.set_cons_succ]
          refine wpAnyH_take (i := 8) (oi := { dst := some 24, op := Op.move (Operand.tmp 6), type := 3, pos := "write.go:14", after := #[], guard := none }) (v := .int .i64 (i : Int)) rfl (by kernel_rfl) (by kernel_rfl) (by kernel_rfl) (fun _ _ _ h => h)
            (Or.inl ⟨by rfl, by intro w hSw; clear hSw; go_simp⟩) hHeld ?_
          try simp only [Act.put, List.setIfInBounds_toArray, List.set_cons_zero, List.set_cons_succ]
          refine wpAnyH_take (i := 9) (oi := { dst := some 25, op := Op.binOp BinOp.mul 3 (Operand.const (Value.int IntKind.i64 8)) (Operand.tmp 24) 3, type := 3, pos := "write.go:14", after := #[{ on := 8, ground := Ground.data }], guard := none }) (v := .int .i64 (8 * (i : Int))) rfl (by kernel_rfl) (by kernel_rfl) (by kernel_rfl) (fun _ _ _ h => h)
            (Or.inl ⟨by rfl, by intro w hSw; clear hSw; go_simp; exact HW9.out⟩) hHeld ?_
          try simp only [Act.put, List.setIfInBounds_toArray, List.set_cons_zero, List.set_cons_succ]
          refine wpAnyH_take (i := 10) (oi := { dst := some 26, op := Op.binOp BinOp.shr 59 (Operand.tmp 23) (Operand.tmp 25) 3, type := 59, pos := "write.go:14", after := #[{ on := 7, ground := Ground.data }, { on := 9, ground := Ground.data }], guard := none }) (v := .int .u64 ((s.size : Int) / 2 ^ (8 * i))) rfl (by kernel_rfl) (by kernel_rfl) (by kernel_rfl) (fun _ _ _ h => h)
            (Or.inl ⟨by rfl, by intro w hSw; clear hSw; go_simp; rw [HW10.out]⟩) hHeld ?_
          try simp only [Act.put, List.setIfInBounds_toArray, List.set_cons_zero, List.set_cons_succ]
          refine wpAnyH_take (i := 11) (oi := { dst := some 27, op := Op.convert 59 5 (Operand.tmp 26), type := 5, pos := "write.go:14", after := #[{ on := 10, ground := Ground.data }], guard := none }) (v := .int .u8 ((s.size : Int) / 2 ^ (8 * i) % 256)) rfl (by kernel_rfl) (by kernel_rfl) (by kernel_rfl) (fun _ _ _ h => h)
            (Or.inl ⟨by rfl, by intro w hSw; clear hSw; go_simp; exact HW11.out⟩) hHeld ?_
          try simp only [Act.put, List.setIfInBounds_toArray, List.set_cons_zero, List.set_cons_succ]
          refine wpAnyH_ready (rs := [4, 12]) (by kernel_rfl) (by simp) ?_
          refine AllReadyH.cons (o := { dst := some 20, op := Op.load 22 (Operand.tmp 19), type := 22, pos := "write.go:14", after := #[{ on := 3, ground := Ground.data }], guard := none }) rfl (fun K hK => ?_) (AllReadyH.cons (o := { dst := some 28, op := Op.buildSlice 22 1 #[(0, Operand.tmp 27)], type := 22, pos := "write.go:14", after := #[{ on := 11, ground := Ground.data }], guard := none }) rfl (fun K hK => ?_) AllReadyH.nil)
          · skip
            have hcl := (HX.out.1.drew).cellAt (i := 0) rfl
            go_simp
            clear hcl
            refine hK.out _ _ ⟨_, HX.out.1.drew⟩ (fun hHeld1 => ?_)
            clear hK K hHeld
            try simp only [Act.put, List.setIfInBounds_toArray, List.set_cons_zero, List.set_cons_succ]
            refine wpAnyH_ready (rs := [12]) (by kernel_rfl) (by simp) ?_
            refine AllReadyH.cons (o := { dst := some 28, op := Op.buildSlice 22 1 #[(0, Operand.tmp 27)], type := 22, pos := "write.go:14", after := #[{ on := 11, ground := Ground.data }], guard := none }) rfl (fun K hK => ?_) AllReadyH.nil
            go_simp
            obtain ⟨w3, hw3⟩ : ∃ w3, w3 = (wr.alloc (.cells #[.int .u8 ((s.size : Int) / 2 ^ (8 * i) % 256)] 5)).drew := ⟨_, rfl⟩
            have p3 : Has w3 wr.heap.size [.int .u8 ((s.size : Int) / 2 ^ (8 * i) % 256)] 5 := by rw [hw3]; exact (Has.new wr _ _).drew
            have x3 : Wr wb w0 (M ++ (le8 s.size).take i) v w3 := by rw [hw3]; exact (HX.out.alloc _).drew
            have k3 : Kp wr w3 := by rw [hw3]; exact (Kp.alloc _ _).trans (Kp.drew _)
            have s3 : w3.heap.size = wr.heap.size + 1 := by rw [hw3]; simp
            rw [← hw3]
            clear hw3
            have P3 := Lib.hid p3
            have X3 := Lib.hid x3
            have K3 := Lib.hid k3
            clear p3 x3 k3
            refine hK.out _ _ ⟨_, X3.out.1⟩ (fun hHeld2 => ?_)
            clear hK K hHeld1
            try simp only [Act.put, List.setIfInBounds_toArray, List.set_cons_zero, List.set_cons_succ]
            refine wpAnyH_ready (rs := [13]) (by kernel_rfl) (by simp) ?_
            refine AllReadyH.cons (o := { dst := some 29, op := Op.call { callee := Callee.builtin Builtin.append, args := #[Operand.tmp 20, Operand.tmp 28], argTypes := #[22, 22] }, type := 22, pos := "write.go:14", after := #[{ on := 4, ground := Ground.data }, { on := 12, ground := Ground.data }], guard := none }) rfl (fun K hK => ?_) AllReadyH.nil
            rw [if_pos (by rfl)]
            refine wp_append_lies _ (.tmp 20) (.tmp 28) 22 rfl wb 5 i0 (.int .u8 0) 1 1 Try.underlying22 HI.out HZ0.out HZ1.out HZ2.out rfl (by omega) v (M ++ (le8 s.size).take i).length ((M ++ (le8 s.size).take i).map bv) rfl X3.out.2.1 ⟨wr.heap.size, 0, none⟩ 1 1 [.int .u8 ((s.size : Int) / 2 ^ (8 * i) % 256)] rfl rfl (fun j u hj => ?_) (fun u hu => ?_) (by omega) (by unfold maxLen; have := HLL.out; have := HTL.out; omega) (by have := HLL.out; have := HTL.out; omega) (Nat.le_of_lt X3.out.1.lt) w3.heap.size rfl (fun ga capa w4 h4o h4g h4b h4s => ?_)
            · match j, hj with
              | 0, hj => cases hj; rw [Addr.add_lit]; exact P3.out.cellAt (i := 0) rfl
              | j + 1, hj => simp at hj
            · simp at hu; subst hu; rfl
            have hx4 := X3.out.step (news := [(le8 s.size).getD i 0]) h4g (by rw [HBY.out] at h4o; exact h4o)
            obtain ⟨n4, hn4⟩ : ∃ n4, n4 = (M ++ (le8 s.size).take i).length + 1 := ⟨_, rfl⟩
            rw [← hn4] at hx4 ⊢
            clear hn4
            have HX4 := Lib.hid hx4
            clear hx4
            have h4 := X3.out.kept h4g
            have H4 := Lib.hid h4
            clear h4o h4g h4b
            refine hK.out _ _ ⟨_, h4⟩ (fun hHeld3 => ?_)
            clear hK K hHeld2 h4
            try simp only [Act.put, List.setIfInBounds_toArray, List.set_cons_zero, List.set_cons_succ]
            refine wpAnyH_take (i := 14) (oi := { dst := some 30, op := Op.nilCheck (Operand.tmp 16), type := 0, pos := "write.go:14", after := #[{ on := 0, ground := Ground.data }, { on := 0, ground := Ground.phase }, { on := 1, ground := Ground.phase }, { on := 2, ground := Ground.phase }, { on := 3, ground := Ground.phase }, { on := 4, ground := Ground.phase }, { on := 5, ground := Ground.phase }, { on := 6, ground := Ground.phase }, { on := 7, ground := Ground.phase }, { on := 8, ground := Ground.phase }, { on := 9, ground := Ground.phase }, { on := 10, ground := Ground.phase }, { on := 11, ground := Ground.phase }, { on := 12, ground := Ground.phase }, { on := 13, ground := Ground.phase }], guard := none }) (v := .pointer (some ⟨wb, 0, none⟩)) rfl (by kernel_rfl) (by kernel_rfl) (by kernel_rfl) (fun _ _ _ h => h)
              (Or.inl ⟨by rfl, by intro w hSw; clear hSw; go_simp⟩) hHeld3 ?_
            try simp only [Act.put, List.setIfInBounds_toArray, List.set_cons_zero, List.set_cons_succ]
            refine wpAnyH_take (i := 15) (oi := { dst := some 31, op := Op.fieldAddr 44 (Operand.tmp 30) 0, type := 0, pos := "write.go:14", after := #[{ on := 14, ground := Ground.data }, { on := 0, ground := Ground.phase }, { on := 1, ground := Ground.phase }, { on := 2, ground := Ground.phase }, { on := 3, ground := Ground.phase }, { on := 4, ground := Ground.phase }, { on := 5, ground := Ground.phase }, { on := 6, ground := Ground.phase }, { on := 7, ground := Ground.phase }, { on := 8, ground := Ground.phase }, { on := 9, ground := Ground.phase }, { on := 10, ground := Ground.phase }, { on := 11, ground := Ground.phase }, { on := 12, ground := Ground.phase }, { on := 13, ground := Ground.phase }], guard := none }) (v := .pointer (some ⟨wb, 0, none⟩)) rfl (by kernel_rfl) (by kernel_rfl) (by kernel_rfl) (fun _ _ _ h => h)
              (Or.inl ⟨by rfl, by intro w hSw; clear hSw; go_simp⟩) hHeld3 ?_
            try simp only [Act.put, List.setIfInBounds_toArray, List.set_cons_zero, List.set_cons_succ]
            refine wpAnyH_ready (rs := [16]) (by kernel_rfl) (by simp) ?_
            refine AllReadyH.cons (o := { dst := none, op := Op.store 22 (Operand.tmp 31) (Operand.tmp 29), type := 0, pos := "write.go:14", after := #[{ on := 15, ground := Ground.data }, { on := 13, ground := Ground.data }, { on := 13, ground := Ground.chain }, { on := 0, ground := Ground.phase }, { on := 1, ground := Ground.phase }, { on := 2, ground := Ground.phase }, { on := 3, ground := Ground.phase }, { on := 4, ground := Ground.phase }, { on := 5, ground := Ground.phase }, { on := 6, ground := Ground.phase }, { on := 7, ground := Ground.phase }, { on := 8, ground := Ground.phase }, { on := 9, ground := Ground.phase }, { on := 10, ground := Ground.phase }, { on := 11, ground := Ground.phase }, { on := 12, ground := Ground.phase }, { on := 13, ground := Ground.phase }], guard := none }) rfl (fun K hK => ?_) AllReadyH.nil
            have hcell4 := H4.out.cellAt (i := 0) rfl
            have hfrz4 := H4.out.frozen 0
            go_simp
            clear hcell4 hfrz4
            refine hK.out _ _ ⟨_, H4.out.set 0 _⟩ (fun hHeld4 => ?_)
            clear hK K hHeld3
            try simp only [Act.put]
            refine wpAnyH_done (by kernel_rfl) ?_ _
            clear hHeld4
            go_wp2_with fail
            go_roundw
            case rel => exact ⟨i + 1, _, by omega, by go_num, by rw [← HLS.out, ← List.append_assoc]; exact HX4.out.1, HK.out.trans (K3.out.trans HX4.out.2)⟩
            case measure => simp [intOf]; omega
          · skip
            go_simp
            obtain ⟨w3, hw3⟩ : ∃ w3, w3 = (wr.alloc (.cells #[.int .u8 ((s.size : Int) / 2 ^ (8 * i) % 256)] 5)).drew := ⟨_, rfl⟩
            have p3 : Has w3 wr.heap.size [.int .u8 ((s.size : Int) / 2 ^ (8 * i) % 256)] 5 := by rw [hw3]; exact (Has.new wr _ _).drew
            have x3 : Wr wb w0 (M ++ (le8 s.size).take i) v w3 := by rw [hw3]; exact (HX.out.alloc _).drew
            have k3 : Kp wr w3 := by rw [hw3]; exact (Kp.alloc _ _).trans (Kp.drew _)
            have s3 : w3.heap.size = wr.heap.size + 1 := by rw [hw3]; simp
            rw [← hw3]
            clear hw3
            have P3 := Lib.hid p3
            have X3 := Lib.hid x3
            have K3 := Lib.hid k3
            clear p3 x3 k3
            refine hK.out _ _ ⟨_, X3.out.1⟩ (fun hHeld1 => ?_)
            clear hK K hHeld
            try simp only [Act.put, List.setIfInBounds_toArray, List.set_cons_zero, List.set_cons_succ]
            refine wpAnyH_ready (rs := [4]) (by kernel_rfl) (by simp) ?_
            refine AllReadyH.cons (o := { dst := some 20, op := Op.load 22 (Operand.tmp 19), type := 22, pos := "write.go:14", after := #[{ on := 3, ground := Ground.data }], guard := none }) rfl (fun K hK => ?_) AllReadyH.nil
            have hcl := (X3.out.1).cellAt (i := 0) rfl
            go_simp
            clear hcl
            refine hK.out _ _ ⟨_, X3.out.1⟩ (fun hHeld2 => ?_)
            clear hK K hHeld1
            try simp only [Act.put, List.setIfInBounds_toArray, List.set_cons_zero, List.set_cons_succ]
            refine wpAnyH_ready (rs := [13]) (by kernel_rfl) (by simp) ?_
            refine AllReadyH.cons (o := { dst := some 29, op := Op.call { callee := Callee.builtin Builtin.append, args := #[Operand.tmp 20, Operand.tmp 28], argTypes := #[22, 22] }, type := 22, pos := "write.go:14", after := #[{ on := 4, ground := Ground.data }, { on := 12, ground := Ground.data }], guard := none }) rfl (fun K hK => ?_) AllReadyH.nil
            rw [if_pos (by rfl)]
            refine wp_append_lies _ (.tmp 20) (.tmp 28) 22 rfl wb 5 i0 (.int .u8 0) 1 1 Try.underlying22 HI.out HZ0.out HZ1.out HZ2.out rfl (by omega) v (M ++ (le8 s.size).take i).length ((M ++ (le8 s.size).take i).map bv) rfl X3.out.2.1 ⟨wr.heap.size, 0, none⟩ 1 1 [.int .u8 ((s.size : Int) / 2 ^ (8 * i) % 256)] rfl rfl (fun j u hj => ?_) (fun u hu => ?_) (by omega) (by unfold maxLen; have := HLL.out; have := HTL.out; omega) (by have := HLL.out; have := HTL.out; omega) (Nat.le_of_lt X3.out.1.lt) w3.heap.size rfl (fun ga capa w4 h4o h4g h4b h4s => ?_)
            · match j, hj with
              | 0, hj => cases hj; rw [Addr.add_lit]; exact P3.out.cellAt (i := 0) rfl
              | j + 1, hj => simp at hj
            · simp at hu; subst hu; rfl
            have hx4 := X3.out.step (news := [(le8 s.size).getD i 0]) h4g (by rw [HBY.out] at h4o; exact h4o)
            obtain ⟨n4, hn4⟩ : ∃ n4, n4 = (M ++ (le8 s.size).take i).length + 1 := ⟨_, rfl⟩
            rw [← hn4] at hx4 ⊢
            clear hn4
            have HX4 := Lib.hid hx4
            clear hx4
            have h4 := X3.out.kept h4g
            have H4 := Lib.hid h4
            clear h4o h4g h4b
            refine hK.out _ _ ⟨_, h4⟩ (fun hHeld3 => ?_)
            clear hK K hHeld2 h4
            try simp only [Act.put, List.setIfInBounds_toArray, List.set_cons_zero, List.set_cons_succ]
            refine wpAnyH_take (i := 14) (oi := { dst := some 30, op := Op.nilCheck (Operand.tmp 16), type := 0, pos := "write.go:14", after := #[{ on := 0, ground := Ground.data }, { on := 0, ground := Ground.phase }, { on := 1, ground := Ground.phase }, { on := 2, ground := Ground.phase }, { on := 3, ground := Ground.phase }, { on := 4, ground := Ground.phase }, { on := 5, ground := Ground.phase }, { on := 6, ground := Ground.phase }, { on := 7, ground := Ground.phase }, { on := 8, ground := Ground.phase }, { on := 9, ground := Ground.phase }, { on := 10, ground := Ground.phase }, { on := 11, ground := Ground.phase }, { on := 12, ground := Ground.phase }, { on := 13, ground := Ground.phase }], guard := none }) (v := .pointer (some ⟨wb, 0, none⟩)) rfl (by kernel_rfl) (by kernel_rfl) (by kernel_rfl) (fun _ _ _ h => h)
              (Or.inl ⟨by rfl, by intro w hSw; clear hSw; go_simp⟩) hHeld3 ?_
            try simp only [Act.put, List.setIfInBounds_toArray, List.set_cons_zero, List.set_cons_succ]
            refine wpAnyH_take (i := 15) (oi := { dst := some 31, op := Op.fieldAddr 44 (Operand.tmp 30) 0, type := 0, pos := "write.go:14", after := #[{ on := 14, ground := Ground.data }, { on := 0, ground := Ground.phase }, { on := 1, ground := Ground.phase }, { on := 2, ground := Ground.phase }, { on := 3, ground := Ground.phase }, { on := 4, ground := Ground.phase }, { on := 5, ground := Ground.phase }, { on := 6, ground := Ground.phase }, { on := 7, ground := Ground.phase }, { on := 8, ground := Ground.phase }, { on := 9, ground := Ground.phase }, { on := 10, ground := Ground.phase }, { on := 11, ground := Ground.phase }, { on := 12, ground := Ground.phase }, { on := 13, ground := Ground.phase }], guard := none }) (v := .pointer (some ⟨wb, 0, none⟩)) rfl (by kernel_rfl) (by kernel_rfl) (by kernel_rfl) (fun _ _ _ h => h)
              (Or.inl ⟨by rfl, by intro w hSw; clear hSw; go_simp⟩) hHeld3 ?_
            try simp only [Act.put, List.setIfInBounds_toArray, List.set_cons_zero, List.set_cons_succ]
            refine wpAnyH_ready (rs := [16]) (by kernel_rfl) (by simp) ?_
            refine AllReadyH.cons (o := { dst := none, op := Op.store 22 (Operand.tmp 31) (Operand.tmp 29), type := 0, pos := "write.go:14", after := #[{ on := 15, ground := Ground.data }, { on := 13, ground := Ground.data }, { on := 13, ground := Ground.chain }, { on := 0, ground := Ground.phase }, { on := 1, ground := Ground.phase }, { on := 2, ground := Ground.phase }, { on := 3, ground := Ground.phase }, { on := 4, ground := Ground.phase }, { on := 5, ground := Ground.phase }, { on := 6, ground := Ground.phase }, { on := 7, ground := Ground.phase }, { on := 8, ground := Ground.phase }, { on := 9, ground := Ground.phase }, { on := 10, ground := Ground.phase }, { on := 11, ground := Ground.phase }, { on := 12, ground := Ground.phase }, { on := 13, ground := Ground.phase }], guard := none }) rfl (fun K hK => ?_) AllReadyH.nil
            have hcell4 := H4.out.cellAt (i := 0) rfl
            have hfrz4 := H4.out.frozen 0
            go_simp
            clear hcell4 hfrz4
            refine hK.out _ _ ⟨_, H4.out.set 0 _⟩ (fun hHeld4 => ?_)
            clear hK K hHeld3
            try simp only [Act.put]
            refine wpAnyH_done (by kernel_rfl) ?_ _
            clear hHeld4
            go_wp2_with fail
            go_roundw
            case rel => exact ⟨i + 1, _, by omega, by go_num, by rw [← HLS.out, ← List.append_assoc]; exact HX4.out.1, HK.out.trans (K3.out.trans HX4.out.2)⟩
            case measure => simp [intOf]; omega
        · obtain rfl : i = 8 := by omega
          have HX8 : Hid (Wr wb w0 (M ++ le8 s.size) v wr) := Lib.hid (by have := HX.out; rw [List.take_of_length_le (by rw [le8_length]; exact Nat.le_refl _)] at this; exact this)
          have hl8 : Hid ((M ++ le8 s.size).length = M.length + 8) := Lib.hid (by rw [List.length_append, le8_length])
          have hsl : Hid (s.data.toList.length = s.size) := Lib.hid (by rw [Array.length_toList]; rfl)
          clear HX
          have hc8 := HX8.out.1.cellAt (i := 0) rfl
          have hsz : s.size ≤ 1000000000 := by have := HLL.out; omega
          go_wp2_with (at_builtin; go_must (refine Go.Lib.wpList_append_own_string _ rfl (.tmp 37) (.tmp 38) 22 9 rfl wb 5 i0 Try.underlying22 Try.underlying9 HI.out HZ0.out HZ1.out HZ2.out v (M ++ le8 s.size).length ((M ++ le8 s.size).map bv) rfl HX8.out.2.1 s rfl ?c1 ?c2 ?c3 ?c4))
          case c1 => unfold maxLen; have := HLL.out; have := hl8.out; omega
          case c2 => have := HLL.out; have := hl8.out; omega
          case c3 => exact Nat.le_of_lt HX8.out.1.lt
          intro v8 w8 h8o h8g h8n
          obtain ⟨b8, n8, c8, rfl⟩ := row_form h8o
          have HX9 := HX8.out.step (news := s.data.toList) h8g (by have h := h8o; rw [hsl.out, List.length_append, List.map_append, List.append_assoc]; exact h)
          have h9 := HX8.out.kept h8g
          have hc9 := h9.cellAt (i := 0) rfl
          have hf9 := h9.frozen 0
          clear h8o h8g h8n hc8 h9
          go_wp2_with fail
          refine (padding_any _ _ hsz).mono ?_
          rintro e w9 ⟨rfl, rfl⟩
          clear hc9 hf9
          obtain ⟨w9, hw9⟩ : ∃ w9, w9 = w8.setCell ⟨wb, 0, none⟩ (.slice b8 n8 c8) := ⟨_, rfl⟩
          rw [← hw9] at HX9 ⊢
          clear hw9
          have HXN := Lib.hid HX9
          clear HX9
          go_wp2_with fail
          go_loopw [45] (fun ii w3 => ∃ (i : Nat) (v : Value), i ≤ padN s.size ∧ ii = .int .i64 i ∧ Wr wb w0 (M ++ le8 s.size ++ s.data.toList ++ List.replicate i 0) v w3 ∧ Kp w w3) (fun ii _ => padN s.size - (intOf ii).toNat)
          case atStart => exact ⟨0, _, Nat.zero_le _, rfl, by simpa using HXN.out.1, HK.out.trans HXN.out.2⟩
          case round =>
            obtain ⟨i, v, hip, rfl, hx, hk⟩ := hrel
            have HXP := Lib.hid hx
            have HKP := Lib.hid hk
            clear hx hk HXN
            by_cases hlp : i < padN s.size
            · have hpi : (i : Int) < (padN s.size : Int) := by omega
              have hlz : Hid ((M ++ le8 s.size ++ s.data.toList ++ List.replicate i 0).length = M.length + 8 + s.size + i) := Lib.hid (by rw [List.length_append, List.length_append, hsl.out, hl8.out, List.length_replicate])
              have hpd : padN s.size < 8 := by unfold padN; omega
              obtain ⟨R, hR⟩ : ∃ R, R = M ++ le8 s.size ++ s.data.toList ++ List.replicate i 0 := ⟨_, rfl⟩
              have HRS : Hid (R ++ [0] = M ++ le8 s.size ++ s.data.toList ++ List.replicate (i + 1) 0) := Lib.hid (by rw [hR, List.replicate_succ', ← List.append_assoc])
              rw [← hR] at hlz
              replace HXP : Hid (Wr wb w0 R v wr) := Lib.hid (by rw [hR]; exact HXP.out)
              clear hR
              have hcp := HXP.out.1.cellAt (i := 0) rfl
              go_wp2_with (at_builtin; go_must (refine wpList_append_lies _ rfl (.tmp 51) (.tmp 52) 22 rfl wb 5 i0 (.int .u8 0) 1 1 Try.underlying22 HI.out HZ0.out HZ1.out HZ2.out rfl (by omega) v _ _ rfl (HXP.out.2.1.alloc _) ⟨wr.heap.size, 0, none⟩ 1 1 [.int .u8 0] rfl rfl ?d1 ?d2 ?d3 ?d4 ?d5 ?d6 _ rfl ?d7))
              case d1 =>
                intro j u hj
                match j, hj with
                | 0, hj => simp at hj; subst hj; simp [Addr.add]
              case d2 => intro u hu; simp at hu; subst hu; rfl
              case d3 => omega
              case d4 => unfold maxLen; have := HLL.out; have := hlz.out; omega
              case d5 => have := HLL.out; have := hlz.out; omega
              case d6 => have := HXP.out.1.lt; simp; omega
              intro g cap2 w2 ho hg hlo hhi
              have hx2 := (HXP.out.alloc _).step (news := [0]) hg ho
              obtain ⟨n2, hn2⟩ : ∃ n2, n2 = R.length + 1 := ⟨_, rfl⟩
              rw [← hn2] at hx2 ⊢
              clear hn2
              have HX2 := Lib.hid hx2
              clear hx2
              have h2 := (HXP.out.alloc _).kept hg
              have hc2 := h2.cellAt (i := 0) rfl
              have hf2 := h2.frozen 0
              clear ho hg hlo hhi h2 hcp
              go_wp2_with fail
              go_roundw
              case rel => exact ⟨i + 1, _, by omega, by go_num, by rw [← HRS.out]; exact HX2.out.1, HKP.out.trans ((Kp.alloc _ _).trans HX2.out.2)⟩
              case measure => simp [intOf]; omega
            · obtain rfl : i = padN s.size := by omega
              have HXF : Hid (Wr wb w0 (L ++ strsN (l.take (j + 1))) v wr) := Lib.hid (by
                have := HXP.out
                rw [← HSTEP.out, strN, hsl.out]
                simpa only [List.append_assoc] using this)
              clear HXP
              go_wp2_with fail
              go_roundw
              case rel => exact ⟨j + 1, v, by omega, by go_num, HXF.out, HKP.out⟩
              case measure => simp [intOf]; omega
    · obtain rfl : j = l.length := by omega
      have HXF : Hid (Wr wb w0 (L ++ strsN l) v1 wr) := Lib.hid (by rw [List.take_of_length_le (Nat.le_refl _)] at hx; exact hx)
      have HKF := Lib.hid hk
      clear hx hk
      go_wp2_with fail
      first | go_end0 | (simp only [Exit.inBlock, Exit.then]; refine bodyPost_ret (results_none rfl _ _ _) rfl ?_) | refine bodyPost_ret (results_none rfl _ _ _) rfl ?_
      exact ⟨rfl, ⟨v1, HXF.out⟩, HKF.out⟩

end Go.Proofs.Ythjihibocobndaa

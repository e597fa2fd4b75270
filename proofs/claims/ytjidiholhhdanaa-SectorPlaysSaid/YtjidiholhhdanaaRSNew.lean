/-
  The contract of the reference's New. Conditions: a small number.
-/
import Derived.Test.YtjidiholhhdanaaRSDat
import Derived.Test.YtjidiholhhdanaaSKeepsWalk
namespace Go.Proofs.Ytjidiholhhdanaa
open Go.RowKit
set_option linter.unusedVariables false
set_option maxRecDepth 100000

theorem infoS_parts : ∃ i, Try.prog.info? 9 = some i ∧ i.zero = some (.string ⟨#[]⟩) ∧ i.size = 1 ∧ i.bytes = 16 := by
  have h : (Try.prog.info? 9).map (fun i => (i.zero, i.size, i.bytes)) = some (some (.string ⟨#[]⟩), 1, 16) := by kernel_rfl
  obtain ⟨i, hi, hx⟩ := Option.map_eq_some_iff.1 h
  simp only [Prod.mk.injEq] at hx
  exact ⟨i, hi, hx.1, hx.2.1, hx.2.2⟩
theorem infoR_parts : ∃ i z, Try.prog.info? 72 = some i ∧ i.zero = some z ∧ i.size = 2 ∧ i.bytes = 24 ∧ z.cells.size = 2 := by
  have h : (Try.prog.info? 72).map (fun i => (i.zero, i.size, i.bytes)) = some (some (.agg #[.int .i64 0, .string ⟨#[]⟩]), 2, 24) := by kernel_rfl
  obtain ⟨i, hi, hx⟩ := Option.map_eq_some_iff.1 h
  simp only [Prod.mk.injEq] at hx
  exact ⟨i, _, hi, hx.1, hx.2.1, hx.2.2, by kernel_rfl⟩
theorem sec_zer (n i : Nat) (h : i < n) : sec (zer (256 * n)) i = zer 256 := by
  refine sec_ext (sec_length (by simp [zer]) h) (by simp [zer]) fun j hj => ?_
  rw [sec_get hj, zer_get _ _ (by omega), zer_get _ _ hj]
theorem strV_zer (n : Nat) : strV (zer (256 * n)) n = List.replicate n (.string (bs (zer 256))) := by
  refine List.ext_getElem? fun j => ?_
  by_cases hj : j < n
  · rw [strV_get hj, sec_zer n j hj, List.getElem?_replicate, if_pos hj]
  · rw [List.getElem?_eq_none (by rw [strV_length]; omega), List.getElem?_eq_none (by rw [List.length_replicate]; omega)]

def RNewP (n : Nat) (w : World) (e : Ending) (w' : World) : Prop :=
  ∃ rp vl, e = .returned (.pointer (some ⟨rp, 0, none⟩)) ∧ RDev w' w.heap.size rp vl (.slice none 0 0) n (zer (256 * n)) [] 0 false 0 ∧ Below w.heap.size w w'

set_option maxHeartbeats 8000000 in
theorem rnew_any (n : Nat) (w : World) (hn : n ≤ 100) : Calls Try.prog 9 #[.int .i64 (n : Int)] w (RNewP n w) := by
  obtain ⟨i0, hi, hz0, hz1, hz2⟩ := infoS_parts
  have HI := Lib.hid hi
  have HZ0 := Lib.hid hz0
  have HZ1 := Lib.hid hz1
  have HZ2 := Lib.hid hz2
  clear hi hz0 hz1 hz2
  obtain ⟨Z, hZ⟩ : ∃ Z, Z = bs (zer 256) := ⟨_, rfl⟩
  have HZ := Lib.hid hZ
  clear hZ
  obtain ⟨ZL, hZL⟩ : ∃ ZL, ZL = (zer 256).map bv := ⟨_, rfl⟩
  have HZL := Lib.hid hZL
  have HMK : Hid (∀ w : World, (Instr.makeSlice 31 (.int .i64 256) (.int .i64 256)).run Try.prog w = .ok (.slice (some ⟨w.heap.size, 0, none⟩) 256 256) (w.alloc (.cells ZL.toArray 5))) := Lib.hid (by rw [hZL]; exact mk256)
  clear hZL
  go_enter Try.func9, Try.ntmps9
  go_upto_region 2 with fail
  obtain ⟨R, hR⟩ : ∃ R, R = w.heap.size := ⟨_, rfl⟩
  obtain ⟨w1, hw1⟩ : ∃ w1, w1 = w.alloc (.cells #[.slice none 0 0, .slice none 0 0, .int .i64 0, .bool false, .int .i64 0] 38) := ⟨_, rfl⟩
  rw [← hR, ← hw1]
  have X1 : Hid (Has w1 R (rboxL (.slice none 0 0) (.slice none 0 0) 0 false 0) 38) := Lib.hid (by rw [hw1, hR]; exact Has.new w _ _)
  have B1 : Hid (Below R w w1) := Lib.hid (by rw [hw1, hR]; exact (Below.refl _ _).alloc (Nat.le_refl _) _)
  have HR := Lib.hid hR
  clear hw1 hR
  go_wp2_with fail
  go_loopw [4] (fun ii wr => ∃ (k : Nat) (v : Value), k ≤ n ∧ ii = .int .i64 k ∧ Hid (Has wr R (rboxL v (.slice none 0 0) 0 false 0) 38) ∧ Hid (wr.ownsRow R 9 1 v k (List.replicate k (.string Z))) ∧ Hid (Below R w wr)) (fun ii _ => n - (intOf ii).toNat)
  case atStart => exact ⟨0, _, Nat.zero_le _, rfl, X1, Lib.hid (World.ownsRow_nil _ _ _ _), B1⟩
  case round =>
    clear X1 B1
    obtain ⟨k, v, hk, rfl, hX, hV, hB⟩ := hrel
    by_cases hlt : k < n
    · have hki : (k : Int) < (n : Int) := by omega
      go_upto_region 5 with fail
      refine wp_region_held_drew (S := fun _ => True) (by kernel_rfl) trivial (fun hHeld => ?_)
      refine wpAnyH_take (i := 0) (oi := { dst := some 12, op := Op.move (Operand.tmp 3), type := 28, pos := "ref.go:23", after := #[], guard := none }) (v := .pointer (some ⟨R, 0, none⟩)) rfl (by kernel_rfl) (by kernel_rfl) (by kernel_rfl) (fun _ _ _ h => h)
        (Or.inl ⟨by rfl, by intro w hSw;  clear hSw; go_simp⟩) hHeld ?_
      try simp only [Act.put, List.setIfInBounds_toArray, List.set_cons_zero, List.set_cons_succ]
      refine wpAnyH_take (i := 1) (oi := { dst := some 13, op := Op.move (Operand.tmp 3), type := 28, pos := "ref.go:23", after := #[], guard := none }) (v := .pointer (some ⟨R, 0, none⟩)) rfl (by kernel_rfl) (by kernel_rfl) (by kernel_rfl) (fun _ _ _ h => h)
        (Or.inl ⟨by rfl, by intro w hSw;  clear hSw; go_simp⟩) hHeld ?_
      try simp only [Act.put, List.setIfInBounds_toArray, List.set_cons_zero, List.set_cons_succ]
      refine wpAnyH_take (i := 2) (oi := { dst := some 14, op := Op.nilCheck (Operand.tmp 13), type := 0, pos := "ref.go:23", after := #[{ on := 1, ground := Ground.data }], guard := none }) (v := .pointer (some ⟨R, 0, none⟩)) rfl (by kernel_rfl) (by kernel_rfl) (by kernel_rfl) (fun _ _ _ h => h)
        (Or.inl ⟨by rfl, by intro w hSw;  clear hSw; go_simp⟩) hHeld ?_
      try simp only [Act.put, List.setIfInBounds_toArray, List.set_cons_zero, List.set_cons_succ]
      refine wpAnyH_take (i := 3) (oi := { dst := some 15, op := Op.fieldAddr 38 (Operand.tmp 14) 0, type := 0, pos := "ref.go:23", after := #[{ on := 2, ground := Ground.data }], guard := none }) (v := .pointer (some ⟨R, 0, none⟩)) rfl (by kernel_rfl) (by kernel_rfl) (by kernel_rfl) (fun _ _ _ h => h)
        (Or.inl ⟨by rfl, by intro w hSw;  clear hSw; go_simp⟩) hHeld ?_
      try simp only [Act.put, List.setIfInBounds_toArray, List.set_cons_zero, List.set_cons_succ]
      refine wpAnyH_ready (rs := [4, 5]) (by kernel_rfl) (by simp) ?_
      refine AllReadyH.cons (o := { dst := some 16, op := Op.load 35 (Operand.tmp 15), type := 35, pos := "ref.go:23", after := #[{ on := 3, ground := Ground.data }], guard := none }) rfl (fun K hK => ?_) (AllReadyH.cons (o := { dst := some 17, op := Op.makeSlice 31 (Operand.const (Value.int IntKind.i64 256)) (Operand.const (Value.int IntKind.i64 256)), type := 31, pos := "ref.go:23", after := #[], guard := none }) rfl (fun K hK => ?_) AllReadyH.nil)
      · have hcl := (hX.out.drew).cellAt (i := 0) rfl
        go_simp
        clear hcl
        refine hK.out _ _ trivial (fun hHw1 => ?_)
        clear hK K hHeld
        try simp only [Act.put, List.setIfInBounds_toArray, List.set_cons_zero, List.set_cons_succ]
        refine wpAnyH_ready (rs := [5]) (by kernel_rfl) (by simp) ?_
        refine AllReadyH.cons (o := { dst := some 17, op := Op.makeSlice 31 (Operand.const (Value.int IntKind.i64 256)) (Operand.const (Value.int IntKind.i64 256)), type := 31, pos := "ref.go:23", after := #[], guard := none }) rfl (fun K hK => ?_) AllReadyH.nil
        have hmk := HMK.out wr
        have hmk2 := HMK.out wr.drew
        go_simp
        clear hmk hmk2
        obtain ⟨wm, hwm⟩ : ∃ wm, wm = (wr.alloc (.cells ZL.toArray 5)).drew := ⟨_, rfl⟩
        rw [← hwm]
        have NM : Hid (Has wm wr.heap.size ((zer 256).map bv) 5) := Lib.hid (by rw [hwm, HZL.out]; exact (Has.new wr _ _).drew)
        have BM : Hid (Below wr.heap.size wr wm) := Lib.hid (by rw [hwm]; exact ((Below.refl _ _).alloc (Nat.le_refl _) _).drew)
        clear hwm
        refine hK.out _ _ trivial (fun hHw2 => ?_)
        clear hK K hHw1
        try simp only [Act.put, List.setIfInBounds_toArray, List.set_cons_zero, List.set_cons_succ]
        refine wpAnyH_ready (rs := [6]) (by kernel_rfl) (by simp) ?_
        refine AllReadyH.cons (o := { dst := some 18, op := Op.convert 31 9 (Operand.tmp 17), type := 9, pos := "ref.go:23", after := #[{ on := 5, ground := Ground.data }], guard := none }) rfl (fun K hK => ?_) AllReadyH.nil
        have hcv : (convert 31 9 (.slice (some ⟨wr.heap.size, 0, none⟩) 256 256)).run Try.prog wm = .ok (.string Z) wm := by rw [HZ.out]; exact conv_str NM.out 256 256 (List.length_replicate ..)
        go_simp
        clear hcv
        refine hK.out _ _ trivial (fun hHw3 => ?_)
        clear hK K hHw2
        try simp only [Act.put, List.setIfInBounds_toArray, List.set_cons_zero, List.set_cons_succ]
        refine wpAnyH_ready (rs := [7]) (by kernel_rfl) (by simp) ?_
        refine AllReadyH.cons (o := { dst := some 19, op := Op.buildSlice 35 1 #[(0, Operand.tmp 18)], type := 35, pos := "ref.go:23", after := #[{ on := 6, ground := Ground.data }], guard := none }) rfl (fun K hK => ?_) AllReadyH.nil
        go_simp
        obtain ⟨wb, hwb⟩ : ∃ wb, wb = wm.alloc (.cells #[.string Z] 9) := ⟨_, rfl⟩
        rw [← hwb]
        have NB : Hid (Has wb wm.heap.size [.string Z] 9) := Lib.hid (by rw [hwb]; exact Has.new wm _ _)
        have BB : Hid (Below wm.heap.size wm wb) := Lib.hid (by rw [hwb]; exact (Below.refl _ _).alloc (Nat.le_refl _) _)
        clear hwb
        refine hK.out _ _ trivial (fun hHw4 => ?_)
        clear hK K hHw3
        try simp only [Act.put, List.setIfInBounds_toArray, List.set_cons_zero, List.set_cons_succ]
        refine wpAnyH_ready (rs := [8]) (by kernel_rfl) (by simp) ?_
        refine AllReadyH.cons (o := { dst := some 20, op := Op.call { callee := Callee.builtin Builtin.append, args := #[Operand.tmp 16, Operand.tmp 19], argTypes := #[35, 35] }, type := 35, pos := "ref.go:23", after := #[{ on := 4, ground := Ground.data }, { on := 7, ground := Ground.data }], guard := none }) rfl (fun K hK => ?_) AllReadyH.nil
        rw [if_pos (by rfl)]
        have ow := ownsRow_below (ownsRow_below hV.out BM.out) BB.out
        have hR1 : R ≤ wb.heap.size := Nat.le_trans (Nat.le_of_lt hX.out.lt) (Nat.le_trans BM.out.size BB.out.size)
        refine wp_append_lies _ (.tmp 16) (.tmp 19) 35 rfl R 9 i0 (.string ⟨#[]⟩) 1 16 Try.underlying35 HI.out HZ0.out HZ1.out HZ2.out rfl (by omega) v k (List.replicate k (.string Z)) rfl ow ⟨wm.heap.size, 0, none⟩ 1 1 [.string Z] rfl rfl (fun j u hj => ?_) (fun u hu => ?_) (by omega) (by unfold maxLen; omega) (by omega) hR1 _ rfl (fun ga capa w5 h5o h5g h5b h5s => ?_)
        · match j, hj with
          | 0, hj => cases hj; rw [Addr.add_lit]; exact NB.out.cellAt (i := 0) rfl
          | j + 1, hj => simp at hj
        · simp at hu; subst hu; rfl
        have hx3 := (hX.out.below BM.out hX.out.lt).below BB.out (hX.out.below BM.out hX.out.lt).lt
        have P5 := Lib.hid (has_grown hx3 h5g (Ne.symm (own_type ow hx3 (by decide))))
        have O5 := Lib.hid h5o
        have B5 : Hid (Below R w w5) := Lib.hid ((hB.out.trans ((BM.out.mono (Nat.le_of_lt hX.out.lt)).trans (BB.out.mono (Nat.le_trans (Nat.le_of_lt hX.out.lt) BM.out.size)))).grown h5g hR1 (fun k hk => (ow.lt k hk).1))
        clear h5o h5g h5b h5s ow hx3
        refine hK.out _ _ trivial (fun hHw5 => ?_)
        clear hK K hHw4
        try simp only [Act.put, List.setIfInBounds_toArray, List.set_cons_zero, List.set_cons_succ]
        refine wpAnyH_take (i := 9) (oi := { dst := some 21, op := Op.nilCheck (Operand.tmp 12), type := 0, pos := "ref.go:23", after := #[{ on := 0, ground := Ground.data }, { on := 0, ground := Ground.phase }, { on := 1, ground := Ground.phase }, { on := 2, ground := Ground.phase }, { on := 3, ground := Ground.phase }, { on := 4, ground := Ground.phase }, { on := 5, ground := Ground.phase }, { on := 6, ground := Ground.phase }, { on := 7, ground := Ground.phase }, { on := 8, ground := Ground.phase }], guard := none }) (v := .pointer (some ⟨R, 0, none⟩)) rfl (by kernel_rfl) (by kernel_rfl) (by kernel_rfl) (fun _ _ _ h => h)
          (Or.inl ⟨by rfl, by intro w hSw;  clear hSw; go_simp⟩) hHw5 ?_
        try simp only [Act.put, List.setIfInBounds_toArray, List.set_cons_zero, List.set_cons_succ]
        refine wpAnyH_take (i := 10) (oi := { dst := some 22, op := Op.fieldAddr 38 (Operand.tmp 21) 0, type := 0, pos := "ref.go:23", after := #[{ on := 9, ground := Ground.data }, { on := 0, ground := Ground.phase }, { on := 1, ground := Ground.phase }, { on := 2, ground := Ground.phase }, { on := 3, ground := Ground.phase }, { on := 4, ground := Ground.phase }, { on := 5, ground := Ground.phase }, { on := 6, ground := Ground.phase }, { on := 7, ground := Ground.phase }, { on := 8, ground := Ground.phase }], guard := none }) (v := .pointer (some ⟨R, 0, none⟩)) rfl (by kernel_rfl) (by kernel_rfl) (by kernel_rfl) (fun _ _ _ h => h)
          (Or.inl ⟨by rfl, by intro w hSw;  clear hSw; go_simp⟩) hHw5 ?_
        try simp only [Act.put, List.setIfInBounds_toArray, List.set_cons_zero, List.set_cons_succ]
        refine wpAnyH_ready (rs := [11]) (by kernel_rfl) (by simp) ?_
        refine AllReadyH.cons (o := { dst := none, op := Op.store 35 (Operand.tmp 22) (Operand.tmp 20), type := 0, pos := "ref.go:23", after := #[{ on := 10, ground := Ground.data }, { on := 8, ground := Ground.data }, { on := 8, ground := Ground.chain }, { on := 0, ground := Ground.phase }, { on := 1, ground := Ground.phase }, { on := 2, ground := Ground.phase }, { on := 3, ground := Ground.phase }, { on := 4, ground := Ground.phase }, { on := 5, ground := Ground.phase }, { on := 6, ground := Ground.phase }, { on := 7, ground := Ground.phase }, { on := 8, ground := Ground.phase }], guard := none }) rfl (fun K hK => ?_) AllReadyH.nil
        have hc5 := P5.out.cellAt (i := 0) rfl
        have hf5 := P5.out.frozen 0
        go_simp
        clear hc5 hf5
        refine hK.out _ _ trivial (fun hHw6 => ?_)
        clear hK K hHw5
        try simp only [Act.put]
        refine wpAnyH_done (by kernel_rfl) ?_ _
        clear hHw6
        go_wp2_with fail
        go_roundw
        case rel =>
          refine ⟨k + 1, .slice (some ⟨ga, 0, none⟩) (k + 1) capa, by omega, by go_num, Lib.hid (P5.out.set 0 _), Lib.hid ?_, Lib.hid (B5.out.setCell (p := ⟨R, 0, none⟩) (Nat.le_refl _) _)⟩
          rw [List.replicate_succ']
          exact ownsRow_but O5.out ((But.refl _ _ _).setB 0 _) (Nat.le_refl _) (own_type O5.out P5.out (by decide))
        case measure => simp [intOf]; omega
      · have hmk := HMK.out wr
        have hmk2 := HMK.out wr.drew
        go_simp
        clear hmk hmk2
        obtain ⟨wm, hwm⟩ : ∃ wm, wm = (wr.alloc (.cells ZL.toArray 5)).drew := ⟨_, rfl⟩
        rw [← hwm]
        have NM : Hid (Has wm wr.heap.size ((zer 256).map bv) 5) := Lib.hid (by rw [hwm, HZL.out]; exact (Has.new wr _ _).drew)
        have BM : Hid (Below wr.heap.size wr wm) := Lib.hid (by rw [hwm]; exact ((Below.refl _ _).alloc (Nat.le_refl _) _).drew)
        clear hwm
        refine hK.out _ _ trivial (fun hHw1 => ?_)
        clear hK K hHeld
        try simp only [Act.put, List.setIfInBounds_toArray, List.set_cons_zero, List.set_cons_succ]
        refine wpAnyH_ready (rs := [4, 6]) (by kernel_rfl) (by simp) ?_
        refine AllReadyH.cons (o := { dst := some 16, op := Op.load 35 (Operand.tmp 15), type := 35, pos := "ref.go:23", after := #[{ on := 3, ground := Ground.data }], guard := none }) rfl (fun K hK => ?_) (AllReadyH.cons (o := { dst := some 18, op := Op.convert 31 9 (Operand.tmp 17), type := 9, pos := "ref.go:23", after := #[{ on := 5, ground := Ground.data }], guard := none }) rfl (fun K hK => ?_) AllReadyH.nil)
        · have hcl := ((hX.out.below BM.out hX.out.lt)).cellAt (i := 0) rfl
          go_simp
          clear hcl
          refine hK.out _ _ trivial (fun hHw2 => ?_)
          clear hK K hHw1
          try simp only [Act.put, List.setIfInBounds_toArray, List.set_cons_zero, List.set_cons_succ]
          refine wpAnyH_ready (rs := [6]) (by kernel_rfl) (by simp) ?_
          refine AllReadyH.cons (o := { dst := some 18, op := Op.convert 31 9 (Operand.tmp 17), type := 9, pos := "ref.go:23", after := #[{ on := 5, ground := Ground.data }], guard := none }) rfl (fun K hK => ?_) AllReadyH.nil
          have hcv : (convert 31 9 (.slice (some ⟨wr.heap.size, 0, none⟩) 256 256)).run Try.prog wm = .ok (.string Z) wm := by rw [HZ.out]; exact conv_str NM.out 256 256 (List.length_replicate ..)
          go_simp
          clear hcv
          refine hK.out _ _ trivial (fun hHw3 => ?_)
          clear hK K hHw2
          try simp only [Act.put, List.setIfInBounds_toArray, List.set_cons_zero, List.set_cons_succ]
          refine wpAnyH_ready (rs := [7]) (by kernel_rfl) (by simp) ?_
          refine AllReadyH.cons (o := { dst := some 19, op := Op.buildSlice 35 1 #[(0, Operand.tmp 18)], type := 35, pos := "ref.go:23", after := #[{ on := 6, ground := Ground.data }], guard := none }) rfl (fun K hK => ?_) AllReadyH.nil
          go_simp
          obtain ⟨wb, hwb⟩ : ∃ wb, wb = wm.alloc (.cells #[.string Z] 9) := ⟨_, rfl⟩
          rw [← hwb]
          have NB : Hid (Has wb wm.heap.size [.string Z] 9) := Lib.hid (by rw [hwb]; exact Has.new wm _ _)
          have BB : Hid (Below wm.heap.size wm wb) := Lib.hid (by rw [hwb]; exact (Below.refl _ _).alloc (Nat.le_refl _) _)
          clear hwb
          refine hK.out _ _ trivial (fun hHw4 => ?_)
          clear hK K hHw3
          try simp only [Act.put, List.setIfInBounds_toArray, List.set_cons_zero, List.set_cons_succ]
          refine wpAnyH_ready (rs := [8]) (by kernel_rfl) (by simp) ?_
          refine AllReadyH.cons (o := { dst := some 20, op := Op.call { callee := Callee.builtin Builtin.append, args := #[Operand.tmp 16, Operand.tmp 19], argTypes := #[35, 35] }, type := 35, pos := "ref.go:23", after := #[{ on := 4, ground := Ground.data }, { on := 7, ground := Ground.data }], guard := none }) rfl (fun K hK => ?_) AllReadyH.nil
          rw [if_pos (by rfl)]
          have ow := ownsRow_below (ownsRow_below hV.out BM.out) BB.out
          have hR1 : R ≤ wb.heap.size := Nat.le_trans (Nat.le_of_lt hX.out.lt) (Nat.le_trans BM.out.size BB.out.size)
          refine wp_append_lies _ (.tmp 16) (.tmp 19) 35 rfl R 9 i0 (.string ⟨#[]⟩) 1 16 Try.underlying35 HI.out HZ0.out HZ1.out HZ2.out rfl (by omega) v k (List.replicate k (.string Z)) rfl ow ⟨wm.heap.size, 0, none⟩ 1 1 [.string Z] rfl rfl (fun j u hj => ?_) (fun u hu => ?_) (by omega) (by unfold maxLen; omega) (by omega) hR1 _ rfl (fun ga capa w5 h5o h5g h5b h5s => ?_)
          · match j, hj with
            | 0, hj => cases hj; rw [Addr.add_lit]; exact NB.out.cellAt (i := 0) rfl
            | j + 1, hj => simp at hj
          · simp at hu; subst hu; rfl
          have hx3 := (hX.out.below BM.out hX.out.lt).below BB.out (hX.out.below BM.out hX.out.lt).lt
          have P5 := Lib.hid (has_grown hx3 h5g (Ne.symm (own_type ow hx3 (by decide))))
          have O5 := Lib.hid h5o
          have B5 : Hid (Below R w w5) := Lib.hid ((hB.out.trans ((BM.out.mono (Nat.le_of_lt hX.out.lt)).trans (BB.out.mono (Nat.le_trans (Nat.le_of_lt hX.out.lt) BM.out.size)))).grown h5g hR1 (fun k hk => (ow.lt k hk).1))
          clear h5o h5g h5b h5s ow hx3
          refine hK.out _ _ trivial (fun hHw5 => ?_)
          clear hK K hHw4
          try simp only [Act.put, List.setIfInBounds_toArray, List.set_cons_zero, List.set_cons_succ]
          refine wpAnyH_take (i := 9) (oi := { dst := some 21, op := Op.nilCheck (Operand.tmp 12), type := 0, pos := "ref.go:23", after := #[{ on := 0, ground := Ground.data }, { on := 0, ground := Ground.phase }, { on := 1, ground := Ground.phase }, { on := 2, ground := Ground.phase }, { on := 3, ground := Ground.phase }, { on := 4, ground := Ground.phase }, { on := 5, ground := Ground.phase }, { on := 6, ground := Ground.phase }, { on := 7, ground := Ground.phase }, { on := 8, ground := Ground.phase }], guard := none }) (v := .pointer (some ⟨R, 0, none⟩)) rfl (by kernel_rfl) (by kernel_rfl) (by kernel_rfl) (fun _ _ _ h => h)
            (Or.inl ⟨by rfl, by intro w hSw;  clear hSw; go_simp⟩) hHw5 ?_
          try simp only [Act.put, List.setIfInBounds_toArray, List.set_cons_zero, List.set_cons_succ]
          refine wpAnyH_take (i := 10) (oi := { dst := some 22, op := Op.fieldAddr 38 (Operand.tmp 21) 0, type := 0, pos := "ref.go:23", after := #[{ on := 9, ground := Ground.data }, { on := 0, ground := Ground.phase }, { on := 1, ground := Ground.phase }, { on := 2, ground := Ground.phase }, { on := 3, ground := Ground.phase }, { on := 4, ground := Ground.phase }, { on := 5, ground := Ground.phase }, { on := 6, ground := Ground.phase }, { on := 7, ground := Ground.phase }, { on := 8, ground := Ground.phase }], guard := none }) (v := .pointer (some ⟨R, 0, none⟩)) rfl (by kernel_rfl) (by kernel_rfl) (by kernel_rfl) (fun _ _ _ h => h)
            (Or.inl ⟨by rfl, by intro w hSw;  clear hSw; go_simp⟩) hHw5 ?_
          try simp only [Act.put, List.setIfInBounds_toArray, List.set_cons_zero, List.set_cons_succ]
          refine wpAnyH_ready (rs := [11]) (by kernel_rfl) (by simp) ?_
          refine AllReadyH.cons (o := { dst := none, op := Op.store 35 (Operand.tmp 22) (Operand.tmp 20), type := 0, pos := "ref.go:23", after := #[{ on := 10, ground := Ground.data }, { on := 8, ground := Ground.data }, { on := 8, ground := Ground.chain }, { on := 0, ground := Ground.phase }, { on := 1, ground := Ground.phase }, { on := 2, ground := Ground.phase }, { on := 3, ground := Ground.phase }, { on := 4, ground := Ground.phase }, { on := 5, ground := Ground.phase }, { on := 6, ground := Ground.phase }, { on := 7, ground := Ground.phase }, { on := 8, ground := Ground.phase }], guard := none }) rfl (fun K hK => ?_) AllReadyH.nil
          have hc5 := P5.out.cellAt (i := 0) rfl
          have hf5 := P5.out.frozen 0
          go_simp
          clear hc5 hf5
          refine hK.out _ _ trivial (fun hHw6 => ?_)
          clear hK K hHw5
          try simp only [Act.put]
          refine wpAnyH_done (by kernel_rfl) ?_ _
          clear hHw6
          go_wp2_with fail
          go_roundw
          case rel =>
            refine ⟨k + 1, .slice (some ⟨ga, 0, none⟩) (k + 1) capa, by omega, by go_num, Lib.hid (P5.out.set 0 _), Lib.hid ?_, Lib.hid (B5.out.setCell (p := ⟨R, 0, none⟩) (Nat.le_refl _) _)⟩
            rw [List.replicate_succ']
            exact ownsRow_but O5.out ((But.refl _ _ _).setB 0 _) (Nat.le_refl _) (own_type O5.out P5.out (by decide))
          case measure => simp [intOf]; omega
        · have hcv : (convert 31 9 (.slice (some ⟨wr.heap.size, 0, none⟩) 256 256)).run Try.prog wm = .ok (.string Z) wm := by rw [HZ.out]; exact conv_str NM.out 256 256 (List.length_replicate ..)
          go_simp
          clear hcv
          refine hK.out _ _ trivial (fun hHw2 => ?_)
          clear hK K hHw1
          try simp only [Act.put, List.setIfInBounds_toArray, List.set_cons_zero, List.set_cons_succ]
          refine wpAnyH_ready (rs := [4, 7]) (by kernel_rfl) (by simp) ?_
          refine AllReadyH.cons (o := { dst := some 16, op := Op.load 35 (Operand.tmp 15), type := 35, pos := "ref.go:23", after := #[{ on := 3, ground := Ground.data }], guard := none }) rfl (fun K hK => ?_) (AllReadyH.cons (o := { dst := some 19, op := Op.buildSlice 35 1 #[(0, Operand.tmp 18)], type := 35, pos := "ref.go:23", after := #[{ on := 6, ground := Ground.data }], guard := none }) rfl (fun K hK => ?_) AllReadyH.nil)
          · have hcl := ((hX.out.below BM.out hX.out.lt)).cellAt (i := 0) rfl
            go_simp
            clear hcl
            refine hK.out _ _ trivial (fun hHw3 => ?_)
            clear hK K hHw2
            try simp only [Act.put, List.setIfInBounds_toArray, List.set_cons_zero, List.set_cons_succ]
            refine wpAnyH_ready (rs := [7]) (by kernel_rfl) (by simp) ?_
            refine AllReadyH.cons (o := { dst := some 19, op := Op.buildSlice 35 1 #[(0, Operand.tmp 18)], type := 35, pos := "ref.go:23", after := #[{ on := 6, ground := Ground.data }], guard := none }) rfl (fun K hK => ?_) AllReadyH.nil
            go_simp
            obtain ⟨wb, hwb⟩ : ∃ wb, wb = wm.alloc (.cells #[.string Z] 9) := ⟨_, rfl⟩
            rw [← hwb]
            have NB : Hid (Has wb wm.heap.size [.string Z] 9) := Lib.hid (by rw [hwb]; exact Has.new wm _ _)
            have BB : Hid (Below wm.heap.size wm wb) := Lib.hid (by rw [hwb]; exact (Below.refl _ _).alloc (Nat.le_refl _) _)
            clear hwb
            refine hK.out _ _ trivial (fun hHw4 => ?_)
            clear hK K hHw3
            try simp only [Act.put, List.setIfInBounds_toArray, List.set_cons_zero, List.set_cons_succ]
            refine wpAnyH_ready (rs := [8]) (by kernel_rfl) (by simp) ?_
            refine AllReadyH.cons (o := { dst := some 20, op := Op.call { callee := Callee.builtin Builtin.append, args := #[Operand.tmp 16, Operand.tmp 19], argTypes := #[35, 35] }, type := 35, pos := "ref.go:23", after := #[{ on := 4, ground := Ground.data }, { on := 7, ground := Ground.data }], guard := none }) rfl (fun K hK => ?_) AllReadyH.nil
            rw [if_pos (by rfl)]
            have ow := ownsRow_below (ownsRow_below hV.out BM.out) BB.out
            have hR1 : R ≤ wb.heap.size := Nat.le_trans (Nat.le_of_lt hX.out.lt) (Nat.le_trans BM.out.size BB.out.size)
            refine wp_append_lies _ (.tmp 16) (.tmp 19) 35 rfl R 9 i0 (.string ⟨#[]⟩) 1 16 Try.underlying35 HI.out HZ0.out HZ1.out HZ2.out rfl (by omega) v k (List.replicate k (.string Z)) rfl ow ⟨wm.heap.size, 0, none⟩ 1 1 [.string Z] rfl rfl (fun j u hj => ?_) (fun u hu => ?_) (by omega) (by unfold maxLen; omega) (by omega) hR1 _ rfl (fun ga capa w5 h5o h5g h5b h5s => ?_)
            · match j, hj with
              | 0, hj => cases hj; rw [Addr.add_lit]; exact NB.out.cellAt (i := 0) rfl
              | j + 1, hj => simp at hj
            · simp at hu; subst hu; rfl
            have hx3 := (hX.out.below BM.out hX.out.lt).below BB.out (hX.out.below BM.out hX.out.lt).lt
            have P5 := Lib.hid (has_grown hx3 h5g (Ne.symm (own_type ow hx3 (by decide))))
            have O5 := Lib.hid h5o
            have B5 : Hid (Below R w w5) := Lib.hid ((hB.out.trans ((BM.out.mono (Nat.le_of_lt hX.out.lt)).trans (BB.out.mono (Nat.le_trans (Nat.le_of_lt hX.out.lt) BM.out.size)))).grown h5g hR1 (fun k hk => (ow.lt k hk).1))
            clear h5o h5g h5b h5s ow hx3
            refine hK.out _ _ trivial (fun hHw5 => ?_)
            clear hK K hHw4
            try simp only [Act.put, List.setIfInBounds_toArray, List.set_cons_zero, List.set_cons_succ]
            refine wpAnyH_take (i := 9) (oi := { dst := some 21, op := Op.nilCheck (Operand.tmp 12), type := 0, pos := "ref.go:23", after := #[{ on := 0, ground := Ground.data }, { on := 0, ground := Ground.phase }, { on := 1, ground := Ground.phase }, { on := 2, ground := Ground.phase }, { on := 3, ground := Ground.phase }, { on := 4, ground := Ground.phase }, { on := 5, ground := Ground.phase }, { on := 6, ground := Ground.phase }, { on := 7, ground := Ground.phase }, { on := 8, ground := Ground.phase }], guard := none }) (v := .pointer (some ⟨R, 0, none⟩)) rfl (by kernel_rfl) (by kernel_rfl) (by kernel_rfl) (fun _ _ _ h => h)
              (Or.inl ⟨by rfl, by intro w hSw;  clear hSw; go_simp⟩) hHw5 ?_
            try simp only [Act.put, List.setIfInBounds_toArray, List.set_cons_zero, List.set_cons_succ]
            refine wpAnyH_take (i := 10) (oi := { dst := some 22, op := Op.fieldAddr 38 (Operand.tmp 21) 0, type := 0, pos := "ref.go:23", after := #[{ on := 9, ground := Ground.data }, { on := 0, ground := Ground.phase }, { on := 1, ground := Ground.phase }, { on := 2, ground := Ground.phase }, { on := 3, ground := Ground.phase }, { on := 4, ground := Ground.phase }, { on := 5, ground := Ground.phase }, { on := 6, ground := Ground.phase }, { on := 7, ground := Ground.phase }, { on := 8, ground := Ground.phase }], guard := none }) (v := .pointer (some ⟨R, 0, none⟩)) rfl (by kernel_rfl) (by kernel_rfl) (by kernel_rfl) (fun _ _ _ h => h)
              (Or.inl ⟨by rfl, by intro w hSw;  clear hSw; go_simp⟩) hHw5 ?_
            try simp only [Act.put, List.setIfInBounds_toArray, List.set_cons_zero, List.set_cons_succ]
            refine wpAnyH_ready (rs := [11]) (by kernel_rfl) (by simp) ?_
            refine AllReadyH.cons (o := { dst := none, op := Op.store 35 (Operand.tmp 22) (Operand.tmp 20), type := 0, pos := "ref.go:23", after := #[{ on := 10, ground := Ground.data }, { on := 8, ground := Ground.data }, { on := 8, ground := Ground.chain }, { on := 0, ground := Ground.phase }, { on := 1, ground := Ground.phase }, { on := 2, ground := Ground.phase }, { on := 3, ground := Ground.phase }, { on := 4, ground := Ground.phase }, { on := 5, ground := Ground.phase }, { on := 6, ground := Ground.phase }, { on := 7, ground := Ground.phase }, { on := 8, ground := Ground.phase }], guard := none }) rfl (fun K hK => ?_) AllReadyH.nil
            have hc5 := P5.out.cellAt (i := 0) rfl
            have hf5 := P5.out.frozen 0
            go_simp
            clear hc5 hf5
            refine hK.out _ _ trivial (fun hHw6 => ?_)
            clear hK K hHw5
            try simp only [Act.put]
            refine wpAnyH_done (by kernel_rfl) ?_ _
            clear hHw6
            go_wp2_with fail
            go_roundw
            case rel =>
              refine ⟨k + 1, .slice (some ⟨ga, 0, none⟩) (k + 1) capa, by omega, by go_num, Lib.hid (P5.out.set 0 _), Lib.hid ?_, Lib.hid (B5.out.setCell (p := ⟨R, 0, none⟩) (Nat.le_refl _) _)⟩
              rw [List.replicate_succ']
              exact ownsRow_but O5.out ((But.refl _ _ _).setB 0 _) (Nat.le_refl _) (own_type O5.out P5.out (by decide))
            case measure => simp [intOf]; omega
          · go_simp
            obtain ⟨wb, hwb⟩ : ∃ wb, wb = wm.alloc (.cells #[.string Z] 9) := ⟨_, rfl⟩
            rw [← hwb]
            have NB : Hid (Has wb wm.heap.size [.string Z] 9) := Lib.hid (by rw [hwb]; exact Has.new wm _ _)
            have BB : Hid (Below wm.heap.size wm wb) := Lib.hid (by rw [hwb]; exact (Below.refl _ _).alloc (Nat.le_refl _) _)
            clear hwb
            refine hK.out _ _ trivial (fun hHw3 => ?_)
            clear hK K hHw2
            try simp only [Act.put, List.setIfInBounds_toArray, List.set_cons_zero, List.set_cons_succ]
            refine wpAnyH_ready (rs := [4]) (by kernel_rfl) (by simp) ?_
            refine AllReadyH.cons (o := { dst := some 16, op := Op.load 35 (Operand.tmp 15), type := 35, pos := "ref.go:23", after := #[{ on := 3, ground := Ground.data }], guard := none }) rfl (fun K hK => ?_) AllReadyH.nil
            have hcl := (((hX.out.below BM.out hX.out.lt).below BB.out (hX.out.below BM.out hX.out.lt).lt)).cellAt (i := 0) rfl
            go_simp
            clear hcl
            refine hK.out _ _ trivial (fun hHw4 => ?_)
            clear hK K hHw3
            try simp only [Act.put, List.setIfInBounds_toArray, List.set_cons_zero, List.set_cons_succ]
            refine wpAnyH_ready (rs := [8]) (by kernel_rfl) (by simp) ?_
            refine AllReadyH.cons (o := { dst := some 20, op := Op.call { callee := Callee.builtin Builtin.append, args := #[Operand.tmp 16, Operand.tmp 19], argTypes := #[35, 35] }, type := 35, pos := "ref.go:23", after := #[{ on := 4, ground := Ground.data }, { on := 7, ground := Ground.data }], guard := none }) rfl (fun K hK => ?_) AllReadyH.nil
            rw [if_pos (by rfl)]
            have ow := ownsRow_below (ownsRow_below hV.out BM.out) BB.out
            have hR1 : R ≤ wb.heap.size := Nat.le_trans (Nat.le_of_lt hX.out.lt) (Nat.le_trans BM.out.size BB.out.size)
            refine wp_append_lies _ (.tmp 16) (.tmp 19) 35 rfl R 9 i0 (.string ⟨#[]⟩) 1 16 Try.underlying35 HI.out HZ0.out HZ1.out HZ2.out rfl (by omega) v k (List.replicate k (.string Z)) rfl ow ⟨wm.heap.size, 0, none⟩ 1 1 [.string Z] rfl rfl (fun j u hj => ?_) (fun u hu => ?_) (by omega) (by unfold maxLen; omega) (by omega) hR1 _ rfl (fun ga capa w5 h5o h5g h5b h5s => ?_)
            · match j, hj with
              | 0, hj => cases hj; rw [Addr.add_lit]; exact NB.out.cellAt (i := 0) rfl
              | j + 1, hj => simp at hj
            · simp at hu; subst hu; rfl
            have hx3 := (hX.out.below BM.out hX.out.lt).below BB.out (hX.out.below BM.out hX.out.lt).lt
            have P5 := Lib.hid (has_grown hx3 h5g (Ne.symm (own_type ow hx3 (by decide))))
            have O5 := Lib.hid h5o
            have B5 : Hid (Below R w w5) := Lib.hid ((hB.out.trans ((BM.out.mono (Nat.le_of_lt hX.out.lt)).trans (BB.out.mono (Nat.le_trans (Nat.le_of_lt hX.out.lt) BM.out.size)))).grown h5g hR1 (fun k hk => (ow.lt k hk).1))
            clear h5o h5g h5b h5s ow hx3
            refine hK.out _ _ trivial (fun hHw5 => ?_)
            clear hK K hHw4
            try simp only [Act.put, List.setIfInBounds_toArray, List.set_cons_zero, List.set_cons_succ]
            refine wpAnyH_take (i := 9) (oi := { dst := some 21, op := Op.nilCheck (Operand.tmp 12), type := 0, pos := "ref.go:23", after := #[{ on := 0, ground := Ground.data }, { on := 0, ground := Ground.phase }, { on := 1, ground := Ground.phase }, { on := 2, ground := Ground.phase }, { on := 3, ground := Ground.phase }, { on := 4, ground := Ground.phase }, { on := 5, ground := Ground.phase }, { on := 6, ground := Ground.phase }, { on := 7, ground := Ground.phase }, { on := 8, ground := Ground.phase }], guard := none }) (v := .pointer (some ⟨R, 0, none⟩)) rfl (by kernel_rfl) (by kernel_rfl) (by kernel_rfl) (fun _ _ _ h => h)
              (Or.inl ⟨by rfl, by intro w hSw;  clear hSw; go_simp⟩) hHw5 ?_
            try simp only [Act.put, List.setIfInBounds_toArray, List.set_cons_zero, List.set_cons_succ]
            refine wpAnyH_take (i := 10) (oi := { dst := some 22, op := Op.fieldAddr 38 (Operand.tmp 21) 0, type := 0, pos := "ref.go:23", after := #[{ on := 9, ground := Ground.data }, { on := 0, ground := Ground.phase }, { on := 1, ground := Ground.phase }, { on := 2, ground := Ground.phase }, { on := 3, ground := Ground.phase }, { on := 4, ground := Ground.phase }, { on := 5, ground := Ground.phase }, { on := 6, ground := Ground.phase }, { on := 7, ground := Ground.phase }, { on := 8, ground := Ground.phase }], guard := none }) (v := .pointer (some ⟨R, 0, none⟩)) rfl (by kernel_rfl) (by kernel_rfl) (by kernel_rfl) (fun _ _ _ h => h)
              (Or.inl ⟨by rfl, by intro w hSw;  clear hSw; go_simp⟩) hHw5 ?_
            try simp only [Act.put, List.setIfInBounds_toArray, List.set_cons_zero, List.set_cons_succ]
            refine wpAnyH_ready (rs := [11]) (by kernel_rfl) (by simp) ?_
            refine AllReadyH.cons (o := { dst := none, op := Op.store 35 (Operand.tmp 22) (Operand.tmp 20), type := 0, pos := "ref.go:23", after := #[{ on := 10, ground := Ground.data }, { on := 8, ground := Ground.data }, { on := 8, ground := Ground.chain }, { on := 0, ground := Ground.phase }, { on := 1, ground := Ground.phase }, { on := 2, ground := Ground.phase }, { on := 3, ground := Ground.phase }, { on := 4, ground := Ground.phase }, { on := 5, ground := Ground.phase }, { on := 6, ground := Ground.phase }, { on := 7, ground := Ground.phase }, { on := 8, ground := Ground.phase }], guard := none }) rfl (fun K hK => ?_) AllReadyH.nil
            have hc5 := P5.out.cellAt (i := 0) rfl
            have hf5 := P5.out.frozen 0
            go_simp
            clear hc5 hf5
            refine hK.out _ _ trivial (fun hHw6 => ?_)
            clear hK K hHw5
            try simp only [Act.put]
            refine wpAnyH_done (by kernel_rfl) ?_ _
            clear hHw6
            go_wp2_with fail
            go_roundw
            case rel =>
              refine ⟨k + 1, .slice (some ⟨ga, 0, none⟩) (k + 1) capa, by omega, by go_num, Lib.hid (P5.out.set 0 _), Lib.hid ?_, Lib.hid (B5.out.setCell (p := ⟨R, 0, none⟩) (Nat.le_refl _) _)⟩
              rw [List.replicate_succ']
              exact ownsRow_but O5.out ((But.refl _ _ _).setB 0 _) (Nat.le_refl _) (own_type O5.out P5.out (by decide))
            case measure => simp [intOf]; omega
    · obtain rfl : k = n := by omega
      have hki : ¬ (k : Int) < (k : Int) := by omega
      go_wp2_with fail
      go_ret
      refine ⟨R, v, rfl, ⟨hX.out, ?_, World.ownsRow_nil _ _ _ _, by simp [zer], Good.nil k, Nat.le_of_eq HR.out.symm, by omega⟩, by rw [← HR.out]; exact hB.out⟩
      rw [strV_zer, ← HZ.out, ← HR.out]
      exact hV.out

end Go.Proofs.Ytjidiholhhdanaa

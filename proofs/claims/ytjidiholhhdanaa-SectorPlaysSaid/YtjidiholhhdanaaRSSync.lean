/-
  The contract of the reference's Sync. Conditions: the reference's device.
-/
import Derived.Test.YtjidiholhhdanaaRSGet
namespace Go.Proofs.Ytjidiholhhdanaa
open Go.RowKit
set_option linter.unusedVariables false
set_option maxRecDepth 100000

theorem rsync_off {w : World} {B rp : Nat} {vl vw : Value} {n : Nat} {D : List UInt8} {way : List Wr} {left : Nat} {ops : Nat} (h : RDev w B rp vl vw n D way left true ops) :
    Calls Try.prog 24 #[.pointer (some ⟨rp, 0, none⟩)] w fun e w' => e = .returned (.int .i64 14) ∧ w = w' := by
  have c3 := h.box.cellAt (i := 3) rfl
  clear h
  go_enter Try.func24, Try.ntmps24
  go_wp2_with fail
  go_ret
  exact ⟨rfl, rfl⟩
theorem rsync_fall {w : World} {B rp : Nat} {vl vw : Value} {n : Nat} {D : List UInt8} {way : List Wr} {left : Nat} {ops : Nat} (h : RDev w B rp vl vw n D way left false ops) (hl : left = 1) (ho : ops < 4611686018427387904) :
    Calls Try.prog 24 #[.pointer (some ⟨rp, 0, none⟩)] w fun e w' => e = .returned (.int .i64 14) ∧ RDev w' B rp vl vw n D way (left - 1) true (ops + 1) ∧ Kp refT B w w' := by
  have HBEG := Lib.hid (rbegin_any h.box (by omega) ho true (by rw [hl]; rfl))
  have c3 := h.box.cellAt (i := 3) rfl
  have HH := Lib.hid h
  clear h hl
  go_enter Try.func24, Try.ntmps24
  go_wp2_with fail
  refine HBEG.out.mono ?_
  rintro e w1 ⟨rfl, hx1, hb1⟩
  go_wp2_with fail
  go_ret
  exact ⟨rfl, HH.out.boxed hx1 hb1, Kp.of_but hb1 HH.out.rpB HH.out.box (by decide)⟩

set_option maxHeartbeats 8000000 in
theorem rsync_ok {w : World} {B rp : Nat} {vl vw : Value} {n : Nat} {D : List UInt8} {way : List Wr} {left : Nat} {ops : Nat} (h : RDev w B rp vl vw n D way left false ops) (hl : left ≠ 1) (hl2 : left ≤ 9223372036854775807) (ho : ops < 4611686018427387904) (hw : way.length ≤ 100000) (hn : 0 < n) :
    Calls Try.prog 24 #[.pointer (some ⟨rp, 0, none⟩)] w fun e w' => e = .returned (.int .i64 0) ∧ RDev w' B rp vl (.slice none 0 0) n (syncK way D way.length) [] (left - 1) false (ops + 1) ∧ Kp refT B w w' := by
  have HBEG := Lib.hid (rbegin_any h.box hl2 ho false (by simp [hl]))
  have c3 := h.box.cellAt (i := 3) rfl
  have HH := Lib.hid h
  obtain ⟨lg, lc, rfl, _, _⟩ := h.line hn
  obtain ⟨va, vc, rfl⟩ := h.vform
  clear h hl
  go_enter Try.func24, Try.ntmps24
  go_wp2_with fail
  refine HBEG.out.mono ?_
  rintro e w1 ⟨rfl, hx1, hb1⟩
  have D1 : Hid (RDev w1 B rp (.slice (some ⟨lg, 0, none⟩) n lc) (.slice va way.length vc) n D way (left - 1) false (ops + 1)) := Lib.hid (HH.out.boxed hx1 hb1)
  have K1 : Hid (Kp refT B w w1) := Lib.hid (Kp.of_but hb1 HH.out.rpB HH.out.box (by decide))
  clear hx1 hb1 c3 HBEG HH
  go_wp2_with fail
  go_loopw [3] (fun ii wr => ∃ k : Nat, k ≤ way.length ∧ ii = .int .i64 k ∧ Hid (RDev wr B rp (.slice (some ⟨lg, 0, none⟩) n lc) (.slice va way.length vc) n (syncK way D k) way (left - 1) false (ops + 1)) ∧ Hid (Kp refT B w wr)) (fun ii _ => way.length - (intOf ii).toNat)
  case atStart => exact ⟨0, Nat.zero_le _, rfl, D1, K1⟩
  case round =>
    clear D1 K1
    obtain ⟨k, hk, rfl, hd, hkp⟩ := hrel
    have c1 := hd.out.box.cellAt (i := 1) rfl
    by_cases hlt : k < way.length
    · have hki : (k : Int) < (way.length : Int) := by omega
      obtain ⟨g, cp, hv, ce, cs⟩ := hd.out.elem hlt
      obtain ⟨rfl, rfl⟩ : va = some ⟨g, 0, none⟩ ∧ vc = cp := by cases hv; exact ⟨rfl, rfl⟩
      obtain ⟨i, hi⟩ : ∃ i, i = (way.getD k (0, [])).1 := ⟨_, rfl⟩
      have hin : i < n := by rw [hi]; exact (hd.out.good k hlt).1
      have hp := (hd.out.good k hlt).2
      obtain ⟨lg', lc', hlv, cl, fl⟩ := hd.out.line hin
      obtain ⟨rfl, rfl⟩ : lg' = lg ∧ lc' = lc := by cases hlv; exact ⟨rfl, rfl⟩
      have hsk : syncK way D (k + 1) = landL (syncK way D k) (way.getD k (0, [])) 256 := rfl
      have hD : (syncK way D (k + 1)).length = 256 * n := by rw [hsk]; exact landL_length hd.out.dl (hd.out.good k hlt).1 hp
      have hsi : sec (syncK way D (k + 1)) i = (way.getD k (0, [])).2 := by
        rw [hsk]; unfold landL
        rw [List.take_of_length_le (Nat.le_of_eq hp), hi, sec_splice_same hd.out.dl (hd.out.good k hlt).1 hp]
      have hso : ∀ j, j < n → j ≠ i → sec (syncK way D (k + 1)) j = sec (syncK way D k) j := by
        intro j hj hne
        rw [hsk]; unfold landL
        rw [sec_splice_other hd.out.dl (hd.out.good k hlt).1 hj (by rw [List.length_take]; omega) (by rw [← hi]; exact hne)]
      have HLD := Lib.hid (hd.out.laid hin hD hso)
      rw [hsi] at HLD
      rw [← hi] at ce
      obtain ⟨s, hs⟩ : ∃ s, s = bs (way.getD k (0, [])).2 := ⟨_, rfl⟩
      rw [← hs] at cs HLD
      have c0 := hd.out.box.cellAt (i := 0) rfl
      have hini : (i : Int) < (n : Int) := by omega
      obtain ⟨old, ho2⟩ : ∃ old, old = bs (sec (syncK way D k) i) := ⟨_, rfl⟩
      rw [← ho2] at cl
      clear hv hlv hi hp hsk hD hsi hso hs ho2
      have HS : Hid (∀ W : World, W.heap = wr.heap → (W.cell? ⟨rp, 0, none⟩ = some (.slice (some ⟨lg', 0, none⟩) n lc') ∧ W.cell? ⟨rp, 1, none⟩ = some (.slice (some ⟨g, 0, none⟩) way.length vc) ∧ W.cell? ⟨g, k * 2, none⟩ = some (.int .i64 (i : Int)) ∧ W.cell? ⟨g, k * 2 + 1, none⟩ = some (.string s))) := Lib.hid (fun W e => by
        refine ⟨(World.cell?_of_block (by rw [e])).trans c0, (World.cell?_of_block (by rw [e])).trans c1, (World.cell?_of_block (by rw [e])).trans ce, (World.cell?_of_block (by rw [e])).trans cs⟩)
      have HN : Hid (rp ≠ lg' ∧ g ≠ lg') := Lib.hid ⟨fun e => own_type hd.out.strs hd.out.box (by decide) (by rw [e]; rfl), fun e => by
        rcases own_apart hd.out.strs hd.out.wrs (by decide) with h | h
        · exact h (by rw [e]; rfl)
        · cases h⟩
      go_upto_region 6 with fail
      refine wp_region_held_drew (S := fun W => W.cell? ⟨rp, 0, none⟩ = some (.slice (some ⟨lg', 0, none⟩) n lc') ∧ W.cell? ⟨rp, 1, none⟩ = some (.slice (some ⟨g, 0, none⟩) way.length vc) ∧ W.cell? ⟨g, k * 2, none⟩ = some (.int .i64 (i : Int)) ∧ W.cell? ⟨g, k * 2 + 1, none⟩ = some (.string s)) (by kernel_rfl) (HS.out wr.drew rfl) (fun hHeld => ?_)
      refine wpAnyH_take (i := 0) (oi := { dst := some 22, op := Op.move (Operand.tmp 0), type := 28, pos := "ref.go:81", after := #[], guard := none }) (v := .pointer (some ⟨rp, 0, none⟩)) rfl (by kernel_rfl) (by kernel_rfl) (by kernel_rfl) (fun _ _ _ h => h)
        (Or.inl ⟨by rfl, by intro w hSw;  clear hSw; go_simp⟩) hHeld ?_
      try simp only [Act.put, List.setIfInBounds_toArray, List.set_cons_zero, List.set_cons_succ]
      refine wpAnyH_take (i := 1) (oi := { dst := some 23, op := Op.nilCheck (Operand.tmp 22), type := 0, pos := "ref.go:81", after := #[{ on := 0, ground := Ground.data }], guard := none }) (v := .pointer (some ⟨rp, 0, none⟩)) rfl (by kernel_rfl) (by kernel_rfl) (by kernel_rfl) (fun _ _ _ h => h)
        (Or.inl ⟨by rfl, by intro w hSw;  clear hSw; go_simp⟩) hHeld ?_
      try simp only [Act.put, List.setIfInBounds_toArray, List.set_cons_zero, List.set_cons_succ]
      refine wpAnyH_take (i := 2) (oi := { dst := some 24, op := Op.fieldAddr 38 (Operand.tmp 23) 0, type := 0, pos := "ref.go:81", after := #[{ on := 1, ground := Ground.data }], guard := none }) (v := .pointer (some ⟨rp, 0, none⟩)) rfl (by kernel_rfl) (by kernel_rfl) (by kernel_rfl) (fun _ _ _ h => h)
        (Or.inl ⟨by rfl, by intro w hSw;  clear hSw; go_simp⟩) hHeld ?_
      try simp only [Act.put, List.setIfInBounds_toArray, List.set_cons_zero, List.set_cons_succ]
      refine wpAnyH_take (i := 3) (oi := { dst := some 25, op := Op.load 35 (Operand.tmp 24), type := 35, pos := "ref.go:81", after := #[{ on := 2, ground := Ground.data }], guard := none }) (v := .slice (some ⟨lg', 0, none⟩) n lc') rfl (by kernel_rfl) (by kernel_rfl) (by kernel_rfl) (fun _ _ _ h => h)
        (Or.inl ⟨by rfl, by intro w hSw; have s0 := hSw.1; clear hSw; go_simp⟩) hHeld ?_
      try simp only [Act.put, List.setIfInBounds_toArray, List.set_cons_zero, List.set_cons_succ]
      refine wpAnyH_take (i := 4) (oi := { dst := some 26, op := Op.move (Operand.tmp 0), type := 28, pos := "ref.go:81", after := #[], guard := none }) (v := .pointer (some ⟨rp, 0, none⟩)) rfl (by kernel_rfl) (by kernel_rfl) (by kernel_rfl) (fun _ _ _ h => h)
        (Or.inl ⟨by rfl, by intro w hSw;  clear hSw; go_simp⟩) hHeld ?_
      try simp only [Act.put, List.setIfInBounds_toArray, List.set_cons_zero, List.set_cons_succ]
      refine wpAnyH_take (i := 5) (oi := { dst := some 27, op := Op.nilCheck (Operand.tmp 26), type := 0, pos := "ref.go:81", after := #[{ on := 4, ground := Ground.data }], guard := none }) (v := .pointer (some ⟨rp, 0, none⟩)) rfl (by kernel_rfl) (by kernel_rfl) (by kernel_rfl) (fun _ _ _ h => h)
        (Or.inl ⟨by rfl, by intro w hSw;  clear hSw; go_simp⟩) hHeld ?_
      try simp only [Act.put, List.setIfInBounds_toArray, List.set_cons_zero, List.set_cons_succ]
      refine wpAnyH_take (i := 6) (oi := { dst := some 28, op := Op.fieldAddr 38 (Operand.tmp 27) 1, type := 0, pos := "ref.go:81", after := #[{ on := 5, ground := Ground.data }], guard := none }) (v := .pointer (some ⟨rp, 1, none⟩)) rfl (by kernel_rfl) (by kernel_rfl) (by kernel_rfl) (fun _ _ _ h => h)
        (Or.inl ⟨by rfl, by intro w hSw;  clear hSw; go_simp⟩) hHeld ?_
      try simp only [Act.put, List.setIfInBounds_toArray, List.set_cons_zero, List.set_cons_succ]
      refine wpAnyH_take (i := 7) (oi := { dst := some 29, op := Op.load 36 (Operand.tmp 28), type := 36, pos := "ref.go:81", after := #[{ on := 6, ground := Ground.data }], guard := none }) (v := .slice (some ⟨g, 0, none⟩) way.length vc) rfl (by kernel_rfl) (by kernel_rfl) (by kernel_rfl) (fun _ _ _ h => h)
        (Or.inl ⟨by rfl, by intro w hSw; have s1 := hSw.2.1; clear hSw; go_simp⟩) hHeld ?_
      try simp only [Act.put, List.setIfInBounds_toArray, List.set_cons_zero, List.set_cons_succ]
      refine wpAnyH_take (i := 8) (oi := { dst := some 30, op := Op.move (Operand.tmp 3), type := 3, pos := "ref.go:81", after := #[], guard := none }) (v := .int .i64 (k : Int)) rfl (by kernel_rfl) (by kernel_rfl) (by kernel_rfl) (fun _ _ _ h => h)
        (Or.inl ⟨by rfl, by intro w hSw;  clear hSw; go_simp⟩) hHeld ?_
      try simp only [Act.put, List.setIfInBounds_toArray, List.set_cons_zero, List.set_cons_succ]
      refine wpAnyH_take (i := 9) (oi := { dst := some 31, op := Op.indexAddr 36 (Operand.tmp 29) (Operand.tmp 30), type := 0, pos := "ref.go:81", after := #[{ on := 7, ground := Ground.data }, { on := 8, ground := Ground.data }], guard := none }) (v := .pointer (some ⟨g, k * 2, none⟩)) rfl (by kernel_rfl) (by kernel_rfl) (by kernel_rfl) (fun _ _ _ h => h)
        (Or.inl ⟨by rfl, by intro w hSw;  clear hSw; go_simp⟩) hHeld ?_
      try simp only [Act.put, List.setIfInBounds_toArray, List.set_cons_zero, List.set_cons_succ]
      refine wpAnyH_take (i := 10) (oi := { dst := some 32, op := Op.fieldAddr 72 (Operand.tmp 31) 0, type := 0, pos := "ref.go:81", after := #[{ on := 9, ground := Ground.data }], guard := none }) (v := .pointer (some ⟨g, k * 2, none⟩)) rfl (by kernel_rfl) (by kernel_rfl) (by kernel_rfl) (fun _ _ _ h => h)
        (Or.inl ⟨by rfl, by intro w hSw;  clear hSw; go_simp⟩) hHeld ?_
      try simp only [Act.put, List.setIfInBounds_toArray, List.set_cons_zero, List.set_cons_succ]
      refine wpAnyH_take (i := 11) (oi := { dst := some 33, op := Op.load 3 (Operand.tmp 32), type := 3, pos := "ref.go:81", after := #[{ on := 10, ground := Ground.data }], guard := none }) (v := .int .i64 (i : Int)) rfl (by kernel_rfl) (by kernel_rfl) (by kernel_rfl) (fun _ _ _ h => h)
        (Or.inl ⟨by rfl, by intro w hSw; have s2 := hSw.2.2.1; clear hSw; go_simp⟩) hHeld ?_
      try simp only [Act.put, List.setIfInBounds_toArray, List.set_cons_zero, List.set_cons_succ]
      refine wpAnyH_take (i := 12) (oi := { dst := some 34, op := Op.move (Operand.tmp 0), type := 28, pos := "ref.go:81", after := #[], guard := none }) (v := .pointer (some ⟨rp, 0, none⟩)) rfl (by kernel_rfl) (by kernel_rfl) (by kernel_rfl) (fun _ _ _ h => h)
        (Or.inl ⟨by rfl, by intro w hSw;  clear hSw; go_simp⟩) hHeld ?_
      try simp only [Act.put, List.setIfInBounds_toArray, List.set_cons_zero, List.set_cons_succ]
      refine wpAnyH_take (i := 13) (oi := { dst := some 35, op := Op.nilCheck (Operand.tmp 34), type := 0, pos := "ref.go:81", after := #[{ on := 12, ground := Ground.data }], guard := none }) (v := .pointer (some ⟨rp, 0, none⟩)) rfl (by kernel_rfl) (by kernel_rfl) (by kernel_rfl) (fun _ _ _ h => h)
        (Or.inl ⟨by rfl, by intro w hSw;  clear hSw; go_simp⟩) hHeld ?_
      try simp only [Act.put, List.setIfInBounds_toArray, List.set_cons_zero, List.set_cons_succ]
      refine wpAnyH_take (i := 14) (oi := { dst := some 36, op := Op.fieldAddr 38 (Operand.tmp 35) 1, type := 0, pos := "ref.go:81", after := #[{ on := 13, ground := Ground.data }], guard := none }) (v := .pointer (some ⟨rp, 1, none⟩)) rfl (by kernel_rfl) (by kernel_rfl) (by kernel_rfl) (fun _ _ _ h => h)
        (Or.inl ⟨by rfl, by intro w hSw;  clear hSw; go_simp⟩) hHeld ?_
      try simp only [Act.put, List.setIfInBounds_toArray, List.set_cons_zero, List.set_cons_succ]
      refine wpAnyH_take (i := 15) (oi := { dst := some 37, op := Op.load 36 (Operand.tmp 36), type := 36, pos := "ref.go:81", after := #[{ on := 14, ground := Ground.data }], guard := none }) (v := .slice (some ⟨g, 0, none⟩) way.length vc) rfl (by kernel_rfl) (by kernel_rfl) (by kernel_rfl) (fun _ _ _ h => h)
        (Or.inl ⟨by rfl, by intro w hSw; have s1 := hSw.2.1; clear hSw; go_simp⟩) hHeld ?_
      try simp only [Act.put, List.setIfInBounds_toArray, List.set_cons_zero, List.set_cons_succ]
      refine wpAnyH_take (i := 16) (oi := { dst := some 38, op := Op.move (Operand.tmp 3), type := 3, pos := "ref.go:81", after := #[], guard := none }) (v := .int .i64 (k : Int)) rfl (by kernel_rfl) (by kernel_rfl) (by kernel_rfl) (fun _ _ _ h => h)
        (Or.inl ⟨by rfl, by intro w hSw;  clear hSw; go_simp⟩) hHeld ?_
      try simp only [Act.put, List.setIfInBounds_toArray, List.set_cons_zero, List.set_cons_succ]
      refine wpAnyH_take (i := 17) (oi := { dst := some 39, op := Op.indexAddr 36 (Operand.tmp 37) (Operand.tmp 38), type := 0, pos := "ref.go:81", after := #[{ on := 15, ground := Ground.data }, { on := 16, ground := Ground.data }], guard := none }) (v := .pointer (some ⟨g, k * 2, none⟩)) rfl (by kernel_rfl) (by kernel_rfl) (by kernel_rfl) (fun _ _ _ h => h)
        (Or.inl ⟨by rfl, by intro w hSw;  clear hSw; go_simp⟩) hHeld ?_
      try simp only [Act.put, List.setIfInBounds_toArray, List.set_cons_zero, List.set_cons_succ]
      refine wpAnyH_take (i := 18) (oi := { dst := some 40, op := Op.fieldAddr 72 (Operand.tmp 39) 1, type := 0, pos := "ref.go:81", after := #[{ on := 17, ground := Ground.data }], guard := none }) (v := .pointer (some ⟨g, k * 2 + 1, none⟩)) rfl (by kernel_rfl) (by kernel_rfl) (by kernel_rfl) (fun _ _ _ h => h)
        (Or.inl ⟨by rfl, by intro w hSw;  clear hSw; go_simp⟩) hHeld ?_
      try simp only [Act.put, List.setIfInBounds_toArray, List.set_cons_zero, List.set_cons_succ]
      refine wpAnyH_take (i := 19) (oi := { dst := some 41, op := Op.load 9 (Operand.tmp 40), type := 9, pos := "ref.go:81", after := #[{ on := 18, ground := Ground.data }], guard := none }) (v := .string s) rfl (by kernel_rfl) (by kernel_rfl) (by kernel_rfl) (fun _ _ _ h => h)
        (Or.inl ⟨by rfl, by intro w hSw; have s3 := hSw.2.2.2; clear hSw; go_simp⟩) hHeld ?_
      try simp only [Act.put, List.setIfInBounds_toArray, List.set_cons_zero, List.set_cons_succ]
      refine wpAnyH_take (i := 20) (oi := { dst := some 42, op := Op.indexAddr 35 (Operand.tmp 25) (Operand.tmp 33), type := 0, pos := "ref.go:81", after := #[{ on := 3, ground := Ground.data }, { on := 11, ground := Ground.data }, { on := 0, ground := Ground.phase }, { on := 1, ground := Ground.phase }, { on := 2, ground := Ground.phase }, { on := 3, ground := Ground.phase }, { on := 4, ground := Ground.phase }, { on := 5, ground := Ground.phase }, { on := 6, ground := Ground.phase }, { on := 7, ground := Ground.phase }, { on := 8, ground := Ground.phase }, { on := 9, ground := Ground.phase }, { on := 10, ground := Ground.phase }, { on := 11, ground := Ground.phase }, { on := 12, ground := Ground.phase }, { on := 13, ground := Ground.phase }, { on := 14, ground := Ground.phase }, { on := 15, ground := Ground.phase }, { on := 16, ground := Ground.phase }, { on := 17, ground := Ground.phase }, { on := 18, ground := Ground.phase }, { on := 19, ground := Ground.phase }], guard := none }) (v := .pointer (some ⟨lg', i, none⟩)) rfl (by kernel_rfl) (by kernel_rfl) (by kernel_rfl) (fun _ _ _ h => h)
        (Or.inl ⟨by rfl, by intro w hSw;  clear hSw; go_simp⟩) hHeld ?_
      try simp only [Act.put, List.setIfInBounds_toArray, List.set_cons_zero, List.set_cons_succ]
      refine wpAnyH_ready (rs := [21]) (by kernel_rfl) (by simp) ?_
      refine AllReadyH.cons (o := { dst := none, op := Op.store 9 (Operand.tmp 42) (Operand.tmp 41), type := 0, pos := "ref.go:81", after := #[{ on := 20, ground := Ground.data }, { on := 19, ground := Ground.data }, { on := 0, ground := Ground.phase }, { on := 1, ground := Ground.phase }, { on := 2, ground := Ground.phase }, { on := 3, ground := Ground.phase }, { on := 4, ground := Ground.phase }, { on := 5, ground := Ground.phase }, { on := 6, ground := Ground.phase }, { on := 7, ground := Ground.phase }, { on := 8, ground := Ground.phase }, { on := 9, ground := Ground.phase }, { on := 10, ground := Ground.phase }, { on := 11, ground := Ground.phase }, { on := 12, ground := Ground.phase }, { on := 13, ground := Ground.phase }, { on := 14, ground := Ground.phase }, { on := 15, ground := Ground.phase }, { on := 16, ground := Ground.phase }, { on := 17, ground := Ground.phase }, { on := 18, ground := Ground.phase }, { on := 19, ground := Ground.phase }], guard := none }) rfl (fun K hK => ?_) AllReadyH.nil
      have cl2 : wr.drew.cell? ⟨lg', i, none⟩ = some (.string old) := cl
      have fl2 : wr.drew.frozen? ⟨lg', i, none⟩ = false := fl
      go_simp
      clear cl2 fl2
      refine hK.out _ _ ⟨?_, ?_, ?_, ?_⟩ (fun hHw1 => ?_)
      · exact (World.cell?_setCell_far _ ⟨lg', i, none⟩ _ _ (by first | exact Ne.symm HN.out.1 | exact Ne.symm HN.out.2)).trans hHeld.1
      · exact (World.cell?_setCell_far _ ⟨lg', i, none⟩ _ _ (by first | exact Ne.symm HN.out.1 | exact Ne.symm HN.out.2)).trans hHeld.2.1
      · exact (World.cell?_setCell_far _ ⟨lg', i, none⟩ _ _ (by first | exact Ne.symm HN.out.1 | exact Ne.symm HN.out.2)).trans hHeld.2.2.1
      · exact (World.cell?_setCell_far _ ⟨lg', i, none⟩ _ _ (by first | exact Ne.symm HN.out.1 | exact Ne.symm HN.out.2)).trans hHeld.2.2.2
      clear hK K hHeld
      try simp only [Act.put]
      refine wpAnyH_done (by kernel_rfl) ?_ _
      clear hHw1
      have FIN : Hid (RDev (wr.setCell ⟨lg', i, none⟩ (.string s)).drew B rp (.slice (some ⟨lg', 0, none⟩) n lc') (.slice (some ⟨g, 0, none⟩) way.length vc) n (syncK way D (k + 1)) way (left - 1) false (ops + 1)) := Lib.hid (HLD.out.1.kp (ts := []) (B' := 0) (Kp.of_below (Below.refl _ _).drew) (by simp) (by simp) (by simp))
      have KF : Hid (Kp refT B w (wr.setCell ⟨lg', i, none⟩ (.string s)).drew) := Lib.hid (hkp.out.trans (HLD.out.2.trans (Kp.of_below (Below.refl _ _).drew)))
      clear HLD c0 c1 ce cs cl fl
      go_wp2_with fail
      go_roundw
      case rel => exact ⟨k + 1, by omega, by go_num, FIN, KF⟩
      case measure => simp [intOf]; omega
    · obtain rfl : k = way.length := by omega
      have f1 := hd.out.box.frozen 1
      go_wp2_with fail
      go_ret
      have h2 := hd.out.box.set 1 (.slice none 0 0)
      have b2 : But wr.heap.size rp wr (wr.setCell ⟨rp, 1, none⟩ (.slice none 0 0)) := (But.refl _ _ _).setB 1 _
      exact ⟨rfl, hd.out.emptied h2 b2, hkp.out.trans (Kp.of_but b2 hd.out.rpB hd.out.box (by decide))⟩

end Go.Proofs.Ytjidiholhhdanaa

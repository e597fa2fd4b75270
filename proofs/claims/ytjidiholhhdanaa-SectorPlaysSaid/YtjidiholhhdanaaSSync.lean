/-
  The contracts of Sync and Arm, and of a nil device. Conditions: the device is as Dev says.
-/
import Derived.Test.YtjidiholhhdanaaSRead
namespace Go.Proofs.Ytjidiholhhdanaa
open Go.RowKit
set_option linter.unusedVariables false
set_option maxRecDepth 100000

theorem land_dev {w : World} {B pb bd bl : Nat} {v : Value} {n : Nat} {D L : List UInt8} {way : List Wr} {ops fall : Nat} {off : Bool} (h : Dev w B pb bd bl v n D L way ops fall off) {k : Nat} (hk : k < way.length) (c : Nat) (hc : c ≤ 256) (z : Int) (hz : z = (c : Int)) (g cap : Nat) (hv : v = .slice (some ⟨g, 0, none⟩) way.length cap) :
    Calls Try.prog 26 #[.pointer (some ⟨pb, 0, none⟩), .pointer (some ⟨g, k * 257, none⟩), .int .i64 z] w fun e w' => e = .returned (.tuple #[]) ∧ Dev w' B pb bd bl v n (landL D (way.getD k (0, [])) c) L way ops fall off ∧ Kp devT B w w' := by
  subst hz
  obtain ⟨g', cap', hv', h1, h2⟩ := h.elem hk
  rw [hv] at hv'
  cases hv'
  obtain ⟨g1, g2⟩ := h.good k hk
  refine (land_any pb bd g (k * 257) n _ c D _ w (h.box.cellAt (i := 0) rfl) h.dur h1 h2 g1 h.room h.dl g2 hc).mono ?_
  rintro e w' ⟨rfl, k1, k2⟩
  exact ⟨rfl, h.land k1 k2 (landL_length h.dl g1 g2), Kp.of_but k2 h.bdB h.dur (by decide)⟩

theorem sync_off {w : World} {B pb bd bl : Nat} {v : Value} {n : Nat} {D L : List UInt8} {way : List Wr} {ops fall : Nat} (h : Dev w B pb bd bl v n D L way ops fall true) :
    Calls Try.prog 20 #[.pointer (some ⟨pb, 0, none⟩)] w fun e w' => e = .returned (.int .i64 14) ∧ w = w' := by
  have c5 := h.box.cellAt (i := 5) rfl
  clear h
  go_enter Try.func20, Try.ntmps20
  go_wp2_with fail
  go_ret
  exact ⟨rfl, rfl⟩

set_option maxHeartbeats 1000000 in
theorem sync_fall {w : World} {B pb bd bl : Nat} {v : Value} {n : Nat} {D L : List UInt8} {way : List Wr} {ops fall : Nat} (h : Dev w B pb bd bl v n D L way ops fall false) (ho : ops < 4611686018427387904) (hf : ops + 1 = fall) :
    Calls Try.prog 20 #[.pointer (some ⟨pb, 0, none⟩)] w fun e w' => e = .returned (.int .i64 14) ∧ Dev w' B pb bd bl v n D L way (ops + 1) fall true ∧ Kp devT B w w' := by
  have HBEG := Lib.hid (begin_to h.box (by omega) 14 true (by rw [if_pos hf]) (by simp [hf]))
  have c5 := h.box.cellAt (i := 5) rfl
  have HH := Lib.hid h
  clear h hf
  go_enter Try.func20, Try.ntmps20
  go_wp2_with (first | (go_at_call 28; refine HBEG.out.mono ?_; rintro e w1 ⟨rfl, hx1, hb1⟩))
  go_ret
  exact ⟨rfl, HH.out.boxed hx1 hb1, Kp.of_but hb1 HH.out.pbB HH.out.box (by decide)⟩

set_option maxHeartbeats 4000000 in
theorem sync_ok {w : World} {B pb bd bl : Nat} {v : Value} {n : Nat} {D L : List UInt8} {way : List Wr} {ops fall : Nat} (h : Dev w B pb bd bl v n D L way ops fall false) (ho : ops < 4611686018427387904) (hf : ops + 1 ≠ fall) (hw : way.length ≤ 100000) :
    Calls Try.prog 20 #[.pointer (some ⟨pb, 0, none⟩)] w fun e w' => e = .returned (.int .i64 0) ∧ Dev w' B pb bd bl (.slice none 0 0) n (syncK way D way.length) L [] (ops + 1) fall false ∧ Kp devT B w w' := by
  have HBEG := Lib.hid (begin_to h.box (by omega) 0 false (by rw [if_neg hf]) (by simp [hf]))
  have c5 := h.box.cellAt (i := 5) rfl
  have HH := Lib.hid h
  obtain ⟨a, cap, rfl⟩ := h.vform
  clear h hf
  go_enter Try.func20, Try.ntmps20
  go_upto_region 8 with (first | (go_at_call 28; refine HBEG.out.mono ?_; rintro e w1 ⟨rfl, hx1, hb1⟩))
  have D1 : Hid (Dev w1 B pb bd bl (.slice a way.length cap) n D L way (ops + 1) fall false) := Lib.hid (HH.out.boxed hx1 hb1)
  have K1 : Hid (Kp devT B w w1) := Lib.hid (Kp.of_but hb1 HH.out.pbB HH.out.box (by decide))
  have c2 := D1.out.box.cellAt (i := 2) rfl
  clear hx1 hb1 c5 HBEG HH
  go_wp2_with fail
  clear c2
  go_loopw [21] (fun ii wr => ∃ k : Nat, k ≤ way.length ∧ ii = .int .i64 k ∧ Hid (Dev wr B pb bd bl (.slice a way.length cap) n (syncK way D k) L way (ops + 1) fall false) ∧ Hid (Kp devT B w wr)) (fun ii _ => way.length - (intOf ii).toNat)
  case atStart => exact ⟨0, Nat.zero_le _, rfl, D1, K1⟩
  case round =>
    clear D1 K1
    obtain ⟨k, hk, rfl, hd, hkp⟩ := hrel
    have c2 := hd.out.box.cellAt (i := 2) rfl
    by_cases hlt : k < way.length
    · have hlti : (k : Int) < (way.length : Int) := by omega
      obtain ⟨g, cp, hv, _⟩ := hd.out.elem hlt
      obtain ⟨rfl, rfl⟩ : a = some ⟨g, 0, none⟩ ∧ cap = cp := by cases hv; exact ⟨rfl, rfl⟩
      have HL := Lib.hid (land_dev hd.out hlt 256 (Nat.le_refl _) 256 rfl g cap rfl)
      clear hv
      go_wp2_with (first | (go_at_call 26; refine HL.out.mono ?_; rintro e w3 ⟨rfl, hd3, hk3⟩))
      go_roundw
      case rel => exact ⟨k + 1, by omega, by go_num, Lib.hid hd3, Lib.hid (hkp.out.trans hk3)⟩
      case measure => simp [intOf]; omega
    · obtain rfl : k = way.length := by omega
      have f2 := hd.out.box.frozen 2
      go_wp2_with fail
      go_ret
      have h2 := hd.out.box.set 2 (.slice none 0 0)
      have b2 : But wr.heap.size pb wr (wr.setCell ⟨pb, 2, none⟩ (.slice none 0 0)) := (But.refl _ _ _).setB 2 _
      exact ⟨rfl, hd.out.emptied h2 b2, hkp.out.trans (Kp.of_but b2 hd.out.pbB hd.out.box (by decide))⟩

/-- The power's fall behind an Arm. -/
theorem arm_neg {w : World} (pb : Nat) (n : Int) (hn : n < 0) :
    Calls Try.prog 21 #[.pointer (some ⟨pb, 0, none⟩), .int .i64 n] w fun e w' => e = .returned (.int .i64 1) ∧ w = w' := by
  go_enter Try.func21, Try.ntmps21
  go_wp2_with fail
  go_ret
  exact ⟨rfl, rfl⟩
theorem arm_ok {w : World} {B pb bd bl : Nat} {v : Value} {n : Nat} {D L : List UInt8} {way : List Wr} {ops fall : Nat} {off : Bool} (h : Dev w B pb bd bl v n D L way ops fall off) (m : Nat) (hm : m ≤ 9223372036854775807) (ho : ops < 4611686018427387904) :
    Calls Try.prog 21 #[.pointer (some ⟨pb, 0, none⟩), .int .i64 (m : Int)] w fun e w' => e = .returned (.int .i64 0) ∧ Dev w' B pb bd bl v n D L way ops (if m = 0 then 0 else ops + m) off ∧ Kp devT B w w' := by
  have f4 := h.box.frozen 4
  have c4 := h.box.cellAt (i := 4) rfl
  have c3 := h.box.cellAt (i := 3) rfl
  have hm0 : ¬ (m : Int) < 0 := by omega
  have HH := Lib.hid h
  clear h
  by_cases h0 : m = 0
  · subst h0
    go_enter Try.func21, Try.ntmps21
    go_wp2_with fail
    go_ret
    have h2 := HH.out.box.set 4 (.int .u64 0)
    have b2 : But w.heap.size pb w (w.setCell ⟨pb, 4, none⟩ (.int .u64 0)) := (But.refl _ _ _).setB 4 _
    exact ⟨rfl, HH.out.boxed h2 b2, Kp.of_but b2 HH.out.pbB HH.out.box (by decide)⟩
  · have hmp : (0 : Int) < (m : Int) := by omega
    have hw1 : IntKind.u64.wrap (m : Int) = (m : Int) := by simp [IntKind.wrap, IntKind.bits, IntKind.signed]; omega
    have hw2 : IntKind.u64.wrap ((ops : Int) + (m : Int)) = (ops : Int) + (m : Int) := by simp [IntKind.wrap, IntKind.bits, IntKind.signed]; omega
    have H0 := Lib.hid h0
    have C3 : Hid ((w.setCell ⟨pb, 4, none⟩ (.int .u64 0)).cell? ⟨pb, 3, none⟩ = some (.int .u64 (ops : Int))) := Lib.hid ((HH.out.box.set 4 (.int .u64 0)).cellAt (i := 3) rfl)
    have HLD := Lib.hid (load_any pb 3 _ _ C3.out)
    clear h0 hm
    go_enter Try.func21, Try.ntmps21
    go_wp2_with (first | (go_at_call 25; refine HLD.out.mono ?_; rintro e w' ⟨rfl, rfl⟩))
    go_ret
    have h2 := (HH.out.box.set 4 (.int .u64 0)).set 4 (.int .u64 ((ops + m : Nat) : Int))
    have b2 : But w.heap.size pb w ((w.setCell ⟨pb, 4, none⟩ (.int .u64 0)).setCell ⟨pb, 4, none⟩ (.int .u64 ((ops + m : Nat) : Int))) := ((But.refl _ _ _).setB 4 _).setB 4 _
    exact ⟨rfl, HH.out.boxed h2 b2, Kp.of_but b2 HH.out.pbB HH.out.box (by decide)⟩

end Go.Proofs.Ytjidiholhhdanaa

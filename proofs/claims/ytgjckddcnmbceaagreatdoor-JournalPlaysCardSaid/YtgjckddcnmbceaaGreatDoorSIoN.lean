/-
  The contracts of Read, Sync, Arm, and of what is refused. Conditions: the device is as Dev says.
-/
import Derived.Test.YtgjckddcnmbceaaGreatDoorSWrite
namespace Go.Proofs.YtgjckddcnmbceaaGreatDoor
open Go.RowKit
set_option linter.unusedVariables false

section
variable {w w' : World} {B pb bd bl : Nat} {v : Value} {n : Nat} {D L : List UInt8} {way : List Wr} {ops fall : Nat} {off : Bool}
theorem Dev.land (h : Dev w B pb bd bl v n D L way ops fall off) {D' : List UInt8} (h1 : Has w' bd (D'.map bv) 75) (hb : But w.heap.size bd w w') (hl : D'.length = 256 * n) : Dev w' B pb bd bl v n D' L way ops fall off :=
  ⟨h.box.but hb h.box.lt (Ne.symm (has_type h.dur h.box (by decide))), h1, h.lat.but hb h.lat.lt (Ne.symm h.ne), ownsRow_but h.wrs hb (Nat.le_refl _) (own_type h.wrs h.dur (by decide)), hl, h.ll, h.good, h.pbB, h.bdB, h.blB, h.ne, h.room⟩
theorem Dev.laid (h : Dev w B pb bd bl v n D L way ops fall off) {L' : List UInt8} (h1 : Has w' bl (L'.map bv) 75) (hb : But w.heap.size bl w w') (hl : L'.length = 256 * n) : Dev w' B pb bd bl v n D L' way ops fall off :=
  ⟨h.box.but hb h.box.lt (Ne.symm (has_type h.lat h.box (by decide))), h.dur.but hb h.dur.lt h.ne, h1, ownsRow_but h.wrs hb (Nat.le_refl _) (own_type h.wrs h.lat (by decide)), h.dl, hl, h.good, h.pbB, h.bdB, h.blB, h.ne, h.room⟩
theorem Dev.boxed (h : Dev w B pb bd bl v n D L way ops fall off) {ops' fall' : Nat} {off' : Bool} (h1 : Has w' pb (boxL bd bl v n ops' fall' off') 72) (hb : But w.heap.size pb w w') : Dev w' B pb bd bl v n D L way ops' fall' off' :=
  ⟨h1, h.dur.but hb h.dur.lt (has_type h.dur h.box (by decide)), h.lat.but hb h.lat.lt (has_type h.lat h.box (by decide)), ownsRow_but h.wrs hb (Nat.le_refl _) (own_type h.wrs h.box (by decide)), h.dl, h.ll, h.good, h.pbB, h.bdB, h.blB, h.ne, h.room⟩
theorem Dev.emptied (h : Dev w B pb bd bl v n D L way ops fall off) {ops' fall' : Nat} {off' : Bool} (h1 : Has w' pb (boxL bd bl (.slice none 0 0) n ops' fall' off') 72) (hb : But w.heap.size pb w w') : Dev w' B pb bd bl (.slice none 0 0) n D L [] ops' fall' off' :=
  ⟨h1, h.dur.but hb h.dur.lt (has_type h.dur h.box (by decide)), h.lat.but hb h.lat.lt (has_type h.lat h.box (by decide)), World.ownsRow_nil _ _ _ _, h.dl, h.ll, Good.nil n, h.pbB, h.bdB, h.blB, h.ne, h.room⟩
/-- The k-th write, in memory. -/
theorem Dev.elem (h : Dev w B pb bd bl v n D L way ops fall off) {k : Nat} (hk : k < way.length) : ∃ g cap, v = .slice (some ⟨g, 0, none⟩) way.length cap ∧
    w.cell? ⟨g, k * 257, none⟩ = some (.int .i64 ((way.getD k (0, [])).1 : Int)) ∧ (∀ j, j < 256 → w.cell? ⟨g, k * 257 + 1 + j, none⟩ = some (bv ((way.getD k (0, [])).2.getD j 0))) := by
  obtain ⟨g, cap, rfl, hb, hlt⟩ := h.wrs.form (by omega)
  obtain ⟨g1, g2⟩ := h.good k hk
  have hat : ∀ j, j < 257 → w.cell? ⟨g, k * 257 + j, none⟩ = (wcells (way.getD k (0, [])))[j]? := by
    intro j hj
    rw [h.wrs.cellAt _ (by omega), wayV_get h.good k hk j hj]
  refine ⟨g, cap, rfl, ?_, fun j hj => ?_⟩
  · have := hat 0 (by omega)
    rw [Nat.add_zero] at this
    rw [this]; rfl
  · have := hat (1 + j) (by omega)
    rw [show k * 257 + (1 + j) = k * 257 + 1 + j by omega] at this
    rw [this, Nat.add_comm 1 j]
    show ((way.getD k (0, [])).2.map bv)[j]? = _
    exact map_bv_get _ _ (by omega)
theorem Dev.vform (h : Dev w B pb bd bl v n D L way ops fall off) : ∃ a cap, v = .slice a way.length cap := by
  rcases h.wrs.2 with ⟨e, h0⟩ | ⟨g, cap, cur, e, _⟩
  · exact ⟨none, 0, by rw [e, h0]⟩
  · exact ⟨_, _, e⟩
end

set_option maxRecDepth 100000
theorem write_arg {w : World} {B pb bd bl : Nat} {v : Value} {n : Nat} {D L : List UInt8} {way : List Wr} {ops fall : Nat} {off : Bool} (h : Dev w B pb bd bl v n D L way ops fall off) (i : Int) (hi : i < 0 ∨ (n : Int) ≤ i) (a : Option Addr) (len cap : Nat) :
    Calls Tryz.prog 55 #[.pointer (some ⟨pb, 0, none⟩), .int .i64 i, .slice a len cap] w fun e w' => e = .returned (.int .i64 1) ∧ w = w' := by
  have HN := Lib.hid (has_not (h.box.cellAt (i := 0) rfl) h.room hi)
  clear h hi
  go_enter Tryz.func55, Tryz.ntmps55
  go_wp2_with (first | (go_at_call 67; refine HN.out.mono ?_; rintro e w' ⟨rfl, rfl⟩))
  go_ret
  exact ⟨rfl, rfl⟩
theorem write_form {w : World} {B pb bd bl : Nat} {v : Value} {n : Nat} {D L : List UInt8} {way : List Wr} {ops fall : Nat} {off : Bool} (h : Dev w B pb bd bl v n D L way ops fall off) (i : Nat) (hi : i < n) (a : Option Addr) (len cap : Nat) (hl : len ≠ 256) :
    Calls Tryz.prog 55 #[.pointer (some ⟨pb, 0, none⟩), .int .i64 (i : Int), .slice a len cap] w fun e w' => e = .returned (.int .i64 3) ∧ w = w' := by
  have HN := Lib.hid (has_yes (h.box.cellAt (i := 0) rfl) h.room hi)
  have h1 : ((len : Int) != 256) = true := by simp; omega
  clear h hi hl
  go_enter Tryz.func55, Tryz.ntmps55
  go_wp2_with (first | (go_at_call 67; refine HN.out.mono ?_; rintro e w' ⟨rfl, rfl⟩))
  go_ret
  exact ⟨rfl, rfl⟩
theorem write_off {w : World} {B pb bd bl : Nat} {v : Value} {n : Nat} {D L : List UInt8} {way : List Wr} {ops fall : Nat} (h : Dev w B pb bd bl v n D L way ops fall true) (i : Nat) (hi : i < n) (a : Option Addr) (cap : Nat) :
    Calls Tryz.prog 55 #[.pointer (some ⟨pb, 0, none⟩), .int .i64 (i : Int), .slice a 256 cap] w fun e w' => e = .returned (.int .i64 14) ∧ w = w' := by
  have HN := Lib.hid (has_yes (h.box.cellAt (i := 0) rfl) h.room hi)
  have c5 := h.box.cellAt (i := 5) rfl
  clear h hi
  go_enter Tryz.func55, Tryz.ntmps55
  go_wp2_with (first | (go_at_call 67; refine HN.out.mono ?_; rintro e w' ⟨rfl, rfl⟩))
  go_ret
  exact ⟨rfl, rfl⟩
theorem read_arg {w : World} {B pb bd bl : Nat} {v : Value} {n : Nat} {D L : List UInt8} {way : List Wr} {ops fall : Nat} {off : Bool} (h : Dev w B pb bd bl v n D L way ops fall off) (i : Int) (hi : i < 0 ∨ (n : Int) ≤ i) :
    Calls Tryz.prog 50 #[.pointer (some ⟨pb, 0, none⟩), .int .i64 i] w fun e w' => e = .returned (.tuple #[.slice none 0 0, .int .i64 1]) ∧ w = w' := by
  have HN := Lib.hid (has_not (h.box.cellAt (i := 0) rfl) h.room hi)
  clear h hi
  go_enter Tryz.func50, Tryz.ntmps50
  go_wp2_with (first | (go_at_call 67; refine HN.out.mono ?_; rintro e w' ⟨rfl, rfl⟩))
  go_ret2
  exact ⟨rfl, rfl⟩
theorem read_off {w : World} {B pb bd bl : Nat} {v : Value} {n : Nat} {D L : List UInt8} {way : List Wr} {ops fall : Nat} (h : Dev w B pb bd bl v n D L way ops fall true) (i : Nat) (hi : i < n) :
    Calls Tryz.prog 50 #[.pointer (some ⟨pb, 0, none⟩), .int .i64 (i : Int)] w fun e w' => e = .returned (.tuple #[.slice none 0 0, .int .i64 14]) ∧ w = w' := by
  have HN := Lib.hid (has_yes (h.box.cellAt (i := 0) rfl) h.room hi)
  have c5 := h.box.cellAt (i := 5) rfl
  clear h hi
  go_enter Tryz.func50, Tryz.ntmps50
  go_wp2_with (first | (go_at_call 67; refine HN.out.mono ?_; rintro e w' ⟨rfl, rfl⟩))
  go_ret2
  exact ⟨rfl, rfl⟩

def ReadP (q : List UInt8) (w : World) (e : Ending) (w' : World) : Prop :=
  ∃ b, e = .returned (.tuple #[.slice (some ⟨b, 0, none⟩) 256 256, .int .i64 0]) ∧ Has w' b (q.map bv) 5 ∧ w.heap.size ≤ b ∧ Below w.heap.size w w'

theorem splice_all (Z q : List Value) (h : Z.length = q.length) : splice Z 0 q = q := by
  unfold splice
  rw [List.take_zero, List.nil_append, Nat.zero_add, List.drop_eq_nil_of_le (Nat.le_of_eq h), List.append_nil]

set_option maxHeartbeats 2000000 in
theorem read_ok {w : World} {B pb bd bl : Nat} {v : Value} {n : Nat} {D L : List UInt8} {way : List Wr} {ops fall : Nat} (h : Dev w B pb bd bl v n D L way ops fall false) (i : Nat) (hi : i < n) :
    Calls Tryz.prog 50 #[.pointer (some ⟨pb, 0, none⟩), .int .i64 (i : Int)] w (ReadP (sec L i) w) := by
  have HN := Lib.hid (has_yes (h.box.cellAt (i := 0) rfl) h.room hi)
  have c5 := h.box.cellAt (i := 5) rfl
  have hmk := mk256 w
  have hin : (i : Int) < (n : Int) := by omega
  obtain ⟨A, hA⟩ : ∃ A, A = w.heap.size := ⟨_, rfl⟩
  obtain ⟨w1, hw1⟩ : ∃ w1, w1 = w.alloc (.cells ((zer 256).map bv).toArray 5) := ⟨_, rfl⟩
  rw [← hA, ← hw1] at hmk
  have h1 : Hid (w1.heap[A]? = some (.cells ((zer 256).map bv).toArray 5 (0, 0))) := Lib.hid (by rw [hw1, hA]; exact Has.new w _ _)
  have b1 : Hid (Below A w w1) := Lib.hid (by rw [hw1, hA]; exact (Below.refl _ _).alloc (Nat.le_refl _) _)
  have hlb : Has w1 bl (L.map bv) 75 := h.lat.below b1.out (by rw [hA]; exact h.lat.lt)
  have c1 := (h.box.below b1.out (by rw [hA]; exact h.box.lt)).cellAt (i := 1) rfl
  obtain ⟨X, hX⟩ : ∃ X, X = (sec L i).map bv := ⟨_, rfl⟩
  have hXl : X.length = 256 := by rw [hX, List.length_map, sec_length h.ll hi]
  have HSR : Hid (∀ j u, X[j]? = some u → w1.cell? ((⟨bl, i * 256, none⟩ : Addr).add j) = some u) := Lib.hid (by
    intro j u hj
    have hjl : j < 256 := by rw [← hXl]; exact (List.getElem?_eq_some_iff.1 hj).1
    rw [Addr.add_mid]
    refine hlb.cellAt ?_
    rw [← hj, hX, List.getElem?_map, List.getElem?_map, sec_get hjl, Nat.mul_comm])
  have HMN : Hid (X.length = Nat.min 256 256) := Lib.hid hXl
  have HFT : Hid (0 + X.length ≤ ((zer 256).map bv).length) := Lib.hid (by rw [hXl, List.length_map]; exact Nat.le_of_eq (List.length_replicate ..).symm)
  have HON : Hid (∀ u ∈ X, u.oneCell' = true) := Lib.hid (by rw [hX]; exact bv_one _)
  have HX := Lib.hid hX
  have HA := Lib.hid hA
  have HU := Lib.hid infoU
  have HXL := Lib.hid hXl
  clear h hi hA hw1 hX hXl hlb
  go_enter Tryz.func50, Tryz.ntmps50
  go_wp2_with (first
    | (go_at_call 67; refine HN.out.mono ?_; rintro e w' ⟨rfl, rfl⟩)
    | (refine wpList_copy_but rfl (.tmp 18) (.tmp 25) 33 33 rfl 5 Tryz.underlying33 HU.out (some ⟨A, 0, none⟩) (some ⟨bl, i * 256, none⟩) 256 256 256 256 rfl rfl A 0 ((zer 256).map bv) 5 h1.out X HMN.out (fun _ => ⟨rfl, _, rfl, HSR.out⟩) HFT.out HON.out ?_; intro w2 hg2 hb2))
  go_ret2
  refine ⟨A, rfl, ?_, by rw [HA.out]; exact Nat.le_refl _, by rw [← HA.out]; exact b1.out.trans ((hb2.out.mono (by have := b1.out.size; rw [← HA.out] at this; exact this)).below (Nat.le_refl _))⟩
  have h2 := hg2.out
  rw [splice_all _ _ (by rw [HXL.out, List.length_map]; exact List.length_replicate ..), HX.out] at h2
  exact h2

end Go.Proofs.YtgjckddcnmbceaaGreatDoor

namespace Go.Proofs.YtgjckddcnmbceaaGreatDoor
open Go.RowKit
set_option linter.unusedVariables false
set_option maxRecDepth 100000

theorem land_dev {w : World} {B pb bd bl : Nat} {v : Value} {n : Nat} {D L : List UInt8} {way : List Wr} {ops fall : Nat} {off : Bool} (h : Dev w B pb bd bl v n D L way ops fall off) {k : Nat} (hk : k < way.length) (c : Nat) (hc : c ≤ 256) (z : Int) (hz : z = (c : Int)) (g cap : Nat) (hv : v = .slice (some ⟨g, 0, none⟩) way.length cap) :
    Calls Tryz.prog 33 #[.pointer (some ⟨pb, 0, none⟩), .pointer (some ⟨g, k * 257, none⟩), .int .i64 z] w fun e w' => e = .returned (.tuple #[]) ∧ Dev w' B pb bd bl v n (landL D (way.getD k (0, [])) c) L way ops fall off ∧ Kp devT B w w' := by
  subst hz
  obtain ⟨g', cap', hv', h1, h2⟩ := h.elem hk
  rw [hv] at hv'
  cases hv'
  obtain ⟨g1, g2⟩ := h.good k hk
  refine (land_any pb bd g (k * 257) n _ c D _ w (h.box.cellAt (i := 0) rfl) h.dur h1 h2 g1 h.room h.dl g2 hc).mono ?_
  rintro e w' ⟨rfl, k1, k2⟩
  exact ⟨rfl, h.land k1 k2 (landL_length h.dl g1 g2), Kp.of_but k2 h.bdB h.dur (by decide)⟩

theorem sync_off {w : World} {B pb bd bl : Nat} {v : Value} {n : Nat} {D L : List UInt8} {way : List Wr} {ops fall : Nat} (h : Dev w B pb bd bl v n D L way ops fall true) :
    Calls Tryz.prog 37 #[.pointer (some ⟨pb, 0, none⟩)] w fun e w' => e = .returned (.int .i64 14) ∧ w = w' := by
  have c5 := h.box.cellAt (i := 5) rfl
  clear h
  go_enter Tryz.func37, Tryz.ntmps37
  go_wp2_with fail
  go_ret
  exact ⟨rfl, rfl⟩

set_option maxHeartbeats 1000000 in
theorem sync_fall {w : World} {B pb bd bl : Nat} {v : Value} {n : Nat} {D L : List UInt8} {way : List Wr} {ops fall : Nat} (h : Dev w B pb bd bl v n D L way ops fall false) (ho : ops < 4611686018427387904) (hf : ops + 1 = fall) :
    Calls Tryz.prog 37 #[.pointer (some ⟨pb, 0, none⟩)] w fun e w' => e = .returned (.int .i64 14) ∧ Dev w' B pb bd bl v n D L way (ops + 1) fall true ∧ Kp devT B w w' := by
  have HBEG := Lib.hid (begin_to h.box (by omega) 14 true (by rw [if_pos hf]) (by simp [hf]))
  have c5 := h.box.cellAt (i := 5) rfl
  have HH := Lib.hid h
  clear h hf
  go_enter Tryz.func37, Tryz.ntmps37
  go_wp2_with (first | (go_at_call 48; refine HBEG.out.mono ?_; rintro e w1 ⟨rfl, hx1, hb1⟩))
  go_ret
  exact ⟨rfl, HH.out.boxed hx1 hb1, Kp.of_but hb1 HH.out.pbB HH.out.box (by decide)⟩

set_option maxHeartbeats 4000000 in
theorem sync_ok {w : World} {B pb bd bl : Nat} {v : Value} {n : Nat} {D L : List UInt8} {way : List Wr} {ops fall : Nat} (h : Dev w B pb bd bl v n D L way ops fall false) (ho : ops < 4611686018427387904) (hf : ops + 1 ≠ fall) (hw : way.length ≤ 100000) :
    Calls Tryz.prog 37 #[.pointer (some ⟨pb, 0, none⟩)] w fun e w' => e = .returned (.int .i64 0) ∧ Dev w' B pb bd bl (.slice none 0 0) n (syncK way D way.length) L [] (ops + 1) fall false ∧ Kp devT B w w' := by
  have HBEG := Lib.hid (begin_to h.box (by omega) 0 false (by rw [if_neg hf]) (by simp [hf]))
  have c5 := h.box.cellAt (i := 5) rfl
  have HH := Lib.hid h
  obtain ⟨a, cap, rfl⟩ := h.vform
  clear h hf
  go_enter Tryz.func37, Tryz.ntmps37
  go_upto_region 8 with (first | (go_at_call 48; refine HBEG.out.mono ?_; rintro e w1 ⟨rfl, hx1, hb1⟩))
  have D1 : Hid (Dev w1 B pb bd bl (.slice a way.length cap) n D L way (ops + 1) fall false) := Lib.hid (HH.out.boxed hx1 hb1)
  have K1 : Hid (Kp devT B w w1) := Lib.hid (Kp.of_but hb1 HH.out.pbB HH.out.box (by decide))
  have c2 := D1.out.box.cellAt (i := 2) rfl
  clear hx1 hb1 c5 HBEG HH
  go_wp2_with fail
  clear c2
  go_loopw [21] (fun ii wr => ∃ k : Nat, k ≤ way.length ∧ ii = .int .i64 k ∧ Hid (Dev wr B pb bd bl (.slice a way.length cap) n (syncK way D k) L way (ops + 1) fall false) ∧ Hid (Kp devT B w wr)) (fun ii _ => way.length - (intOf ii).toNat)
  case atStart => exact ⟨0, Nat.zero_le _, rfl, D1, K1⟩
  case round =>
    clear D1 K1
    obtain ⟨k, hk, rfl, hd, hkp⟩ := hrel
    have c2 := hd.out.box.cellAt (i := 2) rfl
    by_cases hlt : k < way.length
    · have hlti : (k : Int) < (way.length : Int) := by omega
      obtain ⟨g, cp, hv, _⟩ := hd.out.elem hlt
      obtain ⟨rfl, rfl⟩ : a = some ⟨g, 0, none⟩ ∧ cap = cp := by cases hv; exact ⟨rfl, rfl⟩
      have HL := Lib.hid (land_dev hd.out hlt 256 (Nat.le_refl _) 256 rfl g cap rfl)
      clear hv
      go_wp2_with (first | (go_at_call 33; refine HL.out.mono ?_; rintro e w3 ⟨rfl, hd3, hk3⟩))
      go_roundw
      case rel => exact ⟨k + 1, by omega, by go_num, Lib.hid hd3, Lib.hid (hkp.out.trans hk3)⟩
      case measure => simp [intOf]; omega
    · obtain rfl : k = way.length := by omega
      have f2 := hd.out.box.frozen 2
      go_wp2_with fail
      go_ret
      have h2 := hd.out.box.set 2 (.slice none 0 0)
      have b2 : But wr.heap.size pb wr (wr.setCell ⟨pb, 2, none⟩ (.slice none 0 0)) := (But.refl _ _ _).setB 2 _
      exact ⟨rfl, hd.out.emptied h2 b2, hkp.out.trans (Kp.of_but b2 hd.out.pbB hd.out.box (by decide))⟩

/-- The power's fall behind an Arm. -/
theorem arm_neg {w : World} (pb : Nat) (n : Int) (hn : n < 0) :
    Calls Tryz.prog 20 #[.pointer (some ⟨pb, 0, none⟩), .int .i64 n] w fun e w' => e = .returned (.int .i64 1) ∧ w = w' := by
  go_enter Tryz.func20, Tryz.ntmps20
  go_wp2_with fail
  go_ret
  exact ⟨rfl, rfl⟩
theorem arm_ok {w : World} {B pb bd bl : Nat} {v : Value} {n : Nat} {D L : List UInt8} {way : List Wr} {ops fall : Nat} {off : Bool} (h : Dev w B pb bd bl v n D L way ops fall off) (m : Nat) (hm : m ≤ 9223372036854775807) (ho : ops < 4611686018427387904) :
    Calls Tryz.prog 20 #[.pointer (some ⟨pb, 0, none⟩), .int .i64 (m : Int)] w fun e w' => e = .returned (.int .i64 0) ∧ Dev w' B pb bd bl v n D L way ops (if m = 0 then 0 else ops + m) off ∧ Kp devT B w w' := by
  have f4 := h.box.frozen 4
  have c4 := h.box.cellAt (i := 4) rfl
  have c3 := h.box.cellAt (i := 3) rfl
  have hm0 : ¬ (m : Int) < 0 := by omega
  have HH := Lib.hid h
  clear h
  by_cases h0 : m = 0
  · subst h0
    go_enter Tryz.func20, Tryz.ntmps20
    go_wp2_with fail
    go_ret
    have h2 := HH.out.box.set 4 (.int .u64 0)
    have b2 : But w.heap.size pb w (w.setCell ⟨pb, 4, none⟩ (.int .u64 0)) := (But.refl _ _ _).setB 4 _
    exact ⟨rfl, HH.out.boxed h2 b2, Kp.of_but b2 HH.out.pbB HH.out.box (by decide)⟩
  · have hmp : (0 : Int) < (m : Int) := by omega
    have hw1 : IntKind.u64.wrap (m : Int) = (m : Int) := by simp [IntKind.wrap, IntKind.bits, IntKind.signed]; omega
    have hw2 : IntKind.u64.wrap ((ops : Int) + (m : Int)) = (ops : Int) + (m : Int) := by simp [IntKind.wrap, IntKind.bits, IntKind.signed]; omega
    have H0 := Lib.hid h0
    have C3 : Hid ((w.setCell ⟨pb, 4, none⟩ (.int .u64 0)).cell? ⟨pb, 3, none⟩ = some (.int .u64 (ops : Int))) := Lib.hid ((HH.out.box.set 4 (.int .u64 0)).cellAt (i := 3) rfl)
    have HLD := Lib.hid (load_any pb 3 _ _ C3.out)
    clear h0 hm
    go_enter Tryz.func20, Tryz.ntmps20
    go_wp2_with (first | (go_at_call 39; refine HLD.out.mono ?_; rintro e w' ⟨rfl, rfl⟩))
    go_ret
    have h2 := (HH.out.box.set 4 (.int .u64 0)).set 4 (.int .u64 ((ops + m : Nat) : Int))
    have b2 : But w.heap.size pb w ((w.setCell ⟨pb, 4, none⟩ (.int .u64 0)).setCell ⟨pb, 4, none⟩ (.int .u64 ((ops + m : Nat) : Int))) := ((But.refl _ _ _).setB 4 _).setB 4 _
    exact ⟨rfl, HH.out.boxed h2 b2, Kp.of_but b2 HH.out.pbB HH.out.box (by decide)⟩

end Go.Proofs.YtgjckddcnmbceaaGreatDoor

/-
  The device as the journal sees it: no fall is armed, what is read is known. The contracts of Half, first, Read, Write, Sync, Restart on it. Conditions: the device is as Dv says.
-/
import Derived.Test.YtgjckddcnmbceaaGreatDoorJUnpack
import Derived.Test.YtgjckddcnmbceaaGreatDoorSRest
namespace Go.Proofs.YtgjckddcnmbceaaGreatDoor
open Go.RowKit
set_option linter.unusedVariables false

/-- The device at block pd: n sectors that read as L; at most m writes on their way, at most k operations done; no fall is armed. -/
def Dv (w : World) (B pd n : Nat) (L : List UInt8) (m k : Nat) : Prop :=
  ∃ bd bl v D way ops, Dev w B pd bd bl v n D L way ops 0 false ∧ (∀ i, i < n → sec L i = getW way i (sec D i)) ∧ way.length ≤ m ∧ ops ≤ k

theorem Dv.kp {w w' : World} {B pd n m k : Nat} {L : List UInt8} {ts : List TypeId} {B' : Nat} (h : Dv w B pd n L m k) (hk : Kp ts B' w w') (h1 : tDev ∉ ts) (h2 : tArr ∉ ts) (h3 : tWri ∉ ts) : Dv w' B pd n L m k := by
  obtain ⟨bd, bl, v, D, way, ops, h0, r⟩ := h
  exact ⟨bd, bl, v, D, way, ops, h0.kp hk h1 h2 h3, r⟩
theorem Dv.later {w w' : World} {B pd n m k : Nat} {L : List UInt8} (h : Dv w B pd n L m k) (hb : Below w.heap.size w w') : Dv w' B pd n L m k :=
  h.kp (ts := []) (B' := 0) (Kp.of_below hb) (by simp) (by simp) (by simp)
theorem Dv.more {w : World} {B pd n m k m' k' : Nat} {L : List UInt8} (h : Dv w B pd n L m k) (hm : m ≤ m') (hk : k ≤ k') : Dv w B pd n L m' k' := by
  obtain ⟨bd, bl, v, D, way, ops, h0, h1, h2, h3⟩ := h
  exact ⟨bd, bl, v, D, way, ops, h0, h1, by omega, by omega⟩
theorem Dv.ll {w : World} {B pd n m k : Nat} {L : List UInt8} (h : Dv w B pd n L m k) : L.length = 256 * n := by
  obtain ⟨bd, bl, v, D, way, ops, h0, r⟩ := h; exact h0.ll
theorem Dv.room {w : World} {B pd n m k : Nat} {L : List UInt8} (h : Dv w B pd n L m k) : n ≤ 8192 := by
  obtain ⟨bd, bl, v, D, way, ops, h0, r⟩ := h; exact h0.room
theorem Dv.lo {w : World} {B pd n m k : Nat} {L : List UInt8} (h : Dv w B pd n L m k) : B ≤ pd ∧ pd < w.heap.size := by
  obtain ⟨bd, bl, v, D, way, ops, h0, r⟩ := h; exact ⟨h0.pbB, h0.box.lt⟩
/-- A block that is none of the device's. -/
theorem Dv.apart {w : World} {B pd n m k b : Nat} {L : List UInt8} {X : List Value} {t : TypeId} (h : Dv w B pd n L m k) (hx : Has w b X t) (ht : t ≠ tDev) : b ≠ pd := by
  obtain ⟨bd, bl, v, D, way, ops, h0, r⟩ := h; exact fun e => has_type hx h0.box ht e

theorem dv_new {w : World} {B pd bd bl n : Nat} (h : Dev w B pd bd bl (.slice none 0 0) n (zer (256 * n)) (zer (256 * n)) [] 0 0 false) : Dv w B pd n (zer (256 * n)) 0 0 :=
  ⟨bd, bl, _, _, [], 0, h, fun i hi => by simp [getW], by simp, by omega⟩

section
variable {w : World} {B pd n m k : Nat} {L : List UInt8}
theorem dread (h : Dv w B pd n L m k) (i : Nat) (hi : i < n) : Calls Tryz.prog 50 #[.pointer (some ⟨pd, 0, none⟩), .int .i64 (i : Int)] w (ReadP (sec L i) w) := by
  obtain ⟨bd, bl, v, D, way, ops, h0, r⟩ := h; exact read_ok h0 i hi
theorem dlen (h : Dv w B pd n L m k) : Calls Tryz.prog 38 #[.pointer (some ⟨pd, 0, none⟩)] w fun e w' => e = .returned (.int .i64 (n : Int)) ∧ w = w' := by
  obtain ⟨bd, bl, v, D, way, ops, h0, r⟩ := h; exact len_any h0
theorem dway (h : Dv w B pd n L 0 k) : Calls Tryz.prog 36 #[.pointer (some ⟨pd, 0, none⟩)] w fun e w' => e = .returned (.int .i64 0) ∧ w = w' := by
  obtain ⟨bd, bl, v, D, way, ops, h0, _, r, _⟩ := h
  have e : way.length = 0 := by omega
  have := way_any h0
  rw [e] at this; exact this
theorem dwrite (h : Dv w B pd n L m k) (i : Nat) (hi : i < n) (b off0 cap : Nat) (p : List UInt8) (hp : p.length = 256) (hsrc : ∀ j, j < 256 → w.cell? ⟨b, off0 + j, none⟩ = some (bv (p.getD j 0))) (hs : Safe w B b)
    (ho : k < 4611686018427387904) (hm : m ≤ 100000) (hB : B ≤ w.heap.size) :
    Calls Tryz.prog 55 #[.pointer (some ⟨pd, 0, none⟩), .int .i64 (i : Int), .slice (some ⟨b, off0, none⟩) 256 cap] w
      fun e w' => e = .returned (.int .i64 0) ∧ Dv w' B pd n (splice L (256 * i) p) (m + 1) (k + 1) ∧ Kp devT B w w' := by
  obtain ⟨bd, bl, v, D, way, ops, h0, hlat, hw, hk⟩ := h
  refine (write_ok h0 i hi b off0 cap p hp hsrc hs (by omega) (by omega) hB).mono ?_
  rintro e w' ⟨v', he, hd, hkp⟩
  rw [if_neg (by omega)] at he
  rw [decide_eq_false (by omega)] at hd
  refine ⟨he, ⟨bd, bl, v', D, _, _, hd, fun j hj => ?_, by simp; omega, by omega⟩, hkp⟩
  rw [getW_snoc]
  by_cases e : i = j
  · subst e
    rw [if_pos rfl, sec_splice_same h0.ll hi hp]
  · rw [if_neg e, sec_splice_other h0.ll hi hj (Nat.le_of_eq hp) (fun h => e h.symm), hlat j hj]
theorem dsync (h : Dv w B pd n L m k) (ho : k < 4611686018427387904) (hm : m ≤ 100000) :
    Calls Tryz.prog 37 #[.pointer (some ⟨pd, 0, none⟩)] w fun e w' => e = .returned (.int .i64 0) ∧ Dv w' B pd n L 0 (k + 1) ∧ Kp devT B w w' := by
  obtain ⟨bd, bl, v, D, way, ops, h0, hlat, hw, hk⟩ := h
  refine (sync_ok h0 (by omega) (by omega) (by omega)).mono ?_
  rintro e w' ⟨he, hd, hkp⟩
  refine ⟨he, ⟨bd, bl, _, _, [], _, hd, fun j hj => ?_, by simp, by omega⟩, hkp⟩
  rw [hlat j hj, sync_get h0.dl h0.good hj way.length (Nat.le_refl _), List.take_of_length_le (Nat.le_refl _)]
  simp [getW]
theorem drestart (h : Dv w B pd n L 0 k) :
    Calls Tryz.prog 14 #[.pointer (some ⟨pd, 0, none⟩), .slice none 0 0, .int .i64 (-1), .int .i64 0] w fun e w' => e = .returned (.int .i64 0) ∧ Dv w' B pd n L 0 k ∧ Kp devT B w w' := by
  obtain ⟨bd, bl, v, D, way, ops, h0, hlat, hw, hk⟩ := h
  have e : way = [] := List.eq_nil_of_length_eq_zero (by omega)
  subst e
  refine (restart_any h0 (by simp) none 0 0 [] (isO_nil _ _) (-1) 0).mono ?_
  rintro e w' ⟨he, hd, hkp⟩
  exact ⟨he, ⟨bd, bl, _, D, [], _, hd, hlat, by simp, by omega⟩, hkp⟩
end

def half (n : Nat) : Nat := (n - 2) / 2
set_option maxRecDepth 100000 in
theorem half_any (n : Nat) (w : World) (hn : n ≤ 8192) : Calls Tryz.prog 10 #[.int .i64 (n : Int)] w fun e w' => e = .returned (.int .i64 ((half n : Nat) : Int)) ∧ w = w' := by
  rcases Nat.lt_or_ge n 2 with h | h
  · have hi : (n : Int) < 2 := by omega
    have he : half n = 0 := by unfold half; omega
    rw [he]
    go_enter Tryz.func10, Tryz.ntmps10
    go_wp2
    go_ret
    exact ⟨rfl, rfl⟩
  · have hi : ¬ (n : Int) < 2 := by omega
    have he : ((half n : Nat) : Int) = ((n : Int) - 2) / 2 := by unfold half; omega
    have e1 : ((n : Int) - 2).tdiv 2 = ((half n : Nat) : Int) := by rw [Int.tdiv_eq_ediv_of_nonneg (by omega), he]
    obtain ⟨H, hH⟩ : ∃ H, H = half n := ⟨_, rfl⟩
    rw [← hH] at e1 ⊢
    have hHs : H ≤ 8192 := by rw [hH]; unfold half; omega
    clear hH he
    go_enter Tryz.func10, Tryz.ntmps10
    go_wp2
    go_ret
    exact ⟨by first | rfl | (congr 2; omega), rfl⟩

/-- Where a half begins. -/
def fst (n h : Nat) : Nat := 2 + h * half n
set_option maxRecDepth 100000 in
theorem first_any {w : World} {B pd n m k : Nat} {L : List UInt8} (hd : Dv w B pd n L m k) (h : Nat) (hh : h ≤ 1) :
    Calls Tryz.prog 53 #[.pointer (some ⟨pd, 0, none⟩), .int .i64 (h : Int)] w fun e w' => e = .returned (.int .i64 ((fst n h : Nat) : Int)) ∧ w = w' := by
  have HD := Lib.hid (dlen hd)
  have HH := Lib.hid (half_any n w hd.room)
  have hr := hd.room
  obtain ⟨H, hH⟩ : ∃ H, H = half n := ⟨_, rfl⟩
  have hHs : H ≤ 8192 := by rw [hH]; unfold half; omega
  have hf : fst n h = 2 + h * H := by rw [hH]; rfl
  rw [hf]
  rw [← hH] at HH
  obtain ⟨X, hX⟩ : ∃ X, X = h * H := ⟨_, rfl⟩
  have hXi : (h : Int) * (H : Int) = (X : Int) := by rw [hX]; rfl
  have hXs : X ≤ 8192 := by rw [hX]; rcases (show h = 0 ∨ h = 1 by omega) with rfl | rfl <;> simp <;> omega
  rw [← hX]
  clear hd hf hX hH
  go_enter Tryz.func53, Tryz.ntmps53
  go_wp2_with (first | (go_at_call 38; refine HD.out.mono ?_; rintro e w1 ⟨rfl, rfl⟩) | (go_at_call 10; refine HH.out.mono ?_; rintro e w1 ⟨rfl, rfl⟩))
  go_ret
  exact ⟨by first | rfl | (congr 2; omega), rfl⟩

end Go.Proofs.YtgjckddcnmbceaaGreatDoor

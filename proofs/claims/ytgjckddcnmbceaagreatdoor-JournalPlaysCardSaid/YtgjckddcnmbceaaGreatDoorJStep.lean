/-
  The journal's steps, each at the journal as a whole (Jn): Append, Append without room, Reset, Restart and Open.
-/
import Derived.Test.YtgjckddcnmbceaaGreatDoorJFresh
namespace Go.Proofs.YtgjckddcnmbceaaGreatDoor
open Go.RowKit
set_option linter.unusedVariables false

theorem On.few {n h m : Nat} {L base : List UInt8} {recs : List (List UInt8)} (h : On n L h m base recs) : 64 + base.length + 32 * recs.length ≤ 256 * half n + 42 := by
  have h1 := h.fits
  have h2 := recs_len_le recs (m + 2)
  unfold laidL at h1
  rw [List.length_append, packL_length] at h1
  omega
theorem laid_len (m : Nat) (base : List UInt8) (recs : List (List UInt8)) (p : List UInt8) : (laidL m base (recs ++ [p])).length = (laidL m base recs).length + (32 + p.length) := by
  rw [laid_snoc, List.length_append, packL_length]

section
variable {w : World} {B Bo pd pj n k h m : Nat} {L base : List UInt8} {recs : List (List UInt8)}

theorem Jn.app (j : Jn w B Bo pd pj n k h m L base recs) (hl : LaidW w) (hgB : 3 < B) (hB : B ≤ Bo) (hBo : Bo ≤ w.heap.size) (a : Option Addr) (len cap : Nat) (p : List UInt8) (hp : IsB w a len cap p) (hsafe : ∀ b off, a = some ⟨b, off, none⟩ → 0 < len → Soft w B b)
    (hn : 2 ≤ n) (hfit : (laidL m base recs).length + (32 + p.length) ≤ 256 * half n) (hm : m < 100000000000) (hk : k ≤ 1000000000000) (hb : 256 * half n ≤ 90000) :
    Calls Tryz.prog 11 #[.pointer (some ⟨pj, 0, none⟩), .slice a len cap] w fun e w' => e = .returned (.int .i64 0) ∧ (∃ L', Jn w' B Bo pd pj n (k + (32 + len) + 1) h m L' base (recs ++ [p])) ∧ Kp jT B w w' := by
  obtain ⟨bV, rV, h3, h4, h5⟩ := j.own
  have hO := j.on_
  have hf := hO.few
  have hL := j.dev.ll
  have hlen := hp.length
  refine (append_ok h3 h4 h5 a len cap p hp hsafe j.dev hl hO.hh hn (by omega) (by omega) hk (by omega) (by omega) hB hBo hgB j.pjB).mono ?_
  rintro e w' ⟨he, hd, hkp, rV', k3, k5, k4⟩
  refine ⟨he, ⟨_, ⟨hd, on_append hO hL hn p hfit, ⟨bV, rV', ?_, k4, k5⟩, j.pjB⟩⟩, hkp⟩
  rw [laid_len, show m + 1 + (recs ++ [p]).length = m + 1 + recs.length + 1 by simp; omega]
  exact k3

theorem Jn.full (j : Jn w B Bo pd pj n k h m L base recs) (a : Option Addr) (len cap : Nat) (p : List UInt8) (hp : IsB w a len cap p) (hfull : 256 * half n < (laidL m base recs).length + (32 + p.length)) (hb : 256 * half n ≤ 90000) :
    Calls Tryz.prog 11 #[.pointer (some ⟨pj, 0, none⟩), .slice a len cap] w fun e w' => e = .returned (.int .i64 15) ∧ Below w.heap.size w w' := by
  obtain ⟨bV, rV, h3, h4, h5⟩ := j.own
  have hlen := hp.length
  exact append_full h3 a len cap p hp j.dev j.on_.fits (by omega) (by omega)

theorem Jn.reset (j : Jn w B Bo pd pj n k h m L base recs) (hl : LaidW w) (hgB : 3 < B) (hB : B ≤ w.heap.size) (a : Option Addr) (len cap : Nat) (p : List UInt8) (hp : IsB w a len cap p)
    (hn : 2 ≤ n) (hfit : 32 + p.length ≤ 256 * half n) (hm : m < 100000000000) (hk : k ≤ 1000000000000) (hb : 256 * half n ≤ 90000) :
    Calls Tryz.prog 13 #[.pointer (some ⟨pj, 0, none⟩), .slice a len cap] w fun e w' => e = .returned (.int .i64 0) ∧ (∃ L', Jn w' B w.heap.size pd pj n (k + 256 * half n + 4) (1 - h) (m + 1 + recs.length + 1) L' p []) ∧ Kp jT B w w' := by
  obtain ⟨bV, rV, h3, h4, h5⟩ := j.own
  have hO := j.on_
  have hf := hO.few
  have hL := j.dev.ll
  refine (reset_ok h3 a len cap hp j.dev hl hO.hh hn hfit (by omega) hk (by omega) hB hgB j.pjB).mono ?_
  rintro e w' ⟨he, hd, hkp, bV', k3, k4⟩
  have hOn := on_reset (h := 1 - h) (N := m + 1 + recs.length + 2) (base := p) hL hn (by omega) (by rw [show 1 - (1 - h) = h by have := hO.hh; omega]; exact hO.hd) (by omega) (by omega) hfit (by omega)
  rw [show m + 1 + recs.length + 2 - 1 = m + 1 + recs.length + 1 by omega] at hOn
  refine ⟨he, ⟨_, ⟨hd, hOn, ⟨bV', _, ?_, k4, Recs.nil _ _⟩, j.pjB⟩⟩, hkp⟩
  rw [laid_zero, packL_length, show m + 1 + recs.length + 1 + 1 + ([] : List (List UInt8)).length = m + 1 + recs.length + 2 by simp]
  exact k3

theorem Jn.restart (j : Jn w B Bo pd pj n k h m L base recs) :
    Calls Tryz.prog 14 #[.pointer (some ⟨pd, 0, none⟩), .slice none 0 0, .int .i64 (-1), .int .i64 0] w fun e w' => e = .returned (.int .i64 0) ∧ Dv w' B pd n L 0 k ∧ Kp devT B w w' := drestart j.dev

/-- Open on a device that a journal stands on. -/
theorem open_jn (hd : Dv w B pd n L 0 k) (hO : On n L h m base recs) (hl : LaidW w) (hB : B ≤ w.heap.size) (hh : 2 ≤ half n) (hb : 256 * half n ≤ 90000) (hm : m < 90000000000) :
    Calls Tryz.prog 15 #[.pointer (some ⟨pd, 0, none⟩)] w fun e w' => ∃ pj, e = .returned (.tuple #[.pointer (some ⟨pj, 0, none⟩), .int .i64 0]) ∧ Jn w' B w.heap.size pd pj n k h m L base recs ∧ Below w.heap.size w w' := by
  have hf := hO.few
  exact (open_ok hd hl hO hh (by omega) (by omega) (by omega)).mono fun e w' hp => Jn.of_load hd hO hB hp
end
end Go.Proofs.YtgjckddcnmbceaaGreatDoor

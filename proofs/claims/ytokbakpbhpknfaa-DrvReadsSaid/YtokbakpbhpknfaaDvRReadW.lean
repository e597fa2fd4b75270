/-
  The reference's Read. Condition: the text has at most 10^9 bytes.
-/
import Derived.Test.YtokbakpbhpknfaaDvUnlist
import Derived.Test.YtokbakpbhpknfaaDvLoad
namespace Go.Proofs.Ytokbakpbhpknfaa
open Go.RowKit
set_option linter.unusedVariables false

def lstV (o : Option (List (List UInt8) × List UInt8)) : List (List UInt8) := match o with | none => [] | some p => p.1
theorem own_below {w w' : World} {B n size : Nat} {e : TypeId} {v : Value} {xs : List Value} (h : w.ownsRow B e size v n xs) (hb : Below w.heap.size w w') : w'.ownsRow B e size v n xs :=
  h.kept (row := none) ⟨hb.os, hb.tape, hb.output, hb.size, fun k hk _ => hb.block k hk⟩ (by
    cases hv : v.ownBlock with
    | none => exact .inl rfl
    | some g => exact .inr (by simp))
theorem litO_some {w r : List UInt8} {o : Option (List UInt8)} (h : litO w o = some r) : ∃ x, o = some x ∧ dlit w x = some r := by
  cases o with
  | none => cases h
  | some x => exact ⟨x, rfl, h⟩
theorem txtO_some {r : List UInt8} {o : Option (List UInt8)} (h : restO (txtO o) = some r) : ∃ x, o = some x ∧ dtxt x = some (txtV (txtO o), r) := by
  cases o with
  | none => cases h
  | some x =>
    obtain ⟨⟨t, r2⟩, h2, rfl⟩ := Option.map_eq_some_iff.1 h
    refine ⟨x, rfl, ?_⟩
    rw [h2]; exact h2
theorem lstO_some {r : List UInt8} {o : Option (List UInt8)} (h : restO (lstO o) = some r) : ∃ x, o = some x ∧ dlst x = some (lstV (lstO o), r) := by
  cases o with
  | none => cases h
  | some x =>
    obtain ⟨⟨t, r2⟩, h2, rfl⟩ := Option.map_eq_some_iff.1 h
    refine ⟨x, rfl, ?_⟩
    rw [h2]; exact h2
theorem rwhole_ok {R : List UInt8} {o1 o2 o3 o4 o5 o6 o7 o8 o9 o10 o11 : Option (List UInt8)} {q2 q8 q10 : Option (List UInt8 × List UInt8)} {q4 q6 : Option (List (List UInt8) × List UInt8)}
    (e1 : o1 = litO dopen (some R)) (f2 : q2 = txtO o1) (e2 : o2 = restO q2) (e3 : o3 = litO [44] o2) (f4 : q4 = lstO o3) (e4 : o4 = restO q4) (e5 : o5 = litO [44] o4) (f6 : q6 = lstO o5) (e6 : o6 = restO q6) (e7 : o7 = litO [44] o6)
    (f8 : q8 = txtO o7) (e8 : o8 = restO q8) (e9 : o9 = litO [44] o8) (f10 : q10 = txtO o9) (e10 : o10 = restO q10) (e11 : o11 = litO [41] o10) {r : List UInt8} (h : o11 = some r) :
    dwhole R = some (⟨txtV q2, lstV q4, lstV q6, txtV q8, txtV q10⟩, r) ∧ ∃ r4 r6, q4 = some (lstV q4, r4) ∧ q6 = some (lstV q6, r6) := by
  rw [e11] at h
  obtain ⟨r10, h10, g11⟩ := litO_some h
  rw [e10, f10] at h10
  obtain ⟨r9, h9, g10⟩ := txtO_some h10
  rw [← f10] at g10
  rw [e9] at h9
  obtain ⟨r8, h8, g9⟩ := litO_some h9
  rw [e8, f8] at h8
  obtain ⟨r7, h7, g8⟩ := txtO_some h8
  rw [← f8] at g8
  rw [e7] at h7
  obtain ⟨r6, h6, g7⟩ := litO_some h7
  rw [e6, f6] at h6
  obtain ⟨r5, h5, g6⟩ := lstO_some h6
  rw [← f6] at g6
  have k6 : q6 = some (lstV q6, r6) := by rw [f6, h5] at g6 ⊢; exact g6
  rw [e5] at h5
  obtain ⟨r4, h4, g5⟩ := litO_some h5
  rw [e4, f4] at h4
  obtain ⟨r3, h3, g4⟩ := lstO_some h4
  rw [← f4] at g4
  have k4 : q4 = some (lstV q4, r4) := by rw [f4, h3] at g4 ⊢; exact g4
  rw [e3] at h3
  obtain ⟨r2, h2, g3⟩ := litO_some h3
  rw [e2, f2] at h2
  obtain ⟨r1, h1, g2⟩ := txtO_some h2
  rw [← f2] at g2
  rw [e1] at h1
  have g1 : dlit dopen R = some r1 := h1
  refine ⟨?_, r4, r6, k4, k6⟩
  unfold dwhole
  simp only [g1, g2, g3, g4, g5, g6, g7, g8, g9, g10, g11, Option.bind_eq_bind, Option.bind_some, Option.pure_def]
theorem rwhole_bad {R : List UInt8} {o1 o2 o3 o4 o5 o6 o7 o8 o9 o10 o11 : Option (List UInt8)} {q2 q8 q10 : Option (List UInt8 × List UInt8)} {q4 q6 : Option (List (List UInt8) × List UInt8)}
    (e1 : o1 = litO dopen (some R)) (f2 : q2 = txtO o1) (e2 : o2 = restO q2) (e3 : o3 = litO [44] o2) (f4 : q4 = lstO o3) (e4 : o4 = restO q4) (e5 : o5 = litO [44] o4) (f6 : q6 = lstO o5) (e6 : o6 = restO q6) (e7 : o7 = litO [44] o6)
    (f8 : q8 = txtO o7) (e8 : o8 = restO q8) (e9 : o9 = litO [44] o8) (f10 : q10 = txtO o9) (e10 : o10 = restO q10) (e11 : o11 = litO [41] o10) (h : o11 ≠ some []) (d : Dv) : dwhole R ≠ some (d, []) := by
  intro hd
  unfold dwhole at hd
  simp only [Option.bind_eq_bind, Option.bind_eq_some_iff, Option.pure_def, Option.some.injEq, Prod.mk.injEq, Prod.exists] at hd
  obtain ⟨r1, g1, n, r2, g2, r3, g3, ds, r4, g4, r5, g5, ss, r6, g6, r7, g7, rc, r8, g8, r9, g9, fx, r10, g10, r11, g11, _, hr⟩ := hd
  subst hr
  apply h
  have a1 : o1 = some r1 := by rw [e1]; exact g1
  have a2 : o2 = some r2 := by rw [e2, f2, a1]; show restO (dtxt r1) = _; rw [g2]; rfl
  have a3 : o3 = some r3 := by rw [e3, a2]; exact g3
  have a4 : o4 = some r4 := by rw [e4, f4, a3]; show restO (dlst r3) = _; rw [g4]; rfl
  have a5 : o5 = some r5 := by rw [e5, a4]; exact g5
  have a6 : o6 = some r6 := by rw [e6, f6, a5]; show restO (dlst r5) = _; rw [g6]; rfl
  have a7 : o7 = some r7 := by rw [e7, a6]; exact g7
  have a8 : o8 = some r8 := by rw [e8, f8, a7]; show restO (dtxt r7) = _; rw [g8]; rfl
  have a9 : o9 = some r9 := by rw [e9, a8]; exact g9
  have a10 : o10 = some r10 := by rw [e10, f10, a9]; show restO (dtxt r9) = _; rw [g10]; rfl
  rw [e11, a10]; exact g11

set_option maxRecDepth 100000 in
set_option maxHeartbeats 20000000 in
theorem rreadd_any (s : ByteArray) (w : World) (hs : s.size ≤ 1000000000) :
    Calls Try.prog 12 #[.string s] w (ReadP s.data.toList w) := by
  have hsl : s.data.toList.length = s.size := by simp
  obtain ⟨R, hR⟩ : ∃ R, R = s.data.toList := ⟨_, rfl⟩
  have hRs : s = ⟨R.toArray⟩ := by rw [hR]
  have at0 : AtR s.data.toList (some s.data.toList) := fun r hr => ⟨[], by cases hr; rfl⟩
  have hp0 : plc s.size (some s.data.toList) = 0 := by show ((s.size - s.data.toList.length : Nat) : Int) = 0; rw [hsl, Nat.sub_self]; rfl
  obtain ⟨o0, ho0⟩ : ∃ o, o = some s.data.toList := ⟨_, rfl⟩
  obtain ⟨P0, hP0⟩ : ∃ P, P = plc s.size o0 := ⟨_, rfl⟩
  rw [← ho0] at at0 hp0
  rw [← hP0] at hp0
  obtain ⟨o1, ho1⟩ : ∃ o, o = litO [68, 101, 114, 105, 118, 101, 40] o0 := ⟨_, rfl⟩
  have at1 : AtR s.data.toList o1 := by rw [ho1]; exact at0.litO
  obtain ⟨P1, hP1⟩ : ∃ P, P = plc s.size o1 := ⟨_, rfl⟩
  have K1 : Hid (∀ w, Calls Try.prog 27 #[.string s, .int .i64 P0, .string ⟨#[68, 101, 114, 105, 118, 101, 40]⟩] w fun e w' => e = .returned (.int .i64 P1) ∧ w = w') := Lib.hid (fun w => by
    have h := lit_any s ⟨#[68, 101, 114, 105, 118, 101, 40]⟩ o0 w hs (by decide) at0
    rw [show (⟨#[68, 101, 114, 105, 118, 101, 40]⟩ : ByteArray).data.toList = [68, 101, 114, 105, 118, 101, 40] from rfl, ← ho1, ← hP0, ← hP1] at h; exact h)
  obtain ⟨q2, hq2⟩ : ∃ q, q = txtO o1 := ⟨_, rfl⟩
  obtain ⟨o2, ho2⟩ : ∃ o, o = restO q2 := ⟨_, rfl⟩
  have at2 : AtR s.data.toList o2 := by rw [ho2, hq2]; exact at1.txt
  obtain ⟨P2, hP2⟩ : ∃ P, P = plc s.size o2 := ⟨_, rfl⟩
  obtain ⟨S0, hS0⟩ : ∃ S, S = bs (txtV q2) := ⟨_, rfl⟩
  have K2 : Hid (∀ w, Calls Try.prog 28 #[.string s, .int .i64 P1] w fun e w' => e = .returned (.tuple #[.string S0, .int .i64 P2]) ∧ Below w.heap.size w w') := Lib.hid (fun w => by
    have h := unquote_any s o1 w hs at1
    rw [← hq2, ← hP1, show uqV s.size q2 = .tuple #[.string S0, .int .i64 P2] by rw [hS0, hP2, ho2]; rfl] at h; exact h)
  obtain ⟨o3, ho3⟩ : ∃ o, o = litO [44] o2 := ⟨_, rfl⟩
  have at3 : AtR s.data.toList o3 := by rw [ho3]; exact at2.litO
  obtain ⟨P3, hP3⟩ : ∃ P, P = plc s.size o3 := ⟨_, rfl⟩
  have K3 : Hid (∀ w, Calls Try.prog 27 #[.string s, .int .i64 P2, .string ⟨#[44]⟩] w fun e w' => e = .returned (.int .i64 P3) ∧ w = w') := Lib.hid (fun w => by
    have h := lit_any s ⟨#[44]⟩ o2 w hs (by decide) at2
    rw [show (⟨#[44]⟩ : ByteArray).data.toList = [44] from rfl, ← ho3, ← hP2, ← hP3] at h; exact h)
  obtain ⟨q4, hq4⟩ : ∃ q, q = lstO o3 := ⟨_, rfl⟩
  obtain ⟨o4, ho4⟩ : ∃ o, o = restO q4 := ⟨_, rfl⟩
  have at4 : AtR s.data.toList o4 := by rw [ho4, hq4]; exact at3.lst
  obtain ⟨P4, hP4⟩ : ∃ P, P = plc s.size o4 := ⟨_, rfl⟩
  have K4 : Hid (∀ w, Calls Try.prog 29 #[.string s, .int .i64 P3] w fun e w' => ∃ (a : Option Addr) (k c : Nat) (l : List (List UInt8)), e = .returned (.tuple #[.slice a k c, .int .i64 P4]) ∧ k = l.length ∧ (∀ l' r, q4 = some (l', r) → l = l') ∧
      w'.ownsRow w.heap.size 9 1 (.slice a k c) k (l.map sv) ∧ Below w.heap.size w w') := Lib.hid (fun w => by
    have h := unlist_any s o3 w hs at3
    rw [← hq4, ← hP3] at h
    refine h.mono ?_
    rintro e w' ⟨a, c, l, he, h1, h2, h3⟩
    exact ⟨a, l.length, c, l, by rw [he, hP4, ho4], rfl, h1, h2, h3⟩)
  obtain ⟨o5, ho5⟩ : ∃ o, o = litO [44] o4 := ⟨_, rfl⟩
  have at5 : AtR s.data.toList o5 := by rw [ho5]; exact at4.litO
  obtain ⟨P5, hP5⟩ : ∃ P, P = plc s.size o5 := ⟨_, rfl⟩
  have K5 : Hid (∀ w, Calls Try.prog 27 #[.string s, .int .i64 P4, .string ⟨#[44]⟩] w fun e w' => e = .returned (.int .i64 P5) ∧ w = w') := Lib.hid (fun w => by
    have h := lit_any s ⟨#[44]⟩ o4 w hs (by decide) at4
    rw [show (⟨#[44]⟩ : ByteArray).data.toList = [44] from rfl, ← ho5, ← hP4, ← hP5] at h; exact h)
  obtain ⟨q6, hq6⟩ : ∃ q, q = lstO o5 := ⟨_, rfl⟩
  obtain ⟨o6, ho6⟩ : ∃ o, o = restO q6 := ⟨_, rfl⟩
  have at6 : AtR s.data.toList o6 := by rw [ho6, hq6]; exact at5.lst
  obtain ⟨P6, hP6⟩ : ∃ P, P = plc s.size o6 := ⟨_, rfl⟩
  have K6 : Hid (∀ w, Calls Try.prog 29 #[.string s, .int .i64 P5] w fun e w' => ∃ (a : Option Addr) (k c : Nat) (l : List (List UInt8)), e = .returned (.tuple #[.slice a k c, .int .i64 P6]) ∧ k = l.length ∧ (∀ l' r, q6 = some (l', r) → l = l') ∧
      w'.ownsRow w.heap.size 9 1 (.slice a k c) k (l.map sv) ∧ Below w.heap.size w w') := Lib.hid (fun w => by
    have h := unlist_any s o5 w hs at5
    rw [← hq6, ← hP5] at h
    refine h.mono ?_
    rintro e w' ⟨a, c, l, he, h1, h2, h3⟩
    exact ⟨a, l.length, c, l, by rw [he, hP6, ho6], rfl, h1, h2, h3⟩)
  obtain ⟨o7, ho7⟩ : ∃ o, o = litO [44] o6 := ⟨_, rfl⟩
  have at7 : AtR s.data.toList o7 := by rw [ho7]; exact at6.litO
  obtain ⟨P7, hP7⟩ : ∃ P, P = plc s.size o7 := ⟨_, rfl⟩
  have K7 : Hid (∀ w, Calls Try.prog 27 #[.string s, .int .i64 P6, .string ⟨#[44]⟩] w fun e w' => e = .returned (.int .i64 P7) ∧ w = w') := Lib.hid (fun w => by
    have h := lit_any s ⟨#[44]⟩ o6 w hs (by decide) at6
    rw [show (⟨#[44]⟩ : ByteArray).data.toList = [44] from rfl, ← ho7, ← hP6, ← hP7] at h; exact h)
  obtain ⟨q8, hq8⟩ : ∃ q, q = txtO o7 := ⟨_, rfl⟩
  obtain ⟨o8, ho8⟩ : ∃ o, o = restO q8 := ⟨_, rfl⟩
  have at8 : AtR s.data.toList o8 := by rw [ho8, hq8]; exact at7.txt
  obtain ⟨P8, hP8⟩ : ∃ P, P = plc s.size o8 := ⟨_, rfl⟩
  obtain ⟨S3, hS3⟩ : ∃ S, S = bs (txtV q8) := ⟨_, rfl⟩
  have K8 : Hid (∀ w, Calls Try.prog 28 #[.string s, .int .i64 P7] w fun e w' => e = .returned (.tuple #[.string S3, .int .i64 P8]) ∧ Below w.heap.size w w') := Lib.hid (fun w => by
    have h := unquote_any s o7 w hs at7
    rw [← hq8, ← hP7, show uqV s.size q8 = .tuple #[.string S3, .int .i64 P8] by rw [hS3, hP8, ho8]; rfl] at h; exact h)
  obtain ⟨o9, ho9⟩ : ∃ o, o = litO [44] o8 := ⟨_, rfl⟩
  have at9 : AtR s.data.toList o9 := by rw [ho9]; exact at8.litO
  obtain ⟨P9, hP9⟩ : ∃ P, P = plc s.size o9 := ⟨_, rfl⟩
  have K9 : Hid (∀ w, Calls Try.prog 27 #[.string s, .int .i64 P8, .string ⟨#[44]⟩] w fun e w' => e = .returned (.int .i64 P9) ∧ w = w') := Lib.hid (fun w => by
    have h := lit_any s ⟨#[44]⟩ o8 w hs (by decide) at8
    rw [show (⟨#[44]⟩ : ByteArray).data.toList = [44] from rfl, ← ho9, ← hP8, ← hP9] at h; exact h)
  obtain ⟨q10, hq10⟩ : ∃ q, q = txtO o9 := ⟨_, rfl⟩
  obtain ⟨o10, ho10⟩ : ∃ o, o = restO q10 := ⟨_, rfl⟩
  have at10 : AtR s.data.toList o10 := by rw [ho10, hq10]; exact at9.txt
  obtain ⟨P10, hP10⟩ : ∃ P, P = plc s.size o10 := ⟨_, rfl⟩
  obtain ⟨S4, hS4⟩ : ∃ S, S = bs (txtV q10) := ⟨_, rfl⟩
  have K10 : Hid (∀ w, Calls Try.prog 28 #[.string s, .int .i64 P9] w fun e w' => e = .returned (.tuple #[.string S4, .int .i64 P10]) ∧ Below w.heap.size w w') := Lib.hid (fun w => by
    have h := unquote_any s o9 w hs at9
    rw [← hq10, ← hP9, show uqV s.size q10 = .tuple #[.string S4, .int .i64 P10] by rw [hS4, hP10, ho10]; rfl] at h; exact h)
  obtain ⟨o11, ho11⟩ : ∃ o, o = litO [41] o10 := ⟨_, rfl⟩
  have at11 : AtR s.data.toList o11 := by rw [ho11]; exact at10.litO
  obtain ⟨P11, hP11⟩ : ∃ P, P = plc s.size o11 := ⟨_, rfl⟩
  have K11 : Hid (∀ w, Calls Try.prog 27 #[.string s, .int .i64 P10, .string ⟨#[41]⟩] w fun e w' => e = .returned (.int .i64 P11) ∧ w = w') := Lib.hid (fun w => by
    have h := lit_any s ⟨#[41]⟩ o10 w hs (by decide) at10
    rw [show (⟨#[41]⟩ : ByteArray).data.toList = [41] from rfl, ← ho11, ← hP10, ← hP11] at h; exact h)
  rw [ho0] at ho1
  have HW := Lib.hid (fun (r : List UInt8) (h : o11 = some r) => rwhole_ok (R := s.data.toList) ho1 hq2 ho2 ho3 hq4 ho4 ho5 hq6 ho6 ho7 hq8 ho8 ho9 hq10 ho10 ho11 h)
  have HV := Lib.hid (fun (h : o11 ≠ some []) => rwhole_bad (R := s.data.toList) ho1 hq2 ho2 ho3 hq4 ho4 ho5 hq6 ho6 ho7 hq8 ho8 ho9 hq10 ho10 ho11 h)
  rw [← hR] at HW HV ⊢
  have HPP : Hid ((o11 = some [] ∧ P11 = (s.size : Int)) ∨ (o11 ≠ some [] ∧ ¬ P11 = (s.size : Int))) := Lib.hid (by
    rw [hP11]
    cases h : o11 with
    | none => right; exact ⟨(fun e => by cases e), by show ¬ (-1 : Int) = _; omega⟩
    | some r =>
      cases r with
      | nil => left; exact ⟨rfl, by show ((s.size - 0 : Nat) : Int) = _; rw [Nat.sub_zero]⟩
      | cons c r =>
        right
        refine ⟨(fun e => by cases e), ?_⟩
        have := (AtR.drop (h ▸ at11)).2
        rw [hsl] at this
        show ¬ ((s.size - (c :: r).length : Nat) : Int) = _
        simp only [List.length_cons] at this ⊢; omega)
  have HS0 := Lib.hid hS0
  have HS3 := Lib.hid hS3
  have HS4 := Lib.hid hS4
  have HRS := Lib.hid hRs
  have HSL := Lib.hid hsl
  have HRL : Hid (R.length = s.size) := Lib.hid (by rw [hR]; exact hsl)
  have HZL : Hid ((#[.string ⟨#[]⟩, .slice none 0 0, .slice none 0 0, .string ⟨#[]⟩, .string ⟨#[]⟩] : Array Value) = dzL.toArray) := Lib.hid rfl
  have HZI : Hid ((Try.prog.info? 24).map (·.size) = some dzL.toArray.size) := Lib.hid (info_dL _ _ _ _ _ _ _ _ _)
  have HZO : Hid (dzL.toArray.all (·.oneCell') = true) := Lib.hid (drv5 _ _ _ _ _ _ _ _ _)
  subst hp0
  clear at0 at1 at2 at3 at4 at5 at6 at7 at8 at9 at10 at11 ho1 ho2 ho3 ho4 ho5 ho6 ho7 ho8 ho9 ho10 ho11 hP1 hP2 hP3 hP4 hP5 hP6 hP7 hP8 hP9 hP10 hP11 hq2 hq4 hq6 hq8 hq10 hR hRs hsl hS0 hS3 hS4 ho0 hP0
  go_enter Try.func12, Try.ntmps12
  go_upto_region 2 with fail
  obtain ⟨A, hA⟩ : ∃ A, A = w.heap.size := ⟨_, rfl⟩
  rw [← hA]
  obtain ⟨sz, hsz⟩ : ∃ sz : ByteArray, sz = ⟨#[]⟩ := ⟨_, rfl⟩
  obtain ⟨x1, hx1⟩ : ∃ x1, x1 = w.alloc (.cells #[.string ⟨#[]⟩, .slice none 0 0, .slice none 0 0, .string ⟨#[]⟩, .string ⟨#[]⟩] 24) := ⟨_, rfl⟩
  obtain ⟨w0, hx2⟩ : ∃ x2, x2 = x1.alloc (.cells #[.string ⟨#[]⟩, .slice none 0 0, .slice none 0 0, .string ⟨#[]⟩, .string ⟨#[]⟩] 24) := ⟨_, rfl⟩
  rw [← hx1, ← hx2]
  have e1 : x1.heap.size = A + 1 := by rw [hx1, hA]; simp
  have G0 : Hid (Has w0 A dzL 24) := Lib.hid (by rw [hx2, hx1, hA]; exact (Has.new w dzL _).alloc _)
  have X0 : Hid (Has w0 (A + 1) [.string sz, .slice none 0 0, .slice none 0 0, .string sz, .string sz] 24) := Lib.hid (by rw [hsz, hx2, ← e1]; exact Has.new x1 dzL _)
  have BB0 : Hid (Below A w w0) := Lib.hid (by rw [hx2, hx1, hA]; exact ((Below.refl _ _).alloc (Nat.le_refl _) _).alloc (by simp) _)
  have HA := Lib.hid hA
  have HSZ := Lib.hid hsz
  try rw [e1]
  clear hx1 hx2 e1 hA hsz
  go_wp2_with fail
  refine (K1.out _).mono ?_
  rintro e wx ⟨rfl, hwx⟩
  subst hwx
  have X1 := X0
  have G1 := G0
  have BB1 := BB0
  clear X0 G0 BB0 K1
  go_wp2_with fail
  refine (K2.out _).mono ?_
  rintro e w2 ⟨rfl, b2⟩
  have Y := Lib.hid (X1.out.below b2 X1.out.lt)
  have GY := Lib.hid (G1.out.below b2 G1.out.lt)
  have BY : Hid (Below A w w2) := Lib.hid (BB1.out.trans (b2.mono (Nat.le_of_lt G1.out.lt)))
  have z := Y.out.frozen 0
  have cc := Y.out.cellAt (i := 0) rfl
  clear b2 X1 G1 BB1 K2
  go_upto_region 4 with fail
  clear z cc
  obtain ⟨y2, hy⟩ : ∃ y, y = w2.setCell ⟨A + 1, 0, none⟩ (.string S0) := ⟨_, rfl⟩
  rw [← hy]
  have X2 : Hid (Has y2 (A + 1) [.string S0, .slice none 0 0, .slice none 0 0, .string sz, .string sz] 24) := Lib.hid (by rw [hy]; exact Has.set Y.out 0 (.string S0))
  have G2 : Hid (Has y2 A dzL 24) := Lib.hid (by rw [hy]; exact GY.out.setOther (a := ⟨A + 1, 0, none⟩) (by show A ≠ A + 1; omega) _)
  have BB2 : Hid (Below A w y2) := Lib.hid (by rw [hy]; exact BY.out.setCell (p := ⟨A + 1, 0, none⟩) (by show A ≤ A + 1; omega) _)
  clear hy Y GY BY
  go_wp2_with fail
  refine (K3.out _).mono ?_
  rintro e wx ⟨rfl, hwx⟩
  subst hwx
  have X3 := X2
  have G3 := G2
  have BB3 := BB2
  clear X2 G2 BB2 K3
  go_wp2_with fail
  refine (K4.out _).mono ?_
  rintro e w4 ⟨a1, k1, c1, l1, rfl, hk1, hl1, ho1, b4⟩
  have HKL1 := Lib.hid hk1
  have HLL1 := Lib.hid hl1
  have Y := Lib.hid (X3.out.below b4 X3.out.lt)
  have GY := Lib.hid (G3.out.below b4 G3.out.lt)
  have BY : Hid (Below A w w4) := Lib.hid (BB3.out.trans (b4.mono (Nat.le_of_lt G3.out.lt)))
  have OY1 : Hid (w4.ownsRow (A + 2) 9 1 (.slice a1 k1 c1) k1 (l1.map sv)) := Lib.hid (owns_lower ho1 (by have := X3.out.lt; omega))
  clear hk1 hl1 ho1
  have z := Y.out.frozen 1
  have cc := Y.out.cellAt (i := 1) rfl
  clear b4 X3 G3 BB3 K4
  go_upto_region 6 with fail
  clear z cc
  obtain ⟨y4, hy⟩ : ∃ y, y = w4.setCell ⟨A + 1, 1, none⟩ (.slice a1 k1 c1) := ⟨_, rfl⟩
  rw [← hy]
  have X4 : Hid (Has y4 (A + 1) [.string S0, .slice a1 k1 c1, .slice none 0 0, .string sz, .string sz] 24) := Lib.hid (by rw [hy]; exact Has.set Y.out 1 (.slice a1 k1 c1))
  have G4 : Hid (Has y4 A dzL 24) := Lib.hid (by rw [hy]; exact GY.out.setOther (a := ⟨A + 1, 1, none⟩) (by show A ≠ A + 1; omega) _)
  have BB4 : Hid (Below A w y4) := Lib.hid (by rw [hy]; exact BY.out.setCell (p := ⟨A + 1, 1, none⟩) (by show A ≤ A + 1; omega) _)
  have O1_4 := Lib.hid (owns_but (w' := y4) (q := A + 1) OY1.out (by rw [hy]; exact (But.refl _ _ _).setB 1 _) Y.out (by decide))
  clear OY1
  clear hy Y GY BY
  go_wp2_with fail
  refine (K5.out _).mono ?_
  rintro e wx ⟨rfl, hwx⟩
  subst hwx
  have X5 := X4
  have G5 := G4
  have BB5 := BB4
  clear X4 G4 BB4 K5
  have O1_5 := O1_4
  clear O1_4
  go_wp2_with fail
  refine (K6.out _).mono ?_
  rintro e w6 ⟨a2, k2, c2, l2, rfl, hk2, hl2, ho2, b6⟩
  have HKL2 := Lib.hid hk2
  have HLL2 := Lib.hid hl2
  have Y := Lib.hid (X5.out.below b6 X5.out.lt)
  have GY := Lib.hid (G5.out.below b6 G5.out.lt)
  have BY : Hid (Below A w w6) := Lib.hid (BB5.out.trans (b6.mono (Nat.le_of_lt G5.out.lt)))
  have OY1 := Lib.hid (own_below O1_5.out b6)
  clear O1_5
  have OY2 : Hid (w6.ownsRow (A + 2) 9 1 (.slice a2 k2 c2) k2 (l2.map sv)) := Lib.hid (owns_lower ho2 (by have := X5.out.lt; omega))
  clear hk2 hl2 ho2
  have z := Y.out.frozen 2
  have cc := Y.out.cellAt (i := 2) rfl
  clear b6 X5 G5 BB5 K6
  go_upto_region 8 with fail
  clear z cc
  obtain ⟨y6, hy⟩ : ∃ y, y = w6.setCell ⟨A + 1, 2, none⟩ (.slice a2 k2 c2) := ⟨_, rfl⟩
  rw [← hy]
  have X6 : Hid (Has y6 (A + 1) [.string S0, .slice a1 k1 c1, .slice a2 k2 c2, .string sz, .string sz] 24) := Lib.hid (by rw [hy]; exact Has.set Y.out 2 (.slice a2 k2 c2))
  have G6 : Hid (Has y6 A dzL 24) := Lib.hid (by rw [hy]; exact GY.out.setOther (a := ⟨A + 1, 2, none⟩) (by show A ≠ A + 1; omega) _)
  have BB6 : Hid (Below A w y6) := Lib.hid (by rw [hy]; exact BY.out.setCell (p := ⟨A + 1, 2, none⟩) (by show A ≤ A + 1; omega) _)
  have O1_6 := Lib.hid (owns_but (w' := y6) (q := A + 1) OY1.out (by rw [hy]; exact (But.refl _ _ _).setB 2 _) Y.out (by decide))
  clear OY1
  have O2_6 := Lib.hid (owns_but (w' := y6) (q := A + 1) OY2.out (by rw [hy]; exact (But.refl _ _ _).setB 2 _) Y.out (by decide))
  clear OY2
  clear hy Y GY BY
  go_wp2_with fail
  refine (K7.out _).mono ?_
  rintro e wx ⟨rfl, hwx⟩
  subst hwx
  have X7 := X6
  have G7 := G6
  have BB7 := BB6
  clear X6 G6 BB6 K7
  have O1_7 := O1_6
  clear O1_6
  have O2_7 := O2_6
  clear O2_6
  go_wp2_with fail
  refine (K8.out _).mono ?_
  rintro e w8 ⟨rfl, b8⟩
  have Y := Lib.hid (X7.out.below b8 X7.out.lt)
  have GY := Lib.hid (G7.out.below b8 G7.out.lt)
  have BY : Hid (Below A w w8) := Lib.hid (BB7.out.trans (b8.mono (Nat.le_of_lt G7.out.lt)))
  have OY1 := Lib.hid (own_below O1_7.out b8)
  clear O1_7
  have OY2 := Lib.hid (own_below O2_7.out b8)
  clear O2_7
  have z := Y.out.frozen 3
  have cc := Y.out.cellAt (i := 3) rfl
  clear b8 X7 G7 BB7 K8
  go_upto_region 10 with fail
  clear z cc
  obtain ⟨y8, hy⟩ : ∃ y, y = w8.setCell ⟨A + 1, 3, none⟩ (.string S3) := ⟨_, rfl⟩
  rw [← hy]
  have X8 : Hid (Has y8 (A + 1) [.string S0, .slice a1 k1 c1, .slice a2 k2 c2, .string S3, .string sz] 24) := Lib.hid (by rw [hy]; exact Has.set Y.out 3 (.string S3))
  have G8 : Hid (Has y8 A dzL 24) := Lib.hid (by rw [hy]; exact GY.out.setOther (a := ⟨A + 1, 3, none⟩) (by show A ≠ A + 1; omega) _)
  have BB8 : Hid (Below A w y8) := Lib.hid (by rw [hy]; exact BY.out.setCell (p := ⟨A + 1, 3, none⟩) (by show A ≤ A + 1; omega) _)
  have O1_8 := Lib.hid (owns_but (w' := y8) (q := A + 1) OY1.out (by rw [hy]; exact (But.refl _ _ _).setB 3 _) Y.out (by decide))
  clear OY1
  have O2_8 := Lib.hid (owns_but (w' := y8) (q := A + 1) OY2.out (by rw [hy]; exact (But.refl _ _ _).setB 3 _) Y.out (by decide))
  clear OY2
  clear hy Y GY BY
  go_wp2_with fail
  refine (K9.out _).mono ?_
  rintro e wx ⟨rfl, hwx⟩
  subst hwx
  have X9 := X8
  have G9 := G8
  have BB9 := BB8
  clear X8 G8 BB8 K9
  have O1_9 := O1_8
  clear O1_8
  have O2_9 := O2_8
  clear O2_8
  go_wp2_with fail
  refine (K10.out _).mono ?_
  rintro e w10 ⟨rfl, b10⟩
  have Y := Lib.hid (X9.out.below b10 X9.out.lt)
  have GY := Lib.hid (G9.out.below b10 G9.out.lt)
  have BY : Hid (Below A w w10) := Lib.hid (BB9.out.trans (b10.mono (Nat.le_of_lt G9.out.lt)))
  have OY1 := Lib.hid (own_below O1_9.out b10)
  clear O1_9
  have OY2 := Lib.hid (own_below O2_9.out b10)
  clear O2_9
  have z := Y.out.frozen 4
  have cc := Y.out.cellAt (i := 4) rfl
  clear b10 X9 G9 BB9 K10
  go_upto_region 12 with fail
  clear z cc
  obtain ⟨y10, hy⟩ : ∃ y, y = w10.setCell ⟨A + 1, 4, none⟩ (.string S4) := ⟨_, rfl⟩
  rw [← hy]
  have X10 : Hid (Has y10 (A + 1) [.string S0, .slice a1 k1 c1, .slice a2 k2 c2, .string S3, .string S4] 24) := Lib.hid (by rw [hy]; exact Has.set Y.out 4 (.string S4))
  have G10 : Hid (Has y10 A dzL 24) := Lib.hid (by rw [hy]; exact GY.out.setOther (a := ⟨A + 1, 4, none⟩) (by show A ≠ A + 1; omega) _)
  have BB10 : Hid (Below A w y10) := Lib.hid (by rw [hy]; exact BY.out.setCell (p := ⟨A + 1, 4, none⟩) (by show A ≤ A + 1; omega) _)
  have O1_10 := Lib.hid (owns_but (w' := y10) (q := A + 1) OY1.out (by rw [hy]; exact (But.refl _ _ _).setB 4 _) Y.out (by decide))
  clear OY1
  have O2_10 := Lib.hid (owns_but (w' := y10) (q := A + 1) OY2.out (by rw [hy]; exact (But.refl _ _ _).setB 4 _) Y.out (by decide))
  clear OY2
  clear hy Y GY BY
  go_wp2_with fail
  refine (K11.out _).mono ?_
  rintro e wx ⟨rfl, hwx⟩
  subst hwx
  have X11 := X10
  have G11 := G10
  have BB11 := BB10
  clear X10 G10 BB10 K11
  have O1_11 := O1_10
  clear O1_10
  have O2_11 := O2_10
  clear O2_10
  obtain ⟨y, hy⟩ : ∃ y, y = y10 := ⟨_, rfl⟩
  subst hy
  rcases HPP.out with ⟨h11, hp⟩ | ⟨h11, hp⟩
  · subst hp
    obtain ⟨hw, r4, r6, hq4, hq6⟩ := HW.out [] h11
    have hl1 : l1 = lstV q4 := HLL1.out _ _ hq4
    have hl2 : l2 = lstV q6 := HLL2.out _ _ hq6
    rw [← hl1, ← hl2] at hw
    obtain ⟨t0, ht0⟩ : ∃ t, t = txtV q2 := ⟨_, rfl⟩
    obtain ⟨t3, ht3⟩ : ∃ t, t = txtV q8 := ⟨_, rfl⟩
    obtain ⟨t4, ht4⟩ : ∃ t, t = txtV q10 := ⟨_, rfl⟩
    have hS0 := HS0.out
    have hS3 := HS3.out
    have hS4 := HS4.out
    rw [← ht0] at hw hS0
    rw [← ht3] at hw hS3
    rw [← ht4] at hw hS4
    obtain ⟨m0, m1, m2, m3, m4, m5, m6⟩ := dwhole_small hw
    have hRL := HRL.out
    have hrd := readD_some hw
    have i1 := isS_own O1_11.out
    have i2 := isS_own O2_11.out
    have p1 := own_at O1_11.out
    have p2 := own_at O2_11.out
    have hz1 : ∀ x ∈ l1.map bs, x.size ≤ 140737488355328 := by
      intro x hx
      obtain ⟨t, ht, rfl⟩ := List.mem_map.1 hx
      have := m1 t ht
      rw [bs_size]; omega
    have hz2 : ∀ x ∈ l2.map bs, x.size ≤ 140737488355328 := by
      intro x hx
      obtain ⟨t, ht, rfl⟩ := List.mem_map.1 hx
      have := m2 t ht
      rw [bs_size]; omega
    have zz0 : S0.size ≤ 140737488355328 := by rw [hS0, bs_size]; have : t0.length ≤ R.length := m0; omega
    have zz3 : S3.size ≤ 140737488355328 := by rw [hS3, bs_size]; have : t3.length ≤ R.length := m3; omega
    have zz4 : S4.size ≤ 140737488355328 := by rw [hS4, bs_size]; have : t4.length ≤ R.length := m4; omega
    have hk := rform_any S0 S3 S4 a1 a2 k1 c1 k2 c2 _ _ y i1 i2 hz1 hz2 zz0 zz3 zz4
    obtain ⟨f, hf⟩ : ∃ f, f = formB S0 (l1.map bs) (l2.map bs) S3 S4 := ⟨_, rfl⟩
    rw [← hf] at hk
    have hfd : formDv ⟨t0, l1, l2, t3, t4⟩ = f := by rw [hf, hS0, hS3, hS4]; rfl
    have htx : dtextB S0 (l1.map bs) (l2.map bs) S3 S4 = dtext ⟨t0, l1, l2, t3, t4⟩ l1 := by rw [hS0, hS3, hS4]; exact dtextB_dv ⟨t0, l1, l2, t3, t4⟩
    obtain ⟨L5, hL5⟩ : ∃ L : List Value, L = [.string S0, .slice a1 k1 c1, .slice a2 k2 c2, .string S3, .string S4] := ⟨_, rfl⟩
    have HL5 := Lib.hid hL5
    have HLI : Hid ((Try.prog.info? 24).map (·.size) = some L5.toArray.size) := Lib.hid (by rw [hL5]; exact info_dL _ _ _ _ _ _ _ _ _)
    have HLO : Hid (L5.toArray.all (·.oneCell') = true) := Lib.hid (by rw [hL5]; exact drv5 _ _ _ _ _ _ _ _ _)
    have HLS : Hid (dzL.toArray.size = L5.toArray.size) := Lib.hid (by rw [hL5]; rfl)
    have XL : Hid (Has y (A + 1) L5 24) := Lib.hid (by rw [hL5]; exact X11.out)
    rw [show (#[.string S0, .slice a1 k1 c1, .slice a2 k2 c2, .string S3, .string S4] : Array Value) = L5.toArray by rw [hL5]] at hk
    have HK := Lib.hid hk
    have HF := Lib.hid hf
    have HFD := Lib.hid hfd
    have HTX := Lib.hid htx
    have HRD := Lib.hid hrd
    have I1 := Lib.hid i1
    have I2 := Lib.hid i2
    have HP1 := Lib.hid p1
    have HP2 := Lib.hid p2
    have HT0 := Lib.hid hS0
    have HT3 := Lib.hid hS3
    have HT4 := Lib.hid hS4
    clear hk hf hfd htx hrd i1 i2 p1 p2 hS0 hS3 hS4 m0 m1 m2 m3 m4 m5 m6 hz1 hz2 zz0 zz3 zz4 hw ht0 ht3 ht4 hL5 hl1 hl2 hq4 hq6 h11 hRL X11 O1_11 O2_11 HPP HW HV HS0 HS3 HS4
    have go_load := XL
    cases f with
    | false =>
      have HR3 : Hid (readD R = (dzD, 3)) := Lib.hid (by rw [HRD.out, if_neg]; intro h; have := h.1; rw [HFD.out] at this; cases this)
      go_wp2_with (refine wpList_load_row rfl 24 _ rfl (A + 1) rfl 24 L5.toArray (0, 0) _ XL.out Try.underlying24 rfl HLI.out ?_)
      refine HK.out.mono ?_
      rintro e w5 ⟨rfl, x5⟩
      have G5 := Lib.hid (G11.out.below x5 G11.out.lt)
      have B5 : Hid (Below A w w5) := Lib.hid (BB11.out.trans (x5.mono (Nat.le_of_lt G11.out.lt)))
      clear x5 HK
      go_wp2_with (refine wpList_store_row rfl 24 _ _ rfl A dzL.toArray rfl (by rw [← HZL.out]; rfl) 24 _ G5.out HZI.out rfl HZO.out ?_)
      refine bodyPost_ret (at_ret (fn := Try.f12) (p := 2) (u := 3) (ty := 24) Try.results12 _ _ A 24 dzL.toArray (0, 0) _ rfl (setRow_heap _ _ _ _ _ _ G5.out) Try.underlying24 rfl HZI.out) rfl ?_
      refine ⟨.agg dzL.toArray, ?_, ?_, below_setRow (by rw [← HA.out]; exact B5.out) (by rw [HA.out]; exact Nat.le_refl _) _⟩
      · rw [HR3.out]; rfl
      · rw [HR3.out]; exact isDv_zero _
    | true =>
      have hgd := formB_good HF.out.symm
      go_wp2_with (refine wpList_load_row rfl 24 _ rfl (A + 1) rfl 24 L5.toArray (0, 0) _ XL.out Try.underlying24 rfl HLI.out ?_)
      refine HK.out.mono ?_
      rintro e w5 ⟨rfl, x5⟩
      have G5 := Lib.hid (G11.out.below x5 G11.out.lt)
      have X5 := Lib.hid (XL.out.below x5 XL.out.lt)
      have B5 : Hid (Below A w w5) := Lib.hid (BB11.out.trans (x5.mono (Nat.le_of_lt G11.out.lt)))
      have i1 := I1.out.later x5
      have i2 := I2.out.later x5
      have hk := rtext_any S0 S3 S4 a1 a2 a1 k1 c1 k2 c2 k1 c1 (l2.map bs) (l1.map bs) w5 i2 i1 (by have := hgd.n2; have := i2.length; omega) (by have := hgd.n1; have := i1.length; omega) hgd.z2 hgd.z1 hgd.z0 hgd.z3 hgd.z4
      rw [HTX.out, show (#[.string S0, .slice a1 k1 c1, .slice a2 k2 c2, .string S3, .string S4] : Array Value) = L5.toArray by rw [HL5.out]] at hk
      obtain ⟨Xt, hX⟩ : ∃ X, X = bs (dtext ⟨t0, l1, l2, t3, t4⟩ l1) := ⟨_, rfl⟩
      rw [← hX] at hk
      have HXT := Lib.hid hX
      have HK2 := Lib.hid hk
      have I15 := Lib.hid i1
      have I25 := Lib.hid i2
      have c1' : w5.cell? ⟨A + 1, 1, none⟩ = some (.slice a1 k1 c1) := X5.out.cellAt (by rw [HL5.out]; rfl)
      clear x5 HK hgd i1 i2 hk hX
      by_cases hxs : Xt = s
      · have heq : (Xt.toList == s.toList) = true := by rw [hxs]; simp
        have HR0 : Hid (readD R = (⟨t0, l1, l2, t3, t4⟩, 0)) := Lib.hid (by
          rw [HRD.out, if_pos]
          refine ⟨HFD.out, ?_⟩
          have : (bs (dtext ⟨t0, l1, l2, t3, t4⟩ l1)) = (⟨R.toArray⟩ : ByteArray) := by rw [← HXT.out, hxs, HRS.out]
          have := congrArg (fun b : ByteArray => b.data.toList) this
          simpa [bs] using this)
        clear hxs
        go_wp2_with (refine wpList_load_rowG (by rfl) 24 _ rfl (A + 1) rfl 24 L5.toArray (0, 0) _ X5.out Try.underlying24 rfl HLI.out ?_)
        refine HK2.out.mono ?_
        rintro e w6 ⟨rfl, x6⟩
        have G6 := Lib.hid (G5.out.below x6 G5.out.lt)
        have X6 := Lib.hid (X5.out.below x6 X5.out.lt)
        have B6 : Hid (Below A w w6) := Lib.hid (B5.out.trans (x6.mono (Nat.le_of_lt G5.out.lt)))
        have I16 := Lib.hid (I15.out.later x6)
        have I26 := Lib.hid (I25.out.later x6)
        clear x6 HK2 c1'
        go_wp2_with (first | (refine wpList_load_row rfl 24 _ rfl (A + 1) rfl 24 L5.toArray (0, 0) _ X6.out Try.underlying24 rfl HLI.out ?_) | (refine wpList_store_row rfl 24 _ _ rfl A L5.toArray rfl rfl 24 _ G6.out HLI.out HLS.out HLO.out ?_))
        refine bodyPost_ret (at_ret (fn := Try.f12) (p := 2) (u := 3) (ty := 24) Try.results12 _ _ A 24 L5.toArray (0, 0) _ rfl (setRow_heap _ _ _ _ _ _ G6.out) Try.underlying24 rfl HLI.out) rfl ?_
        refine ⟨.agg L5.toArray, ?_, ?_, below_setRow (by rw [← HA.out]; exact B6.out) (by rw [HA.out]; exact Nat.le_refl _) _⟩
        · rw [HR0.out]; rfl
        · rw [HR0.out]
          refine ⟨a1, k1, c1, a2, k2, c2, by rw [HL5.out, HT0.out, HT3.out, HT4.out], ?_, ?_⟩
          · exact isS_row I16.out (fun p hp => by have := HP1.out p hp; omega)
          · exact isS_row I26.out (fun p hp => by have := HP2.out p hp; omega)
      · have heq : (Xt.toList == s.toList) = false := by
          have h : Xt.toList ≠ s.toList := fun h => hxs (bytes_ext (by rw [ByteArray.toList_eq, ByteArray.toList_eq] at h; exact h))
          simpa using h
        have HR3 : Hid (readD R = (dzD, 3)) := Lib.hid (by
          rw [HRD.out, if_neg]
          rintro ⟨_, h⟩
          apply hxs
          rw [HXT.out, HRS.out, h]; rfl)
        clear hxs
        go_wp2_with (refine wpList_load_rowG (by rfl) 24 _ rfl (A + 1) rfl 24 L5.toArray (0, 0) _ X5.out Try.underlying24 rfl HLI.out ?_)
        refine HK2.out.mono ?_
        rintro e w6 ⟨rfl, x6⟩
        have G6 := Lib.hid (G5.out.below x6 G5.out.lt)
        have B6 : Hid (Below A w w6) := Lib.hid (B5.out.trans (x6.mono (Nat.le_of_lt G5.out.lt)))
        clear x6 HK2 c1'
        go_wp2_with (refine wpList_store_row rfl 24 _ _ rfl A dzL.toArray rfl (by rw [← HZL.out]; rfl) 24 _ G6.out HZI.out rfl HZO.out ?_)
        refine bodyPost_ret (at_ret (fn := Try.f12) (p := 2) (u := 3) (ty := 24) Try.results12 _ _ A 24 dzL.toArray (0, 0) _ rfl (setRow_heap _ _ _ _ _ _ G6.out) Try.underlying24 rfl HZI.out) rfl ?_
        refine ⟨.agg dzL.toArray, ?_, ?_, below_setRow (by rw [← HA.out]; exact B6.out) (by rw [HA.out]; exact Nat.le_refl _) _⟩
        · rw [HR3.out]; rfl
        · rw [HR3.out]; exact isDv_zero _
  · have HR4 : Hid (readD R = (dzD, 4)) := Lib.hid (readD_bad (HV.out h11))
    clear h11 HPP HW HV
    go_wp2_with (refine wpList_store_row rfl 24 _ _ rfl A dzL.toArray rfl (by rw [← HZL.out]; rfl) 24 _ G11.out HZI.out rfl HZO.out ?_)
    refine bodyPost_ret (at_ret (fn := Try.f12) (p := 2) (u := 3) (ty := 24) Try.results12 _ _ A 24 dzL.toArray (0, 0) _ rfl (setRow_heap _ _ _ _ _ _ G11.out) Try.underlying24 rfl HZI.out) rfl ?_
    refine ⟨.agg dzL.toArray, ?_, ?_, below_setRow (by rw [← HA.out]; exact BB11.out) (by rw [HA.out]; exact Nat.le_refl _) _⟩
    · rw [HR4.out]; rfl
    · rw [HR4.out]; exact isDv_zero _
end Go.Proofs.Ytokbakpbhpknfaa

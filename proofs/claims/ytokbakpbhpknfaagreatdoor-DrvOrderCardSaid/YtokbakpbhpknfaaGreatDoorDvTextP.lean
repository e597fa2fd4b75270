/-
  A derivation's text: the contract of the program's Text. Conditions: bounds on the texts' sizes.
-/
import Derived.Test.YtokbakpbhpknfaaGreatDoorDvFormR
import Derived.Test.YtokbakpbhpknfaaGreatDoorDvWrN
import Derived.Test.YtokbakpbhpknfaaGreatDoorDvWhole
import Derived.Laws.Rows
namespace Go.Proofs.YtokbakpbhpknfaaGreatDoor
open Go.RowKit
set_option linter.unusedVariables false

/-- What a right derivation's texts have. -/
structure GoodZ (s0 : ByteArray) (l1 l2 : List ByteArray) (s3 s4 : ByteArray) : Prop where
  z0 : s0.size ≤ 1000000
  n1 : l1.length ≤ 32
  z1 : ∀ s ∈ l1, s.size ≤ 1000000
  n2 : l2.length ≤ 32
  z2 : ∀ s ∈ l2, s.size ≤ 1000000
  z3 : s3.size ≤ 1000000
  z4 : s4.size ≤ 1000000
theorem fixed_len {l : List UInt8} (h : dFixed l = true) : l.length ≤ 65 := by
  unfold dFixed at h
  rw [Bool.or_eq_true] at h
  rcases h with h | h
  · rw [List.isEmpty_iff] at h; rw [h]; simp
  · cases hu : Nam.unhex l with
    | none => rw [hu] at h; cases h
    | some p =>
      rw [hu] at h
      have h32 : p.length = 32 := by simpa using h
      unfold Nam.unhex at hu
      split at hu
      · simp only [Option.some.injEq] at hu
        have := Nam.prs_length l
        rw [hu, h32] at this; omega
      · cases hu
theorem formB_good {s0 : ByteArray} {l1 l2 : List ByteArray} {s3 s4 : ByteArray} (h : formB s0 l1 l2 s3 s4 = true) : GoodZ s0 l1 l2 s3 s4 := by
  unfold formB at h
  simp only [Bool.and_eq_true, decide_eq_true_eq] at h
  obtain ⟨⟨⟨⟨h0, h1⟩, h2⟩, h3⟩, h4⟩ := h
  have hz : ∀ s : ByteArray, s.size = s.data.toList.length := fun s => by simp
  have a0 := isName_len (show Nam.isName s0.data.toList = true by
    rw [dName_eq] at h0; simp only [Bool.and_eq_true] at h0; exact h0.1.1)
  have a1 := needT_len h1
  have a2 := needT_len h2
  have a4 := fixed_len h4
  exact ⟨by rw [hz]; omega, a1.1, fun s hs => by rw [hz]; have := dPath_len (a1.2 s hs); omega, a2.1, fun s hs => by rw [hz]; have := isP_len (a2.2 s hs); omega, by omega, by rw [hz]; omega⟩

/-- What Text tells. -/
def DTextP (s0 : ByteArray) (l1 l2 : List ByteArray) (s3 s4 : ByteArray) (w : World) (e : Ending) (w' : World) : Prop :=
  (formB s0 l1 l2 s3 s4 = true → e = .returned (.tuple #[.string (bs (dtextB s0 l1 l2 s3 s4)), .int .i64 0])) ∧ (formB s0 l1 l2 s3 s4 = false → e = .returned (.tuple #[.string ⟨#[]⟩, .int .i64 3])) ∧ Below w.heap.size w w'

set_option maxRecDepth 100000 in
set_option maxHeartbeats 16000000 in
theorem dtext_any (s0 s3 s4 : ByteArray) (a1 a2 : Option Addr) (n1 c1 n2 c2 : Nat) (l1 l2 : List ByteArray) (w : World) (h1 : IsS w a1 n1 c1 l1) (h2 : IsS w a2 n2 c2 l2)
    (z1 : ∀ s ∈ l1, s.size ≤ 140737488355328) (z2 : ∀ s ∈ l2, s.size ≤ 140737488355328) (z0 : s0.size ≤ 140737488355328) (z3 : s3.size ≤ 140737488355328) (z4 : s4.size ≤ 140737488355328) :
    Calls Tryz.prog 17 #[.agg #[.string s0, .slice a1 n1 c1, .slice a2 n2 c2, .string s3, .string s4]] w (DTextP s0 l1 l2 s3 s4 w) := by
  have hln1 := h1.length
  have hln2 := h2.length
  have kF := fun (w : World) (h1 : IsS w a1 n1 c1 l1) (h2 : IsS w a2 n2 c2 l2) => dform_any s0 s3 s4 a1 a2 n1 c1 n2 c2 l1 l2 w h1 h2 z1 z2 z0 z3 z4
  obtain ⟨r, hr⟩ : ∃ r, r = formB s0 l1 l2 s3 s4 := ⟨_, rfl⟩
  rw [← hr] at kF
  have KF := Lib.hid kF
  have HR := Lib.hid hr
  have I1 := Lib.hid h1
  have I2 := Lib.hid h2
  have HI5 : Hid ((Tryz.prog.info? 24).map (·.size) = some (#[.string s0, .slice a1 n1 c1, .slice a2 n2 c2, .string s3, .string s4] : Array Value).size) := Lib.hid (by rw [info_drv]; rfl)
  clear kF hr h1 h2 z1 z2
  go_enter Tryz.func17, Tryz.ntmps17
  go_upto_region 1 with fail
  obtain ⟨w1, hw1⟩ : ∃ w1, w1 = w.alloc (.cells #[.string s0, .slice a1 n1 c1, .slice a2 n2 c2, .string s3, .string s4] 24) := ⟨_, rfl⟩
  have g1 : Has w1 w.heap.size [.string s0, .slice a1 n1 c1, .slice a2 n2 c2, .string s3, .string s4] 24 := by rw [hw1]; exact Has.new w _ _
  have bl1 : Below w.heap.size w w1 := by rw [hw1]; exact (Below.refl _ _).alloc (Nat.le_refl _) _
  rw [← hw1]
  obtain ⟨G, hG⟩ : ∃ G, G = w.heap.size := ⟨_, rfl⟩
  rw [← hG] at g1 bl1 ⊢
  have HG := Lib.hid hG
  have G1 := Lib.hid g1
  have B1 := Lib.hid bl1
  clear hw1 g1 bl1 hG
  go_wp2_with (refine wpList_load_row rfl 24 _ rfl G rfl 24 #[.string s0, .slice a1 n1 c1, .slice a2 n2 c2, .string s3, .string s4] (0, 0) _ G1.out Tryz.underlying24 rfl HI5.out ?_)
  refine (KF.out _ (I1.out.later (by rw [← HG.out]; exact B1.out)) (I2.out.later (by rw [← HG.out]; exact B1.out))).mono ?_
  rintro e w2 ⟨rfl, x2⟩
  have B2 : Hid (Below G w w2) := Lib.hid (B1.out.trans (x2.mono (Nat.le_of_lt G1.out.lt)))
  have G2 := Lib.hid (G1.out.below x2 G1.out.lt)
  clear x2 G1 B1 KF
  cases r with
  | false =>
    go_wp2_with fail
    go_ret2
    exact ⟨(fun h => by rw [← HR.out] at h; cases h), (fun _ => rfl), by rw [← HG.out]; exact B2.out⟩
  | true =>
    have hz := formB_good HR.out.symm
    have hk := written_any s0 s3 s4 a1 a2 a1 n1 c1 n2 c2 n1 c1 l2 l1 w2 (I2.out.later (by rw [← HG.out]; exact B2.out)) (I1.out.later (by rw [← HG.out]; exact B2.out)) (by have := hz.n2; omega) (by have := hz.n1; omega) hz.z2 hz.z1 hz.z0 hz.z3 hz.z4
    have HK := Lib.hid hk
    have c1' := G2.out.cellAt (i := 1) rfl
    clear hk hz
    go_wp2_with (refine wpList_load_row rfl 24 _ rfl G rfl 24 #[.string s0, .slice a1 n1 c1, .slice a2 n2 c2, .string s3, .string s4] (0, 0) _ G2.out Tryz.underlying24 rfl HI5.out ?_)
    refine HK.out.mono ?_
    rintro e w3 ⟨rfl, x3⟩
    have B3 : Hid (Below G w w3) := Lib.hid (B2.out.trans (x3.mono (Nat.le_of_lt G2.out.lt)))
    clear x3 HK c1'
    go_wp2_with fail
    go_ret2
    exact ⟨(fun _ => rfl), (fun h => by rw [← HR.out] at h; cases h), by rw [← HG.out]; exact B3.out⟩
end Go.Proofs.YtokbakpbhpknfaaGreatDoor

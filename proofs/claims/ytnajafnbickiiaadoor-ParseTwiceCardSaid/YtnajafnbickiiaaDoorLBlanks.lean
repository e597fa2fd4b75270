/-
  The contract of the lexer's blanks: it goes behind blanks and remarks. Conditions: the text's bound.
-/
import Derived.Test.YtnajafnbickiiaaDoorLAdd
import Derived.Test.YtnajafnbickiiaaDoorLLen
import Derived.Deep.LoopGhost
import Derived.BigQuiet
namespace Go.Proofs.YtnajafnbickiiaaDoor
open Go.RowKit
set_option linter.unusedVariables false

theorem Lx.drewN {B lb a : Nat} {w0 w : World} {s : ByteArray} {ts : List Tk} {q : Bool} {p : List Nat} (h : Lx B lb w0 s a ts q p w) (n : Nat) : Lx B lb w0 s a ts q p (w.drewN n) := by
  induction n with
  | zero => exact h
  | succ n ih => exact ih.drew
theorem lexA_cons {s : ByteArray} {a : Nat} (h : a < s.size) : s.data.toList.drop a = s.data.toList.getD a 0 :: s.data.toList.drop (a + 1) := by
  have hl : a < s.data.toList.length := by simpa using h
  rw [List.drop_eq_getElem_cons hl, List.getD_eq_getElem?_getD, List.getElem?_eq_getElem hl]; rfl
theorem lexA_blank {s : ByteArray} {a : Nat} {p : List Nat} (h : a < s.size) (hb : blkL (s.data.toList.getD a 0) = true) : lexA (s.data.toList.drop a) a false p = lexA (s.data.toList.drop (a + 1)) (a + 1) false p := by
  have e := lexA_cons h
  rw [lexA_ok (l := s.data.toList.drop a) (by rw [e]; simp) (by rw [e]; exact step_blank hb), ahead_nil, List.drop_drop]
theorem lexA_line {s : ByteArray} {a : Nat} {p : List Nat} (h : a < s.size) (hb : (s.data.toList.getD a 0).toNat = 35) : lexA (s.data.toList.drop a) a false p = lexA (s.data.toList.drop (a + lineL (s.data.toList.drop a))) (a + lineL (s.data.toList.drop a)) false p := by
  have e := lexA_cons h
  rw [lexA_ok (l := s.data.toList.drop a) (k := lineL (s.data.toList.drop a)) (by rw [e]; simp) (by rw [e]; exact step_line hb), ahead_nil, List.drop_drop]
theorem ext_list (s : ByteArray) (a : Nat) (h : a ≤ s.size) : (s.extract a s.size).data.toList = s.data.toList.drop a := by
  rw [ByteArray.data_extract, Array.toList_extract, List.extract_eq_take_drop, List.take_of_length_le]
  rw [List.length_drop]; simp

/-- Behind the blanks: the same tokens are to come, and no blank or remark is next. -/
def BlPost (B lb : Nat) (w0 : World) (s : ByteArray) (a : Nat) (ts : List Tk) (q : Bool) (p : List Nat) (e : Ending) (w' : World) : Prop :=
  e = .returned (.tuple #[]) ∧ ∃ k, a ≤ k ∧ k ≤ s.size ∧ Lx B lb w0 s k ts q p w' ∧ lexA (s.data.toList.drop k) k q p = lexA (s.data.toList.drop a) a q p ∧
    (q = true ∧ k = a ∨ k = s.size ∨ (blkL (s.data.toList.getD k 0) = false ∧ (s.data.toList.getD k 0).toNat ≠ 35))

set_option maxRecDepth 100000 in
set_option maxHeartbeats 4000000 in
theorem blanks_any (B lb : Nat) (w0 : World) (s : ByteArray) (a : Nat) (ts : List Tk) (q : Bool) (p : List Nat) (w : World) (hx : Lx B lb w0 s a ts q p w) (ha : a ≤ s.size) (hs : s.size ≤ 8000) :
    Calls Tryd.prog 10 #[.pointer (some ⟨lb, 0, none⟩)] w fun e w' => BlPost B lb w0 s a ts q p e w' := by
  cases q
  · have HX := Lib.hid hx
    clear hx
    go_enter Tryd.func10, Tryd.ntmps10
    go_wp2_with fail
    go_loopg [2] (s.size - a) (fun g s2 wr => ∃ k, g = s.size - k ∧ a ≤ k ∧ k ≤ s.size ∧ Lx B lb w0 s k ts false p wr ∧ lexA (s.data.toList.drop k) k false p = lexA (s.data.toList.drop a) a false p)
    case atStart => exact ⟨a, rfl, Nat.le_refl _, ha, HX.out, rfl⟩
    case round =>
      obtain ⟨k, rfl, hak, hks, hx, hlex⟩ := hrel
      have HL := Lib.hid hlex
      obtain ⟨vl, vp, h1, h2, h3, h4, h5⟩ := hx
      have HX := Lib.hid (show Lx B lb w0 s k ts false p wr from ⟨vl, vp, h1, h2, h3, h4, h5⟩)
      have c0 := h1.cellAt (i := 0) rfl
      have c1 := h1.cellAt (i := 1) rfl
      have c3 := h1.cellAt (i := 3) rfl
      have f1 := h1.frozen 1
      have H1 := Lib.hid h1
      clear hlex h1 h2 h3 h4 h5
      by_cases hlt : k < s.size
      · have hki : (k : Int) < (s.size : Int) := by omega
        have hget := str_get s k hlt
        obtain ⟨c, hc⟩ : ∃ c, c = s.data.toList.getD k 0 := ⟨_, rfl⟩
        rw [← hc] at hget
        have HC := Lib.hid hc
        clear hc
        cases hb : blkL c
        · by_cases h35 : (c.toNat : Int) = 35
          · have HNEXT := Lib.hid (lexA_line (p := p) hlt (by rw [← HC.out]; omega))
            have HLE : Hid (k + lineL (s.data.toList.drop k) ≤ s.size ∧ 1 ≤ lineL (s.data.toList.drop k)) := Lib.hid (by
              have h1 := lenOf_le (fun c => c.toNat != 10) (s.data.toList.drop k)
              have h2 : 1 ≤ lineL (s.data.toList.drop k) := by
                rw [lexA_cons hlt]
                exact lenOf_pos (by rw [← HC.out]; simp; omega)
              have h3 : (s.data.toList.drop k).length = s.size - k := by rw [List.length_drop]; simp
              unfold lineL at h2 ⊢
              omega)
            have HEX := Lib.hid (ext_list s k (by omega))
            have HB := Lib.hid hb
            obtain ⟨ln, hln⟩ : ∃ ln, ln = lineL (s.data.toList.drop k) := ⟨_, rfl⟩
            rw [← hln] at HNEXT HLE
            have HLN := Lib.hid hln
            have hle1 := HLE.out.1
            have hle2 := HLE.out.2
            have HCALL : Hid (∀ w, Calls Tryd.prog 16 #[.string (s.extract k s.size)] w fun e w' => e = .returned (.int .i64 (ln : Int)) ∧ w' = w) := Lib.hid (fun w => (line_any _ w).mono (fun e w' h => ⟨by rw [h.1, HEX.out, HLN.out], h.2.symm⟩))
            clear hb hln
            have hki2 : (k : Int) ≤ (s.size : Int) := by omega
            have HWR : Hid (IntKind.i64.wrap ((k : Int) + (ln : Int)) = ((k + ln : Nat) : Int)) := Lib.hid (by simp [IntKind.wrap, IntKind.bits, IntKind.signed]; omega)
            go_wp2_with fail
            go_quiet (fail)
            go_wp2_with fail
            go_quiet (fail)
            go_wp2_with fail
            go_region_with (go_at_call 16; refine (HCALL.out _).mono ?_; rintro e w' ⟨rfl, rfl⟩)
            all_goals
              go_wp2_with fail
              go_roundg (s.size - (k + ln))
              case rel => exact ⟨k + ln, rfl, by omega, by have := HLE.out.1; omega, by rw [HWR.out]; exact (HX.out.drewN _).setAt (k + ln), HNEXT.out.symm.trans HL.out⟩
              case measure => have := HLE.out; omega
          · have n32 : ¬ (c.toNat : Int) = 32 := fun e => by have : blkL c = true := by unfold blkL; rw [show c.toNat = 32 by omega]; rfl
                                                             rw [hb] at this; cases this
            have n10 : ¬ (c.toNat : Int) = 10 := fun e => by have : blkL c = true := by unfold blkL; rw [show c.toNat = 10 by omega]; rfl
                                                             rw [hb] at this; cases this
            have n9 : ¬ (c.toNat : Int) = 9 := fun e => by have : blkL c = true := by unfold blkL; rw [show c.toNat = 9 by omega]; rfl
                                                           rw [hb] at this; cases this
            have HB := Lib.hid hb
            clear hb
            go_wp2_with fail
            go_quiet (fail)
            go_wp2_with fail
            go_quiet (fail)
            go_wp2_with fail
            first | go_end0 | (simp only [Exit.inBlock, Exit.then]; refine bodyPost_ret (results_none rfl _ _ _) rfl ?_) | refine bodyPost_ret (results_none rfl _ _ _) rfl ?_
            exact ⟨rfl, k, hak, hks, HX.out.drewN _, HL.out, .inr (.inr ⟨by rw [← HC.out]; exact HB.out, by rw [← HC.out]; omega⟩)⟩
        · have HNEXT := Lib.hid (lexA_blank (p := p) hlt (by rw [← HC.out]; exact hb))
          have hwr : wrap64 ((k : Int) + 1) = ((k + 1 : Nat) : Int) := by unfold wrap64; omega
          have HB := Lib.hid hb
          have h3 : (c.toNat : Int) = 32 ∨ (c.toNat : Int) = 10 ∨ (c.toNat : Int) = 9 := by
            unfold blkL at hb
            simp only [Bool.or_eq_true, beq_iff_eq] at hb
            omega
          clear hb
          rcases h3 with h3 | h3 | h3
          all_goals
            go_wp2_with fail
            go_quiet (fail)
            go_wp2_with fail
            go_quiet (fail)
            go_wp2_with fail
            go_roundg (s.size - (k + 1))
            case rel => exact ⟨k + 1, rfl, by omega, by omega, (HX.out.drewN _).setAt (k + 1), HNEXT.out.symm.trans HL.out⟩
            case measure => omega
      · obtain rfl : k = s.size := by omega
        have hki : ¬ (s.size : Int) < (s.size : Int) := by omega
        go_wp2_with fail
        go_quiet (fail)
        go_wp2_with fail
        first | go_end0 | (simp only [Exit.inBlock, Exit.then]; refine bodyPost_ret (results_none rfl _ _ _) rfl ?_) | refine bodyPost_ret (results_none rfl _ _ _) rfl ?_
        exact ⟨rfl, s.size, hak, hks, HX.out.drewN _, HL.out, .inr (.inl rfl)⟩
  · have HX := Lib.hid hx
    obtain ⟨vl, vp, h1, h2, h3, h4, h5⟩ := hx
    have c0 := h1.cellAt (i := 0) rfl
    have c1 := h1.cellAt (i := 1) rfl
    have c3 := h1.cellAt (i := 3) rfl
    clear h1 h2 h3 h4 h5
    go_enter Tryd.func10, Tryd.ntmps10
    go_wp2_with fail
    go_loopg [2] 1 (fun g s2 wr => wr = w ∧ g = 1)
    case atStart => exact ⟨rfl, rfl⟩
    case round =>
      obtain ⟨rfl, rfl⟩ := hrel
      go_wp2_with fail
      go_quiet (fail)
      go_wp2_with fail
      first | go_end0 | (simp only [Exit.inBlock, Exit.then]; refine bodyPost_ret (results_none rfl _ _ _) rfl ?_) | refine bodyPost_ret (results_none rfl _ _ _) rfl ?_
      exact ⟨rfl, a, Nat.le_refl _, ha, HX.out.drewN _, rfl, .inl ⟨rfl, rfl⟩⟩

end Go.Proofs.YtnajafnbickiiaaDoor

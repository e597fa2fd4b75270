/-
  The contract of the lexer's sign. Conditions: the listed variables lie as the text lays them; bounds on the numbers.
-/
import Derived.Test.YtnajafnbickiiaaDoorLBlanks
import Derived.Test.YtnajafnbickiiaaDoorLKind
import Derived.Laws.Rows
namespace Go.Proofs.YtnajafnbickiiaaDoor
open Go.RowKit
set_option linter.unusedVariables false

/-- Behind a call that adds the next token, or doesn't. -/
def NxPost (B lb : Nat) (w0 : World) (s : ByteArray) (a : Nat) (ts : List Tk) (q : Bool) (p : List Nat) (e : Ending) (w' : World) : Prop :=
  match stepL (s.data.toList.drop a) a q p with
  | .error (pl, er) => e = .returned (.int .i64 er) ∧ ∃ ts' q' p', Lx B lb w0 s pl ts' q' p' w'
  | .ok (ts', k, q', p') => e = .returned (.int .i64 0) ∧ Lx B lb w0 s (a + k) (ts ++ ts') q' p' w'

theorem info_signs : (Tryd.prog.info? 67).map (·.size) = some (signB.map Value.string).toArray.size := by kernel_rfl
theorem info_words : (Tryd.prog.info? 62).map (·.size) = some (wordB.map Value.string).toArray.size := by kernel_rfl

theorem idx_signs (k : Nat) (hk : k < 24) (w : World) : (Instr.index 67 (.agg (signB.map Value.string).toArray) (.int .i64 (k : Int))).run Tryd.prog w = .ok (.string (signB.getD k ⟨#[]⟩)) w := by
  have h : k = 0 ∨ k = 1 ∨ k = 2 ∨ k = 3 ∨ k = 4 ∨ k = 5 ∨ k = 6 ∨ k = 7 ∨ k = 8 ∨ k = 9 ∨ k = 10 ∨ k = 11 ∨ k = 12 ∨ k = 13 ∨ k = 14 ∨ k = 15 ∨ k = 16 ∨ k = 17 ∨ k = 18 ∨ k = 19 ∨ k = 20 ∨ k = 21 ∨ k = 22 ∨ k = 23 := by omega
  rcases h with rfl | rfl | rfl | rfl | rfl | rfl | rfl | rfl | rfl | rfl | rfl | rfl | rfl | rfl | rfl | rfl | rfl | rfl | rfl | rfl | rfl | rfl | rfl | rfl <;> (show (Instr.index _ _ _).run _ w = _; kernel_rfl)
theorem idx_words (k : Nat) (hk : k < 10) (w : World) : (Instr.index 62 (.agg (wordB.map Value.string).toArray) (.int .i64 (k : Int))).run Tryd.prog w = .ok (.string (wordB.getD k ⟨#[]⟩)) w := by
  have h : k = 0 ∨ k = 1 ∨ k = 2 ∨ k = 3 ∨ k = 4 ∨ k = 5 ∨ k = 6 ∨ k = 7 ∨ k = 8 ∨ k = 9 := by omega
  rcases h with rfl | rfl | rfl | rfl | rfl | rfl | rfl | rfl | rfl | rfl <;> (show (Instr.index _ _ _).run _ w = _; kernel_rfl)

theorem nx_error {B lb : Nat} {w0 : World} {s : ByteArray} {a : Nat} {ts : List Tk} {q : Bool} {p : List Nat} {w' : World} {pl : Nat} {er : Int} {ts' : List Tk} {q' : Bool} {p' : List Nat} {e : Ending} (h : stepL (s.data.toList.drop a) a q p = .error (pl, er)) (he : e = .returned (.int .i64 er)) (hx : Lx B lb w0 s pl ts' q' p' w') : NxPost B lb w0 s a ts q p e w' := by
  unfold NxPost; rw [h]; exact ⟨he, ts', q', p', hx⟩
theorem nx_ok {B lb : Nat} {w0 : World} {s : ByteArray} {a : Nat} {ts : List Tk} {q : Bool} {p : List Nat} {w' : World} {k : Nat} {ts' : List Tk} {q' : Bool} {p' : List Nat} {e : Ending} (h : stepL (s.data.toList.drop a) a q p = .ok (ts', k, q', p')) (he : e = .returned (.int .i64 0)) (hx : Lx B lb w0 s (a + k) (ts ++ ts') q' p' w') : NxPost B lb w0 s a ts q p e w' := by
  unfold NxPost; rw [h]; exact ⟨he, hx⟩

theorem sign_first (l : List UInt8) (k : Nat) (hk : k < signsL.length) (hno : ∀ j, j < k → (signsL.getD j []).isPrefixOf l = false) (h : (signsL.getD k []).isPrefixOf l = true) : signOf l = some (signsL.getD k []) := by
  unfold signOf
  rw [List.find?_eq_some_iff_getElem]
  refine ⟨h, k, hk, ?_, fun j hj => ?_⟩
  · rw [List.getD_eq_getElem?_getD, List.getElem?_eq_getElem hk]; rfl
  · have := hno j hj
    rw [List.getD_eq_getElem?_getD, List.getElem?_eq_getElem (by omega)] at this
    simp only [Option.getD_some] at this
    rw [this]; rfl
theorem sign_none (l : List UInt8) (hno : ∀ j, j < signsL.length → (signsL.getD j []).isPrefixOf l = false) : signOf l = none := by
  unfold signOf
  rw [List.find?_eq_none]
  intro x hx
  obtain ⟨j, hj, rfl⟩ := List.mem_iff_getElem.1 hx
  have := hno j hj
  rw [List.getD_eq_getElem?_getD, List.getElem?_eq_getElem hj] at this
  simp only [Option.getD_some] at this
  rw [this]; simp

theorem hasPrefix_eq (l p : List UInt8) : Lib.hasPrefix l p = p.isPrefixOf l := by
  first | rfl | (unfold Lib.hasPrefix; rfl)

theorem has_drewN {w : World} {b : Nat} {L : List Value} {t : TypeId} (h : Has w b L t) (n : Nat) : Has (w.drewN n) b L t := by
  induction n with
  | zero => exact h
  | succ n ih => exact ih.drew
theorem has_drewN_heap (w : World) (n : Nat) : (w.drewN n).heap = w.heap := by
  induction n with
  | zero => rfl
  | succ n ih => exact ih
theorem drewN_drewN (w : World) (n m : Nat) : (w.drewN n).drewN m = w.drewN (n + m) := by
  first | rfl | (induction m with | zero => rfl | succ m ih => rw [show n + (m + 1) = (n + m) + 1 by omega]; exact congrArg World.drew ih)

set_option maxRecDepth 100000 in
set_option maxHeartbeats 4000000 in
theorem sign_any (B lb : Nat) (w0 : World) (s : ByteArray) (a : Nat) (ts : List Tk) (p : List Nat) (w : World) (hx : Lx B lb w0 s a ts false p w) (ha : a < s.size) (hs : s.size ≤ 8000) (hts : ts.length ≤ 8000) (hp : p.length ≤ 8000) (hm : ∀ m ∈ p, m ≤ 8000) (hl : LaidL w)
    (hst : stepL (s.data.toList.drop a) a false p = match signOf (s.data.toList.drop a) with
      | none => .error (a, 4)
      | some g => .ok (signTok g a p)) :
    Calls Tryd.prog 22 #[.pointer (some ⟨lb, 0, none⟩)] w (NxPost B lb w0 s a ts false p) := by
  have HST := Lib.hid hst
  obtain ⟨L, hL⟩ : ∃ L, L = s.data.toList.drop a := ⟨_, rfl⟩
  rw [← hL] at HST
  have HLL := Lib.hid hL
  have HX := Lib.hid hx
  obtain ⟨vl, vp, h1, h2, h3, h4, h5⟩ := hx
  have H1 := Lib.hid h1
  have hai : (a : Int) ≤ (s.size : Int) := by omega
  have HEX : Hid ((s.extract a s.size).data.toList = L) := Lib.hid (by rw [ext_list s a (by omega), hL])
  obtain ⟨t1, f1, hsg⟩ := hl.signs
  obtain ⟨R, hR⟩ : ∃ R, R = (signB.map Value.string).toArray := ⟨_, rfl⟩
  have HI := Lib.hid info_signs
  rw [← hR] at hsg HI
  have HSG := Lib.hid hsg
  have HR := Lib.hid hR
  have HP := Lib.hid hp
  have HM := Lib.hid hm
  clear hst h1 h2 h3 h4 h5 hL hsg hR hl hp hm
  go_enter Tryd.func22, Tryd.ntmps22
  go_wp2_with (refine wpList_load_row rfl 67 _ rfl 1 rfl t1 R f1 _ HSG.out Tryd.underlying67 rfl HI.out ?_)
  go_loopw [6] (fun ii wr => ∃ k n : Nat, k ≤ 24 ∧ ii = .int .i64 k ∧ wr = w.drewN n ∧ Hid (∀ j, j < k → (signsL.getD j []).isPrefixOf L = false)) (fun ii _ => 24 - (intOf ii).toNat)
  case atStart => exact ⟨0, 0, Nat.zero_le _, rfl, rfl, Lib.hid (fun j hj => by omega)⟩
  case round =>
    obtain ⟨k, n, hk, rfl, hwn, hno⟩ := hrel
    have HXN : Hid (Lx B lb w0 s a ts false p wr) := Lib.hid (by rw [hwn]; exact HX.out.drewN n)
    have H1N : Hid (Has wr lb [.string s, .int .i64 (a : Int), vl, .bool false, vp] 41) := Lib.hid (by rw [hwn]; exact has_drewN H1.out n)
    have HWN := Lib.hid hwn
    clear hwn
    by_cases hlt : k < 24
    · obtain ⟨g, hg⟩ : ∃ g, g = signsL.getD k [] := ⟨_, rfl⟩
      obtain ⟨gb, hgb⟩ : ∃ gb : ByteArray, gb = ⟨g.toArray⟩ := ⟨_, rfl⟩
      have hidx : ∀ w : World, (Instr.index 67 (.agg R) (.int .i64 (k : Int))).run Tryd.prog w = .ok (.string gb) w := fun w => by
        rw [HR.out, idx_signs k hlt w, hgb, hg]
        have : k < signsL.length := hlt
        simp [signB, List.getElem?_eq_getElem this, List.getD]
      have hgl : gb.data.toList = g := by rw [hgb]
      have hgm : g ∈ signsL := by rw [hg, List.getD_eq_getElem?_getD, List.getElem?_eq_getElem (show k < signsL.length from hlt)]; exact List.getElem_mem _
      have hki : (k : Int) < 24 := by omega
      have c0 := H1N.out.cellAt (i := 0) rfl
      have c1 := H1N.out.cellAt (i := 1) rfl
      have HGL := Lib.hid hgl
      have HG := Lib.hid hg
      have HGM := Lib.hid hgm
      clear hgb hg hgl hgm
      cases hpre : g.isPrefixOf L
      · have HC : Hid (∀ w, Calls Tryd.prog 35 #[.string (s.extract a s.size), .string gb] w fun e w' => e = .returned (.bool false) ∧ w' = w) := Lib.hid (fun w => by
          have := Tryd.strings_HasPrefix (s.extract a s.size) gb w
          rw [HEX.out, HGL.out, hasPrefix_eq, hpre] at this; exact this)
        have HNO : Hid (∀ j, j < k + 1 → (signsL.getD j []).isPrefixOf L = false) := Lib.hid (fun j hj => by
          by_cases e : j = k
          · rw [e, ← HG.out]; exact hpre
          · exact hno.out j (by omega))
        clear hpre
        go_wp2_with fail
        go_quiet ((go_at_call 35; exact Calls.quiet_of_same (HC.out _)))
        go_wp2_with fail
        go_roundw
        case rel => exact ⟨k + 1, _, by omega, by go_num, by rw [HWN.out, drewN_drewN], HNO⟩
        case measure => simp [intOf]; omega
      · have HC : Hid (∀ w, Calls Tryd.prog 35 #[.string (s.extract a s.size), .string gb] w fun e w' => e = .returned (.bool true) ∧ w' = w) := Lib.hid (fun w => by
          have := Tryd.strings_HasPrefix (s.extract a s.size) gb w
          rw [HEX.out, HGL.out, hasPrefix_eq, hpre] at this; exact this)
        have HSO : Hid (signOf L = some g) := Lib.hid (by rw [HG.out]; exact sign_first L k hlt hno.out (by rw [← HG.out]; exact hpre))
        have HPRE : Hid (g.isPrefixOf L = true) := Lib.hid hpre
        have HTAK : Hid ((s.data.toList.drop a).take g.length = g) := Lib.hid (by rw [← HLL.out]; exact List.prefix_iff_eq_take.1 (List.isPrefixOf_iff_prefix.1 hpre) |>.symm)
        have HLE : Hid (a + g.length ≤ s.size) := Lib.hid (by
          have h1 := (List.isPrefixOf_iff_prefix.1 hpre).length_le
          rw [HLL.out, List.length_drop] at h1
          have h2 : s.data.toList.length = s.size := by simp
          omega)
        have HGS : Hid (gb.size = g.length) := Lib.hid (by rw [← HGL.out]; simp)
        clear hpre hno
        go_wp2_with fail
        go_quiet ((go_at_call 35; exact Calls.quiet_of_same (HC.out _)))
        go_wp2_with fail
        refine (kind_any B lb w0 s a ts p _ (HXN.out.drewN _) gb g HGL HP.out HM.out).mono ?_
        rintro e w5 ⟨rfl, hx5⟩
        have HX5 := Lib.hid hx5
        clear hx5
        go_wp2_with fail
        have hadd := add_any B lb w0 s a ts _ _ w5 HX5.out (kindL g p).1 g.length HLE.out hs (by omega)
        rw [HTAK.out] at hadd
        rw [HGS.out]
        have HA := Lib.hid hadd
        clear hadd
        refine HA.out.mono ?_
        rintro e w6 ⟨rfl, hx6⟩
        have HX6 := Lib.hid hx6
        clear hx6
        go_wp2_with fail
        go_ret
        exact nx_ok (by rw [← HLL.out, HST.out, HSO.out]; show Except.ok (signTok g a p) = _; rw [signTok_kind]) rfl HX6.out
    · obtain rfl : k = 24 := by omega
      have HSO : Hid (signOf L = none) := Lib.hid (sign_none L hno.out)
      go_wp2_with fail
      go_ret
      exact nx_error (by rw [← HLL.out, HST.out, HSO.out]) rfl HXN.out

end Go.Proofs.YtnajafnbickiiaaDoor

/-
  The contract of the lexer's name: a name or a word. Conditions: the listed variables lie as the text lays them; bounds on the numbers.
-/
import Derived.Test.YtnajafnbickiiaaDoorLSign
namespace Go.Proofs.YtnajafnbickiiaaDoor
open Go.RowKit
set_option linter.unusedVariables false

theorem in_sort : SortF 38 inL := fun c w => in_any c w
theorem dig_sort : SortF 20 digL := fun c w => dig_any c w
theorem len_in (s : ByteArray) (L : List UInt8) (hL : Hid (s.data.toList = L)) (n : Nat) (hn : Hid (lenOf inL L = n)) (hs : s.size ≤ 140737488355328) (w : World) :
    Calls Tryd.prog 37 #[.string s, .func (.func 38) #[] #[]] w fun e w' => e = .returned (.int .i64 (n : Int)) ∧ w' = w := by
  have := len_fn 38 inL (Lib.hid in_sort) (enters_of Tryd.func38 (by kernel_rfl) rfl) s hs w
  rw [hL.out, hn.out] at this
  exact this.mono (fun e w' h => ⟨h.1, h.2.symm⟩)
theorem len_dig (s : ByteArray) (L : List UInt8) (hL : Hid (s.data.toList = L)) (n : Nat) (hn : Hid (lenOf digL L = n)) (hs : s.size ≤ 140737488355328) (w : World) :
    Calls Tryd.prog 37 #[.string s, .func (.func 20) #[] #[]] w fun e w' => e = .returned (.int .i64 (n : Int)) ∧ w' = w := by
  have := len_fn 20 digL (Lib.hid dig_sort) (enters_of Tryd.func20 (by kernel_rfl) rfl) s hs w
  rw [hL.out, hn.out] at this
  exact this.mono (fun e w' h => ⟨h.1, h.2.symm⟩)
theorem word_first {T : List UInt8} {k : Nat} (hk : k < wordsL.length) (h : (T == wordsL.getD k []) = true) : T ∈ wordsL := by
  rw [beq_iff_eq] at h
  rw [h, List.getD_eq_getElem?_getD, List.getElem?_eq_getElem hk]
  exact List.getElem_mem _
theorem word_none {T : List UInt8} (h : ∀ j, j < wordsL.length → (T == wordsL.getD j []) = false) : ¬ T ∈ wordsL := by
  intro hm
  obtain ⟨j, hj, rfl⟩ := List.mem_iff_getElem.1 hm
  have := h j hj
  rw [List.getD_eq_getElem?_getD, List.getElem?_eq_getElem hj] at this
  simp at this

set_option maxRecDepth 100000 in
set_option maxHeartbeats 4000000 in
theorem name_any (B lb : Nat) (w0 : World) (s : ByteArray) (a : Nat) (ts : List Tk) (p : List Nat) (w : World) (hx : Lx B lb w0 s a ts false p w) (ha : a < s.size) (hs : s.size ≤ 8000) (hts : ts.length ≤ 8000) (hl : LaidL w) (n : Nat) (hn : lenOf inL (s.data.toList.drop a) = n) :
    Calls Tryd.prog 19 #[.pointer (some ⟨lb, 0, none⟩)] w fun e w' => e = .returned (.tuple #[]) ∧ Lx B lb w0 s (a + n) (ts ++ [⟨if (s.data.toList.drop a).take n ∈ wordsL then 2 else 1, (s.data.toList.drop a).take n, a⟩]) false p w' := by
  have hnl : a + n ≤ s.size := by
    have h1 := lenOf_le inL (s.data.toList.drop a)
    rw [hn, List.length_drop] at h1
    have h2 : s.data.toList.length = s.size := by simp
    omega
  obtain ⟨T, hT⟩ : ∃ T, T = (s.data.toList.drop a).take n := ⟨_, rfl⟩
  have HX := Lib.hid hx
  obtain ⟨vl, vp, h1, h2, h3, h4, h5⟩ := hx
  have H1 := Lib.hid h1
  have hai : (a : Int) ≤ (s.size : Int) := by omega
  have HEX : Hid ((s.extract a s.size).data.toList = s.data.toList.drop a) := Lib.hid (ext_list s a (by omega))
  have HLEN := Lib.hid (len_in (s.extract a s.size) _ HEX n (Lib.hid hn) (by rw [ByteArray.size_extract]; omega))
  have HEN : Hid ((s.extract a (a + n)).data.toList = T) := Lib.hid (by rw [ext_eq s a n hnl, hT])
  have HSZ : Hid (s.extract a (a + n) = ⟨T.toArray⟩) := Lib.hid (by rw [ext_eq s a n hnl, hT])
  obtain ⟨t1, f1, hsg⟩ := hl.words
  obtain ⟨R, hR⟩ : ∃ R, R = (wordB.map Value.string).toArray := ⟨_, rfl⟩
  have HI := Lib.hid info_words
  rw [← hR] at hsg HI
  have HSG := Lib.hid hsg
  have HR := Lib.hid hR
  rw [← hT]
  have HT := Lib.hid hT
  have c0 := h1.cellAt (i := 0) rfl
  have c1 := h1.cellAt (i := 1) rfl
  clear h1 h2 h3 h4 h5 hsg hR hl hT hn
  go_enter Tryd.func19, Tryd.ntmps19
  go_wp2_with fail
  go_quiet ((go_at_call 37; exact Calls.quiet_of_same (HLEN.out _)))
  clear c0 c1
  obtain ⟨wq, hwq⟩ : ∃ wq, wq = w.drewN nq := ⟨_, rfl⟩
  have HSG2 : Hid (wq.heap[0]? = some (.cells R t1 f1)) := Lib.hid (by rw [hwq]; exact (by have := has_drewN_heap w nq; rw [this]; exact HSG.out))
  have HXQ : Hid (Lx B lb w0 s a ts false p wq) := Lib.hid (by rw [hwq]; exact HX.out.drewN nq)
  have H1Q : Hid (Has wq lb [.string s, .int .i64 (a : Int), vl, .bool false, vp] 41) := Lib.hid (by rw [hwq]; exact has_drewN H1.out nq)
  rw [← hwq]
  clear hwq
  go_wp2_with (refine wpList_load_row rfl 62 _ rfl 0 rfl t1 R f1 _ HSG2.out Tryd.underlying62 rfl HI.out ?_)
  go_loopw [16] (fun ii wr => ∃ k m : Nat, k ≤ 10 ∧ ii = .int .i64 k ∧ wr = wq.drewN m ∧ Hid (∀ j, j < k → (T == wordsL.getD j []) = false)) (fun ii _ => 10 - (intOf ii).toNat)
  case atStart => exact ⟨0, 0, Nat.zero_le _, rfl, rfl, Lib.hid (fun j hj => by omega)⟩
  case round =>
    obtain ⟨k, m, hk, rfl, hwn, hno⟩ := hrel
    have HXN : Hid (Lx B lb w0 s a ts false p wr) := Lib.hid (by rw [hwn]; exact HXQ.out.drewN m)
    have H1N : Hid (Has wr lb [.string s, .int .i64 (a : Int), vl, .bool false, vp] 41) := Lib.hid (by rw [hwn]; exact has_drewN H1Q.out m)
    have HWN := Lib.hid hwn
    clear hwn
    by_cases hlt : k < 10
    · obtain ⟨g, hg⟩ : ∃ g, g = wordsL.getD k [] := ⟨_, rfl⟩
      obtain ⟨gb, hgb⟩ : ∃ gb : ByteArray, gb = ⟨g.toArray⟩ := ⟨_, rfl⟩
      have hidx : ∀ w : World, (Instr.index 62 (.agg R) (.int .i64 (k : Int))).run Tryd.prog w = .ok (.string gb) w := fun w => by
        rw [HR.out, idx_words k hlt w, hgb, hg]
        have : k < wordsL.length := hlt
        simp [wordB, List.getElem?_eq_getElem this, List.getD]
      have hki : (k : Int) < 10 := by omega
      have hni : (a : Int) + (n : Int) ≤ (s.size : Int) := by omega
      have hni2 : (a : Int) ≤ (a : Int) + (n : Int) := by omega
      have hni3 : ((a : Int) + (n : Int)).toNat = a + n := by omega
      have c0 := H1N.out.cellAt (i := 0) rfl
      have c1 := H1N.out.cellAt (i := 1) rfl
      have HG := Lib.hid hg
      have hcmp : ((s.extract a (a + n)).toList == gb.toList) = (T == g) := by
        rw [ByteArray.toList_eq, ByteArray.toList_eq, HEN.out, hgb]
      clear hgb hg
      cases hpre : (T == g)
      · have HNO : Hid (∀ j, j < k + 1 → (T == wordsL.getD j []) = false) := Lib.hid (fun j hj => by
          by_cases e : j = k
          · rw [e, ← HG.out]; exact hpre
          · exact hno.out j (by omega))
        rw [hpre] at hcmp
        clear hpre
        go_wp2_with fail
        go_quiet (fail)
        go_wp2_with fail
        go_roundw
        case rel => exact ⟨k + 1, _, by omega, by go_num, by rw [HWN.out, drewN_drewN], HNO⟩
        case measure => simp [intOf]; omega
      · rw [hpre] at hcmp
        have HSO : Hid (T ∈ wordsL) := Lib.hid (word_first (k := k) hlt (by rw [← HG.out]; exact hpre))
        clear hpre hno
        go_wp2_with fail
        go_quiet (fail)
        go_wp2_with fail
        have hadd := add_any B lb w0 s a ts _ _ _ (HXN.out.drewN nq) 2 n hnl hs (by omega)
        rw [← HT.out] at hadd
        have HA := Lib.hid hadd
        clear hadd
        refine HA.out.mono ?_
        rintro e w6 ⟨rfl, hx6⟩
        have HX6 := Lib.hid hx6
        clear hx6
        go_wp2_with fail
        first | go_end0 | (simp only [Exit.inBlock, Exit.then]; refine bodyPost_ret (results_none rfl _ _ _) rfl ?_) | refine bodyPost_ret (results_none rfl _ _ _) rfl ?_
        exact ⟨rfl, HX6.out⟩
    · obtain rfl : k = 10 := by omega
      have HSO : Hid (¬ T ∈ wordsL) := Lib.hid (word_none hno.out)
      go_wp2_with fail
      have hadd := add_any B lb w0 s a ts _ _ _ HXN.out 1 n hnl hs (by omega)
      rw [← HT.out] at hadd
      have HA := Lib.hid hadd
      clear hadd
      refine HA.out.mono ?_
      rintro e w6 ⟨rfl, hx6⟩
      have HX6 := Lib.hid hx6
      clear hx6
      go_wp2_with fail
      first | go_end0 | (simp only [Exit.inBlock, Exit.then]; refine bodyPost_ret (results_none rfl _ _ _) rfl ?_) | refine bodyPost_ret (results_none rfl _ _ _) rfl ?_
      exact ⟨rfl, HX6.out⟩

end Go.Proofs.YtnajafnbickiiaaDoor

/-
  container/heap's up. Conditions: bounds on the heap.
-/
import Derived.Test.YtdliecailkkciaaOHeapM
import Derived.Deep.LoopGhost
namespace Go.Proofs.Ytdliecailkkciaa
open Go.RowKit
set_option linter.unusedVariables false

theorem Hp.form {w : World} {q B : Nat} {R : List Value} {v : Value} {l : List ByteArray} (h : Hp w q B R v l) : ∃ a c, v = .slice a l.length c := by
  obtain ⟨a, c, e, _⟩ := owns_isS h.own
  exact ⟨a, c, e⟩
theorem tdiv2 {j : Nat} (h : 0 < j) : Int.tdiv ((j : Int) - 1) 2 = (((j - 1) / 2 : Nat) : Int) := by
  have e : (j : Int) - 1 = ((j - 1 : Nat) : Int) := by omega
  rw [e]; rfl
set_option maxRecDepth 100000 in
set_option maxHeartbeats 8000000 in
theorem up_any (w : World) (q B : Nat) (R : List Value) (v : Value) (l : List ByteArray) (j : Nat) (h : Hp w q B R v l) (hl : l.length ≤ 100000) (hj : j < l.length) (hU : UpI l.length j l) :
    Calls Try.prog 41 #[.iface 70 (.pointer (some ⟨q, 0, none⟩)), .int .i64 (j : Int)] w fun e w' => e = .returned (.tuple #[]) ∧ ∃ l', Hp w' q B R v l' ∧ l'.Perm l ∧ HeapN l'.length l' ∧ HF q v w v w' := by
  have HPI := Lib.hid h
  have HL := Lib.hid hl
  have HU := Lib.hid hU
  obtain ⟨N, hN⟩ : ∃ N, N = l.length := ⟨_, rfl⟩
  have HN := Lib.hid hN
  rw [← hN] at hj
  clear h hl hU hN
  go_enter Try.func41, Try.ntmps41
  go_wp2_with fail
  go_loopw [1] (fun jj wr => ∃ (j : Nat) (l' : List ByteArray), jj = .int .i64 (j : Int) ∧ j < N ∧ Hp wr q B R v l' ∧ l'.Perm l ∧ UpI N j l' ∧ HF q v w v wr) (fun jj _ => (intOf jj).toNat)
  case atStart => exact ⟨j, l, rfl, hj, HPI.out, List.Perm.refl _, by rw [HN.out]; exact HU.out, HF.refl _ _ _⟩
  case round =>
    obtain ⟨j, l', rfl, hj, hp, hperm, hu, hbut⟩ := hrel
    have hlen : l'.length = N := by rw [HN.out]; exact hperm.length_eq
    have HP1 := Lib.hid hp
    have HPM := Lib.hid hperm
    have HU1 := Lib.hid hu
    have HB1 := Lib.hid hbut
    have HLN := Lib.hid hlen
    have HJ := Lib.hid hj
    clear hp hperm hu hbut hlen
    by_cases h0 : j = 0
    · subst h0
      have hd : Int.tdiv (0 - 1) 2 = 0 := by decide
      go_wp2_with fail
      go_end0
      exact ⟨rfl, l', HP1.out, HPM.out, by rw [HLN.out]; exact HU1.out.stop (.inl rfl), HB1.out⟩
    · have hd : Int.tdiv ((j : Int) - 1) 2 = (((j - 1) / 2 : Nat) : Int) := tdiv2 (by omega)
      obtain ⟨i, hi⟩ : ∃ i, i = (j - 1) / 2 := ⟨_, rfl⟩
      rw [← hi] at hd
      have hne : ¬ (i : Int) = (j : Int) := by omega
      have hjb : (j : Int) ≤ 100000 := by have := HL.out; have := HN.out; omega
      have hj1 : (1 : Int) ≤ (j : Int) := by omega
      have hib : (i : Int) ≤ 100000 := by omega
      have hi0 : (0 : Int) ≤ (i : Int) := by omega
      have HIJ : Hid (i < N) := Lib.hid (by omega)
      have HI := Lib.hid hi
      have HJ0 : Hid (0 < j) := Lib.hid (by omega)
      clear hi h0
      have il := fun n => inv_less (w := wr) HP1.out.cell n
      have ic := call_less
      go_wp2_with fail
      refine (less_any B v l' wr HP1.out.own j i (by rw [HLN.out]; exact HJ.out) (by rw [HLN.out]; exact HIJ.out) (by rw [HLN.out, HN.out]; exact HL.out)).mono ?_
      rintro e w2 ⟨rfl, hb2⟩
      have HP2 := Lib.hid (HP1.out.later hb2)
      have HB2 := Lib.hid (HB1.out.trans (.of_below hb2))
      clear hb2
      clear il ic
      have isw := fun n => inv_swap (w := w2) HP2.out.cell n
      have ic := call_swap
      by_cases hlt : at' l' j < at' l' i
      · have hdec : decide (btsOf (l'.getD j ⟨#[]⟩) < btsOf (l'.getD i ⟨#[]⟩)) = true := decide_eq_true hlt
        rw [hdec]
        have HLT := Lib.hid hlt
        clear hlt hdec
        go_wp2_with fail
        refine (swap_any B v l' w2 HP2.out.own i j (by rw [HLN.out]; exact HIJ.out) (by rw [HLN.out]; exact HJ.out) (by rw [HLN.out, HN.out]; exact HL.out)).mono ?_
        rintro e w3 ⟨rfl, ho3, hg3⟩
        have h3 := HP2.out.grown hg3 ho3
        have HP3 := Lib.hid h3.1
        have HB3 := Lib.hid (HB2.out.trans h3.2)
        clear ho3 hg3 h3 isw ic
        go_wp2_with fail
        go_roundw
        case rel => exact ⟨i, swapL l' i j, rfl, HIJ.out, HP3.out, (swapL_perm (by rw [HLN.out]; exact HIJ.out) (by rw [HLN.out]; exact HJ.out)).trans HPM.out, HU1.out.step (by rw [HLN.out]; exact Nat.le_refl _) HJ.out HJ0.out HI.out HLT.out, HB3.out⟩
        case measure => have := HI.out; have := HJ0.out; simp [intOf]; omega
      · have hdec : decide (btsOf (l'.getD j ⟨#[]⟩) < btsOf (l'.getD i ⟨#[]⟩)) = false := decide_eq_false hlt
        rw [hdec]
        have HLT := Lib.hid hlt
        clear hlt hdec
        go_wp2_with fail
        go_end0
        exact ⟨rfl, l', HP2.out, HPM.out, by rw [HLN.out]; exact HU1.out.stop (.inr (by rw [← HI.out]; exact HLT.out)), HB2.out⟩
end Go.Proofs.Ytdliecailkkciaa

/-
  container/heap's Push and Pop. Conditions: bounds on the heap.
-/
import Derived.Test.YtdliecailkkciaaODown
namespace Go.Proofs.Ytdliecailkkciaa
open Go.RowKit
set_option linter.unusedVariables false

set_option maxRecDepth 100000 in
set_option maxHeartbeats 8000000 in
theorem hpush_any (w : World) (q B : Nat) (R : List Value) (v : Value) (l : List ByteArray) (s : ByteArray) (h : Hp w q B R v l) (hl : l.length < 100000) (hH : HeapN l.length l) :
    Calls Try.prog 33 #[.iface 70 (.pointer (some ⟨q, 0, none⟩)), .iface 9 (.string s)] w fun e w' => e = .returned (.tuple #[]) ∧ ∃ v' l', Hp w' q B R v' l' ∧ l'.Perm (l ++ [s]) ∧ HeapN l'.length l' ∧ HF q v w v' w' := by
  have HP := Lib.hid h
  have HL := Lib.hid hl
  have HH := Lib.hid hH
  have hlb : (l.length : Int) ≤ 100000 := by omega
  have ipu := fun p w n => inv_push p w n
  have icp := call_push
  clear h hl hH
  go_enter Try.func33, Try.ntmps33
  go_wp2_with fail
  refine (push_any w q B R v l s HP.out (by have := HL.out; omega)).mono ?_
  rintro e w1 ⟨rfl, v1, hp1, hb1⟩
  have HP1 := Lib.hid hp1
  have HB1 := Lib.hid hb1
  obtain ⟨a1, c1, hv1⟩ := hp1.form
  have HV1 := Lib.hid hv1
  clear hp1 hb1 hv1 ipu icp
  have iln := fun n => inv_len (w := w1) HP1.out.cell n
  have icl := call_len
  go_wp2_with fail
  refine (len_any v1 (l ++ [s]).length ⟨a1, c1, HV1.out⟩ w1).mono ?_
  rintro e w2 ⟨rfl, rfl⟩
  clear iln icl
  have hle : ((l ++ [s]).length : Int) - 1 = (l.length : Int) := by simp
  have hle2 : ((l ++ [s]).length : Int) ≤ 100001 := by simp; omega
  have hle3 : (0 : Int) ≤ (l.length : Int) := by omega
  go_wp2_with fail
  have hU : UpI (l ++ [s]).length l.length (l ++ [s]) := by
    have := UpI.begin (s := s) HH.out
    rw [List.length_append]; exact this
  refine (up_any w2 q B R v1 (l ++ [s]) l.length HP1.out (by rw [List.length_append]; have := HL.out; simp; omega) (by simp) hU).mono ?_
  rintro e w3 ⟨rfl, l3, hp3, hperm3, hh3, hb3⟩
  have HP3 := Lib.hid hp3
  have HM3 := Lib.hid hperm3
  have HH3 := Lib.hid hh3
  have HB3 := Lib.hid (HB1.out.trans hb3)
  clear hp3 hperm3 hh3 hb3 hU
  go_wp2_with fail
  go_end0
  exact ⟨rfl, v1, l3, HP3.out, HM3.out, HH3.out, HB3.out⟩

set_option maxRecDepth 100000 in
set_option maxHeartbeats 8000000 in
theorem hpop_any (w : World) (q B : Nat) (R : List Value) (v : Value) (l : List ByteArray) (n : Nat) (h : Hp w q B R v l) (hn : l.length = n + 1) (hl : l.length ≤ 100000) (hH : HeapN l.length l) :
    Calls Try.prog 32 #[.iface 70 (.pointer (some ⟨q, 0, none⟩))] w fun e w' => e = .returned (.iface 9 (.string (l.getD 0 ⟨#[]⟩))) ∧ ∃ v' l', Hp w' q B R v' l' ∧ (l' ++ [l.getD 0 ⟨#[]⟩]).Perm l ∧ HeapN l'.length l' ∧ HF q v w v' w' := by
  have HP := Lib.hid h
  have HL := Lib.hid hl
  have HH := Lib.hid hH
  have HN := Lib.hid hn
  obtain ⟨a1, c1, hv1⟩ := h.form
  have HV1 := Lib.hid hv1
  have iln := fun n => inv_len (w := w) HP.out.cell n
  have icl := call_len
  clear h hl hH hn hv1
  go_enter Try.func32, Try.ntmps32
  go_wp2_with fail
  refine (len_any v (n + 1) ⟨a1, c1, by rw [← HN.out]; exact HV1.out⟩ w).mono ?_
  rintro e w2 ⟨rfl, rfl⟩
  clear iln icl
  have hle : ((n + 1 : Nat) : Int) - 1 = (n : Int) := by omega
  have hle2 : (n : Int) ≤ 100000 := by have := HL.out; have := HN.out; omega
  have hle3 : (0 : Int) ≤ (n : Int) := by omega
  have isw := fun n => inv_swap (w := w2) HP.out.cell n
  have ics := call_swap
  go_wp2_with fail
  refine (swap_any B v l w2 HP.out.own 0 n (by have := HN.out; omega) (by have := HN.out; omega) HL.out).mono ?_
  rintro e w3 ⟨rfl, ho3, hg3⟩
  have h3 := HP.out.grown hg3 ho3
  have HP3 := Lib.hid h3.1
  have HB3 := Lib.hid h3.2
  clear ho3 hg3 h3 isw ics
  go_wp2_with fail
  refine (down_any w3 q B R v (swapL l 0 n) n HP3.out (by rw [swapL_len]; exact HL.out) (by rw [swapL_len]; have := HN.out; omega) (DownI.begin (by have := HH.out; rw [HN.out] at this; exact this) HN.out)).mono ?_
  rintro e w4 ⟨b4, rfl, l4, hp4, hperm4, hh4, hf4, hb4⟩
  have HP4 := Lib.hid hp4
  have HPM4 := Lib.hid hperm4
  have HH4 := Lib.hid hh4
  have HF4 := Lib.hid hf4
  have HB4 := Lib.hid (HB3.out.trans hb4)
  have HL4 : Hid (l4.length = n + 1) := Lib.hid (by rw [hperm4.length_eq, swapL_len]; exact HN.out)
  clear hp4 hperm4 hh4 hf4 hb4
  have ipo := fun p w n => inv_pop p w n
  have icp := call_pop
  go_wp2_with fail
  refine (pop_any w4 q B R v l4 n HP4.out HL4.out (by rw [HL4.out, ← HN.out]; exact HL.out)).mono ?_
  rintro e w5 ⟨rfl, v5, hp5, hb5⟩
  have HP5 := Lib.hid hp5
  have HB5 := Lib.hid (HB4.out.trans hb5)
  clear hp5 hb5 ipo icp
  have HE : Hid (l4.getD n ⟨#[]⟩ = l.getD 0 ⟨#[]⟩) := Lib.hid (bts_inj (by
    have h1 := HF4.out n (Nat.le_refl _)
    rw [swapL_get (by have := HN.out; omega) (by have := HN.out; omega), if_pos rfl] at h1
    exact h1))
  rw [HE.out]
  go_wp2_with fail
  go_ret
  refine ⟨rfl, v5, l4.take n, HP5.out, ?_, HH4.out.take (by rw [HL4.out]; omega), HB5.out⟩
  have h1 : l4.take n ++ [l.getD 0 ⟨#[]⟩] = l4 := by
    have h2 := HL4.out
    rw [← HE.out, List.getD_eq_getElem?_getD, List.getElem?_eq_getElem (by omega)]
    have h3 := List.take_succ_eq_append_getElem (l := l4) (i := n) (by omega)
    rw [List.take_of_length_le (by omega)] at h3
    exact h3.symm
  rw [h1]
  exact HPM4.out.trans (swapL_perm (by have := HN.out; omega) (by have := HN.out; omega))
end Go.Proofs.Ytdliecailkkciaa

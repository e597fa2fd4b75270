/-
  next. Conditions: bounds; each user is waited for as often as it is told.
-/
import Derived.Test.YtdliecailkkciaaONq
namespace Go.Proofs.Ytdliecailkkciaa
open Go.RowKit
set_option linter.unusedVariables false

/-- The numbers behind the first j users. -/
def dcC (us : List ByteArray) (C : ByteArray → Option Nat) : Nat → ByteArray → Option Nat
  | 0 => C
  | j + 1 => putC (dcC us C j) (us.getD j ⟨#[]⟩) (getC (dcC us C j) (us.getD j ⟨#[]⟩) - 1)
/-- Who becomes ready. -/
def psh (us : List ByteArray) (C : ByteArray → Option Nat) : Nat → List ByteArray
  | 0 => []
  | j + 1 => if getC (dcC us C j) (us.getD j ⟨#[]⟩) = 1 then psh us C j ++ [us.getD j ⟨#[]⟩] else psh us C j
theorem psh_len (us : List ByteArray) (C : ByteArray → Option Nat) : ∀ j, (psh us C j).length ≤ j
  | 0 => Nat.le_refl _
  | j + 1 => by
    have := psh_len us C j
    unfold psh
    by_cases h : getC (dcC us C j) (us.getD j ⟨#[]⟩) = 1
    · rw [if_pos h, List.length_append]; simp only [List.length_singleton]; omega
    · rw [if_neg h]; omega
theorem dcC_len (us : List ByteArray) (C : ByteArray → Option Nat) (b : Nat) (h : ∀ s, getC C s ≤ b) : ∀ j s, getC (dcC us C j) s ≤ b
  | 0, s => h s
  | j + 1, s => by
    have ih := dcC_len us C b h j
    unfold dcC getC putC
    by_cases e : s = us.getD j ⟨#[]⟩
    · rw [if_pos e]
      show getC (dcC us C j) (us.getD j ⟨#[]⟩) - 1 ≤ b
      have := ih (us.getD j ⟨#[]⟩)
      omega
    · rw [if_neg e]
      have := ih s
      unfold getC at this
      exact this
/-- What next may change: the queue's three blocks and the heap's row; the heap's row is the old one, or new. -/
structure QF (q wb cb : Nat) (v : Value) (w : World) (v' : Value) (w' : World) : Prop where
  os : w'.os = w.os
  tape : w'.tape = w.tape
  output : w'.output = w.output
  size : w.heap.size ≤ w'.heap.size
  block : ∀ k, k < w.heap.size → k ≠ q → k ≠ wb → k ≠ cb → some k ≠ v.ownBlock → w'.heap[k]? = w.heap[k]?
  own : ∀ g, v'.ownBlock = some g → v.ownBlock = some g ∨ w.heap.size ≤ g
theorem QF.of_hf {q wb cb : Nat} {v v' : Value} {w w' : World} (h : HF q v w v' w') : QF q wb cb v w v' w' := ⟨h.os, h.tape, h.output, h.size, fun k h1 h2 _ _ h5 => h.block k h1 h2 h5, h.own⟩
theorem QF.of_grown {q wb cb c : Nat} {v : Value} {w w' : World} (h : w.grownBy w' (some c)) (hc : c = wb ∨ c = cb) : QF q wb cb v w v w' :=
  ⟨h.os, h.tape, h.output, h.size, fun k h1 _ h3 h4 _ => h.block k h1 (fun e => by have := Option.some.inj e; omega), fun g hg => .inl hg⟩
theorem QF.trans {q wb cb : Nat} {v v1 v2 : Value} {w w1 w2 : World} (h : QF q wb cb v w v1 w1) (k : QF q wb cb v1 w1 v2 w2) : QF q wb cb v w v2 w2 :=
  ⟨k.os.trans h.os, k.tape.trans h.tape, k.output.trans h.output, Nat.le_trans h.size k.size,
    fun i hi h2 h3 h4 h5 => (k.block i (Nat.lt_of_lt_of_le hi h.size) h2 h3 h4 (fun e => by
      rcases h.own i e.symm with h6 | h6
      · exact h5 h6.symm
      · omega)).trans (h.block i hi h2 h3 h4 h5),
    fun g hg => (k.own g hg).elim (fun h1 => h.own g h1) (fun h1 => .inr (Nat.le_trans h.size h1))⟩
theorem QF.low {q wb cb b : Nat} {v v' : Value} {w w' : World} (h : QF q wb cb v w v' w') (hw : b ≤ wb) (hc : b ≤ cb) (hq : b ≤ q) (hb : b ≤ w.heap.size) (hv : ∀ g, v.ownBlock = some g → b ≤ g) : Below b w w' :=
  ⟨h.os, h.tape, h.output, h.size, fun k hk => h.block k (by omega) (by omega) (by omega) (by omega) (fun e => by have := hv k e.symm; omega)⟩
set_option maxRecDepth 100000 in
set_option maxHeartbeats 8000000 in
theorem next_any (w : World) (q B wb cb k k' n : Nat) (rv : Value) (l : List ByteArray) (MW : ByteArray → Option Value) (W : ByteArray → Option (List ByteArray)) (C : ByteArray → Option Nat) (x : ByteArray) (us : List ByteArray) (hu : us = getN W x)
    (h : Qs w q B wb cb k k' rv l MW W C) (hn : l.length = n + 1) (hH : HeapN l.length l) (hx : x = l.getD 0 ⟨#[]⟩) (hxs : x.size ≤ maxLen) (hus : ∀ u ∈ us, u.size ≤ maxLen)
    (hl : l.length + us.length ≤ 10000) (hk' : k' ≤ 1000000000000) (hC : ∀ s, getC C s ≤ 100000) (hone : ∀ j, j < us.length → 1 ≤ getC (dcC us C j) (us.getD j ⟨#[]⟩)) :
    Calls Try.prog 21 #[.pointer (some ⟨q, 0, none⟩)] w fun e w' => e = .returned (.string x) ∧ ∃ kk rv' l' l0, QF q wb cb rv w rv' w' ∧ Qs w' q B wb cb k kk rv' l' (delM MW x) (fun y => if y = x then none else W y) (dcC us C us.length) ∧ kk ≤ k' + us.length ∧ (l0 ++ [x]).Perm l ∧ l'.Perm (l0 ++ psh us C us.length) ∧ HeapN l'.length l' := by
  have HQ := Lib.hid h
  have HU := Lib.hid hu
  have HH := Lib.hid hH
  have HN := Lib.hid hn
  have HX := Lib.hid hx
  have HXS := Lib.hid hxs
  have HUS := Lib.hid hus
  have HL := Lib.hid hl
  have HKK := Lib.hid hk'
  have HC := Lib.hid hC
  have HO := Lib.hid hone
  have hord := h.ord
  have HORD := Lib.hid hord
  clear h hu hH hn hx hxs hus hl hk' hC hone hord
  have hta := assert_str x
  go_enter Try.func21, Try.ntmps21
  go_wp2_with fail
  refine (hpop_any w q B _ rv l n HQ.out.hp HN.out (by have := HL.out; omega) HH.out).mono ?_
  rintro e w1 ⟨rfl, rv1, l1, hp1, hperm1, hh1, hf1⟩
  rw [← HX.out] at hperm1 ⊢
  have Q1 := Lib.hid (HQ.out.heap hf1 hp1)
  have L1 : Hid (QF q wb cb rv w rv1 w1) := Lib.hid (.of_hf hf1)
  have PM1 := Lib.hid hperm1
  have HH1 := Lib.hid hh1
  have ho := Q1.out.wm.own x
  rw [← HU.out] at ho
  obtain ⟨ua, uc, huv, hui⟩ := owns_isS ho
  have hlk := Q1.out.wm.get HXS.out
  rw [huv] at hlk
  have HUV := Lib.hid huv
  have c1 := Q1.out.hp.box.cellAt (i := 1) rfl
  clear hp1 hperm1 hh1 hf1 huv hui ho
  go_wp2_with fail
  clear hlk c1 hta
  go_loopw [19] (fun jj wr => ∃ j : Nat, j ≤ us.length ∧ jj = .int .i64 j ∧ ∃ kk rv' l', QF q wb cb rv w rv' wr ∧ Qs wr q B wb cb k kk rv' l' MW W (dcC us C j) ∧ kk ≤ k' + j ∧ l'.Perm (l1 ++ psh us C j) ∧ HeapN l'.length l') (fun jj _ => us.length - (intOf jj).toNat)
  case atStart => exact ⟨0, Nat.zero_le _, rfl, k', rv1, l1, L1.out, Q1.out, Nat.le_refl _, by simp [psh], HH1.out⟩
  case round =>
    obtain ⟨j, hj, rfl, kk, rv', l', hlow, hq, hkk, hpm, hhp⟩ := hrel
    have Q2 := Lib.hid hq
    have L2 := Lib.hid hlow
    have HK2 := Lib.hid hkk
    have PM2 := Lib.hid hpm
    have HH2 := Lib.hid hhp
    clear hq hlow hkk hpm hhp
    by_cases hlt : j < us.length
    · have ho := Q2.out.wm.own x
      rw [← HU.out, HUV.out] at ho
      obtain ⟨a', c', e', hS⟩ := owns_isS ho
      cases e'
      obtain ⟨b2, off2, rfl, hb2, hc2⟩ := hS.cell hlt
      obtain ⟨u, hu⟩ : ∃ u, u = us.getD j ⟨#[]⟩ := ⟨_, rfl⟩
      rw [← hu] at hc2
      have HUZ : Hid (u.size ≤ maxLen) := Lib.hid (by rw [hu]; exact HUS.out _ (getD_mem2 hlt))
      have h1 := HO.out j hlt
      rw [← hu] at h1
      obtain ⟨d, hd⟩ : ∃ d, getC (dcC us C j) u = d + 1 := ⟨getC (dcC us C j) u - 1, by omega⟩
      have hlk2 : (Instr.lookup 51 (.map (some cb)) (.string u) false).run Try.prog wr = .ok (.int .i64 ((d : Int) + 1)) wr := by
        have h2 := cV_get Q2.out.cm HUZ.out
        rw [hd] at h2
        exact h2
      have hdb : d ≤ 100000 := by have := dcC_len us C 100000 HC.out j u; omega
      have HDC : Hid (dcC us C (j + 1) = putC (dcC us C j) u d) := Lib.hid (by
        show putC (dcC us C j) (us.getD j ⟨#[]⟩) (getC (dcC us C j) (us.getD j ⟨#[]⟩) - 1) = _
        rw [← hu, hd]; rfl)
      have HPS : Hid (psh us C (j + 1) = if d + 1 = 1 then psh us C j ++ [u] else psh us C j) := Lib.hid (by
        show (if getC (dcC us C j) (us.getD j ⟨#[]⟩) = 1 then psh us C j ++ [us.getD j ⟨#[]⟩] else psh us C j) = _
        rw [← hu, hd])
      obtain ⟨w5, hr5, hm5, hg5, hs5⟩ := Q2.out.cm.put Try.underlying51 (by have := HK2.out; have := HKK.out; have := HL.out; unfold maxLen; omega) HUZ.out (.int .i64 (d : Int))
      have hm6 : MapV w5 cb (kk + 1) (cV (dcC us C (j + 1))) := by
        rw [HDC.out, ← cV_put]
        exact hm5
      have Q5 := Lib.hid (Q2.out.count hg5 hm6)
      have L5 := Lib.hid (L2.out.trans (.of_grown hg5 (.inr rfl)))
      have hlk3 : (Instr.lookup 51 (.map (some cb)) (.string u) false).run Try.prog w5 = .ok (.int .i64 (d : Int)) w5 := by
        have h2 := cV_get Q5.out.cm HUZ.out
        have h3 : getC (dcC us C (j + 1)) u = d := by
          rw [HDC.out]
          unfold getC putC
          rw [if_pos rfl]; rfl
        rw [h3] at h2
        exact h2
      have c2 := Q2.out.hp.box.cellAt (i := 2) rfl
      have c5 := Q5.out.hp.box.cellAt (i := 2) rfl
      have hds : (d : Int) + 1 - 1 = (d : Int) := by omega
      have hd0 : (0 : Int) ≤ (d : Int) := by omega
      have hd1 : (d : Int) ≤ 100000 := by omega
      have hkj : (j : Int) < (us.length : Int) := by omega
      have hj0 : (0 : Int) ≤ (j : Int) := by omega
      have hnj : (j : Int) + 1 ≤ 9223372036854775807 := by have := HL.out; omega
      have HJ := Lib.hid hlt
      clear hu h1 hd hm5 hg5 hs5 hm6 ho hS hb2 hlt hdb
      obtain ⟨z, hzz⟩ : ∃ z : Int, z = (d : Int) := ⟨_, rfl⟩
      rw [← hzz] at hlk2 hr5 hlk3 hds hd0 hd1
      by_cases hz : d = 0
      · have HP1 : Hid (psh us C (j + 1) = psh us C j ++ [u]) := Lib.hid (by rw [HPS.out, if_pos (by omega)])
        have hz3 : (z == 0) = true := by rw [hzz, hz]; rfl
        clear HPS hz hzz
        go_wp2_with fail
        refine (hpush_any w5 q B _ rv' l' u Q5.out.hp (by have := PM2.out.length_eq; rw [List.length_append] at this; have := psh_len us C j; have := PM1.out.length_eq; rw [List.length_append] at this; have := HL.out; have := HJ.out; omega) HH2.out).mono ?_
        rintro e w6 ⟨rfl, rv6, l6, hp6, hperm6, hh6, hf6⟩
        have Q6 := Lib.hid (Q5.out.heap hf6 hp6)
        have L6 := Lib.hid (L5.out.trans (.of_hf hf6))
        have PM6 := Lib.hid (hperm6.trans (PM2.out.append_right [u]))
        have HH6 := Lib.hid hh6
        clear hp6 hperm6 hh6 hf6 hlk2 hlk3 hr5 c2 c5
        go_wp2_with fail
        go_roundw
        case rel => exact ⟨j + 1, HJ.out, by go_num, kk + 1, rv6, l6, L6.out, Q6.out, by have := HK2.out; omega, by rw [HP1.out, ← List.append_assoc]; exact PM6.out, HH6.out⟩
        case measure => have := HJ.out; simp [intOf]; omega
      · have HP1 : Hid (psh us C (j + 1) = psh us C j) := Lib.hid (by rw [HPS.out, if_neg (by omega)])
        have hz3 : (z == 0) = false := by rw [hzz]; simp; exact hz
        clear HPS hz hzz
        go_wp2_with fail
        go_roundw
        case rel => exact ⟨j + 1, HJ.out, by go_num, kk + 1, rv', l', L5.out, Q5.out, by have := HK2.out; omega, by rw [HP1.out]; exact PM2.out, HH2.out⟩
        case measure => have := HJ.out; simp [intOf]; omega
    · obtain rfl : j = us.length := by omega
      have hkj : ¬ (us.length : Int) < (us.length : Int) := by omega
      obtain ⟨w9, hr9, hm9, hg9, hs9⟩ := Q2.out.wm.map.del Try.underlying45 HXS.out 0
      have Q9 := Lib.hid (Q2.out.del hg9 hm9)
      have L9 := Lib.hid (L2.out.trans (.of_grown hg9 (.inl rfl)))
      have c1 := Q2.out.hp.box.cellAt (i := 1) rfl
      clear hm9 hg9 hs9
      go_wp2_with fail
      go_ret
      first
      | exact ⟨rfl, kk, rv', L9.out, l', Q9.out, HK2.out, l1, PM1.out, PM2.out, HH2.out⟩
      | exact ⟨rfl, kk, rv', l', l1, L9.out, Q9.out, HK2.out, PM1.out, PM2.out, HH2.out⟩
      | exact ⟨rfl, kk, rv', L9.out, l', Q9.out, HK2.out, ⟨l1, PM1.out, PM2.out⟩, HH2.out⟩
      | exact ⟨rfl, kk, rv', l', L9.out, Q9.out, HK2.out, ⟨l1, PM1.out, PM2.out⟩, HH2.out⟩
      | (trace_state; fail)
end Go.Proofs.Ytdliecailkkciaa

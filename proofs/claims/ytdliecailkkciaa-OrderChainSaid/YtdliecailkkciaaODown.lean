/-
  container/heap's down, from the top. Conditions: bounds on the heap.
-/
import Derived.Test.YtdliecailkkciaaOUp
namespace Go.Proofs.Ytdliecailkkciaa
open Go.RowKit
set_option linter.unusedVariables false

set_option maxRecDepth 100000 in
set_option maxHeartbeats 8000000 in
theorem down_any (w : World) (q B : Nat) (R : List Value) (v : Value) (l : List ByteArray) (n : Nat) (h : Hp w q B R v l) (hl : l.length ≤ 100000) (hn : n ≤ l.length) (hD : DownI n 0 l) :
    Calls Try.prog 40 #[.iface 70 (.pointer (some ⟨q, 0, none⟩)), .int .i64 0, .int .i64 (n : Int)] w fun e w' => ∃ u : Value, e = .returned u ∧ ∃ l', Hp w' q B R v l' ∧ l'.Perm l ∧ HeapN n l' ∧ (∀ k, n ≤ k → at' l' k = at' l k) ∧ HF q v w v w' := by
  have HPI := Lib.hid h
  have HL := Lib.hid hl
  have HNN := Lib.hid hn
  have HDI := Lib.hid hD
  have hnb : (n : Int) ≤ 100000 := by omega
  clear h hl hn hD
  go_enter Try.func40, Try.ntmps40
  go_wp2_with fail
  go_loopw [7] (fun ii wr => ∃ (i : Nat) (l' : List ByteArray), ii = .int .i64 (i : Int) ∧ i ≤ n ∧ Hp wr q B R v l' ∧ l'.Perm l ∧ DownI n i l' ∧ (∀ k, n ≤ k → at' l' k = at' l k) ∧ HF q v w v wr) (fun ii _ => n - (intOf ii).toNat)
  case atStart => exact ⟨0, l, rfl, Nat.zero_le _, HPI.out, List.Perm.refl _, HDI.out, fun _ _ => rfl, HF.refl _ _ _⟩
  case round =>
    obtain ⟨i, l', rfl, hi, hp, hperm, hu, hfr, hbut⟩ := hrel
    have hlen : l'.length = l.length := hperm.length_eq
    have HP1 := Lib.hid hp
    have HPM := Lib.hid hperm
    have HU1 := Lib.hid hu
    have HF1 := Lib.hid hfr
    have HB1 := Lib.hid hbut
    have HLN := Lib.hid hlen
    have HIN := Lib.hid hi
    obtain ⟨a, ha⟩ : ∃ a, a = 2 * i + 1 := ⟨_, rfl⟩
    obtain ⟨b, hb⟩ : ∃ b, b = 2 * i + 2 := ⟨_, rfl⟩
    have hib : (i : Int) ≤ 100000 := by omega
    have hi0 : (0 : Int) ≤ (i : Int) := by omega
    have hm0 : (2 : Int) * (i : Int) ≤ 200000 := by omega
    have hm1 : (2 : Int) * (i : Int) + 1 = (a : Int) := by omega
    have hm2 : (a : Int) + 1 = (b : Int) := by omega
    have hab : (a : Int) ≤ 300000 := by omega
    have hbb : (b : Int) ≤ 300000 := by omega
    have ha0 : (0 : Int) ≤ (a : Int) := by omega
    have hneg : ¬ (a : Int) < 0 := by omega
    have HA := Lib.hid ha
    have HBE := Lib.hid hb
    clear hp hperm hu hfr hbut hlen hi ha hb
    by_cases hge : n ≤ a
    · have hge2 : (n : Int) ≤ (a : Int) := by omega
      have hge3 : ¬ (a : Int) < (n : Int) := by omega
      go_wp2_with fail
      go_ret
      first
      | exact ⟨_, rfl, l', HP1.out, HPM.out, HU1.out.leaf (by rw [← HA.out]; exact hge), HF1.out, HB1.out⟩
      | exact ⟨⟨_, rfl⟩, l', HP1.out, HPM.out, HU1.out.leaf (by rw [← HA.out]; exact hge), HF1.out, HB1.out⟩
    · have hge2 : ¬ (n : Int) ≤ (a : Int) := by omega
      have hge3 : (a : Int) < (n : Int) := by omega
      have HAN : Hid (a < n) := Lib.hid (by omega)
      have HAP : Hid (a = 2 * i + 1 ∨ a = 2 * i + 2) := Lib.hid (.inl HA.out)
      have HBP : Hid (b = 2 * i + 1 ∨ b = 2 * i + 2) := Lib.hid (.inr HBE.out)
      by_cases hbn : b < n
      · have hbn2 : (b : Int) < (n : Int) := by omega
        have HBN := Lib.hid hbn
        clear hge hbn
        have il := fun n => inv_less (w := wr) HP1.out.cell n
        have ic := call_less
        go_wp2_with fail
        refine (less_any B v l' wr HP1.out.own b a (by have := HBN.out; have := HLN.out; have := HNN.out; omega) (by have := HAN.out; have := HLN.out; have := HNN.out; omega) (by rw [HLN.out]; exact HL.out)).mono ?_
        rintro e w5 ⟨rfl, hb5⟩
        have HP5 := Lib.hid (HP1.out.later hb5)
        have HB5 := Lib.hid (HB1.out.trans (.of_below hb5))
        clear hb5 il ic
        by_cases hlt : at' l' b < at' l' a
        · have hdec : decide (btsOf (l'.getD b ⟨#[]⟩) < btsOf (l'.getD a ⟨#[]⟩)) = true := decide_eq_true hlt
          rw [hdec]
          have HMIN : Hid (∀ k, 0 < k → k < n → (k - 1) / 2 = i → ¬ at' l' k < at' l' b) := Lib.hid (fun k h0 hk hp => by
            have : k = a ∨ k = b := by have := HA.out; have := HBE.out; omega
            rcases this with rfl | rfl
            · exact lt_asym hlt
            · exact bt_irr _)
          clear hdec hlt
          have il := fun n => inv_less (w := w5) HP5.out.cell n
          have ic := call_less
          go_wp2_with fail
          refine (less_any B v l' w5 HP5.out.own b i (by have := HBN.out; have := HLN.out; have := HNN.out; omega) (by have := HBN.out; have := HLN.out; have := HNN.out; have := HBP.out; omega) (by rw [HLN.out]; exact HL.out)).mono ?_
          rintro e w7 ⟨rfl, hb7⟩
          have HP7 := Lib.hid (HP5.out.later hb7)
          have HB7 := Lib.hid (HB5.out.trans (.of_below hb7))
          clear hb7 il ic
          have isw := fun n => inv_swap (w := w7) HP7.out.cell n
          have ic := call_swap
          by_cases hlt2 : at' l' b < at' l' i
          · have hdec : decide (btsOf (l'.getD b ⟨#[]⟩) < btsOf (l'.getD i ⟨#[]⟩)) = true := decide_eq_true hlt2
            rw [hdec]
            have HLT2 := Lib.hid hlt2
            clear hlt2 hdec
            go_wp2_with fail
            refine (swap_any B v l' w7 HP7.out.own i b (by have := HBN.out; have := HLN.out; have := HNN.out; have := HBP.out; omega) (by have := HBN.out; have := HLN.out; have := HNN.out; omega) (by rw [HLN.out]; exact HL.out)).mono ?_
            rintro e w8 ⟨rfl, ho8, hg8⟩
            have h8 := HP7.out.grown hg8 ho8
            have HP8 := Lib.hid h8.1
            have HB8 := Lib.hid (HB7.out.trans h8.2)
            have HI1 : Hid (i < l'.length) := Lib.hid (by have := HBN.out; have := HLN.out; have := HNN.out; have := HBP.out; omega)
            have HJ1 : Hid (b < l'.length) := Lib.hid (by have := HBN.out; have := HLN.out; have := HNN.out; omega)
            clear ho8 hg8 h8 isw ic
            go_wp2_with fail
            go_roundw
            case rel => exact ⟨b, swapL l' i b, rfl, by have := HBN.out; omega, HP8.out, (swapL_perm HI1.out HJ1.out).trans HPM.out, HU1.out.step (by have := HLN.out; have := HNN.out; omega) HBN.out HBP.out HMIN.out HLT2.out, fun k hk => by rw [swapL_get HI1.out HJ1.out, if_neg (by have := HBN.out; omega), if_neg (by have := HBN.out; have := HBP.out; omega)]; exact HF1.out k hk, HB8.out⟩
            case measure => have := HBN.out; have := HBP.out; simp [intOf]; omega
          · have hdec : decide (btsOf (l'.getD b ⟨#[]⟩) < btsOf (l'.getD i ⟨#[]⟩)) = false := decide_eq_false hlt2
            rw [hdec]
            have HLT2 := Lib.hid hlt2
            clear hlt2 hdec isw ic
            go_wp2_with fail
            go_ret
            exact ⟨_, rfl, l', HP7.out, HPM.out, HU1.out.stop HMIN.out HLT2.out, fun k hk => HF1.out k hk, HB7.out⟩
        · have hdec : decide (btsOf (l'.getD b ⟨#[]⟩) < btsOf (l'.getD a ⟨#[]⟩)) = false := decide_eq_false hlt
          rw [hdec]
          have HMIN : Hid (∀ k, 0 < k → k < n → (k - 1) / 2 = i → ¬ at' l' k < at' l' a) := Lib.hid (fun k h0 hk hp => by
            have : k = a ∨ k = b := by have := HA.out; have := HBE.out; omega
            rcases this with rfl | rfl
            · exact bt_irr _
            · exact hlt)
          clear hdec hlt
          have il := fun n => inv_less (w := w5) HP5.out.cell n
          have ic := call_less
          go_wp2_with fail
          refine (less_any B v l' w5 HP5.out.own a i (by have := HAN.out; have := HLN.out; have := HNN.out; omega) (by have := HAN.out; have := HLN.out; have := HNN.out; have := HAP.out; omega) (by rw [HLN.out]; exact HL.out)).mono ?_
          rintro e w7 ⟨rfl, hb7⟩
          have HP7 := Lib.hid (HP5.out.later hb7)
          have HB7 := Lib.hid (HB5.out.trans (.of_below hb7))
          clear hb7 il ic
          have isw := fun n => inv_swap (w := w7) HP7.out.cell n
          have ic := call_swap
          by_cases hlt2 : at' l' a < at' l' i
          · have hdec : decide (btsOf (l'.getD a ⟨#[]⟩) < btsOf (l'.getD i ⟨#[]⟩)) = true := decide_eq_true hlt2
            rw [hdec]
            have HLT2 := Lib.hid hlt2
            clear hlt2 hdec
            go_wp2_with fail
            refine (swap_any B v l' w7 HP7.out.own i a (by have := HAN.out; have := HLN.out; have := HNN.out; have := HAP.out; omega) (by have := HAN.out; have := HLN.out; have := HNN.out; omega) (by rw [HLN.out]; exact HL.out)).mono ?_
            rintro e w8 ⟨rfl, ho8, hg8⟩
            have h8 := HP7.out.grown hg8 ho8
            have HP8 := Lib.hid h8.1
            have HB8 := Lib.hid (HB7.out.trans h8.2)
            have HI1 : Hid (i < l'.length) := Lib.hid (by have := HAN.out; have := HLN.out; have := HNN.out; have := HAP.out; omega)
            have HJ1 : Hid (a < l'.length) := Lib.hid (by have := HAN.out; have := HLN.out; have := HNN.out; omega)
            clear ho8 hg8 h8 isw ic
            go_wp2_with fail
            go_roundw
            case rel => exact ⟨a, swapL l' i a, rfl, by have := HAN.out; omega, HP8.out, (swapL_perm HI1.out HJ1.out).trans HPM.out, HU1.out.step (by have := HLN.out; have := HNN.out; omega) HAN.out HAP.out HMIN.out HLT2.out, fun k hk => by rw [swapL_get HI1.out HJ1.out, if_neg (by have := HAN.out; omega), if_neg (by have := HAN.out; have := HAP.out; omega)]; exact HF1.out k hk, HB8.out⟩
            case measure => have := HAN.out; have := HAP.out; simp [intOf]; omega
          · have hdec : decide (btsOf (l'.getD a ⟨#[]⟩) < btsOf (l'.getD i ⟨#[]⟩)) = false := decide_eq_false hlt2
            rw [hdec]
            have HLT2 := Lib.hid hlt2
            clear hlt2 hdec isw ic
            go_wp2_with fail
            go_ret
            exact ⟨_, rfl, l', HP7.out, HPM.out, HU1.out.stop HMIN.out HLT2.out, fun k hk => HF1.out k hk, HB7.out⟩
      · have hbn2 : ¬ (b : Int) < (n : Int) := by omega
        have HMIN : Hid (∀ k, 0 < k → k < n → (k - 1) / 2 = i → ¬ at' l' k < at' l' a) := Lib.hid (fun k h0 hk hp => by
          have : k = a := by have := HA.out; have := HBE.out; omega
          subst this
          exact bt_irr _)
        clear hge hbn
        have il := fun n => inv_less (w := wr) HP1.out.cell n
        have ic := call_less
        go_wp2_with fail
        refine (less_any B v l' wr HP1.out.own a i (by have := HAN.out; have := HLN.out; have := HNN.out; omega) (by have := HAN.out; have := HLN.out; have := HNN.out; have := HAP.out; omega) (by rw [HLN.out]; exact HL.out)).mono ?_
        rintro e w7 ⟨rfl, hb7⟩
        have HP7 := Lib.hid (HP1.out.later hb7)
        have HB7 := Lib.hid (HB1.out.trans (.of_below hb7))
        clear hb7 il ic
        have isw := fun n => inv_swap (w := w7) HP7.out.cell n
        have ic := call_swap
        by_cases hlt2 : at' l' a < at' l' i
        · have hdec : decide (btsOf (l'.getD a ⟨#[]⟩) < btsOf (l'.getD i ⟨#[]⟩)) = true := decide_eq_true hlt2
          rw [hdec]
          have HLT2 := Lib.hid hlt2
          clear hlt2 hdec
          go_wp2_with fail
          refine (swap_any B v l' w7 HP7.out.own i a (by have := HAN.out; have := HLN.out; have := HNN.out; have := HAP.out; omega) (by have := HAN.out; have := HLN.out; have := HNN.out; omega) (by rw [HLN.out]; exact HL.out)).mono ?_
          rintro e w8 ⟨rfl, ho8, hg8⟩
          have h8 := HP7.out.grown hg8 ho8
          have HP8 := Lib.hid h8.1
          have HB8 := Lib.hid (HB7.out.trans h8.2)
          have HI1 : Hid (i < l'.length) := Lib.hid (by have := HAN.out; have := HLN.out; have := HNN.out; have := HAP.out; omega)
          have HJ1 : Hid (a < l'.length) := Lib.hid (by have := HAN.out; have := HLN.out; have := HNN.out; omega)
          clear ho8 hg8 h8 isw ic
          go_wp2_with fail
          go_roundw
          case rel => exact ⟨a, swapL l' i a, rfl, by have := HAN.out; omega, HP8.out, (swapL_perm HI1.out HJ1.out).trans HPM.out, HU1.out.step (by have := HLN.out; have := HNN.out; omega) HAN.out HAP.out HMIN.out HLT2.out, fun k hk => by rw [swapL_get HI1.out HJ1.out, if_neg (by have := HAN.out; omega), if_neg (by have := HAN.out; have := HAP.out; omega)]; exact HF1.out k hk, HB8.out⟩
          case measure => have := HAN.out; have := HAP.out; simp [intOf]; omega
        · have hdec : decide (btsOf (l'.getD a ⟨#[]⟩) < btsOf (l'.getD i ⟨#[]⟩)) = false := decide_eq_false hlt2
          rw [hdec]
          have HLT2 := Lib.hid hlt2
          clear hlt2 hdec isw ic
          go_wp2_with fail
          go_ret
          exact ⟨_, rfl, l', HP7.out, HPM.out, HU1.out.stop HMIN.out HLT2.out, fun k hk => HF1.out k hk, HB7.out⟩
end Go.Proofs.Ytdliecailkkciaa

/-
  New. Conditions: as many needs as names; bounds on their numbers.
-/
import Derived.Test.YtdliecailkkciaaOReg
import Derived.Test.YtdliecailkkciaaOGraph
namespace Go.Proofs.Ytdliecailkkciaa
open Go.RowKit
set_option linter.unusedVariables false

theorem getD_mem {l : List ByteArray} {i : Nat} (h : i < l.length) : l.getD i ⟨#[]⟩ ∈ l := by
  rw [List.getD_eq_getElem?_getD, List.getElem?_eq_getElem h]
  exact List.getElem_mem h
set_option maxRecDepth 100000 in
set_option maxHeartbeats 8000000 in
theorem new_any (an : Option Addr) (nn cn : Nat) (ns : List ByteArray) (ak : Option Addr) (ck : Nat) (ks : List (List ByteArray)) (w : World) (hS : IsS w an nn cn ns) (hK : IsSS w ak nn ck ks) (hs : ∀ s ∈ ns, s.size ≤ maxLen) (hn : nn ≤ 1000) (hsum : tot ks nn ≤ 100000) :
    Calls Try.prog 9 #[.slice an nn cn, .slice ak nn ck] w fun e w' => ∃ gb, e = .returned (.tuple #[.pointer (some ⟨gb, 0, none⟩), .int .i64 0]) ∧ Gr w' gb (risL ns) (finN ns ks) ∧ Below w.heap.size w w' ∧ w.heap.size ≤ gb := by
  obtain rfl : nn = ns.length := hS.length.symm
  have HS := Lib.hid hS
  have HK := Lib.hid hK
  have HSZ := Lib.hid hs
  have HN := Lib.hid hn
  have HSUM := Lib.hid hsum
  clear hS hK hs hn hsum
  have hmm := @run_makeMap Try.prog
  go_enter Try.func9, Try.ntmps9
  go_wp2_with fail
  refine (rising_any an ns.length cn ns w HS.out (by have := HN.out; omega)).mono ?_
  rintro e wa ⟨v, G, rfl, ho, hgl, how, hba⟩
  have hG : G = risL ns := risL_of ho
  subst hG
  obtain ⟨ga, gc, rfl, hGS⟩ := owns_isS how
  have HBA := Lib.hid hba
  have HGS := Lib.hid hGS
  have HGL := Lib.hid hgl
  clear ho how hba hGS hgl
  go_upto_region 4 with fail
  clear hmm
  obtain ⟨mb, hmb⟩ : ∃ mb, mb = wa.heap.size := ⟨_, rfl⟩
  obtain ⟨w1, hw1⟩ : ∃ w1, w1 = (wa.alloc (.map #[] 0)).alloc (.cells #[.slice ga (risL ns).length gc, .map (some wa.heap.size)] 47) := ⟨_, rfl⟩
  have sm : (wa.alloc (.map #[] 0)).heap.size = mb + 1 := by rw [hmb]; simp
  have HH : Hid (Has w1 (mb + 1) [.slice ga (risL ns).length gc, .map (some mb)] 47) := Lib.hid (by rw [hw1, ← sm, hmb]; exact Has.new _ _ _)
  have N1 : Hid (NM w1 mb (mb + 2) 0 (fun _ => none) (nsN ns ks 0)) := Lib.hid (by
    have h := NM.made wa (mb + 2)
    rw [← hmb] at h
    rw [hw1]
    exact h.later ((Below.refl _ _).alloc (Nat.le_refl _) _))
  have B1 : Hid (Below mb wa w1) := Lib.hid (by rw [hw1]; exact ((Below.refl _ _).alloc (by omega) _).alloc (by omega) _)
  have Z1 : Hid (w1.heap.size = mb + 2) := Lib.hid (by rw [hw1]; simp; omega)
  have HMB := Lib.hid hmb
  rw [← hw1, ← hmb]
  clear hw1 sm hmb
  have HLOW : Hid (∀ Y, But (mb + 2) mb w1 Y → Below mb wa Y) := Lib.hid (fun Y h => B1.out.trans ((h.mono (by omega)).below (Nat.le_refl _)))
  have HLOW2 : Hid (∀ Y, But (mb + 2) mb w1 Y → Below w.heap.size w Y) := Lib.hid (fun Y h => HBA.out.trans ((HLOW.out Y h).mono (by rw [HMB.out]; exact HBA.out.size)))
  have HWM : Hid (w.heap.size ≤ mb) := Lib.hid (by rw [HMB.out]; exact HBA.out.size)
  go_wp2_with fail
  go_loopw [23] (fun ii wr => ∃ i : Nat, i ≤ ns.length ∧ ii = .int .i64 i ∧ ∃ M, NM wr mb (mb + 2) i M (nsN ns ks i) ∧ But (mb + 2) mb w1 wr) (fun ii _ => ns.length - (intOf ii).toNat)
  case atStart => exact ⟨0, Nat.zero_le _, rfl, _, N1.out, But.refl _ _ _⟩
  case round =>
    obtain ⟨i, hi, rfl, M, hD, hB⟩ := hrel
    have HD := Lib.hid hD
    have HB := Lib.hid hB
    have HHR : Hid (Has wr (mb + 1) [.slice ga (risL ns).length gc, .map (some mb)] 47) := Lib.hid (HH.out.but hB (by omega) (by omega))
    have HWS : Hid (mb + 2 ≤ wr.heap.size) := Lib.hid (by rw [← Z1.out]; exact hB.size)
    clear hD hB
    by_cases hlt : i < ns.length
    · obtain ⟨b, off, rfl, hb, hc⟩ := HS.out.cell hlt
      rcases HK.out.at_ with h0 | ⟨kb, ko, rfl, hkb, hkc⟩
      · omega
      obtain ⟨ao, m, c, hk1, hk2⟩ := hkc i hlt
      have HKC := Lib.hid (((HLOW2.out wr HB.out).cell (p := ⟨kb, ko + i, none⟩) hkb).trans hk1)
      have HKI := Lib.hid (hk2.later (w' := wr) (HLOW2.out wr HB.out))
      have HKB := Lib.hid (Nat.lt_of_lt_of_le hkb HWM.out)
      have hci := ((HLOW2.out wr HB.out).cell (p := ⟨b, off + i, none⟩) hb).trans hc
      have HSS : Hid ((ns.getD i ⟨#[]⟩).size ≤ maxLen) := Lib.hid (HSZ.out _ (getD_mem hlt))
      have HNX : Hid (nsN ns ks (i + 1) = putN (nsN ns ks i) (ns.getD i ⟨#[]⟩) (getN (nsN ns ks i) (ns.getD i ⟨#[]⟩) ++ ks.getD i [])) := Lib.hid rfl
      have HLEN : Hid ((getN (nsN ns ks i) (ns.getD i ⟨#[]⟩)).length + m ≤ 100000) := Lib.hid (by
        have h1 := gath_len ns ks i (ns.getD i ⟨#[]⟩)
        rw [nsN_get]
        have h2 := tot_mono ks (i := i + 1) (j := ns.length) hlt
        have h3 := hk2.length
        have h4 := HSUM.out
        have h5 : tot ks (i + 1) = tot ks i + (ks.getD i []).length := rfl
        omega)
      obtain ⟨s, hsd⟩ : ∃ s, s = ns.getD i ⟨#[]⟩ := ⟨_, rfl⟩
      rw [← hsd] at hci HSS HNX HLEN
      have HLT := Lib.hid hlt
      have hki : (i : Int) < (ns.length : Int) := by omega
      have hk0 : (0 : Int) ≤ (i : Int) := by omega
      have hni : (i : Int) + 1 ≤ 9223372036854775807 := by have := HN.out; omega
      clear hb hc hkb hkc hk1 hk2 hsd
      go_upto_region 7 with fail
      refine new_ap HD.out HHR.out HSS.out HKC.out HKI.out HLT.out (by have := HN.out; omega) HLEN.out (by have := HN.out; omega) HWS.out (by omega) (by omega) HKB.out (fun _ _ _ _ h => h) (fun v2 M2 vr hN2 hB2 => ?_)
      rw [← HNX.out] at hN2
      have HN2 := Lib.hid hN2
      have HB2 := Lib.hid (HB.out.trans hB2)
      clear hN2 hB2 hci
      go_wp2_with fail
      go_roundw
      case rel => exact ⟨i + 1, HLT.out, by go_num, M2, HN2.out, HB2.out⟩
      case measure => have := HLT.out; simp [intOf]; omega
    · obtain rfl : i = ns.length := by omega
      have hki : ¬ (ns.length : Int) < (ns.length : Int) := by omega
      have c0 := HHR.out.cellAt (i := 0) rfl
      go_wp2_with fail
      go_loopw [50] (fun ii wq => ∃ j : Nat, j ≤ (risL ns).length ∧ ii = .int .i64 j ∧ ∃ M, NM wq mb (mb + 2) (ns.length + j) M (rsN (nsN ns ks ns.length) (risL ns) j) ∧ But (mb + 2) mb w1 wq) (fun ii _ => (risL ns).length - (intOf ii).toNat)
      case atStart => exact ⟨0, Nat.zero_le _, rfl, _, HD.out, HB.out⟩
      case round =>
        clear HD HB HHR HWS c0
        obtain ⟨j, hj, rfl, M, hD, hB⟩ := hrel
        have HD := Lib.hid hD
        have HB := Lib.hid hB
        have HHR : Hid (Has wr (mb + 1) [.slice ga (risL ns).length gc, .map (some mb)] 47) := Lib.hid (HH.out.but hB (by omega) (by omega))
        have HWS : Hid (mb + 2 ≤ wr.heap.size) := Lib.hid (by rw [← Z1.out]; exact hB.size)
        clear hD hB
        by_cases hlt : j < (risL ns).length
        · obtain ⟨b, off, rfl, hb, hc⟩ := HGS.out.cell hlt
          have hci := ((HLOW.out wr HB.out).cell (p := ⟨b, off + j, none⟩) (by rw [HMB.out]; exact hb)).trans hc
          have HSS : Hid (((risL ns).getD j ⟨#[]⟩).size ≤ maxLen) := Lib.hid (HSZ.out _ (risL_mem.1 (getD_mem hlt)))
          have HNX : Hid (rsN (nsN ns ks ns.length) (risL ns) (j + 1) = putN (rsN (nsN ns ks ns.length) (risL ns) j) ((risL ns).getD j ⟨#[]⟩) (risL (getN (rsN (nsN ns ks ns.length) (risL ns) j) ((risL ns).getD j ⟨#[]⟩)))) := Lib.hid rfl
          have HLEN : Hid ((getN (rsN (nsN ns ks ns.length) (risL ns) j) ((risL ns).getD j ⟨#[]⟩)).length ≤ 100000) := Lib.hid (Nat.le_trans (rsN_len ns ks j hj _) HSUM.out)
          obtain ⟨s, hsd⟩ : ∃ s, s = (risL ns).getD j ⟨#[]⟩ := ⟨_, rfl⟩
          rw [← hsd] at hci HSS HNX HLEN
          obtain ⟨ra, rc, hrv, hrs⟩ := owns_isS (HD.out.own s)
          have HRV := Lib.hid hrv
          have HRS := Lib.hid hrs
          have HLT := Lib.hid hlt
          have hki : (j : Int) < ((risL ns).length : Int) := by omega
          have hk0 : (0 : Int) ≤ (j : Int) := by omega
          have hni : (j : Int) + 1 ≤ 9223372036854775807 := by have := HN.out; have := HGL.out; omega
          clear hb hc hsd hrv hrs
          go_upto_region 12 with fail
          refine new_rs HRV.out HRS.out HD.out HHR.out HSS.out HLEN.out (by have := HN.out; have := HGL.out; omega) HWS.out (by omega) (by omega) (fun _ _ _ _ h => h) (fun v2 M2 vr out hout hN2 hB2 => ?_)
          have ho := risL_of hout
          rw [ho, ← HNX.out] at hN2
          have HN2 := Lib.hid hN2
          have HB2 := Lib.hid (HB.out.trans hB2)
          clear hN2 hB2 hci hout ho
          go_wp2_with fail
          go_roundw
          case rel => exact ⟨j + 1, HLT.out, by go_num, M2, HN2.out, HB2.out⟩
          case measure => have := HLT.out; simp [intOf]; omega
        · obtain rfl : j = (risL ns).length := by omega
          have hki : ¬ ((risL ns).length : Int) < ((risL ns).length : Int) := by omega
          go_wp2_with fail
          refine bodyPost_ret (results_tmp2 rfl _ _ _) rfl ?_
          exact ⟨mb + 1, rfl, HD.out.gr (rsN_fin ns ks) HHR.out (HGS.out.later (by rw [← HMB.out]; exact HLOW.out _ HB.out)), HLOW2.out _ HB.out, by have := HWM.out; omega⟩
end Go.Proofs.Ytdliecailkkciaa

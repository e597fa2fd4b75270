/-
  newQueue. Conditions: bounds on the graph.
-/
import Derived.Test.YtdliecailkkciaaONqM
import Derived.Deep.DeepMust
namespace Go.Proofs.Ytdliecailkkciaa
open Go.RowKit
set_option linter.unusedVariables false

theorem getD_mem2 {l : List ByteArray} {i : Nat} (h : i < l.length) : l.getD i ⟨#[]⟩ ∈ l := by
  rw [List.getD_eq_getElem?_getD, List.getElem?_eq_getElem h]
  exact List.getElem_mem h
/-- A queue behind the first i names and j needs. -/
def Nq (w wr : World) (wb cb q : Nat) (r : List ByteArray) (W : ByteArray → Option (List ByteArray)) (C : ByteArray → Option Nat) (m : Nat) : Prop :=
  Below w.heap.size w wr ∧ ∃ k k' rv MW, Qs wr q (q + 1) wb cb k k' rv r MW W C ∧ k ≤ m ∧ k' ≤ m

theorem Nq.later {w wr w' : World} {wb cb q m : Nat} {r : List ByteArray} {W : ByteArray → Option (List ByteArray)} {C : ByteArray → Option Nat} (h : Nq w wr wb cb q r W C m) (hb : Below wr.heap.size wr w') : Nq w w' wb cb q r W C m := by
  obtain ⟨h1, k, k', rv, MW, h2, h3⟩ := h
  exact ⟨h1.trans (hb.mono h1.size), k, k', rv, MW, h2.later hb, h3⟩
theorem nq_start (w : World) : Nq w (((w.alloc (.map #[] 0)).alloc (.map #[] 0)).alloc (.cells #[.slice none 0 0, .map (some w.heap.size), .map (some (w.heap.size + 1))] 53)) w.heap.size (w.heap.size + 1) (w.heap.size + 1 + 1) [] (fun _ => none) (fun _ => none) 0 := by
  obtain ⟨p1, hp1⟩ : ∃ p, p = w.alloc (.map #[] 0) := ⟨_, rfl⟩
  obtain ⟨p2, hp2⟩ : ∃ p, p = p1.alloc (.map #[] 0) := ⟨_, rfl⟩
  obtain ⟨p3, hp3⟩ : ∃ p, p = p2.alloc (.cells #[.slice none 0 0, .map (some w.heap.size), .map (some (w.heap.size + 1))] 53) := ⟨_, rfl⟩
  rw [← hp1, ← hp2, ← hp3]
  have s1 : p1.heap.size = w.heap.size + 1 := by rw [hp1]; simp
  have s2 : p2.heap.size = w.heap.size + 1 + 1 := by rw [hp2]; simp [s1]
  have s3 : p3.heap.size = w.heap.size + 1 + 1 + 1 := by rw [hp3]; simp [s2]
  have b1 : Below w.heap.size w p1 := by rw [hp1]; exact (Below.refl _ _).alloc (Nat.le_refl _) _
  have b2 : Below p1.heap.size p1 p2 := by rw [hp2]; exact (Below.refl _ _).alloc (Nat.le_refl _) _
  have b3 : Below p2.heap.size p2 p3 := by rw [hp3]; exact (Below.refl _ _).alloc (Nat.le_refl _) _
  have m1 : NM p1 w.heap.size (w.heap.size + 1 + 1 + 1) 0 (fun _ => none) (fun _ => none) := by rw [hp1]; exact NM.made w _
  have m2 : MapV p2 (w.heap.size + 1) 0 (cV fun _ => none) := by rw [hp2, ← s1]; exact MapV.made p1
  have hq : Has p3 (w.heap.size + 1 + 1) [.slice none 0 0, .map (some w.heap.size), .map (some (w.heap.size + 1))] 53 := by rw [hp3, ← s2]; exact Has.new p2 _ _
  exact ⟨b1.trans ((b2.mono (by omega)).trans (b3.mono (by omega))), 0, 0, .slice none 0 0, fun _ => none,
    ⟨⟨hq, World.ownsRow_nil _ _ _ _, by omega, by omega⟩, (m1.later b2).later b3, m2.below b3 (by omega), fun x u g h => (by cases h), ⟨by omega, by omega⟩⟩, Nat.le_refl _, Nat.le_refl _⟩
set_option maxRecDepth 100000 in
set_option maxHeartbeats 8000000 in
theorem newQueue_any (w : World) (gb : Nat) (G : List ByteArray) (N : ByteArray → Option (List ByteArray)) (h : Gr w gb G N) (hG : G.length ≤ 1000) (hT : totN G N G.length ≤ 100000) (hsz : ∀ s ∈ G, s.size ≤ maxLen) (hsn : ∀ s t, t ∈ getN N s → t.size ≤ maxLen) :
    Calls Try.prog 20 #[.pointer (some ⟨gb, 0, none⟩)] w fun e w' => ∃ wb cb q, e = .returned (.pointer (some ⟨q, 0, none⟩)) ∧ w.heap.size ≤ wb ∧ Nq w w' wb cb q (outR G N G.length) (outW G N G.length) (outC G N G.length) (totN G N G.length) := by
  obtain ⟨ga, gn, gc, mb, km, M, h1, h2, h3, h4, h5⟩ := h.ex
  obtain rfl : gn = G.length := h2.length.symm
  have HGR := Lib.hid h
  have H1 := Lib.hid h1
  have H2 := Lib.hid h2
  have H3 := Lib.hid h3
  have H4 := Lib.hid h4
  have H5 := Lib.hid h5
  have HG := Lib.hid hG
  have HT := Lib.hid hT
  have HSZ := Lib.hid hsz
  have HSN := Lib.hid hsn
  have c0 := h1.cellAt (i := 0) rfl
  clear h h1 h2 h3 h4 h5 hG hT hsz hsn
  have hmm := @run_makeMap Try.prog
  go_enter Try.func20, Try.ntmps20
  go_upto_region 2 with fail
  clear hmm c0
  have Q0 := Lib.hid (nq_start w)
  obtain ⟨w1, hw1⟩ : ∃ w1, w1 = ((w.alloc (.map #[] 0)).alloc (.map #[] 0)).alloc (.cells #[.slice none 0 0, .map (some w.heap.size), .map (some (w.heap.size + 1))] 53) := ⟨_, rfl⟩
  rw [← hw1] at Q0 ⊢
  obtain ⟨wb, hwb⟩ : ∃ wb, wb = w.heap.size := ⟨_, rfl⟩
  obtain ⟨cb, hcb⟩ : ∃ cb, cb = w.heap.size + 1 := ⟨_, rfl⟩
  obtain ⟨q, hq⟩ : ∃ q, q = w.heap.size + 1 + 1 := ⟨_, rfl⟩
  rw [← hq, ← hcb] at Q0 ⊢
  have Q1 : Hid (Nq w w1 wb cb q [] (fun _ => none) (fun _ => none) 0) := Lib.hid (by rw [hwb]; exact Q0.out)
  have HWB : Hid (w.heap.size ≤ wb) := Lib.hid (by omega)
  have HORD : Hid (wb < cb ∧ cb < q) := Lib.hid (by omega)
  have c0 : w1.cell? ⟨gb, 0, none⟩ = some (.slice ga G.length gc) := (H1.out.below Q1.out.1 H1.out.lt).cellAt (i := 0) rfl
  clear Q0 hw1 hwb hcb hq
  go_wp2_with fail
  clear c0
  go_loopw [17] (fun ii wr => ∃ i : Nat, i ≤ G.length ∧ ii = .int .i64 i ∧ Nq w wr wb cb q (outR G N i) (outW G N i) (outC G N i) (totN G N i)) (fun ii _ => G.length - (intOf ii).toNat)
  case atStart => exact ⟨0, Nat.zero_le _, rfl, Q1.out⟩
  case round =>
    obtain ⟨i, hi, rfl, hQ⟩ := hrel
    have HQ := Lib.hid hQ
    clear hQ
    by_cases hlt : i < G.length
    · obtain ⟨b, off, rfl, hb, hc⟩ := H2.out.cell hlt
      have hci := (HQ.out.1.cell (p := ⟨b, off + i, none⟩) hb).trans hc
      obtain ⟨s, hs⟩ : ∃ s, s = G.getD i ⟨#[]⟩ := ⟨_, rfl⟩
      rw [← hs] at hci
      have HSS : Hid (s.size ≤ maxLen) := Lib.hid (by rw [hs]; exact HSZ.out _ (getD_mem2 hlt))
      have HS := Lib.hid hs
      have HLT := Lib.hid hlt
      have hki : (i : Int) < (G.length : Int) := by omega
      have hk0 : (0 : Int) ≤ (i : Int) := by omega
      have hni : (i : Int) + 1 ≤ 9223372036854775807 := by have := HG.out; omega
      have hgb1 : wr.cell? ⟨gb, 1, none⟩ = some (.map (some mb)) := (H1.out.below HQ.out.1 H1.out.lt).cellAt (i := 1) rfl
      obtain ⟨na, nc, hnv, hns⟩ : ∃ na nc, getV M s = .slice na (getN N s).length nc ∧ IsS w na (getN N s).length nc (getN N s) := by
        have h4 := H4.out s
        have h5 := H5.out s
        unfold getV getN
        cases hn : N s with
        | none =>
          rw [hn] at h4
          cases hm : M s with
          | none => exact ⟨none, 0, rfl, isS_nil w⟩
          | some u => rw [hm] at h4; cases h4
        | some l =>
          obtain ⟨a', n', c', h6, h7⟩ := h5 l hn
          rw [h6]
          obtain rfl : n' = l.length := h7.length.symm
          exact ⟨a', c', rfl, h7⟩
      have hlk : (Instr.lookup 45 (.map (some mb)) (.string s) false).run Try.prog wr = .ok (.slice na (getN N s).length nc) wr := by
        rw [← hnv]
        exact (H3.out.below HQ.out.1 H3.out.lt).get Try.underlying45 (zeroS wr) HSS.out
      have HNS := Lib.hid hns
      clear hb hc hs hnv hns hlt
      go_wp2_with fail
      clear hci hgb1 hlk
      obtain ⟨ms, hms⟩ : ∃ ms, ms = getN N s := ⟨_, rfl⟩
      have HMS := Lib.hid hms
      have HTI : Hid (totN G N i + ms.length ≤ 100000) := Lib.hid (by
        have h1 := totN_mono G N (i := i + 1) (j := G.length) HLT.out
        have h2 : totN G N (i + 1) = totN G N i + (getN N (G.getD i ⟨#[]⟩)).length := rfl
        rw [← HS.out, ← hms] at h2
        have := HT.out
        omega)
      rw [← hms] at HNS
      rw [← hms]
      clear hms
      go_loopw [28] (fun jj wr => ∃ j : Nat, j ≤ ms.length ∧ jj = .int .i64 j ∧ Nq w wr wb cb q (outR G N i) (inW N s ms (outW G N i) j) (inC N s ms (outC G N i) j) (totN G N i + j)) (fun jj _ => ms.length - (intOf jj).toNat)
      case atStart => exact ⟨0, Nat.zero_le _, rfl, HQ.out⟩
      case round =>
        clear HQ
        obtain ⟨j, hj, rfl, hQ⟩ := hrel
        have HQ := Lib.hid hQ
        clear hQ
        by_cases hlt : j < ms.length
        · obtain ⟨b2, off2, rfl, hb2, hc2⟩ := HNS.out.cell hlt
          have hcj := (HQ.out.1.cell (p := ⟨b2, off2 + j, none⟩) hb2).trans hc2
          obtain ⟨t, ht⟩ : ∃ t, t = ms.getD j ⟨#[]⟩ := ⟨_, rfl⟩
          rw [← ht] at hcj
          have HTS : Hid (t.size ≤ maxLen) := Lib.hid (HSN.out s t (by rw [ht, ← HMS.out]; exact getD_mem2 hlt))
          have HTT := Lib.hid ht
          have HJ := Lib.hid hlt
          have hkj : (j : Int) < (ms.length : Int) := by omega
          have hj0 : (0 : Int) ≤ (j : Int) := by omega
          have hnj : (j : Int) + 1 ≤ 9223372036854775807 := by have := HTI.out; omega
          have HW : Hid (inW N s ms (outW G N i) (j + 1) = stepW N s (inW N s ms (outW G N i) j) t) := Lib.hid (by rw [ht]; rfl)
          have HC : Hid (inC N s ms (outC G N i) (j + 1) = stepC N s (inC N s ms (outC G N i) j) t) := Lib.hid (by rw [ht]; rfl)
          clear hb2 hc2 ht hlt
          by_cases hts : t = s
          · have he : (t.toList == s.toList) = true := by rw [hts]; simp
            have HND : Hid (nd N s t = false) := Lib.hid (by unfold nd; rw [hts]; simp)
            clear hts
            go_wp2_with fail
            go_roundw
            case rel => exact ⟨j + 1, HJ.out, by go_num, by rw [HW.out, HC.out]; unfold stepW stepC; rw [if_neg (by rw [HND.out]; simp), if_neg (by rw [HND.out]; simp)]; obtain ⟨q1, k, k', rv, MW, q2, q3, q4⟩ := HQ.out; exact ⟨q1, k, k', rv, MW, q2, by omega, by omega⟩⟩
            case measure => have := HJ.out; simp [intOf]; omega
          · have he : (t.toList == s.toList) = false := by rw [Lib.bytes_beq_false_iff]; exact hts
            have HTN := Lib.hid hts
            clear hts
            go_wp2_with fail
            refine (has_any wr gb G N (HGR.out.later HQ.out.1) t HTS.out).mono ?_
            rintro e w2 ⟨rfl, rfl⟩
            cases hn : (N t).isSome with
            | false =>
              have HND : Hid (nd N s t = false) := Lib.hid (by unfold nd; rw [hn]; simp)
              clear hn
              go_wp2_with fail
              go_roundw
              case rel => exact ⟨j + 1, HJ.out, by go_num, by rw [HW.out, HC.out]; unfold stepW stepC; rw [if_neg (by rw [HND.out]; simp), if_neg (by rw [HND.out]; simp)]; obtain ⟨q1, k, k', rv, MW, q2, q3, q4⟩ := HQ.out; exact ⟨q1, k, k', rv, MW, q2, by omega, by omega⟩⟩
              case measure => have := HJ.out; simp [intOf]; omega
            | true =>
              have HND : Hid (nd N s t = true) := Lib.hid (by unfold nd; rw [hn]; simp; exact HTN.out)
              clear hn
              obtain ⟨q1, k, k', rv, MW, q2, q3, q4⟩ := HQ.out
              have Q2 := Lib.hid q2
              have QL := Lib.hid q1
              have HK := Lib.hid q3
              have HK' := Lib.hid q4
              have HLW : Hid (∀ x, (getN (inW N s ms (outW G N i) j) x).length ≤ totN G N i + j) := Lib.hid (inW_len N s ms _ _ (outW_len G N i) j)
              have HLC : Hid (∀ x, getC (inC N s ms (outC G N i) j) x ≤ totN G N i + j) := Lib.hid (inC_len N s ms _ _ (outC_len G N i) j)
              clear q1 q2 q3 q4 HQ
              go_upto_region 9 with fail
              refine nq_wait (s := s) (t := t) Q2.out.wm Q2.out.hp.box HTS.out (by have := HLW.out t; have := HTI.out; have := HJ.out; omega) (by have := HK.out; have := HTI.out; have := HJ.out; omega) Q2.out.hp.size (by omega) (by have := HORD.out; omega) (fun _ _ _ _ h => h) (fun v2 vr nb hn2 hf2 => ?_)
              have Q3 := Lib.hid (Q2.out.wait hf2 hn2)
              have L3 := Lib.hid (QL.out.trans (hf2.low HWB.out QL.out.size (fun g hg => by
                obtain ⟨u, hu, hug⟩ := getV_own hg
                have h1 := (Q2.out.wm.rows hu hug).1
                have h2 := HORD.out
                have h3 := HWB.out
                omega)))
              clear hn2 hf2
              obtain ⟨c, hc⟩ : ∃ c, c = getC (inC N s ms (outC G N i) j) s := ⟨_, rfl⟩
              obtain ⟨w5, hr5, hm5, hg5, hs5⟩ := Q3.out.cm.put Try.underlying51 (by have := HK'.out; have := HTI.out; have := HJ.out; unfold maxLen; omega) HSS.out (.int .i64 ((c : Int) + 1))
              have hm6 : MapV w5 cb (k' + 1) (cV (putC (inC N s ms (outC G N i) j) s (c + 1))) := by
                rw [← cV_put]
                exact hm5
              rw [hc] at hm6
              have Q5 := Lib.hid (Q3.out.count hg5 hm6)
              have L5 := Lib.hid (L3.out.trans (grown_low hg5 (by have := HORD.out; have := HWB.out; omega) L3.out.size))
              have hlk2 := cV_get Q3.out.cm HSS.out
              rw [← hc] at hlk2
              have c2 := Q3.out.hp.box.cellAt (i := 2) rfl
              have hcb : (c : Int) ≤ 100000 := by have := HLC.out s; have := HTI.out; have := HJ.out; omega
              have hc0 : (0 : Int) ≤ (c : Int) := by omega
              clear hm5 hg5 hs5 hm6 hc
              go_wp2_with fail
              go_roundw
              case rel => exact ⟨j + 1, HJ.out, by go_num, by rw [HW.out, HC.out]; unfold stepW stepC; rw [if_pos HND.out, if_pos HND.out]; exact ⟨L5.out, _, _, _, _, Q5.out, by have := HK.out; omega, by have := HK'.out; omega⟩⟩
              case measure => have := HJ.out; simp [intOf]; omega
        · obtain rfl : j = ms.length := by omega
          have hkj : ¬ (ms.length : Int) < (ms.length : Int) := by omega
          have HCO : Hid (outC G N (i + 1) = inC N s ms (outC G N i) ms.length) := Lib.hid (by
            show inC N (G.getD i ⟨#[]⟩) (getN N (G.getD i ⟨#[]⟩)) (outC G N i) (getN N (G.getD i ⟨#[]⟩)).length = _
            rw [← HS.out, ← HMS.out])
          have HWO : Hid (outW G N (i + 1) = inW N s ms (outW G N i) ms.length) := Lib.hid (by
            show inW N (G.getD i ⟨#[]⟩) (getN N (G.getD i ⟨#[]⟩)) (outW G N i) (getN N (G.getD i ⟨#[]⟩)).length = _
            rw [← HS.out, ← HMS.out])
          have HTO : Hid (totN G N (i + 1) = totN G N i + ms.length) := Lib.hid (by
            show totN G N i + (getN N (G.getD i ⟨#[]⟩)).length = _
            rw [← HS.out, ← HMS.out])
          obtain ⟨QL, k, k', rv, MW, q2, q3, q4⟩ := HQ.out
          rw [← HWO.out, ← HCO.out] at q2
          rw [← HTO.out] at q3 q4
          have Q2 := Lib.hid q2
          have HL := Lib.hid QL
          have HK := Lib.hid q3
          have HK' := Lib.hid q4
          obtain ⟨c, hc⟩ : ∃ c, c = getC (outC G N (i + 1)) s := ⟨_, rfl⟩
          have hlk2 := cV_get q2.cm HSS.out
          rw [← hc] at hlk2
          have c2 := q2.hp.box.cellAt (i := 2) rfl
          have HRO : Hid (outR G N (i + 1) = if c = 0 then outR G N i ++ [s] else outR G N i) := Lib.hid (by rw [hc, HS.out]; rfl)
          have hcc : (0 : Int) ≤ (c : Int) := by omega
          clear QL q2 q3 q4 hc HQ
          by_cases hz : c = 0
          · have HR1 : Hid (outR G N (i + 1) = outR G N i ++ [s]) := Lib.hid (by rw [HRO.out, if_pos hz])
            clear HRO
            subst hz
            obtain ⟨i0, hi0, hz0, hz1, hz2⟩ := info_parts info_str
            have HI := Lib.hid hi0
            have HZ0 := Lib.hid hz0
            have HZ1 := Lib.hid hz1
            have HZ2 := Lib.hid hz2
            clear hi0 hz0 hz1 hz2
            have c0 := Q2.out.hp.cell
            have HRL : Hid ((outR G N i).length ≤ 1000) := Lib.hid (by have := outR_len G N i; have := HG.out; have := HLT.out; omega)
            go_wp2_with (at_builtin; go_must (refine wpList_append_lies _ rfl (.tmp 73) (.tmp 75) 50 rfl (q + 1) 9 i0 (.string ByteArray.empty) 1 16 Try.underlying50 HI.out HZ0.out HZ1.out HZ2.out rfl (by omega) rv (outR G N i).length ((outR G N i).map Value.string) rfl (Q2.out.hp.own.alloc _) ⟨wr.heap.size, 0, none⟩ 1 1 [.string s] rfl rfl ?a1 ?a2 ?a3 ?a4 ?a5 ?a6 _ rfl ?a7))
            try (case a1 => (intro j u hj; rw [Addr.add_mid]; exact (Has.new wr [.string s] _).cellAt (by rw [Nat.zero_add]; exact hj)))
            try (case a2 => first | rfl | (intro u hu; simp only [List.mem_cons, List.not_mem_nil, or_false] at hu; rcases hu with rfl; rfl))
            try (case a3 => omega)
            try (case a4 => (have := HRL.out; unfold maxLen; omega))
            try (case a5 => (have := HRL.out; omega))
            try (case a6 => (have := Q2.out.hp.size; simp; omega))
            intro g1 cap1 w1 hown hgrow hat hlt2
            have hold : ∀ k, k < wr.heap.size → some k ≠ rv.ownBlock → w1.heap[k]? = wr.heap[k]? := fun k hk hv => (hgrow.block k (by simp; omega) hv).trans (Below.heap_alloc wr _ k hk)
            have hsz1 : wr.heap.size ≤ w1.heap.size := by have := hgrow.size; simp at this; omega
            have hF1 : HF q rv wr (.slice (some ⟨g1, 0, none⟩) ((outR G N i).length + 1) cap1) w1 := ⟨hgrow.os, hgrow.tape, hgrow.output, hsz1, fun k hk _ hv => hold k hk hv, fun x hx => by
              simp only [Value.ownBlock, Option.some.injEq] at hx
              subst hx
              exact hat.imp id (fun e => by omega)⟩
            have hX1 : Has w1 q [rv, .map (some wb), .map (some cb)] 53 := (hold q Q2.out.hp.box.lt (fun e => by have := (Q2.out.hp.own.lt q e.symm).1; omega)).trans Q2.out.hp.box
            have hO1 : w1.ownsRow (q + 1) 9 1 (.slice (some ⟨g1, 0, none⟩) ((outR G N i).length + 1) cap1) (outR G N i ++ [s]).length ((outR G N i ++ [s]).map Value.string) := by rw [List.length_append, List.map_append]; exact hown
            have hLY := Q2.out.hp.lay hF1 hX1 hO1
            have c1 := hX1.cellAt (i := 0) rfl
            have cf := hX1.frozen 0
            have HLY := Lib.hid hLY
            clear hown hgrow hat hlt2 hold hsz1 hF1 hX1 hO1 hLY c0 c2 hlk2
            go_wp2_with fail
            obtain ⟨w2, hw2⟩ : ∃ w2, w2 = w1.setCell ⟨q, 0, none⟩ (.slice (some ⟨g1, 0, none⟩) ((outR G N i).length + 1) cap1) := ⟨_, rfl⟩
            rw [← hw2] at HLY ⊢
            clear hw2 c1 cf
            have Q9 := Lib.hid (Q2.out.heap HLY.out.2 HLY.out.1)
            have L9 := Lib.hid (HL.out.trans (HLY.out.2.low (by have := HORD.out; have := HWB.out; omega) HL.out.size (fun g hg => by have := (Q2.out.hp.own.lt g hg).1; have := HORD.out; have := HWB.out; omega)))
            go_roundw
            case rel => exact ⟨i + 1, HLT.out, by go_num, L9.out, k, k', _, MW, by rw [HR1.out]; exact Q9.out, HK.out, HK'.out⟩
            case measure => have := HLT.out; simp [intOf]; omega
          · have HZN := Lib.hid hz
            obtain ⟨z, hzz⟩ : ∃ z : Int, z = (c : Int) := ⟨_, rfl⟩
            have hz3 : (z == 0) = false := by rw [hzz]; simp; exact hz
            rw [← hzz] at hlk2
            clear hz hcc hkj hzz
            go_wp2_with fail
            go_roundw
            case rel => exact ⟨i + 1, HLT.out, by go_num, HL.out, k, k', rv, MW, by rw [HRO.out, if_neg HZN.out]; exact Q2.out, HK.out, HK'.out⟩
            case measure => have := HLT.out; simp [intOf]; omega
    · obtain rfl : i = G.length := by omega
      have hki : ¬ (G.length : Int) < (G.length : Int) := by omega
      go_wp2_with fail
      go_ret
      exact ⟨wb, cb, q, rfl, HWB.out, HQ.out⟩
end Go.Proofs.Ytdliecailkkciaa

/-
  Counting a tree: the reference's count and Size. Condition: the counts' bounds; the names are no longer than memory.
-/
import Derived.Test.YtbempgdndmchlaaDoorTOwn2
import Derived.Test.YtbempgdndmchlaaDoorTSize
namespace Go.Proofs.YtbempgdndmchlaaDoor
open Go.RowKit
set_option linter.unusedVariables false

def cntV : Option (Nat × Nat) → Value
  | none => .tuple #[.int .i64 (-1), .int .i64 (-1)]
  | some q => .tuple #[.int .i64 (4096 - (q.1 : Int)), .int .i64 (65536 - (q.2 : Int))]

theorem cntV_none {r : Option (Nat × Nat)} (h : r = none) : cntV r = .tuple #[.int .i64 (-1), .int .i64 (-1)] := by rw [h]; rfl

theorem Small.kid {k : UInt8} {x : Bool} {d : List UInt8} {ns : List ByteArray} {ks : List T} (h : Small (.mk k x d ns ks)) (i : Nat) (hi : i < ks.length) : Small (ks.getD i default) := by
  cases h with
  | mk _ h2 _ => exact h2 i hi

set_option maxRecDepth 100000 in
set_option maxHeartbeats 20000000 in
theorem count_any : ∀ (n : Nat) (cs : List Value) (t : T) (w : World), IsT w n cs t → Small t → ∀ (dep tc bc : Nat) (N B : Int), N = 4096 - (tc : Int) → B = 65536 - (bc : Int) → tc ≤ 4096 → bc ≤ 65536 → dep ≤ 17 →
    Calls Tryd.prog 34 #[.agg cs.toArray, .int .i64 (dep : Int), .int .i64 N, .int .i64 B] w fun e w' => e = .returned (cntV (takeT t dep tc bc)) ∧ Below w.heap.size w w'
  | 0, _, _, _, ht => absurd ht (by simp [IsT])
  | n + 1, cs, .mk k x d ns ks, w, ht => by
    intro hsm dep tc bc N B hN hB0 htc hbc hdep
    have HT := Lib.hid ht
    have HSM := Lib.hid hsm
    have hI0 := Lib.hid (infoL (isT_five ht))
    obtain ⟨ad, nd, cd, an, nn, cn, ak, nk, ck, rfl, hB, hS, hK⟩ := ht
    have HK := Lib.hid hK
    have HLD := Lib.hid hB.length
    have hmost := hB.most
    have hN0 : 0 ≤ N := by omega
    have hN1 : N ≤ 4096 := by omega
    have hB1 : 0 ≤ B := by omega
    have hB2 : B ≤ 65536 := by omega
    have HNE := Lib.hid hN
    have HBE0 := Lib.hid hB0
    obtain ⟨V, hV⟩ : ∃ V, V = cntV (takeT (.mk k x d ns ks) dep tc bc) := ⟨_, rfl⟩
    rw [← hV]
    have HV := Lib.hid hV
    clear hB hS hK hN hB0 hsm hV
    go_enter Tryd.func34, Tryd.ntmps34
    go_upto_region 1 with fail
    obtain ⟨w1, hw1⟩ : ∃ w1, w1 = w.alloc (.cells #[.int .u8 (k.toNat : Int), .bool x, .slice ad nd cd, .slice an nn cn, .slice ak nk ck] 26) := ⟨_, rfl⟩
    have g1 : Has w1 w.heap.size [.int .u8 (k.toNat : Int), .bool x, .slice ad nd cd, .slice an nn cn, .slice ak nk ck] 26 := by rw [hw1]; exact Has.new w _ _
    have b1 : Below w.heap.size w w1 := by rw [hw1]; exact (Below.refl _ _).alloc (Nat.le_refl _) _
    have s1 : w1.heap.size = w.heap.size + 1 := by rw [hw1]; simp
    rw [← hw1]
    obtain ⟨g, hg⟩ : ∃ g, g = w.heap.size := ⟨_, rfl⟩
    rw [← hg] at g1 s1 b1 ⊢
    have HG := Lib.hid hg
    clear hg hw1
    have G1 := Lib.hid g1
    have B1 := Lib.hid b1
    have cg2 := g1.cellAt (i := 2) rfl
    have cg0 := g1.cellAt (i := 0) rfl
    have cg1 := g1.cellAt (i := 1) rfl
    have cg3 := g1.cellAt (i := 3) rfl
    have cg4 := g1.cellAt (i := 4) rfl
    clear g1 b1
    by_cases ht1 : tc + 1 ≤ 4096
    · have q1 : ¬ (N - 1 < 0) := by have := HNE.out; omega
      by_cases hb1 : bc + nd ≤ 65536
      · have q2 : ¬ (B - (nd : Int) < 0) := by have := HBE0.out; omega
        by_cases hd16 : dep ≤ 16
        · have q3 : ¬ (16 : Int) < (dep : Int) := by omega
          have KO := Lib.hid (own_any (n + 1) _ _ w1 (IsT.later (by rw [← HG.out]; exact B1.out) _ _ _ HT.out) HSM.out)
          go_wp2_with fail
          refine KO.out.mono ?_
          rintro e w2 ⟨rfl, b2⟩
          have G2 := Lib.hid (G1.out.below b2 (by omega))
          have B2 := Lib.hid (B1.out.trans (b2.mono (by omega)))
          have s2 := b2.size
          clear b2 KO cg0 cg1 cg2 cg3 cg4
          cases hf : formedT (.mk k x d ns ks)
          · have HR : Hid (takeT (.mk k x d ns ks) dep tc bc = none) := Lib.hid (by rw [takeT_mk, if_neg]; rintro ⟨h1, h2, h3, h4⟩; rw [hf] at h4; cases h4)
            clear hf
            go_wp2_with fail
            go_ret2
            exact ⟨by rw [HV.out, cntV_none HR.out]; rfl, by rw [← HG.out]; exact B2.out⟩
          · have HR : Hid (takeT (.mk k x d ns ks) dep tc bc = takeL ks (dep + 1) (tc + 1) (bc + nd)) := Lib.hid (by rw [takeT_mk, HLD.out, if_pos ⟨hd16, ht1, hb1, hf⟩])
            clear hf
            go_wp2_with fail
            have info5 : Hid ((Tryd.prog.info? 26).map (·.size) = some 5) := Lib.hid (by kernel_rfl)
            go_loopw [2, 3, 10] (fun vn vb vi wr => ∃ (i : Nat) (N' B' : Int), i ≤ nk ∧ vi = .int .i64 i ∧ vn = .int .i64 N' ∧ vb = .int .i64 B' ∧ N' ≤ 4096 ∧ -1 ≤ N' ∧
                ((∃ t' b' : Nat, takeL (ks.take i) (dep + 1) (tc + 1) (bc + nd) = some (t', b') ∧ N' = 4096 - (t' : Int) ∧ B' = 65536 - (b' : Int) ∧ t' ≤ 4096 ∧ b' ≤ 65536) ∨ (takeT (.mk k x d ns ks) dep tc bc = none ∧ N' = -1 ∧ B' = -1)) ∧
                Has wr g [.int .u8 (k.toNat : Int), .bool x, .slice ad nd cd, .slice an nn cn, .slice ak nk ck] 26 ∧ Below g w wr ∧ g + 1 ≤ wr.heap.size) (fun vn vb vi _ => nk - (intOf vi).toNat)
            case atStart => exact ⟨0, N - 1, B - (nd : Int), Nat.zero_le _, rfl, rfl, rfl, by omega, by omega, .inl ⟨tc + 1, bc + nd, by simp [takeL], by have := HNE.out; omega, by have := HBE0.out; omega, ht1, hb1⟩, G2.out, B2.out, by omega⟩
            case round =>
              clear G2 B2
              obtain ⟨i, N', B', hi, rfl, rfl, rfl, hNN, hNl, hst, hg, hbel, hsz⟩ := hrel
              have cg4 := hg.cellAt (i := 4) rfl
              have HG' := Lib.hid hg
              have HBE := Lib.hid hbel
              clear hg
              by_cases hlt : i < nk
              · rcases hst with ⟨t', b', hpre, hN', hB', ht', hb'⟩ | ⟨hno, rfl, rfl⟩
                · have hnn : 0 ≤ N' := by omega
                  have hbb : 0 ≤ B' := by omega
                  rcases HK.out.at_ with h0 | ⟨b, off, rfl, hb, hc⟩
                  · omega
                  obtain ⟨c0, c1, c2, c3, c4, hR, e0, e1, e2, e3, e4⟩ := hc i hlt
                  have hkl : i < ks.length := by rw [HK.out.length]; exact hlt
                  have HPRE := Lib.hid hpre
                  have HSTEP := Lib.hid (takeL_step hkl hpre)
                  have hbg : b < g := by rw [HG.out]; exact hb
                  have hrange : wr.rangeAt b (off + i * 5) [c0, c1, c2, c3, c4] := fun j v hv => by
                    rw [Nat.add_assoc]
                    match j, hv with
                    | 0, hv => cases hv; exact (hbel.cell (p := ⟨b, off + (i * 5 + 0), none⟩) hbg).trans e0
                    | 1, hv => cases hv; exact (hbel.cell (p := ⟨b, off + (i * 5 + 1), none⟩) hbg).trans e1
                    | 2, hv => cases hv; exact (hbel.cell (p := ⟨b, off + (i * 5 + 2), none⟩) hbg).trans e2
                    | 3, hv => cases hv; exact (hbel.cell (p := ⟨b, off + (i * 5 + 3), none⟩) hbg).trans e3
                    | 4, hv => cases hv; exact (hbel.cell (p := ⟨b, off + (i * 5 + 4), none⟩) hbg).trans e4
                    | j + 5, hv => simp at hv
                  have HRANGE := Lib.hid hrange
                  have hki : (i : Int) < (nk : Int) := by omega
                  have hroom := HK.out.room
                  unfold maxLen at hroom
                  have hni : (i : Int) + 1 ≤ 9223372036854775807 := by omega
                  obtain ⟨L, hL⟩ : ∃ L, L = [c0, c1, c2, c3, c4] := ⟨_, rfl⟩
                  rw [← hL] at HRANGE hR
                  have hll : Hid (L.length = 5) := Lib.hid (by rw [hL]; rfl)
                  have K5 := count_any n L (ks.getD i default) wr (IsT.later (by rw [← HG.out]; exact hbel) _ _ _ hR) (HSM.out.kid i hkl) (dep + 1) t' b' N' B' hN' hB' ht' hb' (by omega)
                  rw [show ((dep + 1 : Nat) : Int) = (dep : Int) + 1 from by omega] at K5
                  have HK5 := Lib.hid K5
                  have HLT := Lib.hid hlt
                  clear hbel hc hR e0 e1 e2 e3 e4 hrange hL K5 hpre hN' hB'
                  go_wp2_with (refine wpList_load_mid rfl 26 _ rfl b (off + i * 5) rfl L _ HRANGE.out Tryd.underlying26 rfl (by rw [info5.out, hll.out]) ?_)
                  refine HK5.out.mono ?_
                  rintro e w6 ⟨rfl, b6⟩
                  have B6 := Lib.hid b6
                  clear b6 HK5
                  cases hk : takeT (ks.getD i default) (dep + 1) t' b' with
                  | none =>
                    have HRR : Hid (takeT (.mk k x d ns ks) dep tc bc = none) := Lib.hid (by rw [HR.out]; exact takeL_none (i := i + 1) (by rw [HSTEP.out]; exact hk))
                    clear hk
                    rw [cntV_none rfl]
                    go_wp2_with fail
                    go_roundw
                    case rel => exact ⟨i + 1, -1, -1, by omega, by go_num, rfl, rfl, by omega, by omega, .inr ⟨HRR.out, rfl, rfl⟩, HG'.out.below B6.out (by omega), HBE.out.trans (B6.out.mono (by omega)), by have := B6.out.size; omega⟩
                    case measure =>
                      have := HLT.out
                      simp only [intOf]; omega
                  | some q =>
                    have hle := takeT_le _ _ _ _ _ hk
                    obtain ⟨N6, hN6⟩ : ∃ N6 : Int, N6 = 4096 - (q.1 : Int) := ⟨_, rfl⟩
                    obtain ⟨B6', hB6⟩ : ∃ B6' : Int, B6' = 65536 - (q.2 : Int) := ⟨_, rfl⟩
                    have hcv : cntV (some q) = .tuple #[.int .i64 N6, .int .i64 B6'] := by rw [hN6, hB6]; rfl
                    have HN : Hid (takeL (ks.take (i + 1)) (dep + 1) (tc + 1) (bc + nd) = some (q.1, q.2)) := Lib.hid (by rw [HSTEP.out, hk])
                    have H6 := Lib.hid hN6
                    have H7 := Lib.hid hB6
                    rw [hcv]
                    clear hk hcv hN6 hB6
                    go_wp2_with fail
                    go_roundw
                    case rel => exact ⟨i + 1, N6, B6', by omega, by go_num, rfl, rfl, by have := H6.out; omega, by have := H6.out; omega, .inl ⟨q.1, q.2, HN.out, H6.out, H7.out, hle.1, hle.2⟩, HG'.out.below B6.out (by omega), HBE.out.trans (B6.out.mono (by omega)), by have := B6.out.size; omega⟩
                    case measure =>
                      have := HLT.out
                      simp only [intOf]; omega
                · have HNO := Lib.hid hno
                  clear hno hbel
                  go_wp2_with fail
                  go_ret2
                  exact ⟨by rw [HV.out, cntV_none HNO.out]; rfl, by rw [← HG.out]; exact HBE.out⟩
              · obtain rfl : i = nk := by omega
                have HRR : Hid (V = .tuple #[.int .i64 N', .int .i64 B']) := Lib.hid (by
                  rcases hst with ⟨t', b', hpre, hN', hB', ht', hb'⟩ | ⟨hno, rfl, rfl⟩
                  · rw [List.take_of_length_le (by rw [HK.out.length]; exact Nat.le_refl _)] at hpre
                    rw [HV.out, HR.out, hpre, hN', hB']; rfl
                  · rw [HV.out, cntV_none hno])
                clear hst hbel
                go_wp2_with fail
                go_ret2
                exact ⟨by rw [HRR.out]; rfl, by rw [← HG.out]; exact HBE.out⟩
        · have q3 : (16 : Int) < (dep : Int) := by omega
          have HR : Hid (takeT (.mk k x d ns ks) dep tc bc = none) := Lib.hid (by rw [takeT_mk, if_neg]; rintro ⟨h1, h2, h3, h4⟩; omega)
          clear hd16
          go_wp2_with fail
          go_ret2
          exact ⟨by rw [HV.out, cntV_none HR.out]; rfl, by rw [← HG.out]; exact B1.out⟩
      · have q2 : B - (nd : Int) < 0 := by have := HBE0.out; omega
        have HR : Hid (takeT (.mk k x d ns ks) dep tc bc = none) := Lib.hid (by rw [takeT_mk, if_neg]; rintro ⟨h1, h2, h3, h4⟩; rw [HLD.out] at h3; omega)
        clear hb1
        go_wp2_with fail
        go_ret2
        exact ⟨by rw [HV.out, cntV_none HR.out]; rfl, by rw [← HG.out]; exact B1.out⟩
    · have q1 : N - 1 < 0 := by have := HNE.out; omega
      have HR : Hid (takeT (.mk k x d ns ks) dep tc bc = none) := Lib.hid (by rw [takeT_mk, if_neg]; rintro ⟨h1, h2, h3, h4⟩; omega)
      clear ht1
      go_wp2_with fail
      go_ret2
      exact ⟨by rw [HV.out, cntV_none HR.out]; rfl, by rw [← HG.out]; exact B1.out⟩

end Go.Proofs.YtbempgdndmchlaaDoor

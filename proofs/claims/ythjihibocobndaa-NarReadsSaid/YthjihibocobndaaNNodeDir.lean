/-
  The contract of the reference's node, at a directory and at any right tree; and of its Write. No condition but that the tree is right.
-/
import Derived.Test.YthjihibocobndaaNNode
import Derived.Deep.MidRow
import Derived.BigFrame
namespace Go.Proofs.Ythjihibocobndaa
open Go.RowKit
set_option linter.unusedVariables false

theorem good_len {t : T} (h : Good t) : (nodeT t).length ≤ 800000000 := by
  have h1 := node_len (sizeN t) t (Nat.le_refl _) h
  obtain ⟨D, c, b, r, hr⟩ := h
  have h2 := take_size _ _ _ _ _ hr
  have h3 := (takeT_le _ _ _ _ _ hr).1
  omega

def NodeR (w : World) (A : Nat) (C : List Value) (ks : List T) (ns : List ByteArray) (nk : Nat) (F : List UInt8) (pv iv : Value) (wr : World) : Prop := ∃ (j : Nat) (v : Value) (M : List UInt8), j ≤ nk ∧ iv = .int .i64 j ∧ pv = v ∧
  wr.ownsRow (A + 1) 5 1 v M.length (M.map bv) ∧ M ++ (entsT (ks.drop j) (ns.drop j) ++ (strN sClose ++ [])) = F ∧ Has wr A C 26 ∧ Below w.heap.size w wr

set_option maxRecDepth 100000 in
set_option maxHeartbeats 8000000 in
theorem rnode_dir (ad : Option Addr) (nd cd : Nat) (an : Option Addr) (nn cn : Nat) (ak : Option Addr) (nk ck : Nat) (d : List UInt8) (ns : List ByteArray) (ks : List T) (w : World) (F : List UInt8) (hF : F.length ≤ 900000000) (hFe : nodeT (.mk 3 false d ns ks) ++ [] = F) 
    (n : Nat) (hS : IsS w an nn cn ns) (hK : IsK (IsT w n) w ak nk ck ks) (hgood : Good (.mk 3 false d ns ks))
    (ih : ∀ (cs : List Value) (t : T) (w' : World), IsT w' n cs t → Good t → Calls Try.prog 21 #[.agg cs.toArray] w' (OwnB w' (nodeT t))) :
    Calls Try.prog 21 #[.agg #[.int .u8 3, .bool false, .slice ad nd cd, .slice an nn cn, .slice ak nk ck]] w (OwnB w F) := by
  obtain ⟨i0, hi, hz0, hz1, hz2⟩ := info_u8w_parts
  have HI := Lib.hid hi
  have HZ0 := Lib.hid hz0
  have HZ1 := Lib.hid hz1
  have HZ2 := Lib.hid hz2
  have HF := Lib.hid hF
  have HR0 : Hid (strN sOpen ++ (strN sType ++ (strN sDirectory ++ (entsT ks ns ++ (strN sClose ++ ([]))))) = F) := Lib.hid (by rw [← hFe, node_dir])
  clear hi hz0 hz1 hz2 hF hFe
  have HS := Lib.hid hS
  have HKK := Lib.hid hK
  have HGD := Lib.hid hgood
  have HIH := Lib.hid ih
  have HEQ : Hid (nn = ns.length ∧ nk = ks.length ∧ ns.length = ks.length) := Lib.hid ⟨hS.length.symm, hK.length.symm, hgood.lens⟩
  have HSH := Lib.hid hgood.short
  clear hS hK hgood ih
  go_enter Try.func21, Try.ntmps21
  go_upto_region 1 with fail
  obtain ⟨A, hA⟩ : ∃ A, A = w.heap.size := ⟨_, rfl⟩
  rw [← hA]
  obtain ⟨w0, hw0⟩ : ∃ w1, w1 = w.alloc (.cells #[.int .u8 3, .bool false, .slice ad nd cd, .slice an nn cn, .slice ak nk ck] 26) := ⟨_, rfl⟩
  obtain ⟨C, hC⟩ : ∃ C : List Value, C = [.int .u8 3, .bool false, .slice ad nd cd, .slice an nn cn, .slice ak nk ck] := ⟨_, rfl⟩
  have G0 : Hid (Has w0 A C 26) := Lib.hid (by rw [hw0, hC, hA]; exact Has.new w [.int .u8 3, .bool false, .slice ad nd cd, .slice an nn cn, .slice ak nk ck] _)
  have hb0 : Below w.heap.size w w0 := by rw [hw0]; exact (Below.refl _ _).alloc (Nat.le_refl _) _
  have HC := Lib.hid hC
  have HA := Lib.hid hA
  rw [← hw0]
  clear hw0 hA hC
  have HK := Lib.hid (str_any ⟨#[40]⟩ w0 (by decide))
  go_wp2_with fail
  refine HK.out.mono ?_
  rintro e w1 ⟨v1, rfl, ho1, hb1⟩
  have G1 := Lib.hid (G0.out.below hb1 G0.out.lt)
  have B1 := Lib.hid (hb0.trans (hb1.mono hb0.size))
  obtain ⟨M1, hM1⟩ : ∃ M, M = strN sOpen := ⟨_, rfl⟩
  have P1 : Hid (w1.ownsRow (A + 1) 5 1 v1 M1.length (M1.map bv)) := Lib.hid (by rw [hM1]; exact own_mono ho1 G0.out.lt)
  have HR1 : Hid (M1 ++ (strN sType ++ (strN sDirectory ++ (entsT ks ns ++ (strN sClose ++ ([]))))) = F) := Lib.hid (by rw [hM1]; exact HR0.out)
  clear hM1 ho1 hb0 hb1 HK G0 HR0
  have HK := Lib.hid (str_src ⟨#[116, 121, 112, 101]⟩ (sType) rfl w1 (by decide))
  go_wp2_with fail
  refine HK.out.mono ?_
  rintro e wx ⟨g2, n2, c2, rfl, hB2, hbx⟩
  obtain ⟨X, hX⟩ : ∃ X, X = M1.map bv := ⟨_, rfl⟩
  obtain ⟨N, hN⟩ : ∃ N, N = (strN sType).map bv := ⟨_, rfl⟩
  obtain ⟨l, hl⟩ : ∃ l, l = M1.length := ⟨_, rfl⟩
  have HP : Hid (wx.ownsRow (A + 1) 5 1 v1 l X) := Lib.hid (by rw [hX, hl]; exact owns_same P1.out (fun q _ h => hbx.block q h))
  have HG : Hid (Has wx A C 26) := Lib.hid (G1.out.below hbx G1.out.lt)
  have HB : Hid (Below w.heap.size w wx) := Lib.hid (B1.out.trans (hbx.mono B1.out.size))
  have HSR : Hid (IsB wx (some ⟨g2, 0, none⟩) n2 c2 (strN sType)) := Lib.hid hB2
  have hn2 := hB2.length
  have HN2 := Lib.hid hn2
  have hr2 := hB2.room
  have hsum : l + n2 ≤ 900000000 := by
    have h1 := congrArg List.length HR1.out
    have h2 := HF.out
    rw [List.length_append, List.length_append] at h1
    omega
  have HNS : Hid (∀ u ∈ N, u.oneCell' = true) := Lib.hid (by rw [hN]; exact bv_one _)
  have HNL : Hid (N.length = n2 * 1) := Lib.hid (by rw [hN, List.length_map]; omega)
  have HNC : Hid (∀ ad, (some ⟨g2, 0, none⟩ : Option Addr) = some ad → ∀ j u, N[j]? = some u → wx.cell? (ad.add j) = some u) := Lib.hid (by rw [hN]; exact srcB hB2)
  have HX := Lib.hid hX
  have HN := Lib.hid hN
  have HL := Lib.hid hl
  have HSZ := Lib.hid HG.out.lt
  clear hX hN hl hB2 hn2 hbx HK P1 G1 B1 
  go_wp2_with (at_builtin; refine wpList_append_src rfl (.tmp 6) (.tmp 7) 22 rfl (A + 1) 5 i0 (.int .u8 0) 1 1 Try.underlying22 HI.out HZ0.out HZ1.out HZ2.out rfl (by omega) v1 l X rfl HP.out (some ⟨g2, 0, none⟩) n2 c2 N rfl HNL.out (fun e => by cases e) HNC.out HNS.out (by unfold maxLen; omega) (by omega) HSZ.out ?_)
  intro v2 w2 ho hg
  obtain ⟨M2, hM⟩ : ∃ M, M = M1 ++ (strN sType) := ⟨_, rfl⟩
  have P2 : Hid (w2.ownsRow (A + 1) 5 1 v2 M2.length (M2.map bv)) := Lib.hid (by rw [hM, List.length_append, List.map_append, ← HX.out, ← HN.out, ← HL.out, HN2.out]; exact ho)
  have G2 : Hid (Has w2 A C 26) := Lib.hid ((hg.block _ HG.out.lt (fun e => by have := (HP.out.lt A e.symm).1; omega)).trans HG.out)
  have B2 : Hid (Below w.heap.size w w2) := Lib.hid (HB.out.grown hg HB.out.size (fun q hq => by have := (HP.out.lt q hq).1; have := HA.out; omega))
  have HR2 : Hid (M2 ++ (strN sDirectory ++ (entsT ks ns ++ (strN sClose ++ ([])))) = F) := Lib.hid (by rw [hM, List.append_assoc]; exact HR1.out)
  clear ho hg hM HP HG HB HSR HN2 hr2 hsum HNS HNL HNC HX HN HL HSZ HR1
  have hc0 := G2.out.cellAt (i := 0) (by rw [HC.out]; rfl)
  have HK := Lib.hid (str_src ⟨#[100, 105, 114, 101, 99, 116, 111, 114, 121]⟩ (sDirectory) rfl w2 (by decide))
  go_wp2_with fail
  refine HK.out.mono ?_
  rintro e wx ⟨g2, n2, c2, rfl, hB2, hbx⟩
  obtain ⟨X, hX⟩ : ∃ X, X = M2.map bv := ⟨_, rfl⟩
  obtain ⟨N, hN⟩ : ∃ N, N = (strN sDirectory).map bv := ⟨_, rfl⟩
  obtain ⟨l, hl⟩ : ∃ l, l = M2.length := ⟨_, rfl⟩
  have HP : Hid (wx.ownsRow (A + 1) 5 1 v2 l X) := Lib.hid (by rw [hX, hl]; exact owns_same P2.out (fun q _ h => hbx.block q h))
  have HG : Hid (Has wx A C 26) := Lib.hid (G2.out.below hbx G2.out.lt)
  have HB : Hid (Below w.heap.size w wx) := Lib.hid (B2.out.trans (hbx.mono B2.out.size))
  have HSR : Hid (IsB wx (some ⟨g2, 0, none⟩) n2 c2 (strN sDirectory)) := Lib.hid hB2
  have hn2 := hB2.length
  have HN2 := Lib.hid hn2
  have hr2 := hB2.room
  have hsum : l + n2 ≤ 900000000 := by
    have h1 := congrArg List.length HR2.out
    have h2 := HF.out
    rw [List.length_append, List.length_append] at h1
    omega
  have HNS : Hid (∀ u ∈ N, u.oneCell' = true) := Lib.hid (by rw [hN]; exact bv_one _)
  have HNL : Hid (N.length = n2 * 1) := Lib.hid (by rw [hN, List.length_map]; omega)
  have HNC : Hid (∀ ad, (some ⟨g2, 0, none⟩ : Option Addr) = some ad → ∀ j u, N[j]? = some u → wx.cell? (ad.add j) = some u) := Lib.hid (by rw [hN]; exact srcB hB2)
  have HX := Lib.hid hX
  have HN := Lib.hid hN
  have HL := Lib.hid hl
  have HSZ := Lib.hid HG.out.lt
  clear hX hN hl hB2 hn2 hbx HK P2 G2 B2 hc0
  go_wp2_with (at_builtin; refine wpList_append_src rfl (.tmp 11) (.tmp 12) 22 rfl (A + 1) 5 i0 (.int .u8 0) 1 1 Try.underlying22 HI.out HZ0.out HZ1.out HZ2.out rfl (by omega) v2 l X rfl HP.out (some ⟨g2, 0, none⟩) n2 c2 N rfl HNL.out (fun e => by cases e) HNC.out HNS.out (by unfold maxLen; omega) (by omega) HSZ.out ?_)
  intro v3 w3 ho hg
  obtain ⟨M3, hM⟩ : ∃ M, M = M2 ++ (strN sDirectory) := ⟨_, rfl⟩
  have P3 : Hid (w3.ownsRow (A + 1) 5 1 v3 M3.length (M3.map bv)) := Lib.hid (by rw [hM, List.length_append, List.map_append, ← HX.out, ← HN.out, ← HL.out, HN2.out]; exact ho)
  have G3 : Hid (Has w3 A C 26) := Lib.hid ((hg.block _ HG.out.lt (fun e => by have := (HP.out.lt A e.symm).1; omega)).trans HG.out)
  have B3 : Hid (Below w.heap.size w w3) := Lib.hid (HB.out.grown hg HB.out.size (fun q hq => by have := (HP.out.lt q hq).1; have := HA.out; omega))
  have HR3 : Hid (M3 ++ (entsT ks ns ++ (strN sClose ++ ([]))) = F) := Lib.hid (by rw [hM, List.append_assoc]; exact HR2.out)
  clear ho hg hM HP HG HB HSR HN2 hr2 hsum HNS HNL HNC HX HN HL HSZ HR2
  go_wp2_with fail
  go_loopw [3, 4] (fun pv iv wr => NodeR w A C ks ns nk F pv iv wr) (fun _ iv _ => nk - (intOf iv).toNat)
  case atStart => exact ⟨0, _, _, Nat.zero_le _, rfl, rfl, P3.out, HR3.out, G3.out, B3.out⟩
  case round =>
    clear P3 HR3 G3 B3
    obtain ⟨j, v4, M4, hj, rfl, hpv, hp4, hr4, hg4, hb4⟩ := hrel
    obtain rfl := hpv.symm
    have P4 := Lib.hid hp4
    have HR4 := Lib.hid hr4
    have G4 := Lib.hid hg4
    have B4 := Lib.hid hb4
    have hck4 := hg4.cellAt (i := 4) (by rw [HC.out]; rfl)
    clear hp4 hr4 hg4 hb4
    have hroom := HKK.out.room
    have hroom2 := HS.out.room
    unfold maxLen at hroom hroom2
    by_cases hlt : j < nk
    · rcases HS.out.at_ with h0 | ⟨b, off, rfl, hb, hc⟩
      · have := HEQ.out; omega
      rcases HKK.out.at_ with h0 | ⟨b2, off2, rfl, hb2, hc2⟩
      · omega
      have hjn : j < nn := by have := HEQ.out; omega
      obtain ⟨c0, c1, c2, c3, c4, hR, e0, e1, e2, e3, e4⟩ := hc2 j hlt
      obtain ⟨nm, hnm⟩ : ∃ nm, nm = ns.getD j ⟨#[]⟩ := ⟨_, rfl⟩
      have HCN : Hid (∀ w', Below w.heap.size w w' → w'.cell? ⟨b, off + j, none⟩ = some (.string nm)) := Lib.hid (fun w' h => by rw [hnm]; exact (h.cell (p := ⟨b, off + j, none⟩) hb).trans (hc j hjn))
      have hnms : nm.size ≤ 80 := by rw [hnm]; exact HSH.out j (by have := HEQ.out; omega)
      obtain ⟨kid, hkid⟩ : ∃ kid, kid = ks.getD j default := ⟨_, rfl⟩
      replace HR4 : Hid (M4 ++ (strN sEntry ++ (strN sOpen ++ (strN sName ++ (strN nm.data.toList ++ (strN sNode ++ (nodeT kid ++ (strN sClose ++ (entsT (ks.drop (j + 1)) (ns.drop (j + 1)) ++ (strN sClose ++ ([])))))))))) = F) := Lib.hid (by
        rw [hnm, hkid, ← ents_step ks ns j (by have := HEQ.out; omega) (by have := HEQ.out; omega)]; exact HR4.out)
      have HGK : Hid (Good kid) := Lib.hid (by rw [hkid]; exact HGD.out.kid j (by have := HEQ.out; omega))
      rw [← hkid] at hR
      obtain ⟨L, hL⟩ : ∃ L, L = [c0, c1, c2, c3, c4] := ⟨_, rfl⟩
      have hll : Hid (L.length = 5) := Lib.hid (by rw [hL]; rfl)
      have hrange : ∀ w5, Below w.heap.size w w5 → w5.rangeAt b2 (off2 + j * 5) L := fun w5 hbel i u hu => by
        rw [hL] at hu
        rw [Nat.add_assoc]
        match i, hu with
        | 0, hu => cases hu; exact (hbel.cell (p := ⟨b2, off2 + (j * 5 + 0), none⟩) hb2).trans e0
        | 1, hu => cases hu; exact (hbel.cell (p := ⟨b2, off2 + (j * 5 + 1), none⟩) hb2).trans e1
        | 2, hu => cases hu; exact (hbel.cell (p := ⟨b2, off2 + (j * 5 + 2), none⟩) hb2).trans e2
        | 3, hu => cases hu; exact (hbel.cell (p := ⟨b2, off2 + (j * 5 + 3), none⟩) hb2).trans e3
        | 4, hu => cases hu; exact (hbel.cell (p := ⟨b2, off2 + (j * 5 + 4), none⟩) hb2).trans e4
        | i + 5, hu => simp at hu
      rw [← hL] at hR
      have HRANGE := Lib.hid hrange
      have HRK := Lib.hid hR
      have hji : (j : Int) < (nk : Int) := by omega
      have hjn2 : (j : Int) < (nn : Int) := by omega
      have info5' : Hid ((Try.prog.info? 26).map (·.size) = some 5) := Lib.hid (by kernel_rfl)
      clear hc hc2 e0 e1 e2 e3 e4 hrange hR hL hnm hkid hjn
      have HK := Lib.hid (str_src ⟨#[101, 110, 116, 114, 121]⟩ (sEntry) rfl wr (by decide))
      go_wp2_with fail
      refine HK.out.mono ?_
      rintro e wx ⟨g2, n2, c2, rfl, hB2, hbx⟩
      obtain ⟨X, hX⟩ : ∃ X, X = M4.map bv := ⟨_, rfl⟩
      obtain ⟨N, hN⟩ : ∃ N, N = (strN sEntry).map bv := ⟨_, rfl⟩
      obtain ⟨l, hl⟩ : ∃ l, l = M4.length := ⟨_, rfl⟩
      have HP : Hid (wx.ownsRow (A + 1) 5 1 v4 l X) := Lib.hid (by rw [hX, hl]; exact owns_same P4.out (fun q _ h => hbx.block q h))
      have HG : Hid (Has wx A C 26) := Lib.hid (G4.out.below hbx G4.out.lt)
      have HB : Hid (Below w.heap.size w wx) := Lib.hid (B4.out.trans (hbx.mono B4.out.size))
      have HSR : Hid (IsB wx (some ⟨g2, 0, none⟩) n2 c2 (strN sEntry)) := Lib.hid hB2
      have hn2 := hB2.length
      have HN2 := Lib.hid hn2
      have hr2 := hB2.room
      have hsum : l + n2 ≤ 900000000 := by
        have h1 := congrArg List.length HR4.out
        have h2 := HF.out
        rw [List.length_append, List.length_append] at h1
        omega
      have HNS : Hid (∀ u ∈ N, u.oneCell' = true) := Lib.hid (by rw [hN]; exact bv_one _)
      have HNL : Hid (N.length = n2 * 1) := Lib.hid (by rw [hN, List.length_map]; omega)
      have HNC : Hid (∀ ad, (some ⟨g2, 0, none⟩ : Option Addr) = some ad → ∀ j u, N[j]? = some u → wx.cell? (ad.add j) = some u) := Lib.hid (by rw [hN]; exact srcB hB2)
      have HX := Lib.hid hX
      have HN := Lib.hid hN
      have HL := Lib.hid hl
      have HSZ := Lib.hid HG.out.lt
      clear hX hN hl hB2 hn2 hbx HK P4 G4 B4 hck4
      go_wp2_with (at_builtin; refine wpList_append_src rfl (.tmp 21) (.tmp 22) 22 rfl (A + 1) 5 i0 (.int .u8 0) 1 1 Try.underlying22 HI.out HZ0.out HZ1.out HZ2.out rfl (by omega) v4 l X rfl HP.out (some ⟨g2, 0, none⟩) n2 c2 N rfl HNL.out (fun e => by cases e) HNC.out HNS.out (by unfold maxLen; omega) (by omega) HSZ.out ?_)
      intro v5 w5 ho hg
      obtain ⟨M5, hM⟩ : ∃ M, M = M4 ++ (strN sEntry) := ⟨_, rfl⟩
      have P5 : Hid (w5.ownsRow (A + 1) 5 1 v5 M5.length (M5.map bv)) := Lib.hid (by rw [hM, List.length_append, List.map_append, ← HX.out, ← HN.out, ← HL.out, HN2.out]; exact ho)
      have G5 : Hid (Has w5 A C 26) := Lib.hid ((hg.block _ HG.out.lt (fun e => by have := (HP.out.lt A e.symm).1; omega)).trans HG.out)
      have B5 : Hid (Below w.heap.size w w5) := Lib.hid (HB.out.grown hg HB.out.size (fun q hq => by have := (HP.out.lt q hq).1; have := HA.out; omega))
      have HR5 : Hid (M5 ++ (strN sOpen ++ (strN sName ++ (strN nm.data.toList ++ (strN sNode ++ (nodeT kid ++ (strN sClose ++ (entsT (ks.drop (j + 1)) (ns.drop (j + 1)) ++ (strN sClose ++ ([]))))))))) = F) := Lib.hid (by rw [hM, List.append_assoc]; exact HR4.out)
      clear ho hg hM HP HG HB HSR HN2 hr2 hsum HNS HNL HNC HX HN HL HSZ HR4
      have HK := Lib.hid (str_src ⟨#[40]⟩ (sOpen) rfl w5 (by decide))
      go_wp2_with fail
      refine HK.out.mono ?_
      rintro e wx ⟨g2, n2, c2, rfl, hB2, hbx⟩
      obtain ⟨X, hX⟩ : ∃ X, X = M5.map bv := ⟨_, rfl⟩
      obtain ⟨N, hN⟩ : ∃ N, N = (strN sOpen).map bv := ⟨_, rfl⟩
      obtain ⟨l, hl⟩ : ∃ l, l = M5.length := ⟨_, rfl⟩
      have HP : Hid (wx.ownsRow (A + 1) 5 1 v5 l X) := Lib.hid (by rw [hX, hl]; exact owns_same P5.out (fun q _ h => hbx.block q h))
      have HG : Hid (Has wx A C 26) := Lib.hid (G5.out.below hbx G5.out.lt)
      have HB : Hid (Below w.heap.size w wx) := Lib.hid (B5.out.trans (hbx.mono B5.out.size))
      have HSR : Hid (IsB wx (some ⟨g2, 0, none⟩) n2 c2 (strN sOpen)) := Lib.hid hB2
      have hn2 := hB2.length
      have HN2 := Lib.hid hn2
      have hr2 := hB2.room
      have hsum : l + n2 ≤ 900000000 := by
        have h1 := congrArg List.length HR5.out
        have h2 := HF.out
        rw [List.length_append, List.length_append] at h1
        omega
      have HNS : Hid (∀ u ∈ N, u.oneCell' = true) := Lib.hid (by rw [hN]; exact bv_one _)
      have HNL : Hid (N.length = n2 * 1) := Lib.hid (by rw [hN, List.length_map]; omega)
      have HNC : Hid (∀ ad, (some ⟨g2, 0, none⟩ : Option Addr) = some ad → ∀ j u, N[j]? = some u → wx.cell? (ad.add j) = some u) := Lib.hid (by rw [hN]; exact srcB hB2)
      have HX := Lib.hid hX
      have HN := Lib.hid hN
      have HL := Lib.hid hl
      have HSZ := Lib.hid HG.out.lt
      clear hX hN hl hB2 hn2 hbx HK P5 G5 B5 
      go_wp2_with (at_builtin; refine wpList_append_src rfl (.tmp 24) (.tmp 25) 22 rfl (A + 1) 5 i0 (.int .u8 0) 1 1 Try.underlying22 HI.out HZ0.out HZ1.out HZ2.out rfl (by omega) v5 l X rfl HP.out (some ⟨g2, 0, none⟩) n2 c2 N rfl HNL.out (fun e => by cases e) HNC.out HNS.out (by unfold maxLen; omega) (by omega) HSZ.out ?_)
      intro v6 w6 ho hg
      obtain ⟨M6, hM⟩ : ∃ M, M = M5 ++ (strN sOpen) := ⟨_, rfl⟩
      have P6 : Hid (w6.ownsRow (A + 1) 5 1 v6 M6.length (M6.map bv)) := Lib.hid (by rw [hM, List.length_append, List.map_append, ← HX.out, ← HN.out, ← HL.out, HN2.out]; exact ho)
      have G6 : Hid (Has w6 A C 26) := Lib.hid ((hg.block _ HG.out.lt (fun e => by have := (HP.out.lt A e.symm).1; omega)).trans HG.out)
      have B6 : Hid (Below w.heap.size w w6) := Lib.hid (HB.out.grown hg HB.out.size (fun q hq => by have := (HP.out.lt q hq).1; have := HA.out; omega))
      have HR6 : Hid (M6 ++ (strN sName ++ (strN nm.data.toList ++ (strN sNode ++ (nodeT kid ++ (strN sClose ++ (entsT (ks.drop (j + 1)) (ns.drop (j + 1)) ++ (strN sClose ++ ([])))))))) = F) := Lib.hid (by rw [hM, List.append_assoc]; exact HR5.out)
      clear ho hg hM HP HG HB HSR HN2 hr2 hsum HNS HNL HNC HX HN HL HSZ HR5
      have HK := Lib.hid (str_src ⟨#[110, 97, 109, 101]⟩ (sName) rfl w6 (by decide))
      go_wp2_with fail
      refine HK.out.mono ?_
      rintro e wx ⟨g2, n2, c2, rfl, hB2, hbx⟩
      obtain ⟨X, hX⟩ : ∃ X, X = M6.map bv := ⟨_, rfl⟩
      obtain ⟨N, hN⟩ : ∃ N, N = (strN sName).map bv := ⟨_, rfl⟩
      obtain ⟨l, hl⟩ : ∃ l, l = M6.length := ⟨_, rfl⟩
      have HP : Hid (wx.ownsRow (A + 1) 5 1 v6 l X) := Lib.hid (by rw [hX, hl]; exact owns_same P6.out (fun q _ h => hbx.block q h))
      have HG : Hid (Has wx A C 26) := Lib.hid (G6.out.below hbx G6.out.lt)
      have HB : Hid (Below w.heap.size w wx) := Lib.hid (B6.out.trans (hbx.mono B6.out.size))
      have HSR : Hid (IsB wx (some ⟨g2, 0, none⟩) n2 c2 (strN sName)) := Lib.hid hB2
      have hn2 := hB2.length
      have HN2 := Lib.hid hn2
      have hr2 := hB2.room
      have hsum : l + n2 ≤ 900000000 := by
        have h1 := congrArg List.length HR6.out
        have h2 := HF.out
        rw [List.length_append, List.length_append] at h1
        omega
      have HNS : Hid (∀ u ∈ N, u.oneCell' = true) := Lib.hid (by rw [hN]; exact bv_one _)
      have HNL : Hid (N.length = n2 * 1) := Lib.hid (by rw [hN, List.length_map]; omega)
      have HNC : Hid (∀ ad, (some ⟨g2, 0, none⟩ : Option Addr) = some ad → ∀ j u, N[j]? = some u → wx.cell? (ad.add j) = some u) := Lib.hid (by rw [hN]; exact srcB hB2)
      have HX := Lib.hid hX
      have HN := Lib.hid hN
      have HL := Lib.hid hl
      have HSZ := Lib.hid HG.out.lt
      clear hX hN hl hB2 hn2 hbx HK P6 G6 B6 
      go_wp2_with (at_builtin; refine wpList_append_src rfl (.tmp 27) (.tmp 28) 22 rfl (A + 1) 5 i0 (.int .u8 0) 1 1 Try.underlying22 HI.out HZ0.out HZ1.out HZ2.out rfl (by omega) v6 l X rfl HP.out (some ⟨g2, 0, none⟩) n2 c2 N rfl HNL.out (fun e => by cases e) HNC.out HNS.out (by unfold maxLen; omega) (by omega) HSZ.out ?_)
      intro v7 w7 ho hg
      obtain ⟨M7, hM⟩ : ∃ M, M = M6 ++ (strN sName) := ⟨_, rfl⟩
      have P7 : Hid (w7.ownsRow (A + 1) 5 1 v7 M7.length (M7.map bv)) := Lib.hid (by rw [hM, List.length_append, List.map_append, ← HX.out, ← HN.out, ← HL.out, HN2.out]; exact ho)
      have G7 : Hid (Has w7 A C 26) := Lib.hid ((hg.block _ HG.out.lt (fun e => by have := (HP.out.lt A e.symm).1; omega)).trans HG.out)
      have B7 : Hid (Below w.heap.size w w7) := Lib.hid (HB.out.grown hg HB.out.size (fun q hq => by have := (HP.out.lt q hq).1; have := HA.out; omega))
      have HR7 : Hid (M7 ++ (strN nm.data.toList ++ (strN sNode ++ (nodeT kid ++ (strN sClose ++ (entsT (ks.drop (j + 1)) (ns.drop (j + 1)) ++ (strN sClose ++ ([]))))))) = F) := Lib.hid (by rw [hM, List.append_assoc]; exact HR6.out)
      clear ho hg hM HP HG HB HSR HN2 hr2 hsum HNS HNL HNC HX HN HL HSZ HR6
      have hc3 := G7.out.cellAt (i := 3) (by rw [HC.out]; rfl)
      have hcn := HCN.out w7 B7.out
      have HK := Lib.hid (str_src nm (nm.data.toList) rfl w7 (by omega))
      go_wp2_with fail
      refine HK.out.mono ?_
      rintro e wx ⟨g2, n2, c2, rfl, hB2, hbx⟩
      obtain ⟨X, hX⟩ : ∃ X, X = M7.map bv := ⟨_, rfl⟩
      obtain ⟨N, hN⟩ : ∃ N, N = (strN nm.data.toList).map bv := ⟨_, rfl⟩
      obtain ⟨l, hl⟩ : ∃ l, l = M7.length := ⟨_, rfl⟩
      have HP : Hid (wx.ownsRow (A + 1) 5 1 v7 l X) := Lib.hid (by rw [hX, hl]; exact owns_same P7.out (fun q _ h => hbx.block q h))
      have HG : Hid (Has wx A C 26) := Lib.hid (G7.out.below hbx G7.out.lt)
      have HB : Hid (Below w.heap.size w wx) := Lib.hid (B7.out.trans (hbx.mono B7.out.size))
      have HSR : Hid (IsB wx (some ⟨g2, 0, none⟩) n2 c2 (strN nm.data.toList)) := Lib.hid hB2
      have hn2 := hB2.length
      have HN2 := Lib.hid hn2
      have hr2 := hB2.room
      have hsum : l + n2 ≤ 900000000 := by
        have h1 := congrArg List.length HR7.out
        have h2 := HF.out
        rw [List.length_append, List.length_append] at h1
        omega
      have HNS : Hid (∀ u ∈ N, u.oneCell' = true) := Lib.hid (by rw [hN]; exact bv_one _)
      have HNL : Hid (N.length = n2 * 1) := Lib.hid (by rw [hN, List.length_map]; omega)
      have HNC : Hid (∀ ad, (some ⟨g2, 0, none⟩ : Option Addr) = some ad → ∀ j u, N[j]? = some u → wx.cell? (ad.add j) = some u) := Lib.hid (by rw [hN]; exact srcB hB2)
      have HX := Lib.hid hX
      have HN := Lib.hid hN
      have HL := Lib.hid hl
      have HSZ := Lib.hid HG.out.lt
      clear hX hN hl hB2 hn2 hbx HK P7 G7 B7 hc3 hcn
      go_wp2_with (at_builtin; refine wpList_append_src rfl (.tmp 30) (.tmp 36) 22 rfl (A + 1) 5 i0 (.int .u8 0) 1 1 Try.underlying22 HI.out HZ0.out HZ1.out HZ2.out rfl (by omega) v7 l X rfl HP.out (some ⟨g2, 0, none⟩) n2 c2 N rfl HNL.out (fun e => by cases e) HNC.out HNS.out (by unfold maxLen; omega) (by omega) HSZ.out ?_)
      intro v8 w8 ho hg
      obtain ⟨M8, hM⟩ : ∃ M, M = M7 ++ (strN nm.data.toList) := ⟨_, rfl⟩
      have P8 : Hid (w8.ownsRow (A + 1) 5 1 v8 M8.length (M8.map bv)) := Lib.hid (by rw [hM, List.length_append, List.map_append, ← HX.out, ← HN.out, ← HL.out, HN2.out]; exact ho)
      have G8 : Hid (Has w8 A C 26) := Lib.hid ((hg.block _ HG.out.lt (fun e => by have := (HP.out.lt A e.symm).1; omega)).trans HG.out)
      have B8 : Hid (Below w.heap.size w w8) := Lib.hid (HB.out.grown hg HB.out.size (fun q hq => by have := (HP.out.lt q hq).1; have := HA.out; omega))
      have HR8 : Hid (M8 ++ (strN sNode ++ (nodeT kid ++ (strN sClose ++ (entsT (ks.drop (j + 1)) (ns.drop (j + 1)) ++ (strN sClose ++ ([])))))) = F) := Lib.hid (by rw [hM, List.append_assoc]; exact HR7.out)
      clear ho hg hM HP HG HB HSR HN2 hr2 hsum HNS HNL HNC HX HN HL HSZ HR7
      have HK := Lib.hid (str_src ⟨#[110, 111, 100, 101]⟩ (sNode) rfl w8 (by decide))
      go_wp2_with fail
      refine HK.out.mono ?_
      rintro e wx ⟨g2, n2, c2, rfl, hB2, hbx⟩
      obtain ⟨X, hX⟩ : ∃ X, X = M8.map bv := ⟨_, rfl⟩
      obtain ⟨N, hN⟩ : ∃ N, N = (strN sNode).map bv := ⟨_, rfl⟩
      obtain ⟨l, hl⟩ : ∃ l, l = M8.length := ⟨_, rfl⟩
      have HP : Hid (wx.ownsRow (A + 1) 5 1 v8 l X) := Lib.hid (by rw [hX, hl]; exact owns_same P8.out (fun q _ h => hbx.block q h))
      have HG : Hid (Has wx A C 26) := Lib.hid (G8.out.below hbx G8.out.lt)
      have HB : Hid (Below w.heap.size w wx) := Lib.hid (B8.out.trans (hbx.mono B8.out.size))
      have HSR : Hid (IsB wx (some ⟨g2, 0, none⟩) n2 c2 (strN sNode)) := Lib.hid hB2
      have hn2 := hB2.length
      have HN2 := Lib.hid hn2
      have hr2 := hB2.room
      have hsum : l + n2 ≤ 900000000 := by
        have h1 := congrArg List.length HR8.out
        have h2 := HF.out
        rw [List.length_append, List.length_append] at h1
        omega
      have HNS : Hid (∀ u ∈ N, u.oneCell' = true) := Lib.hid (by rw [hN]; exact bv_one _)
      have HNL : Hid (N.length = n2 * 1) := Lib.hid (by rw [hN, List.length_map]; omega)
      have HNC : Hid (∀ ad, (some ⟨g2, 0, none⟩ : Option Addr) = some ad → ∀ j u, N[j]? = some u → wx.cell? (ad.add j) = some u) := Lib.hid (by rw [hN]; exact srcB hB2)
      have HX := Lib.hid hX
      have HN := Lib.hid hN
      have HL := Lib.hid hl
      have HSZ := Lib.hid HG.out.lt
      clear hX hN hl hB2 hn2 hbx HK P8 G8 B8 
      go_wp2_with (at_builtin; refine wpList_append_src rfl (.tmp 38) (.tmp 39) 22 rfl (A + 1) 5 i0 (.int .u8 0) 1 1 Try.underlying22 HI.out HZ0.out HZ1.out HZ2.out rfl (by omega) v8 l X rfl HP.out (some ⟨g2, 0, none⟩) n2 c2 N rfl HNL.out (fun e => by cases e) HNC.out HNS.out (by unfold maxLen; omega) (by omega) HSZ.out ?_)
      intro v9 w9 ho hg
      obtain ⟨M9, hM⟩ : ∃ M, M = M8 ++ (strN sNode) := ⟨_, rfl⟩
      have P9 : Hid (w9.ownsRow (A + 1) 5 1 v9 M9.length (M9.map bv)) := Lib.hid (by rw [hM, List.length_append, List.map_append, ← HX.out, ← HN.out, ← HL.out, HN2.out]; exact ho)
      have G9 : Hid (Has w9 A C 26) := Lib.hid ((hg.block _ HG.out.lt (fun e => by have := (HP.out.lt A e.symm).1; omega)).trans HG.out)
      have B9 : Hid (Below w.heap.size w w9) := Lib.hid (HB.out.grown hg HB.out.size (fun q hq => by have := (HP.out.lt q hq).1; have := HA.out; omega))
      have HR9 : Hid (M9 ++ (nodeT kid ++ (strN sClose ++ (entsT (ks.drop (j + 1)) (ns.drop (j + 1)) ++ (strN sClose ++ ([]))))) = F) := Lib.hid (by rw [hM, List.append_assoc]; exact HR8.out)
      clear ho hg hM HP HG HB HSR HN2 hr2 hsum HNS HNL HNC HX HN HL HSZ HR8
      have hc4 := G9.out.cellAt (i := 4) (by rw [HC.out]; rfl)
      have HK := Lib.hid ((HIH.out L kid w9 (IsT.later B9.out _ _ _ HRK.out) HGK.out).mono fun e w' h => src_own h (by have := node_pos kid; omega) (by have := good_len HGK.out; omega))
      go_wp2_with (refine wpList_load_mid rfl 26 _ rfl b2 (off2 + j * 5) rfl L _ (HRANGE.out _ B9.out) Try.underlying26 rfl (by rw [info5'.out, hll.out]) ?_)
      refine HK.out.mono ?_
      rintro e wx ⟨g2, n2, c2, rfl, hB2, hbx⟩
      obtain ⟨X, hX⟩ : ∃ X, X = M9.map bv := ⟨_, rfl⟩
      obtain ⟨N, hN⟩ : ∃ N, N = (nodeT kid).map bv := ⟨_, rfl⟩
      obtain ⟨l, hl⟩ : ∃ l, l = M9.length := ⟨_, rfl⟩
      have HP : Hid (wx.ownsRow (A + 1) 5 1 v9 l X) := Lib.hid (by rw [hX, hl]; exact owns_same P9.out (fun q _ h => hbx.block q h))
      have HG : Hid (Has wx A C 26) := Lib.hid (G9.out.below hbx G9.out.lt)
      have HB : Hid (Below w.heap.size w wx) := Lib.hid (B9.out.trans (hbx.mono B9.out.size))
      have HSR : Hid (IsB wx (some ⟨g2, 0, none⟩) n2 c2 (nodeT kid)) := Lib.hid hB2
      have hn2 := hB2.length
      have HN2 := Lib.hid hn2
      have hr2 := hB2.room
      have hsum : l + n2 ≤ 900000000 := by
        have h1 := congrArg List.length HR9.out
        have h2 := HF.out
        rw [List.length_append, List.length_append] at h1
        omega
      have HNS : Hid (∀ u ∈ N, u.oneCell' = true) := Lib.hid (by rw [hN]; exact bv_one _)
      have HNL : Hid (N.length = n2 * 1) := Lib.hid (by rw [hN, List.length_map]; omega)
      have HNC : Hid (∀ ad, (some ⟨g2, 0, none⟩ : Option Addr) = some ad → ∀ j u, N[j]? = some u → wx.cell? (ad.add j) = some u) := Lib.hid (by rw [hN]; exact srcB hB2)
      have HX := Lib.hid hX
      have HN := Lib.hid hN
      have HL := Lib.hid hl
      have HSZ := Lib.hid HG.out.lt
      clear hX hN hl hB2 hn2 hbx HK P9 G9 B9 hc4
      go_wp2_with (at_builtin; refine wpList_append_src rfl (.tmp 41) (.tmp 47) 22 rfl (A + 1) 5 i0 (.int .u8 0) 1 1 Try.underlying22 HI.out HZ0.out HZ1.out HZ2.out rfl (by omega) v9 l X rfl HP.out (some ⟨g2, 0, none⟩) n2 c2 N rfl HNL.out (fun e => by cases e) HNC.out HNS.out (by unfold maxLen; omega) (by omega) HSZ.out ?_)
      intro v10 w10 ho hg
      obtain ⟨M10, hM⟩ : ∃ M, M = M9 ++ (nodeT kid) := ⟨_, rfl⟩
      have P10 : Hid (w10.ownsRow (A + 1) 5 1 v10 M10.length (M10.map bv)) := Lib.hid (by rw [hM, List.length_append, List.map_append, ← HX.out, ← HN.out, ← HL.out, HN2.out]; exact ho)
      have G10 : Hid (Has w10 A C 26) := Lib.hid ((hg.block _ HG.out.lt (fun e => by have := (HP.out.lt A e.symm).1; omega)).trans HG.out)
      have B10 : Hid (Below w.heap.size w w10) := Lib.hid (HB.out.grown hg HB.out.size (fun q hq => by have := (HP.out.lt q hq).1; have := HA.out; omega))
      have HR10 : Hid (M10 ++ (strN sClose ++ (entsT (ks.drop (j + 1)) (ns.drop (j + 1)) ++ (strN sClose ++ ([])))) = F) := Lib.hid (by rw [hM, List.append_assoc]; exact HR9.out)
      clear ho hg hM HP HG HB HSR HN2 hr2 hsum HNS HNL HNC HX HN HL HSZ HR9
      have HK := Lib.hid (str_src ⟨#[41]⟩ (sClose) rfl w10 (by decide))
      go_wp2_with fail
      refine HK.out.mono ?_
      rintro e wx ⟨g2, n2, c2, rfl, hB2, hbx⟩
      obtain ⟨X, hX⟩ : ∃ X, X = M10.map bv := ⟨_, rfl⟩
      obtain ⟨N, hN⟩ : ∃ N, N = (strN sClose).map bv := ⟨_, rfl⟩
      obtain ⟨l, hl⟩ : ∃ l, l = M10.length := ⟨_, rfl⟩
      have HP : Hid (wx.ownsRow (A + 1) 5 1 v10 l X) := Lib.hid (by rw [hX, hl]; exact owns_same P10.out (fun q _ h => hbx.block q h))
      have HG : Hid (Has wx A C 26) := Lib.hid (G10.out.below hbx G10.out.lt)
      have HB : Hid (Below w.heap.size w wx) := Lib.hid (B10.out.trans (hbx.mono B10.out.size))
      have HSR : Hid (IsB wx (some ⟨g2, 0, none⟩) n2 c2 (strN sClose)) := Lib.hid hB2
      have hn2 := hB2.length
      have HN2 := Lib.hid hn2
      have hr2 := hB2.room
      have hsum : l + n2 ≤ 900000000 := by
        have h1 := congrArg List.length HR10.out
        have h2 := HF.out
        rw [List.length_append, List.length_append] at h1
        omega
      have HNS : Hid (∀ u ∈ N, u.oneCell' = true) := Lib.hid (by rw [hN]; exact bv_one _)
      have HNL : Hid (N.length = n2 * 1) := Lib.hid (by rw [hN, List.length_map]; omega)
      have HNC : Hid (∀ ad, (some ⟨g2, 0, none⟩ : Option Addr) = some ad → ∀ j u, N[j]? = some u → wx.cell? (ad.add j) = some u) := Lib.hid (by rw [hN]; exact srcB hB2)
      have HX := Lib.hid hX
      have HN := Lib.hid hN
      have HL := Lib.hid hl
      have HSZ := Lib.hid HG.out.lt
      clear hX hN hl hB2 hn2 hbx HK P10 G10 B10 
      go_wp2_with (at_builtin; refine wpList_append_src rfl (.tmp 49) (.tmp 50) 22 rfl (A + 1) 5 i0 (.int .u8 0) 1 1 Try.underlying22 HI.out HZ0.out HZ1.out HZ2.out rfl (by omega) v10 l X rfl HP.out (some ⟨g2, 0, none⟩) n2 c2 N rfl HNL.out (fun e => by cases e) HNC.out HNS.out (by unfold maxLen; omega) (by omega) HSZ.out ?_)
      intro v11 w11 ho hg
      obtain ⟨M11, hM⟩ : ∃ M, M = M10 ++ (strN sClose) := ⟨_, rfl⟩
      have P11 : Hid (w11.ownsRow (A + 1) 5 1 v11 M11.length (M11.map bv)) := Lib.hid (by rw [hM, List.length_append, List.map_append, ← HX.out, ← HN.out, ← HL.out, HN2.out]; exact ho)
      have G11 : Hid (Has w11 A C 26) := Lib.hid ((hg.block _ HG.out.lt (fun e => by have := (HP.out.lt A e.symm).1; omega)).trans HG.out)
      have B11 : Hid (Below w.heap.size w w11) := Lib.hid (HB.out.grown hg HB.out.size (fun q hq => by have := (HP.out.lt q hq).1; have := HA.out; omega))
      have HR11 : Hid (M11 ++ (entsT (ks.drop (j + 1)) (ns.drop (j + 1)) ++ (strN sClose ++ ([]))) = F) := Lib.hid (by rw [hM, List.append_assoc]; exact HR10.out)
      clear ho hg hM HP HG HB HSR HN2 hr2 hsum HNS HNL HNC HX HN HL HSZ HR10
      go_wp2_with fail
      go_roundw
      case rel => exact ⟨j + 1, _, _, by omega, by go_num, rfl, P11.out, HR11.out, G11.out, B11.out⟩
      case measure => simp [intOf]; omega
    · obtain rfl : j = nk := by omega
      replace HR4 : Hid (M4 ++ (strN sClose ++ ([])) = F) := Lib.hid (by
        have h := HR4.out
        have he := HEQ.out
        rw [List.drop_of_length_le (by omega), List.drop_of_length_le (by omega)] at h
        simpa only [entsT, List.nil_append] using h)
      have HK := Lib.hid (str_src ⟨#[41]⟩ (sClose) rfl wr (by decide))
      go_wp2_with fail
      clear hck4
      refine HK.out.mono ?_
      rintro e wx ⟨g2, n2, c2, rfl, hB2, hbx⟩
      obtain ⟨X, hX⟩ : ∃ X, X = M4.map bv := ⟨_, rfl⟩
      obtain ⟨N, hN⟩ : ∃ N, N = (strN sClose).map bv := ⟨_, rfl⟩
      obtain ⟨l, hl⟩ : ∃ l, l = M4.length := ⟨_, rfl⟩
      have HP : Hid (wx.ownsRow (A + 1) 5 1 v4 l X) := Lib.hid (by rw [hX, hl]; exact owns_same P4.out (fun q _ h => hbx.block q h))
      have HG : Hid (Has wx A C 26) := Lib.hid (G4.out.below hbx G4.out.lt)
      have HB : Hid (Below w.heap.size w wx) := Lib.hid (B4.out.trans (hbx.mono B4.out.size))
      have HSR : Hid (IsB wx (some ⟨g2, 0, none⟩) n2 c2 (strN sClose)) := Lib.hid hB2
      have hn2 := hB2.length
      have HN2 := Lib.hid hn2
      have hr2 := hB2.room
      have hsum : l + n2 ≤ 900000000 := by
        have h1 := congrArg List.length HR4.out
        have h2 := HF.out
        rw [List.length_append, List.length_append] at h1
        omega
      have HNS : Hid (∀ u ∈ N, u.oneCell' = true) := Lib.hid (by rw [hN]; exact bv_one _)
      have HNL : Hid (N.length = n2 * 1) := Lib.hid (by rw [hN, List.length_map]; omega)
      have HNC : Hid (∀ ad, (some ⟨g2, 0, none⟩ : Option Addr) = some ad → ∀ j u, N[j]? = some u → wx.cell? (ad.add j) = some u) := Lib.hid (by rw [hN]; exact srcB hB2)
      have HX := Lib.hid hX
      have HN := Lib.hid hN
      have HL := Lib.hid hl
      have HSZ := Lib.hid HG.out.lt
      clear hX hN hl hB2 hn2 hbx HK P4 G4 B4 
      go_wp2_with (at_builtin; refine wpList_append_src rfl (.tmp 88) (.tmp 89) 22 rfl (A + 1) 5 i0 (.int .u8 0) 1 1 Try.underlying22 HI.out HZ0.out HZ1.out HZ2.out rfl (by omega) v4 l X rfl HP.out (some ⟨g2, 0, none⟩) n2 c2 N rfl HNL.out (fun e => by cases e) HNC.out HNS.out (by unfold maxLen; omega) (by omega) HSZ.out ?_)
      intro v5 w5 ho hg
      obtain ⟨M5, hM⟩ : ∃ M, M = M4 ++ (strN sClose) := ⟨_, rfl⟩
      have P5 : Hid (w5.ownsRow (A + 1) 5 1 v5 M5.length (M5.map bv)) := Lib.hid (by rw [hM, List.length_append, List.map_append, ← HX.out, ← HN.out, ← HL.out, HN2.out]; exact ho)
      have G5 : Hid (Has w5 A C 26) := Lib.hid ((hg.block _ HG.out.lt (fun e => by have := (HP.out.lt A e.symm).1; omega)).trans HG.out)
      have B5 : Hid (Below w.heap.size w w5) := Lib.hid (HB.out.grown hg HB.out.size (fun q hq => by have := (HP.out.lt q hq).1; have := HA.out; omega))
      have HR5 : Hid (M5 ++ ([]) = F) := Lib.hid (by rw [hM, List.append_assoc]; exact HR4.out)
      clear ho hg hM HP HG HB HSR HN2 hr2 hsum HNS HNL HNC HX HN HL HSZ HR4
      go_wp2_with fail
      go_ret
      refine ⟨_, rfl, ?_, B5.out⟩
      have hF : M5 = F := by rw [← HR5.out, List.append_nil]
      rw [← hF, ← HA.out]
      exact own_mono P5.out (by omega)

theorem rnode_any : ∀ (n : Nat) (cs : List Value) (t : T) (w : World), IsT w n cs t → Good t → Calls Try.prog 21 #[.agg cs.toArray] w (OwnB w (nodeT t))
  | 0, _, _, _, ht, _ => absurd ht (by simp [IsT])
  | n + 1, cs, .mk k x d ns ks, w, ht, hg => by
    obtain ⟨ad, nd, cd, an, nn, cn, ak, nk, ck, rfl, hB, hS, hK⟩ := ht
    have h9 := good_len hg
    rcases formed_cases hg.formed with ⟨rfl, rfl, rfl⟩ | ⟨rfl, rfl, rfl, rfl⟩ | ⟨rfl, rfl, rfl, hl⟩
    · cases x
      · exact rnode_file ad nd cd an nn cn ak nk ck d _ _ w _ (by omega) (List.append_nil _) hB hg.data
      · exact rnode_exec ad nd cd an nn cn ak nk ck d _ _ w _ (by omega) (List.append_nil _) hB hg.data
    · exact rnode_link ad nd cd an nn cn ak nk ck false d _ _ w _ (by omega) (List.append_nil _) hB hg.data
    · exact rnode_dir ad nd cd an nn cn ak nk ck [] ns ks w _ (by omega) (List.append_nil _) n hS hK hg (fun cs t w' h1 h2 => rnode_any n cs t w' h1 h2)

set_option maxRecDepth 100000 in
set_option maxHeartbeats 8000000 in
theorem rwrite_any (n : Nat) (cs : List Value) (t : T) (w : World) (ht : IsT w n cs t) (hg : Good t) : Calls Try.prog 11 #[.agg cs.toArray] w (OwnB w (archT t)) := by
  obtain ⟨i0, hi, hz0, hz1, hz2⟩ := info_u8w_parts
  have HI := Lib.hid hi
  have HZ0 := Lib.hid hz0
  have HZ1 := Lib.hid hz1
  have HZ2 := Lib.hid hz2
  have hI := Lib.hid (infoL (isT_five ht))
  have HT := Lib.hid ht
  have HGD := Lib.hid hg
  clear hi hz0 hz1 hz2 ht hg
  go_enter Try.func11, Try.ntmps11
  go_upto_region 1 with fail
  obtain ⟨A, hA⟩ : ∃ A, A = w.heap.size := ⟨_, rfl⟩
  rw [← hA]
  obtain ⟨w0, hw0⟩ : ∃ w1, w1 = w.alloc (.cells cs.toArray 26) := ⟨_, rfl⟩
  have G0 : Hid (Has w0 A cs 26) := Lib.hid (by rw [hw0, hA]; exact Has.new w cs _)
  have hb0 : Below w.heap.size w w0 := by rw [hw0]; exact (Below.refl _ _).alloc (Nat.le_refl _) _
  have HA := Lib.hid hA
  rw [← hw0]
  clear hw0 hA
  have HK := Lib.hid (str_any ⟨#[110, 105, 120, 45, 97, 114, 99, 104, 105, 118, 101, 45, 49]⟩ w0 (by decide))
  go_wp2_with fail
  refine HK.out.mono ?_
  rintro e w1 ⟨v1, rfl, ho1, hb1⟩
  have G1 := Lib.hid (G0.out.below hb1 G0.out.lt)
  have B1 := Lib.hid (hb0.trans (hb1.mono hb0.size))
  obtain ⟨M1, hM1⟩ : ∃ M, M = strN sMagic := ⟨_, rfl⟩
  obtain ⟨C, hC⟩ : ∃ C, C = cs := ⟨_, rfl⟩
  obtain ⟨F, hF⟩ : ∃ F, F = archT t := ⟨_, rfl⟩
  have HF : Hid (F.length ≤ 900000000) := Lib.hid (by
    rw [hF, archT, List.length_append]
    have := good_len HGD.out
    have := strN_most sMagic
    have l3 : sMagic.length = 13 := rfl
    omega)
  have P1 : Hid (w1.ownsRow (A + 1) 5 1 v1 M1.length (M1.map bv)) := Lib.hid (by rw [hM1]; exact own_mono ho1 G0.out.lt)
  have HR1 : Hid (M1 ++ (nodeT t ++ ([])) = F) := Lib.hid (by rw [hM1, hF, List.append_nil]; rfl)
  have HFF := Lib.hid hF
  rw [← hC] at G1
  have HC := Lib.hid hC
  clear hM1 ho1 hb0 hb1 HK G0 hF hC
  have HK := Lib.hid ((rnode_any n cs t w1 (IsT.later B1.out _ _ _ HT.out) HGD.out).mono fun e w' h => src_own h (by have := node_pos t; omega) (by have := good_len HGD.out; omega))
  have HG1 : Hid (w1.heap[A]? = some (.cells cs.toArray 26 (0, 0))) := Lib.hid (by have := G1.out; rw [HC.out] at this; exact this)
  go_wp2_with (refine wpList_load_rowG (by rfl) 26 _ rfl A rfl 26 cs.toArray (0, 0) _ HG1.out Try.underlying26 rfl hI.out ?_)
  refine HK.out.mono ?_
  rintro e wx ⟨g2, n2, c2, rfl, hB2, hbx⟩
  obtain ⟨X, hX⟩ : ∃ X, X = M1.map bv := ⟨_, rfl⟩
  obtain ⟨N, hN⟩ : ∃ N, N = (nodeT t).map bv := ⟨_, rfl⟩
  obtain ⟨l, hl⟩ : ∃ l, l = M1.length := ⟨_, rfl⟩
  have HP : Hid (wx.ownsRow (A + 1) 5 1 v1 l X) := Lib.hid (by rw [hX, hl]; exact owns_same P1.out (fun q _ h => hbx.block q h))
  have HG : Hid (Has wx A C 26) := Lib.hid (G1.out.below hbx G1.out.lt)
  have HB : Hid (Below w.heap.size w wx) := Lib.hid (B1.out.trans (hbx.mono B1.out.size))
  have HSR : Hid (IsB wx (some ⟨g2, 0, none⟩) n2 c2 (nodeT t)) := Lib.hid hB2
  have hn2 := hB2.length
  have HN2 := Lib.hid hn2
  have hr2 := hB2.room
  have hsum : l + n2 ≤ 900000000 := by
    have h1 := congrArg List.length HR1.out
    have h2 := HF.out
    rw [List.length_append, List.length_append] at h1
    omega
  have HNS : Hid (∀ u ∈ N, u.oneCell' = true) := Lib.hid (by rw [hN]; exact bv_one _)
  have HNL : Hid (N.length = n2 * 1) := Lib.hid (by rw [hN, List.length_map]; omega)
  have HNC : Hid (∀ ad, (some ⟨g2, 0, none⟩ : Option Addr) = some ad → ∀ j u, N[j]? = some u → wx.cell? (ad.add j) = some u) := Lib.hid (by rw [hN]; exact srcB hB2)
  have HX := Lib.hid hX
  have HN := Lib.hid hN
  have HL := Lib.hid hl
  have HSZ := Lib.hid HG.out.lt
  clear hX hN hl hB2 hn2 hbx HK P1 G1 B1 HG1
  go_wp2_with (at_builtin; refine wpList_append_src rfl (.tmp 5) (.tmp 7) 22 rfl (A + 1) 5 i0 (.int .u8 0) 1 1 Try.underlying22 HI.out HZ0.out HZ1.out HZ2.out rfl (by omega) v1 l X rfl HP.out (some ⟨g2, 0, none⟩) n2 c2 N rfl HNL.out (fun e => by cases e) HNC.out HNS.out (by unfold maxLen; omega) (by omega) HSZ.out ?_)
  intro v2 w2 ho hg
  obtain ⟨M2, hM⟩ : ∃ M, M = M1 ++ (nodeT t) := ⟨_, rfl⟩
  have P2 : Hid (w2.ownsRow (A + 1) 5 1 v2 M2.length (M2.map bv)) := Lib.hid (by rw [hM, List.length_append, List.map_append, ← HX.out, ← HN.out, ← HL.out, HN2.out]; exact ho)
  have G2 : Hid (Has w2 A C 26) := Lib.hid ((hg.block _ HG.out.lt (fun e => by have := (HP.out.lt A e.symm).1; omega)).trans HG.out)
  have B2 : Hid (Below w.heap.size w w2) := Lib.hid (HB.out.grown hg HB.out.size (fun q hq => by have := (HP.out.lt q hq).1; have := HA.out; omega))
  have HR2 : Hid (M2 ++ ([]) = F) := Lib.hid (by rw [hM, List.append_assoc]; exact HR1.out)
  clear ho hg hM HP HG HB HSR HN2 hr2 hsum HNS HNL HNC HX HN HL HSZ HR1
  go_wp2_with fail
  go_ret
  refine ⟨_, rfl, ?_, B2.out⟩
  have hF : M2 = F := by rw [← HR2.out, List.append_nil]
  rw [← HFF.out, ← hF, ← HA.out]
  exact own_mono P2.out (by omega)

end Go.Proofs.Ythjihibocobndaa

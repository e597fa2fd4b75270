/-
  The contract of the reference's node, at a file and at a link. Conditions: what comes out is no longer than 9 * 10^8 bytes.
-/
import Derived.Test.YthjihibocobndaaNStr
import Derived.Test.YthjihibocobndaaNFile
namespace Go.Proofs.Ythjihibocobndaa
open Go.RowKit
set_option linter.unusedVariables false

/-- What is told is a slice of these bytes. -/
def SrcB (w : World) (L : List UInt8) (e : Ending) (w' : World) : Prop := ∃ g n cap, e = .returned (.slice (some ⟨g, 0, none⟩) n cap) ∧ IsB w' (some ⟨g, 0, none⟩) n cap L ∧ Below w.heap.size w w'
theorem src_own {w w' : World} {L : List UInt8} {e : Ending} (h : OwnB w L e w') (h0 : 0 < L.length) (h9 : L.length ≤ 140737488355328) : SrcB w L e w' := by
  obtain ⟨v, rfl, ho, hb⟩ := h
  obtain ⟨g, cap, rfl⟩ : ∃ g cap, v = .slice (some ⟨g, 0, none⟩) L.length cap := by
    rcases ho.2 with ⟨_, h⟩ | ⟨g, cap, cur, h, _⟩
    · omega
    · exact ⟨g, cap, h⟩
  exact ⟨g, _, cap, rfl, row_whole ho h9, hb⟩
theorem str_src (s : ByteArray) (l : List UInt8) (hl : s.data.toList = l) (w : World) (hs : s.size ≤ 900000000) : Calls Try.prog 20 #[.string s] w (SrcB w (strN l)) :=
  (str_any s w hs).mono fun e w' h => by
    have e1 : s.data.toList.length = s.size := by rw [Array.length_toList]; rfl
    rw [← hl]
    exact src_own h (by rw [strN_length]; omega) (by rw [strN_length]; unfold padN; omega)
set_option maxRecDepth 100000 in
set_option maxHeartbeats 8000000 in
theorem rnode_file (ad : Option Addr) (nd cd : Nat) (an : Option Addr) (nn cn : Nat) (ak : Option Addr) (nk ck : Nat) (d : List UInt8) (ns : List ByteArray) (ks : List T) (w : World) (F : List UInt8) (hF : F.length ≤ 900000000) (hFe : nodeT (.mk 1 false d ns ks) ++ [] = F) (hB : IsB w ad nd cd d) (hdl : d.length ≤ 65536) :
    Calls Try.prog 21 #[.agg #[.int .u8 1, .bool false, .slice ad nd cd, .slice an nn cn, .slice ak nk ck]] w (OwnB w F) := by
  obtain ⟨i0, hi, hz0, hz1, hz2⟩ := info_u8w_parts
  have HI := Lib.hid hi
  have HZ0 := Lib.hid hz0
  have HZ1 := Lib.hid hz1
  have HZ2 := Lib.hid hz2
  have HF := Lib.hid hF
  have HR0 : Hid (strN sOpen ++ (strN sType ++ (strN sRegular ++ (strN sContents ++ (strN d ++ (strN sClose ++ ([])))))) = F) := Lib.hid (by rw [← hFe, node_file])
  clear hi hz0 hz1 hz2 hF hFe
  have HD := Lib.hid hB
  clear hB
  go_enter Try.func21, Try.ntmps21
  go_upto_region 1 with fail
  obtain ⟨A, hA⟩ : ∃ A, A = w.heap.size := ⟨_, rfl⟩
  rw [← hA]
  obtain ⟨w0, hw0⟩ : ∃ w1, w1 = w.alloc (.cells #[.int .u8 1, .bool false, .slice ad nd cd, .slice an nn cn, .slice ak nk ck] 26) := ⟨_, rfl⟩
  obtain ⟨C, hC⟩ : ∃ C : List Value, C = [.int .u8 1, .bool false, .slice ad nd cd, .slice an nn cn, .slice ak nk ck] := ⟨_, rfl⟩
  have G0 : Hid (Has w0 A C 26) := Lib.hid (by rw [hw0, hC, hA]; exact Has.new w [.int .u8 1, .bool false, .slice ad nd cd, .slice an nn cn, .slice ak nk ck] _)
  have hb0 : Below w.heap.size w w0 := by rw [hw0]; exact (Below.refl _ _).alloc (Nat.le_refl _) _
  have HC := Lib.hid hC
  have HA := Lib.hid hA
  rw [← hw0]
  clear hw0 hA hC
  have HK := Lib.hid (str_any ⟨#[40]⟩ w0 (by decide))
  go_wp2_with fail
  refine HK.out.mono ?_
  rintro e w1 ⟨v1, rfl, ho1, hb1⟩
  have G1 := Lib.hid (G0.out.below hb1 G0.out.lt)
  have B1 := Lib.hid (hb0.trans (hb1.mono hb0.size))
  obtain ⟨M1, hM1⟩ : ∃ M, M = strN sOpen := ⟨_, rfl⟩
  have P1 : Hid (w1.ownsRow (A + 1) 5 1 v1 M1.length (M1.map bv)) := Lib.hid (by rw [hM1]; exact own_mono ho1 G0.out.lt)
  have HR1 : Hid (M1 ++ (strN sType ++ (strN sRegular ++ (strN sContents ++ (strN d ++ (strN sClose ++ ([])))))) = F) := Lib.hid (by rw [hM1]; exact HR0.out)
  clear hM1 ho1 hb0 hb1 HK G0 HR0
  have HK := Lib.hid (str_src ⟨#[116, 121, 112, 101]⟩ (sType) rfl w1 (by decide))
  go_wp2_with fail
  refine HK.out.mono ?_
  rintro e wx ⟨g2, n2, c2, rfl, hB2, hbx⟩
  obtain ⟨X, hX⟩ : ∃ X, X = M1.map bv := ⟨_, rfl⟩
  obtain ⟨N, hN⟩ : ∃ N, N = (strN sType).map bv := ⟨_, rfl⟩
  obtain ⟨l, hl⟩ : ∃ l, l = M1.length := ⟨_, rfl⟩
  have HP : Hid (wx.ownsRow (A + 1) 5 1 v1 l X) := Lib.hid (by rw [hX, hl]; exact owns_same P1.out (fun q _ h => hbx.block q h))
  have HG : Hid (Has wx A C 26) := Lib.hid (G1.out.below hbx G1.out.lt)
  have HB : Hid (Below w.heap.size w wx) := Lib.hid (B1.out.trans (hbx.mono B1.out.size))
  have HSR : Hid (IsB wx (some ⟨g2, 0, none⟩) n2 c2 (strN sType)) := Lib.hid hB2
  have hn2 := hB2.length
  have HN2 := Lib.hid hn2
  have hr2 := hB2.room
  have hsum : l + n2 ≤ 900000000 := by
    have h1 := congrArg List.length HR1.out
    have h2 := HF.out
    rw [List.length_append, List.length_append] at h1
    omega
  have HNS : Hid (∀ u ∈ N, u.oneCell' = true) := Lib.hid (by rw [hN]; exact bv_one _)
  have HNL : Hid (N.length = n2 * 1) := Lib.hid (by rw [hN, List.length_map]; omega)
  have HNC : Hid (∀ ad, (some ⟨g2, 0, none⟩ : Option Addr) = some ad → ∀ j u, N[j]? = some u → wx.cell? (ad.add j) = some u) := Lib.hid (by rw [hN]; exact srcB hB2)
  have HX := Lib.hid hX
  have HN := Lib.hid hN
  have HL := Lib.hid hl
  have HSZ := Lib.hid HG.out.lt
  clear hX hN hl hB2 hn2 hbx HK P1 G1 B1 
  go_wp2_with (at_builtin; refine wpList_append_src rfl (.tmp 6) (.tmp 7) 22 rfl (A + 1) 5 i0 (.int .u8 0) 1 1 Try.underlying22 HI.out HZ0.out HZ1.out HZ2.out rfl (by omega) v1 l X rfl HP.out (some ⟨g2, 0, none⟩) n2 c2 N rfl HNL.out (fun e => by cases e) HNC.out HNS.out (by unfold maxLen; omega) (by omega) HSZ.out ?_)
  intro v2 w2 ho hg
  obtain ⟨M2, hM⟩ : ∃ M, M = M1 ++ (strN sType) := ⟨_, rfl⟩
  have P2 : Hid (w2.ownsRow (A + 1) 5 1 v2 M2.length (M2.map bv)) := Lib.hid (by rw [hM, List.length_append, List.map_append, ← HX.out, ← HN.out, ← HL.out, HN2.out]; exact ho)
  have G2 : Hid (Has w2 A C 26) := Lib.hid ((hg.block _ HG.out.lt (fun e => by have := (HP.out.lt A e.symm).1; omega)).trans HG.out)
  have B2 : Hid (Below w.heap.size w w2) := Lib.hid (HB.out.grown hg HB.out.size (fun q hq => by have := (HP.out.lt q hq).1; have := HA.out; omega))
  have HR2 : Hid (M2 ++ (strN sRegular ++ (strN sContents ++ (strN d ++ (strN sClose ++ ([]))))) = F) := Lib.hid (by rw [hM, List.append_assoc]; exact HR1.out)
  clear ho hg hM HP HG HB HSR HN2 hr2 hsum HNS HNL HNC HX HN HL HSZ HR1
  have hc0 := G2.out.cellAt (i := 0) (by rw [HC.out]; rfl)
  have HK := Lib.hid (str_src ⟨#[114, 101, 103, 117, 108, 97, 114]⟩ (sRegular) rfl w2 (by decide))
  go_wp2_with fail
  refine HK.out.mono ?_
  rintro e wx ⟨g2, n2, c2, rfl, hB2, hbx⟩
  obtain ⟨X, hX⟩ : ∃ X, X = M2.map bv := ⟨_, rfl⟩
  obtain ⟨N, hN⟩ : ∃ N, N = (strN sRegular).map bv := ⟨_, rfl⟩
  obtain ⟨l, hl⟩ : ∃ l, l = M2.length := ⟨_, rfl⟩
  have HP : Hid (wx.ownsRow (A + 1) 5 1 v2 l X) := Lib.hid (by rw [hX, hl]; exact owns_same P2.out (fun q _ h => hbx.block q h))
  have HG : Hid (Has wx A C 26) := Lib.hid (G2.out.below hbx G2.out.lt)
  have HB : Hid (Below w.heap.size w wx) := Lib.hid (B2.out.trans (hbx.mono B2.out.size))
  have HSR : Hid (IsB wx (some ⟨g2, 0, none⟩) n2 c2 (strN sRegular)) := Lib.hid hB2
  have hn2 := hB2.length
  have HN2 := Lib.hid hn2
  have hr2 := hB2.room
  have hsum : l + n2 ≤ 900000000 := by
    have h1 := congrArg List.length HR2.out
    have h2 := HF.out
    rw [List.length_append, List.length_append] at h1
    omega
  have HNS : Hid (∀ u ∈ N, u.oneCell' = true) := Lib.hid (by rw [hN]; exact bv_one _)
  have HNL : Hid (N.length = n2 * 1) := Lib.hid (by rw [hN, List.length_map]; omega)
  have HNC : Hid (∀ ad, (some ⟨g2, 0, none⟩ : Option Addr) = some ad → ∀ j u, N[j]? = some u → wx.cell? (ad.add j) = some u) := Lib.hid (by rw [hN]; exact srcB hB2)
  have HX := Lib.hid hX
  have HN := Lib.hid hN
  have HL := Lib.hid hl
  have HSZ := Lib.hid HG.out.lt
  clear hX hN hl hB2 hn2 hbx HK P2 G2 B2 hc0
  go_wp2_with (at_builtin; refine wpList_append_src rfl (.tmp 54) (.tmp 55) 22 rfl (A + 1) 5 i0 (.int .u8 0) 1 1 Try.underlying22 HI.out HZ0.out HZ1.out HZ2.out rfl (by omega) v2 l X rfl HP.out (some ⟨g2, 0, none⟩) n2 c2 N rfl HNL.out (fun e => by cases e) HNC.out HNS.out (by unfold maxLen; omega) (by omega) HSZ.out ?_)
  intro v3 w3 ho hg
  obtain ⟨M3, hM⟩ : ∃ M, M = M2 ++ (strN sRegular) := ⟨_, rfl⟩
  have P3 : Hid (w3.ownsRow (A + 1) 5 1 v3 M3.length (M3.map bv)) := Lib.hid (by rw [hM, List.length_append, List.map_append, ← HX.out, ← HN.out, ← HL.out, HN2.out]; exact ho)
  have G3 : Hid (Has w3 A C 26) := Lib.hid ((hg.block _ HG.out.lt (fun e => by have := (HP.out.lt A e.symm).1; omega)).trans HG.out)
  have B3 : Hid (Below w.heap.size w w3) := Lib.hid (HB.out.grown hg HB.out.size (fun q hq => by have := (HP.out.lt q hq).1; have := HA.out; omega))
  have HR3 : Hid (M3 ++ (strN sContents ++ (strN d ++ (strN sClose ++ ([])))) = F) := Lib.hid (by rw [hM, List.append_assoc]; exact HR2.out)
  clear ho hg hM HP HG HB HSR HN2 hr2 hsum HNS HNL HNC HX HN HL HSZ HR2
  have hc1 := G3.out.cellAt (i := 1) (by rw [HC.out]; rfl)
  have HK := Lib.hid (str_src ⟨#[99, 111, 110, 116, 101, 110, 116, 115]⟩ (sContents) rfl w3 (by decide))
  go_wp2_with fail
  refine HK.out.mono ?_
  rintro e wx ⟨g2, n2, c2, rfl, hB2, hbx⟩
  obtain ⟨X, hX⟩ : ∃ X, X = M3.map bv := ⟨_, rfl⟩
  obtain ⟨N, hN⟩ : ∃ N, N = (strN sContents).map bv := ⟨_, rfl⟩
  obtain ⟨l, hl⟩ : ∃ l, l = M3.length := ⟨_, rfl⟩
  have HP : Hid (wx.ownsRow (A + 1) 5 1 v3 l X) := Lib.hid (by rw [hX, hl]; exact owns_same P3.out (fun q _ h => hbx.block q h))
  have HG : Hid (Has wx A C 26) := Lib.hid (G3.out.below hbx G3.out.lt)
  have HB : Hid (Below w.heap.size w wx) := Lib.hid (B3.out.trans (hbx.mono B3.out.size))
  have HSR : Hid (IsB wx (some ⟨g2, 0, none⟩) n2 c2 (strN sContents)) := Lib.hid hB2
  have hn2 := hB2.length
  have HN2 := Lib.hid hn2
  have hr2 := hB2.room
  have hsum : l + n2 ≤ 900000000 := by
    have h1 := congrArg List.length HR3.out
    have h2 := HF.out
    rw [List.length_append, List.length_append] at h1
    omega
  have HNS : Hid (∀ u ∈ N, u.oneCell' = true) := Lib.hid (by rw [hN]; exact bv_one _)
  have HNL : Hid (N.length = n2 * 1) := Lib.hid (by rw [hN, List.length_map]; omega)
  have HNC : Hid (∀ ad, (some ⟨g2, 0, none⟩ : Option Addr) = some ad → ∀ j u, N[j]? = some u → wx.cell? (ad.add j) = some u) := Lib.hid (by rw [hN]; exact srcB hB2)
  have HX := Lib.hid hX
  have HN := Lib.hid hN
  have HL := Lib.hid hl
  have HSZ := Lib.hid HG.out.lt
  clear hX hN hl hB2 hn2 hbx HK P3 G3 B3 hc1
  go_wp2_with (at_builtin; refine wpList_append_src rfl (.tmp 65) (.tmp 66) 22 rfl (A + 1) 5 i0 (.int .u8 0) 1 1 Try.underlying22 HI.out HZ0.out HZ1.out HZ2.out rfl (by omega) v3 l X rfl HP.out (some ⟨g2, 0, none⟩) n2 c2 N rfl HNL.out (fun e => by cases e) HNC.out HNS.out (by unfold maxLen; omega) (by omega) HSZ.out ?_)
  intro v4 w4 ho hg
  obtain ⟨M4, hM⟩ : ∃ M, M = M3 ++ (strN sContents) := ⟨_, rfl⟩
  have P4 : Hid (w4.ownsRow (A + 1) 5 1 v4 M4.length (M4.map bv)) := Lib.hid (by rw [hM, List.length_append, List.map_append, ← HX.out, ← HN.out, ← HL.out, HN2.out]; exact ho)
  have G4 : Hid (Has w4 A C 26) := Lib.hid ((hg.block _ HG.out.lt (fun e => by have := (HP.out.lt A e.symm).1; omega)).trans HG.out)
  have B4 : Hid (Below w.heap.size w w4) := Lib.hid (HB.out.grown hg HB.out.size (fun q hq => by have := (HP.out.lt q hq).1; have := HA.out; omega))
  have HR4 : Hid (M4 ++ (strN d ++ (strN sClose ++ ([]))) = F) := Lib.hid (by rw [hM, List.append_assoc]; exact HR3.out)
  clear ho hg hM HP HG HB HSR HN2 hr2 hsum HNS HNL HNC HX HN HL HSZ HR3
  have hc2 := G4.out.cellAt (i := 2) (by rw [HC.out]; rfl)
  have hcv := convert_b (HD.out.later B4.out)
  have HK := Lib.hid (str_src ⟨d.toArray⟩ (d) rfl w4 (by show d.length ≤ 900000000; omega))
  go_wp2_with fail
  refine HK.out.mono ?_
  rintro e wx ⟨g2, n2, c2, rfl, hB2, hbx⟩
  obtain ⟨X, hX⟩ : ∃ X, X = M4.map bv := ⟨_, rfl⟩
  obtain ⟨N, hN⟩ : ∃ N, N = (strN d).map bv := ⟨_, rfl⟩
  obtain ⟨l, hl⟩ : ∃ l, l = M4.length := ⟨_, rfl⟩
  have HP : Hid (wx.ownsRow (A + 1) 5 1 v4 l X) := Lib.hid (by rw [hX, hl]; exact owns_same P4.out (fun q _ h => hbx.block q h))
  have HG : Hid (Has wx A C 26) := Lib.hid (G4.out.below hbx G4.out.lt)
  have HB : Hid (Below w.heap.size w wx) := Lib.hid (B4.out.trans (hbx.mono B4.out.size))
  have HSR : Hid (IsB wx (some ⟨g2, 0, none⟩) n2 c2 (strN d)) := Lib.hid hB2
  have hn2 := hB2.length
  have HN2 := Lib.hid hn2
  have hr2 := hB2.room
  have hsum : l + n2 ≤ 900000000 := by
    have h1 := congrArg List.length HR4.out
    have h2 := HF.out
    rw [List.length_append, List.length_append] at h1
    omega
  have HNS : Hid (∀ u ∈ N, u.oneCell' = true) := Lib.hid (by rw [hN]; exact bv_one _)
  have HNL : Hid (N.length = n2 * 1) := Lib.hid (by rw [hN, List.length_map]; omega)
  have HNC : Hid (∀ ad, (some ⟨g2, 0, none⟩ : Option Addr) = some ad → ∀ j u, N[j]? = some u → wx.cell? (ad.add j) = some u) := Lib.hid (by rw [hN]; exact srcB hB2)
  have HX := Lib.hid hX
  have HN := Lib.hid hN
  have HL := Lib.hid hl
  have HSZ := Lib.hid HG.out.lt
  clear hX hN hl hB2 hn2 hbx HK P4 G4 B4 hc2 hcv
  go_wp2_with (at_builtin; refine wpList_append_src rfl (.tmp 68) (.tmp 72) 22 rfl (A + 1) 5 i0 (.int .u8 0) 1 1 Try.underlying22 HI.out HZ0.out HZ1.out HZ2.out rfl (by omega) v4 l X rfl HP.out (some ⟨g2, 0, none⟩) n2 c2 N rfl HNL.out (fun e => by cases e) HNC.out HNS.out (by unfold maxLen; omega) (by omega) HSZ.out ?_)
  intro v5 w5 ho hg
  obtain ⟨M5, hM⟩ : ∃ M, M = M4 ++ (strN d) := ⟨_, rfl⟩
  have P5 : Hid (w5.ownsRow (A + 1) 5 1 v5 M5.length (M5.map bv)) := Lib.hid (by rw [hM, List.length_append, List.map_append, ← HX.out, ← HN.out, ← HL.out, HN2.out]; exact ho)
  have G5 : Hid (Has w5 A C 26) := Lib.hid ((hg.block _ HG.out.lt (fun e => by have := (HP.out.lt A e.symm).1; omega)).trans HG.out)
  have B5 : Hid (Below w.heap.size w w5) := Lib.hid (HB.out.grown hg HB.out.size (fun q hq => by have := (HP.out.lt q hq).1; have := HA.out; omega))
  have HR5 : Hid (M5 ++ (strN sClose ++ ([])) = F) := Lib.hid (by rw [hM, List.append_assoc]; exact HR4.out)
  clear ho hg hM HP HG HB HSR HN2 hr2 hsum HNS HNL HNC HX HN HL HSZ HR4
  have HK := Lib.hid (str_src ⟨#[41]⟩ (sClose) rfl w5 (by decide))
  go_wp2_with fail
  refine HK.out.mono ?_
  rintro e wx ⟨g2, n2, c2, rfl, hB2, hbx⟩
  obtain ⟨X, hX⟩ : ∃ X, X = M5.map bv := ⟨_, rfl⟩
  obtain ⟨N, hN⟩ : ∃ N, N = (strN sClose).map bv := ⟨_, rfl⟩
  obtain ⟨l, hl⟩ : ∃ l, l = M5.length := ⟨_, rfl⟩
  have HP : Hid (wx.ownsRow (A + 1) 5 1 v5 l X) := Lib.hid (by rw [hX, hl]; exact owns_same P5.out (fun q _ h => hbx.block q h))
  have HG : Hid (Has wx A C 26) := Lib.hid (G5.out.below hbx G5.out.lt)
  have HB : Hid (Below w.heap.size w wx) := Lib.hid (B5.out.trans (hbx.mono B5.out.size))
  have HSR : Hid (IsB wx (some ⟨g2, 0, none⟩) n2 c2 (strN sClose)) := Lib.hid hB2
  have hn2 := hB2.length
  have HN2 := Lib.hid hn2
  have hr2 := hB2.room
  have hsum : l + n2 ≤ 900000000 := by
    have h1 := congrArg List.length HR5.out
    have h2 := HF.out
    rw [List.length_append, List.length_append] at h1
    omega
  have HNS : Hid (∀ u ∈ N, u.oneCell' = true) := Lib.hid (by rw [hN]; exact bv_one _)
  have HNL : Hid (N.length = n2 * 1) := Lib.hid (by rw [hN, List.length_map]; omega)
  have HNC : Hid (∀ ad, (some ⟨g2, 0, none⟩ : Option Addr) = some ad → ∀ j u, N[j]? = some u → wx.cell? (ad.add j) = some u) := Lib.hid (by rw [hN]; exact srcB hB2)
  have HX := Lib.hid hX
  have HN := Lib.hid hN
  have HL := Lib.hid hl
  have HSZ := Lib.hid HG.out.lt
  clear hX hN hl hB2 hn2 hbx HK P5 G5 B5 
  go_wp2_with (at_builtin; refine wpList_append_src rfl (.tmp 88) (.tmp 89) 22 rfl (A + 1) 5 i0 (.int .u8 0) 1 1 Try.underlying22 HI.out HZ0.out HZ1.out HZ2.out rfl (by omega) v5 l X rfl HP.out (some ⟨g2, 0, none⟩) n2 c2 N rfl HNL.out (fun e => by cases e) HNC.out HNS.out (by unfold maxLen; omega) (by omega) HSZ.out ?_)
  intro v6 w6 ho hg
  obtain ⟨M6, hM⟩ : ∃ M, M = M5 ++ (strN sClose) := ⟨_, rfl⟩
  have P6 : Hid (w6.ownsRow (A + 1) 5 1 v6 M6.length (M6.map bv)) := Lib.hid (by rw [hM, List.length_append, List.map_append, ← HX.out, ← HN.out, ← HL.out, HN2.out]; exact ho)
  have G6 : Hid (Has w6 A C 26) := Lib.hid ((hg.block _ HG.out.lt (fun e => by have := (HP.out.lt A e.symm).1; omega)).trans HG.out)
  have B6 : Hid (Below w.heap.size w w6) := Lib.hid (HB.out.grown hg HB.out.size (fun q hq => by have := (HP.out.lt q hq).1; have := HA.out; omega))
  have HR6 : Hid (M6 ++ ([]) = F) := Lib.hid (by rw [hM, List.append_assoc]; exact HR5.out)
  clear ho hg hM HP HG HB HSR HN2 hr2 hsum HNS HNL HNC HX HN HL HSZ HR5
  go_wp2_with fail
  go_ret
  refine ⟨_, rfl, ?_, B6.out⟩
  have hF : M6 = F := by rw [← HR6.out, List.append_nil]
  rw [← hF, ← HA.out]
  exact own_mono P6.out (by omega)

set_option maxRecDepth 100000 in
set_option maxHeartbeats 8000000 in
theorem rnode_exec (ad : Option Addr) (nd cd : Nat) (an : Option Addr) (nn cn : Nat) (ak : Option Addr) (nk ck : Nat) (d : List UInt8) (ns : List ByteArray) (ks : List T) (w : World) (F : List UInt8) (hF : F.length ≤ 900000000) (hFe : nodeT (.mk 1 true d ns ks) ++ [] = F) (hB : IsB w ad nd cd d) (hdl : d.length ≤ 65536) :
    Calls Try.prog 21 #[.agg #[.int .u8 1, .bool true, .slice ad nd cd, .slice an nn cn, .slice ak nk ck]] w (OwnB w F) := by
  obtain ⟨i0, hi, hz0, hz1, hz2⟩ := info_u8w_parts
  have HI := Lib.hid hi
  have HZ0 := Lib.hid hz0
  have HZ1 := Lib.hid hz1
  have HZ2 := Lib.hid hz2
  have HF := Lib.hid hF
  have HR0 : Hid (strN sOpen ++ (strN sType ++ (strN sRegular ++ (strN sExec ++ (strN [] ++ (strN sContents ++ (strN d ++ (strN sClose ++ ([])))))))) = F) := Lib.hid (by rw [← hFe, node_exec])
  clear hi hz0 hz1 hz2 hF hFe
  have HD := Lib.hid hB
  clear hB
  go_enter Try.func21, Try.ntmps21
  go_upto_region 1 with fail
  obtain ⟨A, hA⟩ : ∃ A, A = w.heap.size := ⟨_, rfl⟩
  rw [← hA]
  obtain ⟨w0, hw0⟩ : ∃ w1, w1 = w.alloc (.cells #[.int .u8 1, .bool true, .slice ad nd cd, .slice an nn cn, .slice ak nk ck] 26) := ⟨_, rfl⟩
  obtain ⟨C, hC⟩ : ∃ C : List Value, C = [.int .u8 1, .bool true, .slice ad nd cd, .slice an nn cn, .slice ak nk ck] := ⟨_, rfl⟩
  have G0 : Hid (Has w0 A C 26) := Lib.hid (by rw [hw0, hC, hA]; exact Has.new w [.int .u8 1, .bool true, .slice ad nd cd, .slice an nn cn, .slice ak nk ck] _)
  have hb0 : Below w.heap.size w w0 := by rw [hw0]; exact (Below.refl _ _).alloc (Nat.le_refl _) _
  have HC := Lib.hid hC
  have HA := Lib.hid hA
  rw [← hw0]
  clear hw0 hA hC
  have HK := Lib.hid (str_any ⟨#[40]⟩ w0 (by decide))
  go_wp2_with fail
  refine HK.out.mono ?_
  rintro e w1 ⟨v1, rfl, ho1, hb1⟩
  have G1 := Lib.hid (G0.out.below hb1 G0.out.lt)
  have B1 := Lib.hid (hb0.trans (hb1.mono hb0.size))
  obtain ⟨M1, hM1⟩ : ∃ M, M = strN sOpen := ⟨_, rfl⟩
  have P1 : Hid (w1.ownsRow (A + 1) 5 1 v1 M1.length (M1.map bv)) := Lib.hid (by rw [hM1]; exact own_mono ho1 G0.out.lt)
  have HR1 : Hid (M1 ++ (strN sType ++ (strN sRegular ++ (strN sExec ++ (strN [] ++ (strN sContents ++ (strN d ++ (strN sClose ++ ([])))))))) = F) := Lib.hid (by rw [hM1]; exact HR0.out)
  clear hM1 ho1 hb0 hb1 HK G0 HR0
  have HK := Lib.hid (str_src ⟨#[116, 121, 112, 101]⟩ (sType) rfl w1 (by decide))
  go_wp2_with fail
  refine HK.out.mono ?_
  rintro e wx ⟨g2, n2, c2, rfl, hB2, hbx⟩
  obtain ⟨X, hX⟩ : ∃ X, X = M1.map bv := ⟨_, rfl⟩
  obtain ⟨N, hN⟩ : ∃ N, N = (strN sType).map bv := ⟨_, rfl⟩
  obtain ⟨l, hl⟩ : ∃ l, l = M1.length := ⟨_, rfl⟩
  have HP : Hid (wx.ownsRow (A + 1) 5 1 v1 l X) := Lib.hid (by rw [hX, hl]; exact owns_same P1.out (fun q _ h => hbx.block q h))
  have HG : Hid (Has wx A C 26) := Lib.hid (G1.out.below hbx G1.out.lt)
  have HB : Hid (Below w.heap.size w wx) := Lib.hid (B1.out.trans (hbx.mono B1.out.size))
  have HSR : Hid (IsB wx (some ⟨g2, 0, none⟩) n2 c2 (strN sType)) := Lib.hid hB2
  have hn2 := hB2.length
  have HN2 := Lib.hid hn2
  have hr2 := hB2.room
  have hsum : l + n2 ≤ 900000000 := by
    have h1 := congrArg List.length HR1.out
    have h2 := HF.out
    rw [List.length_append, List.length_append] at h1
    omega
  have HNS : Hid (∀ u ∈ N, u.oneCell' = true) := Lib.hid (by rw [hN]; exact bv_one _)
  have HNL : Hid (N.length = n2 * 1) := Lib.hid (by rw [hN, List.length_map]; omega)
  have HNC : Hid (∀ ad, (some ⟨g2, 0, none⟩ : Option Addr) = some ad → ∀ j u, N[j]? = some u → wx.cell? (ad.add j) = some u) := Lib.hid (by rw [hN]; exact srcB hB2)
  have HX := Lib.hid hX
  have HN := Lib.hid hN
  have HL := Lib.hid hl
  have HSZ := Lib.hid HG.out.lt
  clear hX hN hl hB2 hn2 hbx HK P1 G1 B1 
  go_wp2_with (at_builtin; refine wpList_append_src rfl (.tmp 6) (.tmp 7) 22 rfl (A + 1) 5 i0 (.int .u8 0) 1 1 Try.underlying22 HI.out HZ0.out HZ1.out HZ2.out rfl (by omega) v1 l X rfl HP.out (some ⟨g2, 0, none⟩) n2 c2 N rfl HNL.out (fun e => by cases e) HNC.out HNS.out (by unfold maxLen; omega) (by omega) HSZ.out ?_)
  intro v2 w2 ho hg
  obtain ⟨M2, hM⟩ : ∃ M, M = M1 ++ (strN sType) := ⟨_, rfl⟩
  have P2 : Hid (w2.ownsRow (A + 1) 5 1 v2 M2.length (M2.map bv)) := Lib.hid (by rw [hM, List.length_append, List.map_append, ← HX.out, ← HN.out, ← HL.out, HN2.out]; exact ho)
  have G2 : Hid (Has w2 A C 26) := Lib.hid ((hg.block _ HG.out.lt (fun e => by have := (HP.out.lt A e.symm).1; omega)).trans HG.out)
  have B2 : Hid (Below w.heap.size w w2) := Lib.hid (HB.out.grown hg HB.out.size (fun q hq => by have := (HP.out.lt q hq).1; have := HA.out; omega))
  have HR2 : Hid (M2 ++ (strN sRegular ++ (strN sExec ++ (strN [] ++ (strN sContents ++ (strN d ++ (strN sClose ++ ([]))))))) = F) := Lib.hid (by rw [hM, List.append_assoc]; exact HR1.out)
  clear ho hg hM HP HG HB HSR HN2 hr2 hsum HNS HNL HNC HX HN HL HSZ HR1
  have hc0 := G2.out.cellAt (i := 0) (by rw [HC.out]; rfl)
  have HK := Lib.hid (str_src ⟨#[114, 101, 103, 117, 108, 97, 114]⟩ (sRegular) rfl w2 (by decide))
  go_wp2_with fail
  refine HK.out.mono ?_
  rintro e wx ⟨g2, n2, c2, rfl, hB2, hbx⟩
  obtain ⟨X, hX⟩ : ∃ X, X = M2.map bv := ⟨_, rfl⟩
  obtain ⟨N, hN⟩ : ∃ N, N = (strN sRegular).map bv := ⟨_, rfl⟩
  obtain ⟨l, hl⟩ : ∃ l, l = M2.length := ⟨_, rfl⟩
  have HP : Hid (wx.ownsRow (A + 1) 5 1 v2 l X) := Lib.hid (by rw [hX, hl]; exact owns_same P2.out (fun q _ h => hbx.block q h))
  have HG : Hid (Has wx A C 26) := Lib.hid (G2.out.below hbx G2.out.lt)
  have HB : Hid (Below w.heap.size w wx) := Lib.hid (B2.out.trans (hbx.mono B2.out.size))
  have HSR : Hid (IsB wx (some ⟨g2, 0, none⟩) n2 c2 (strN sRegular)) := Lib.hid hB2
  have hn2 := hB2.length
  have HN2 := Lib.hid hn2
  have hr2 := hB2.room
  have hsum : l + n2 ≤ 900000000 := by
    have h1 := congrArg List.length HR2.out
    have h2 := HF.out
    rw [List.length_append, List.length_append] at h1
    omega
  have HNS : Hid (∀ u ∈ N, u.oneCell' = true) := Lib.hid (by rw [hN]; exact bv_one _)
  have HNL : Hid (N.length = n2 * 1) := Lib.hid (by rw [hN, List.length_map]; omega)
  have HNC : Hid (∀ ad, (some ⟨g2, 0, none⟩ : Option Addr) = some ad → ∀ j u, N[j]? = some u → wx.cell? (ad.add j) = some u) := Lib.hid (by rw [hN]; exact srcB hB2)
  have HX := Lib.hid hX
  have HN := Lib.hid hN
  have HL := Lib.hid hl
  have HSZ := Lib.hid HG.out.lt
  clear hX hN hl hB2 hn2 hbx HK P2 G2 B2 hc0
  go_wp2_with (at_builtin; refine wpList_append_src rfl (.tmp 54) (.tmp 55) 22 rfl (A + 1) 5 i0 (.int .u8 0) 1 1 Try.underlying22 HI.out HZ0.out HZ1.out HZ2.out rfl (by omega) v2 l X rfl HP.out (some ⟨g2, 0, none⟩) n2 c2 N rfl HNL.out (fun e => by cases e) HNC.out HNS.out (by unfold maxLen; omega) (by omega) HSZ.out ?_)
  intro v3 w3 ho hg
  obtain ⟨M3, hM⟩ : ∃ M, M = M2 ++ (strN sRegular) := ⟨_, rfl⟩
  have P3 : Hid (w3.ownsRow (A + 1) 5 1 v3 M3.length (M3.map bv)) := Lib.hid (by rw [hM, List.length_append, List.map_append, ← HX.out, ← HN.out, ← HL.out, HN2.out]; exact ho)
  have G3 : Hid (Has w3 A C 26) := Lib.hid ((hg.block _ HG.out.lt (fun e => by have := (HP.out.lt A e.symm).1; omega)).trans HG.out)
  have B3 : Hid (Below w.heap.size w w3) := Lib.hid (HB.out.grown hg HB.out.size (fun q hq => by have := (HP.out.lt q hq).1; have := HA.out; omega))
  have HR3 : Hid (M3 ++ (strN sExec ++ (strN [] ++ (strN sContents ++ (strN d ++ (strN sClose ++ ([])))))) = F) := Lib.hid (by rw [hM, List.append_assoc]; exact HR2.out)
  clear ho hg hM HP HG HB HSR HN2 hr2 hsum HNS HNL HNC HX HN HL HSZ HR2
  have hc1 := G3.out.cellAt (i := 1) (by rw [HC.out]; rfl)
  have HK := Lib.hid (str_src ⟨#[101, 120, 101, 99, 117, 116, 97, 98, 108, 101]⟩ (sExec) rfl w3 (by decide))
  go_wp2_with fail
  refine HK.out.mono ?_
  rintro e wx ⟨g2, n2, c2, rfl, hB2, hbx⟩
  obtain ⟨X, hX⟩ : ∃ X, X = M3.map bv := ⟨_, rfl⟩
  obtain ⟨N, hN⟩ : ∃ N, N = (strN sExec).map bv := ⟨_, rfl⟩
  obtain ⟨l, hl⟩ : ∃ l, l = M3.length := ⟨_, rfl⟩
  have HP : Hid (wx.ownsRow (A + 1) 5 1 v3 l X) := Lib.hid (by rw [hX, hl]; exact owns_same P3.out (fun q _ h => hbx.block q h))
  have HG : Hid (Has wx A C 26) := Lib.hid (G3.out.below hbx G3.out.lt)
  have HB : Hid (Below w.heap.size w wx) := Lib.hid (B3.out.trans (hbx.mono B3.out.size))
  have HSR : Hid (IsB wx (some ⟨g2, 0, none⟩) n2 c2 (strN sExec)) := Lib.hid hB2
  have hn2 := hB2.length
  have HN2 := Lib.hid hn2
  have hr2 := hB2.room
  have hsum : l + n2 ≤ 900000000 := by
    have h1 := congrArg List.length HR3.out
    have h2 := HF.out
    rw [List.length_append, List.length_append] at h1
    omega
  have HNS : Hid (∀ u ∈ N, u.oneCell' = true) := Lib.hid (by rw [hN]; exact bv_one _)
  have HNL : Hid (N.length = n2 * 1) := Lib.hid (by rw [hN, List.length_map]; omega)
  have HNC : Hid (∀ ad, (some ⟨g2, 0, none⟩ : Option Addr) = some ad → ∀ j u, N[j]? = some u → wx.cell? (ad.add j) = some u) := Lib.hid (by rw [hN]; exact srcB hB2)
  have HX := Lib.hid hX
  have HN := Lib.hid hN
  have HL := Lib.hid hl
  have HSZ := Lib.hid HG.out.lt
  clear hX hN hl hB2 hn2 hbx HK P3 G3 B3 hc1
  go_wp2_with (at_builtin; refine wpList_append_src rfl (.tmp 59) (.tmp 60) 22 rfl (A + 1) 5 i0 (.int .u8 0) 1 1 Try.underlying22 HI.out HZ0.out HZ1.out HZ2.out rfl (by omega) v3 l X rfl HP.out (some ⟨g2, 0, none⟩) n2 c2 N rfl HNL.out (fun e => by cases e) HNC.out HNS.out (by unfold maxLen; omega) (by omega) HSZ.out ?_)
  intro v4 w4 ho hg
  obtain ⟨M4, hM⟩ : ∃ M, M = M3 ++ (strN sExec) := ⟨_, rfl⟩
  have P4 : Hid (w4.ownsRow (A + 1) 5 1 v4 M4.length (M4.map bv)) := Lib.hid (by rw [hM, List.length_append, List.map_append, ← HX.out, ← HN.out, ← HL.out, HN2.out]; exact ho)
  have G4 : Hid (Has w4 A C 26) := Lib.hid ((hg.block _ HG.out.lt (fun e => by have := (HP.out.lt A e.symm).1; omega)).trans HG.out)
  have B4 : Hid (Below w.heap.size w w4) := Lib.hid (HB.out.grown hg HB.out.size (fun q hq => by have := (HP.out.lt q hq).1; have := HA.out; omega))
  have HR4 : Hid (M4 ++ (strN [] ++ (strN sContents ++ (strN d ++ (strN sClose ++ ([]))))) = F) := Lib.hid (by rw [hM, List.append_assoc]; exact HR3.out)
  clear ho hg hM HP HG HB HSR HN2 hr2 hsum HNS HNL HNC HX HN HL HSZ HR3
  have HK := Lib.hid (str_src ⟨#[]⟩ ([]) rfl w4 (by decide))
  go_wp2_with fail
  refine HK.out.mono ?_
  rintro e wx ⟨g2, n2, c2, rfl, hB2, hbx⟩
  obtain ⟨X, hX⟩ : ∃ X, X = M4.map bv := ⟨_, rfl⟩
  obtain ⟨N, hN⟩ : ∃ N, N = (strN []).map bv := ⟨_, rfl⟩
  obtain ⟨l, hl⟩ : ∃ l, l = M4.length := ⟨_, rfl⟩
  have HP : Hid (wx.ownsRow (A + 1) 5 1 v4 l X) := Lib.hid (by rw [hX, hl]; exact owns_same P4.out (fun q _ h => hbx.block q h))
  have HG : Hid (Has wx A C 26) := Lib.hid (G4.out.below hbx G4.out.lt)
  have HB : Hid (Below w.heap.size w wx) := Lib.hid (B4.out.trans (hbx.mono B4.out.size))
  have HSR : Hid (IsB wx (some ⟨g2, 0, none⟩) n2 c2 (strN [])) := Lib.hid hB2
  have hn2 := hB2.length
  have HN2 := Lib.hid hn2
  have hr2 := hB2.room
  have hsum : l + n2 ≤ 900000000 := by
    have h1 := congrArg List.length HR4.out
    have h2 := HF.out
    rw [List.length_append, List.length_append] at h1
    omega
  have HNS : Hid (∀ u ∈ N, u.oneCell' = true) := Lib.hid (by rw [hN]; exact bv_one _)
  have HNL : Hid (N.length = n2 * 1) := Lib.hid (by rw [hN, List.length_map]; omega)
  have HNC : Hid (∀ ad, (some ⟨g2, 0, none⟩ : Option Addr) = some ad → ∀ j u, N[j]? = some u → wx.cell? (ad.add j) = some u) := Lib.hid (by rw [hN]; exact srcB hB2)
  have HX := Lib.hid hX
  have HN := Lib.hid hN
  have HL := Lib.hid hl
  have HSZ := Lib.hid HG.out.lt
  clear hX hN hl hB2 hn2 hbx HK P4 G4 B4 
  go_wp2_with (at_builtin; refine wpList_append_src rfl (.tmp 62) (.tmp 63) 22 rfl (A + 1) 5 i0 (.int .u8 0) 1 1 Try.underlying22 HI.out HZ0.out HZ1.out HZ2.out rfl (by omega) v4 l X rfl HP.out (some ⟨g2, 0, none⟩) n2 c2 N rfl HNL.out (fun e => by cases e) HNC.out HNS.out (by unfold maxLen; omega) (by omega) HSZ.out ?_)
  intro v5 w5 ho hg
  obtain ⟨M5, hM⟩ : ∃ M, M = M4 ++ (strN []) := ⟨_, rfl⟩
  have P5 : Hid (w5.ownsRow (A + 1) 5 1 v5 M5.length (M5.map bv)) := Lib.hid (by rw [hM, List.length_append, List.map_append, ← HX.out, ← HN.out, ← HL.out, HN2.out]; exact ho)
  have G5 : Hid (Has w5 A C 26) := Lib.hid ((hg.block _ HG.out.lt (fun e => by have := (HP.out.lt A e.symm).1; omega)).trans HG.out)
  have B5 : Hid (Below w.heap.size w w5) := Lib.hid (HB.out.grown hg HB.out.size (fun q hq => by have := (HP.out.lt q hq).1; have := HA.out; omega))
  have HR5 : Hid (M5 ++ (strN sContents ++ (strN d ++ (strN sClose ++ ([])))) = F) := Lib.hid (by rw [hM, List.append_assoc]; exact HR4.out)
  clear ho hg hM HP HG HB HSR HN2 hr2 hsum HNS HNL HNC HX HN HL HSZ HR4
  have HK := Lib.hid (str_src ⟨#[99, 111, 110, 116, 101, 110, 116, 115]⟩ (sContents) rfl w5 (by decide))
  go_wp2_with fail
  refine HK.out.mono ?_
  rintro e wx ⟨g2, n2, c2, rfl, hB2, hbx⟩
  obtain ⟨X, hX⟩ : ∃ X, X = M5.map bv := ⟨_, rfl⟩
  obtain ⟨N, hN⟩ : ∃ N, N = (strN sContents).map bv := ⟨_, rfl⟩
  obtain ⟨l, hl⟩ : ∃ l, l = M5.length := ⟨_, rfl⟩
  have HP : Hid (wx.ownsRow (A + 1) 5 1 v5 l X) := Lib.hid (by rw [hX, hl]; exact owns_same P5.out (fun q _ h => hbx.block q h))
  have HG : Hid (Has wx A C 26) := Lib.hid (G5.out.below hbx G5.out.lt)
  have HB : Hid (Below w.heap.size w wx) := Lib.hid (B5.out.trans (hbx.mono B5.out.size))
  have HSR : Hid (IsB wx (some ⟨g2, 0, none⟩) n2 c2 (strN sContents)) := Lib.hid hB2
  have hn2 := hB2.length
  have HN2 := Lib.hid hn2
  have hr2 := hB2.room
  have hsum : l + n2 ≤ 900000000 := by
    have h1 := congrArg List.length HR5.out
    have h2 := HF.out
    rw [List.length_append, List.length_append] at h1
    omega
  have HNS : Hid (∀ u ∈ N, u.oneCell' = true) := Lib.hid (by rw [hN]; exact bv_one _)
  have HNL : Hid (N.length = n2 * 1) := Lib.hid (by rw [hN, List.length_map]; omega)
  have HNC : Hid (∀ ad, (some ⟨g2, 0, none⟩ : Option Addr) = some ad → ∀ j u, N[j]? = some u → wx.cell? (ad.add j) = some u) := Lib.hid (by rw [hN]; exact srcB hB2)
  have HX := Lib.hid hX
  have HN := Lib.hid hN
  have HL := Lib.hid hl
  have HSZ := Lib.hid HG.out.lt
  clear hX hN hl hB2 hn2 hbx HK P5 G5 B5 
  go_wp2_with (at_builtin; refine wpList_append_src rfl (.tmp 65) (.tmp 66) 22 rfl (A + 1) 5 i0 (.int .u8 0) 1 1 Try.underlying22 HI.out HZ0.out HZ1.out HZ2.out rfl (by omega) v5 l X rfl HP.out (some ⟨g2, 0, none⟩) n2 c2 N rfl HNL.out (fun e => by cases e) HNC.out HNS.out (by unfold maxLen; omega) (by omega) HSZ.out ?_)
  intro v6 w6 ho hg
  obtain ⟨M6, hM⟩ : ∃ M, M = M5 ++ (strN sContents) := ⟨_, rfl⟩
  have P6 : Hid (w6.ownsRow (A + 1) 5 1 v6 M6.length (M6.map bv)) := Lib.hid (by rw [hM, List.length_append, List.map_append, ← HX.out, ← HN.out, ← HL.out, HN2.out]; exact ho)
  have G6 : Hid (Has w6 A C 26) := Lib.hid ((hg.block _ HG.out.lt (fun e => by have := (HP.out.lt A e.symm).1; omega)).trans HG.out)
  have B6 : Hid (Below w.heap.size w w6) := Lib.hid (HB.out.grown hg HB.out.size (fun q hq => by have := (HP.out.lt q hq).1; have := HA.out; omega))
  have HR6 : Hid (M6 ++ (strN d ++ (strN sClose ++ ([]))) = F) := Lib.hid (by rw [hM, List.append_assoc]; exact HR5.out)
  clear ho hg hM HP HG HB HSR HN2 hr2 hsum HNS HNL HNC HX HN HL HSZ HR5
  have hc2 := G6.out.cellAt (i := 2) (by rw [HC.out]; rfl)
  have hcv := convert_b (HD.out.later B6.out)
  have HK := Lib.hid (str_src ⟨d.toArray⟩ (d) rfl w6 (by show d.length ≤ 900000000; omega))
  go_wp2_with fail
  refine HK.out.mono ?_
  rintro e wx ⟨g2, n2, c2, rfl, hB2, hbx⟩
  obtain ⟨X, hX⟩ : ∃ X, X = M6.map bv := ⟨_, rfl⟩
  obtain ⟨N, hN⟩ : ∃ N, N = (strN d).map bv := ⟨_, rfl⟩
  obtain ⟨l, hl⟩ : ∃ l, l = M6.length := ⟨_, rfl⟩
  have HP : Hid (wx.ownsRow (A + 1) 5 1 v6 l X) := Lib.hid (by rw [hX, hl]; exact owns_same P6.out (fun q _ h => hbx.block q h))
  have HG : Hid (Has wx A C 26) := Lib.hid (G6.out.below hbx G6.out.lt)
  have HB : Hid (Below w.heap.size w wx) := Lib.hid (B6.out.trans (hbx.mono B6.out.size))
  have HSR : Hid (IsB wx (some ⟨g2, 0, none⟩) n2 c2 (strN d)) := Lib.hid hB2
  have hn2 := hB2.length
  have HN2 := Lib.hid hn2
  have hr2 := hB2.room
  have hsum : l + n2 ≤ 900000000 := by
    have h1 := congrArg List.length HR6.out
    have h2 := HF.out
    rw [List.length_append, List.length_append] at h1
    omega
  have HNS : Hid (∀ u ∈ N, u.oneCell' = true) := Lib.hid (by rw [hN]; exact bv_one _)
  have HNL : Hid (N.length = n2 * 1) := Lib.hid (by rw [hN, List.length_map]; omega)
  have HNC : Hid (∀ ad, (some ⟨g2, 0, none⟩ : Option Addr) = some ad → ∀ j u, N[j]? = some u → wx.cell? (ad.add j) = some u) := Lib.hid (by rw [hN]; exact srcB hB2)
  have HX := Lib.hid hX
  have HN := Lib.hid hN
  have HL := Lib.hid hl
  have HSZ := Lib.hid HG.out.lt
  clear hX hN hl hB2 hn2 hbx HK P6 G6 B6 hc2 hcv
  go_wp2_with (at_builtin; refine wpList_append_src rfl (.tmp 68) (.tmp 72) 22 rfl (A + 1) 5 i0 (.int .u8 0) 1 1 Try.underlying22 HI.out HZ0.out HZ1.out HZ2.out rfl (by omega) v6 l X rfl HP.out (some ⟨g2, 0, none⟩) n2 c2 N rfl HNL.out (fun e => by cases e) HNC.out HNS.out (by unfold maxLen; omega) (by omega) HSZ.out ?_)
  intro v7 w7 ho hg
  obtain ⟨M7, hM⟩ : ∃ M, M = M6 ++ (strN d) := ⟨_, rfl⟩
  have P7 : Hid (w7.ownsRow (A + 1) 5 1 v7 M7.length (M7.map bv)) := Lib.hid (by rw [hM, List.length_append, List.map_append, ← HX.out, ← HN.out, ← HL.out, HN2.out]; exact ho)
  have G7 : Hid (Has w7 A C 26) := Lib.hid ((hg.block _ HG.out.lt (fun e => by have := (HP.out.lt A e.symm).1; omega)).trans HG.out)
  have B7 : Hid (Below w.heap.size w w7) := Lib.hid (HB.out.grown hg HB.out.size (fun q hq => by have := (HP.out.lt q hq).1; have := HA.out; omega))
  have HR7 : Hid (M7 ++ (strN sClose ++ ([])) = F) := Lib.hid (by rw [hM, List.append_assoc]; exact HR6.out)
  clear ho hg hM HP HG HB HSR HN2 hr2 hsum HNS HNL HNC HX HN HL HSZ HR6
  have HK := Lib.hid (str_src ⟨#[41]⟩ (sClose) rfl w7 (by decide))
  go_wp2_with fail
  refine HK.out.mono ?_
  rintro e wx ⟨g2, n2, c2, rfl, hB2, hbx⟩
  obtain ⟨X, hX⟩ : ∃ X, X = M7.map bv := ⟨_, rfl⟩
  obtain ⟨N, hN⟩ : ∃ N, N = (strN sClose).map bv := ⟨_, rfl⟩
  obtain ⟨l, hl⟩ : ∃ l, l = M7.length := ⟨_, rfl⟩
  have HP : Hid (wx.ownsRow (A + 1) 5 1 v7 l X) := Lib.hid (by rw [hX, hl]; exact owns_same P7.out (fun q _ h => hbx.block q h))
  have HG : Hid (Has wx A C 26) := Lib.hid (G7.out.below hbx G7.out.lt)
  have HB : Hid (Below w.heap.size w wx) := Lib.hid (B7.out.trans (hbx.mono B7.out.size))
  have HSR : Hid (IsB wx (some ⟨g2, 0, none⟩) n2 c2 (strN sClose)) := Lib.hid hB2
  have hn2 := hB2.length
  have HN2 := Lib.hid hn2
  have hr2 := hB2.room
  have hsum : l + n2 ≤ 900000000 := by
    have h1 := congrArg List.length HR7.out
    have h2 := HF.out
    rw [List.length_append, List.length_append] at h1
    omega
  have HNS : Hid (∀ u ∈ N, u.oneCell' = true) := Lib.hid (by rw [hN]; exact bv_one _)
  have HNL : Hid (N.length = n2 * 1) := Lib.hid (by rw [hN, List.length_map]; omega)
  have HNC : Hid (∀ ad, (some ⟨g2, 0, none⟩ : Option Addr) = some ad → ∀ j u, N[j]? = some u → wx.cell? (ad.add j) = some u) := Lib.hid (by rw [hN]; exact srcB hB2)
  have HX := Lib.hid hX
  have HN := Lib.hid hN
  have HL := Lib.hid hl
  have HSZ := Lib.hid HG.out.lt
  clear hX hN hl hB2 hn2 hbx HK P7 G7 B7 
  go_wp2_with (at_builtin; refine wpList_append_src rfl (.tmp 88) (.tmp 89) 22 rfl (A + 1) 5 i0 (.int .u8 0) 1 1 Try.underlying22 HI.out HZ0.out HZ1.out HZ2.out rfl (by omega) v7 l X rfl HP.out (some ⟨g2, 0, none⟩) n2 c2 N rfl HNL.out (fun e => by cases e) HNC.out HNS.out (by unfold maxLen; omega) (by omega) HSZ.out ?_)
  intro v8 w8 ho hg
  obtain ⟨M8, hM⟩ : ∃ M, M = M7 ++ (strN sClose) := ⟨_, rfl⟩
  have P8 : Hid (w8.ownsRow (A + 1) 5 1 v8 M8.length (M8.map bv)) := Lib.hid (by rw [hM, List.length_append, List.map_append, ← HX.out, ← HN.out, ← HL.out, HN2.out]; exact ho)
  have G8 : Hid (Has w8 A C 26) := Lib.hid ((hg.block _ HG.out.lt (fun e => by have := (HP.out.lt A e.symm).1; omega)).trans HG.out)
  have B8 : Hid (Below w.heap.size w w8) := Lib.hid (HB.out.grown hg HB.out.size (fun q hq => by have := (HP.out.lt q hq).1; have := HA.out; omega))
  have HR8 : Hid (M8 ++ ([]) = F) := Lib.hid (by rw [hM, List.append_assoc]; exact HR7.out)
  clear ho hg hM HP HG HB HSR HN2 hr2 hsum HNS HNL HNC HX HN HL HSZ HR7
  go_wp2_with fail
  go_ret
  refine ⟨_, rfl, ?_, B8.out⟩
  have hF : M8 = F := by rw [← HR8.out, List.append_nil]
  rw [← hF, ← HA.out]
  exact own_mono P8.out (by omega)

set_option maxRecDepth 100000 in
set_option maxHeartbeats 8000000 in
theorem rnode_link (ad : Option Addr) (nd cd : Nat) (an : Option Addr) (nn cn : Nat) (ak : Option Addr) (nk ck : Nat) (x : Bool) (d : List UInt8) (ns : List ByteArray) (ks : List T) (w : World) (F : List UInt8) (hF : F.length ≤ 900000000) (hFe : nodeT (.mk 2 x d ns ks) ++ [] = F) (hB : IsB w ad nd cd d) (hdl : d.length ≤ 65536) :
    Calls Try.prog 21 #[.agg #[.int .u8 2, .bool x, .slice ad nd cd, .slice an nn cn, .slice ak nk ck]] w (OwnB w F) := by
  obtain ⟨i0, hi, hz0, hz1, hz2⟩ := info_u8w_parts
  have HI := Lib.hid hi
  have HZ0 := Lib.hid hz0
  have HZ1 := Lib.hid hz1
  have HZ2 := Lib.hid hz2
  have HF := Lib.hid hF
  have HR0 : Hid (strN sOpen ++ (strN sType ++ (strN sSymlink ++ (strN sTarget ++ (strN d ++ (strN sClose ++ ([])))))) = F) := Lib.hid (by rw [← hFe, node_link])
  clear hi hz0 hz1 hz2 hF hFe
  have HD := Lib.hid hB
  clear hB
  go_enter Try.func21, Try.ntmps21
  go_upto_region 1 with fail
  obtain ⟨A, hA⟩ : ∃ A, A = w.heap.size := ⟨_, rfl⟩
  rw [← hA]
  obtain ⟨w0, hw0⟩ : ∃ w1, w1 = w.alloc (.cells #[.int .u8 2, .bool x, .slice ad nd cd, .slice an nn cn, .slice ak nk ck] 26) := ⟨_, rfl⟩
  obtain ⟨C, hC⟩ : ∃ C : List Value, C = [.int .u8 2, .bool x, .slice ad nd cd, .slice an nn cn, .slice ak nk ck] := ⟨_, rfl⟩
  have G0 : Hid (Has w0 A C 26) := Lib.hid (by rw [hw0, hC, hA]; exact Has.new w [.int .u8 2, .bool x, .slice ad nd cd, .slice an nn cn, .slice ak nk ck] _)
  have hb0 : Below w.heap.size w w0 := by rw [hw0]; exact (Below.refl _ _).alloc (Nat.le_refl _) _
  have HC := Lib.hid hC
  have HA := Lib.hid hA
  rw [← hw0]
  clear hw0 hA hC
  have HK := Lib.hid (str_any ⟨#[40]⟩ w0 (by decide))
  go_wp2_with fail
  refine HK.out.mono ?_
  rintro e w1 ⟨v1, rfl, ho1, hb1⟩
  have G1 := Lib.hid (G0.out.below hb1 G0.out.lt)
  have B1 := Lib.hid (hb0.trans (hb1.mono hb0.size))
  obtain ⟨M1, hM1⟩ : ∃ M, M = strN sOpen := ⟨_, rfl⟩
  have P1 : Hid (w1.ownsRow (A + 1) 5 1 v1 M1.length (M1.map bv)) := Lib.hid (by rw [hM1]; exact own_mono ho1 G0.out.lt)
  have HR1 : Hid (M1 ++ (strN sType ++ (strN sSymlink ++ (strN sTarget ++ (strN d ++ (strN sClose ++ ([])))))) = F) := Lib.hid (by rw [hM1]; exact HR0.out)
  clear hM1 ho1 hb0 hb1 HK G0 HR0
  have HK := Lib.hid (str_src ⟨#[116, 121, 112, 101]⟩ (sType) rfl w1 (by decide))
  go_wp2_with fail
  refine HK.out.mono ?_
  rintro e wx ⟨g2, n2, c2, rfl, hB2, hbx⟩
  obtain ⟨X, hX⟩ : ∃ X, X = M1.map bv := ⟨_, rfl⟩
  obtain ⟨N, hN⟩ : ∃ N, N = (strN sType).map bv := ⟨_, rfl⟩
  obtain ⟨l, hl⟩ : ∃ l, l = M1.length := ⟨_, rfl⟩
  have HP : Hid (wx.ownsRow (A + 1) 5 1 v1 l X) := Lib.hid (by rw [hX, hl]; exact owns_same P1.out (fun q _ h => hbx.block q h))
  have HG : Hid (Has wx A C 26) := Lib.hid (G1.out.below hbx G1.out.lt)
  have HB : Hid (Below w.heap.size w wx) := Lib.hid (B1.out.trans (hbx.mono B1.out.size))
  have HSR : Hid (IsB wx (some ⟨g2, 0, none⟩) n2 c2 (strN sType)) := Lib.hid hB2
  have hn2 := hB2.length
  have HN2 := Lib.hid hn2
  have hr2 := hB2.room
  have hsum : l + n2 ≤ 900000000 := by
    have h1 := congrArg List.length HR1.out
    have h2 := HF.out
    rw [List.length_append, List.length_append] at h1
    omega
  have HNS : Hid (∀ u ∈ N, u.oneCell' = true) := Lib.hid (by rw [hN]; exact bv_one _)
  have HNL : Hid (N.length = n2 * 1) := Lib.hid (by rw [hN, List.length_map]; omega)
  have HNC : Hid (∀ ad, (some ⟨g2, 0, none⟩ : Option Addr) = some ad → ∀ j u, N[j]? = some u → wx.cell? (ad.add j) = some u) := Lib.hid (by rw [hN]; exact srcB hB2)
  have HX := Lib.hid hX
  have HN := Lib.hid hN
  have HL := Lib.hid hl
  have HSZ := Lib.hid HG.out.lt
  clear hX hN hl hB2 hn2 hbx HK P1 G1 B1 
  go_wp2_with (at_builtin; refine wpList_append_src rfl (.tmp 6) (.tmp 7) 22 rfl (A + 1) 5 i0 (.int .u8 0) 1 1 Try.underlying22 HI.out HZ0.out HZ1.out HZ2.out rfl (by omega) v1 l X rfl HP.out (some ⟨g2, 0, none⟩) n2 c2 N rfl HNL.out (fun e => by cases e) HNC.out HNS.out (by unfold maxLen; omega) (by omega) HSZ.out ?_)
  intro v2 w2 ho hg
  obtain ⟨M2, hM⟩ : ∃ M, M = M1 ++ (strN sType) := ⟨_, rfl⟩
  have P2 : Hid (w2.ownsRow (A + 1) 5 1 v2 M2.length (M2.map bv)) := Lib.hid (by rw [hM, List.length_append, List.map_append, ← HX.out, ← HN.out, ← HL.out, HN2.out]; exact ho)
  have G2 : Hid (Has w2 A C 26) := Lib.hid ((hg.block _ HG.out.lt (fun e => by have := (HP.out.lt A e.symm).1; omega)).trans HG.out)
  have B2 : Hid (Below w.heap.size w w2) := Lib.hid (HB.out.grown hg HB.out.size (fun q hq => by have := (HP.out.lt q hq).1; have := HA.out; omega))
  have HR2 : Hid (M2 ++ (strN sSymlink ++ (strN sTarget ++ (strN d ++ (strN sClose ++ ([]))))) = F) := Lib.hid (by rw [hM, List.append_assoc]; exact HR1.out)
  clear ho hg hM HP HG HB HSR HN2 hr2 hsum HNS HNL HNC HX HN HL HSZ HR1
  have hc0 := G2.out.cellAt (i := 0) (by rw [HC.out]; rfl)
  have HK := Lib.hid (str_src ⟨#[115, 121, 109, 108, 105, 110, 107]⟩ (sSymlink) rfl w2 (by decide))
  go_wp2_with fail
  refine HK.out.mono ?_
  rintro e wx ⟨g2, n2, c2, rfl, hB2, hbx⟩
  obtain ⟨X, hX⟩ : ∃ X, X = M2.map bv := ⟨_, rfl⟩
  obtain ⟨N, hN⟩ : ∃ N, N = (strN sSymlink).map bv := ⟨_, rfl⟩
  obtain ⟨l, hl⟩ : ∃ l, l = M2.length := ⟨_, rfl⟩
  have HP : Hid (wx.ownsRow (A + 1) 5 1 v2 l X) := Lib.hid (by rw [hX, hl]; exact owns_same P2.out (fun q _ h => hbx.block q h))
  have HG : Hid (Has wx A C 26) := Lib.hid (G2.out.below hbx G2.out.lt)
  have HB : Hid (Below w.heap.size w wx) := Lib.hid (B2.out.trans (hbx.mono B2.out.size))
  have HSR : Hid (IsB wx (some ⟨g2, 0, none⟩) n2 c2 (strN sSymlink)) := Lib.hid hB2
  have hn2 := hB2.length
  have HN2 := Lib.hid hn2
  have hr2 := hB2.room
  have hsum : l + n2 ≤ 900000000 := by
    have h1 := congrArg List.length HR2.out
    have h2 := HF.out
    rw [List.length_append, List.length_append] at h1
    omega
  have HNS : Hid (∀ u ∈ N, u.oneCell' = true) := Lib.hid (by rw [hN]; exact bv_one _)
  have HNL : Hid (N.length = n2 * 1) := Lib.hid (by rw [hN, List.length_map]; omega)
  have HNC : Hid (∀ ad, (some ⟨g2, 0, none⟩ : Option Addr) = some ad → ∀ j u, N[j]? = some u → wx.cell? (ad.add j) = some u) := Lib.hid (by rw [hN]; exact srcB hB2)
  have HX := Lib.hid hX
  have HN := Lib.hid hN
  have HL := Lib.hid hl
  have HSZ := Lib.hid HG.out.lt
  clear hX hN hl hB2 hn2 hbx HK P2 G2 B2 hc0
  go_wp2_with (at_builtin; refine wpList_append_src rfl (.tmp 76) (.tmp 77) 22 rfl (A + 1) 5 i0 (.int .u8 0) 1 1 Try.underlying22 HI.out HZ0.out HZ1.out HZ2.out rfl (by omega) v2 l X rfl HP.out (some ⟨g2, 0, none⟩) n2 c2 N rfl HNL.out (fun e => by cases e) HNC.out HNS.out (by unfold maxLen; omega) (by omega) HSZ.out ?_)
  intro v3 w3 ho hg
  obtain ⟨M3, hM⟩ : ∃ M, M = M2 ++ (strN sSymlink) := ⟨_, rfl⟩
  have P3 : Hid (w3.ownsRow (A + 1) 5 1 v3 M3.length (M3.map bv)) := Lib.hid (by rw [hM, List.length_append, List.map_append, ← HX.out, ← HN.out, ← HL.out, HN2.out]; exact ho)
  have G3 : Hid (Has w3 A C 26) := Lib.hid ((hg.block _ HG.out.lt (fun e => by have := (HP.out.lt A e.symm).1; omega)).trans HG.out)
  have B3 : Hid (Below w.heap.size w w3) := Lib.hid (HB.out.grown hg HB.out.size (fun q hq => by have := (HP.out.lt q hq).1; have := HA.out; omega))
  have HR3 : Hid (M3 ++ (strN sTarget ++ (strN d ++ (strN sClose ++ ([])))) = F) := Lib.hid (by rw [hM, List.append_assoc]; exact HR2.out)
  clear ho hg hM HP HG HB HSR HN2 hr2 hsum HNS HNL HNC HX HN HL HSZ HR2
  have HK := Lib.hid (str_src ⟨#[116, 97, 114, 103, 101, 116]⟩ (sTarget) rfl w3 (by decide))
  go_wp2_with fail
  refine HK.out.mono ?_
  rintro e wx ⟨g2, n2, c2, rfl, hB2, hbx⟩
  obtain ⟨X, hX⟩ : ∃ X, X = M3.map bv := ⟨_, rfl⟩
  obtain ⟨N, hN⟩ : ∃ N, N = (strN sTarget).map bv := ⟨_, rfl⟩
  obtain ⟨l, hl⟩ : ∃ l, l = M3.length := ⟨_, rfl⟩
  have HP : Hid (wx.ownsRow (A + 1) 5 1 v3 l X) := Lib.hid (by rw [hX, hl]; exact owns_same P3.out (fun q _ h => hbx.block q h))
  have HG : Hid (Has wx A C 26) := Lib.hid (G3.out.below hbx G3.out.lt)
  have HB : Hid (Below w.heap.size w wx) := Lib.hid (B3.out.trans (hbx.mono B3.out.size))
  have HSR : Hid (IsB wx (some ⟨g2, 0, none⟩) n2 c2 (strN sTarget)) := Lib.hid hB2
  have hn2 := hB2.length
  have HN2 := Lib.hid hn2
  have hr2 := hB2.room
  have hsum : l + n2 ≤ 900000000 := by
    have h1 := congrArg List.length HR3.out
    have h2 := HF.out
    rw [List.length_append, List.length_append] at h1
    omega
  have HNS : Hid (∀ u ∈ N, u.oneCell' = true) := Lib.hid (by rw [hN]; exact bv_one _)
  have HNL : Hid (N.length = n2 * 1) := Lib.hid (by rw [hN, List.length_map]; omega)
  have HNC : Hid (∀ ad, (some ⟨g2, 0, none⟩ : Option Addr) = some ad → ∀ j u, N[j]? = some u → wx.cell? (ad.add j) = some u) := Lib.hid (by rw [hN]; exact srcB hB2)
  have HX := Lib.hid hX
  have HN := Lib.hid hN
  have HL := Lib.hid hl
  have HSZ := Lib.hid HG.out.lt
  clear hX hN hl hB2 hn2 hbx HK P3 G3 B3 
  go_wp2_with (at_builtin; refine wpList_append_src rfl (.tmp 79) (.tmp 80) 22 rfl (A + 1) 5 i0 (.int .u8 0) 1 1 Try.underlying22 HI.out HZ0.out HZ1.out HZ2.out rfl (by omega) v3 l X rfl HP.out (some ⟨g2, 0, none⟩) n2 c2 N rfl HNL.out (fun e => by cases e) HNC.out HNS.out (by unfold maxLen; omega) (by omega) HSZ.out ?_)
  intro v4 w4 ho hg
  obtain ⟨M4, hM⟩ : ∃ M, M = M3 ++ (strN sTarget) := ⟨_, rfl⟩
  have P4 : Hid (w4.ownsRow (A + 1) 5 1 v4 M4.length (M4.map bv)) := Lib.hid (by rw [hM, List.length_append, List.map_append, ← HX.out, ← HN.out, ← HL.out, HN2.out]; exact ho)
  have G4 : Hid (Has w4 A C 26) := Lib.hid ((hg.block _ HG.out.lt (fun e => by have := (HP.out.lt A e.symm).1; omega)).trans HG.out)
  have B4 : Hid (Below w.heap.size w w4) := Lib.hid (HB.out.grown hg HB.out.size (fun q hq => by have := (HP.out.lt q hq).1; have := HA.out; omega))
  have HR4 : Hid (M4 ++ (strN d ++ (strN sClose ++ ([]))) = F) := Lib.hid (by rw [hM, List.append_assoc]; exact HR3.out)
  clear ho hg hM HP HG HB HSR HN2 hr2 hsum HNS HNL HNC HX HN HL HSZ HR3
  have hc2 := G4.out.cellAt (i := 2) (by rw [HC.out]; rfl)
  have hcv := convert_b (HD.out.later B4.out)
  have HK := Lib.hid (str_src ⟨d.toArray⟩ (d) rfl w4 (by show d.length ≤ 900000000; omega))
  go_wp2_with fail
  refine HK.out.mono ?_
  rintro e wx ⟨g2, n2, c2, rfl, hB2, hbx⟩
  obtain ⟨X, hX⟩ : ∃ X, X = M4.map bv := ⟨_, rfl⟩
  obtain ⟨N, hN⟩ : ∃ N, N = (strN d).map bv := ⟨_, rfl⟩
  obtain ⟨l, hl⟩ : ∃ l, l = M4.length := ⟨_, rfl⟩
  have HP : Hid (wx.ownsRow (A + 1) 5 1 v4 l X) := Lib.hid (by rw [hX, hl]; exact owns_same P4.out (fun q _ h => hbx.block q h))
  have HG : Hid (Has wx A C 26) := Lib.hid (G4.out.below hbx G4.out.lt)
  have HB : Hid (Below w.heap.size w wx) := Lib.hid (B4.out.trans (hbx.mono B4.out.size))
  have HSR : Hid (IsB wx (some ⟨g2, 0, none⟩) n2 c2 (strN d)) := Lib.hid hB2
  have hn2 := hB2.length
  have HN2 := Lib.hid hn2
  have hr2 := hB2.room
  have hsum : l + n2 ≤ 900000000 := by
    have h1 := congrArg List.length HR4.out
    have h2 := HF.out
    rw [List.length_append, List.length_append] at h1
    omega
  have HNS : Hid (∀ u ∈ N, u.oneCell' = true) := Lib.hid (by rw [hN]; exact bv_one _)
  have HNL : Hid (N.length = n2 * 1) := Lib.hid (by rw [hN, List.length_map]; omega)
  have HNC : Hid (∀ ad, (some ⟨g2, 0, none⟩ : Option Addr) = some ad → ∀ j u, N[j]? = some u → wx.cell? (ad.add j) = some u) := Lib.hid (by rw [hN]; exact srcB hB2)
  have HX := Lib.hid hX
  have HN := Lib.hid hN
  have HL := Lib.hid hl
  have HSZ := Lib.hid HG.out.lt
  clear hX hN hl hB2 hn2 hbx HK P4 G4 B4 hc2 hcv
  go_wp2_with (at_builtin; refine wpList_append_src rfl (.tmp 82) (.tmp 86) 22 rfl (A + 1) 5 i0 (.int .u8 0) 1 1 Try.underlying22 HI.out HZ0.out HZ1.out HZ2.out rfl (by omega) v4 l X rfl HP.out (some ⟨g2, 0, none⟩) n2 c2 N rfl HNL.out (fun e => by cases e) HNC.out HNS.out (by unfold maxLen; omega) (by omega) HSZ.out ?_)
  intro v5 w5 ho hg
  obtain ⟨M5, hM⟩ : ∃ M, M = M4 ++ (strN d) := ⟨_, rfl⟩
  have P5 : Hid (w5.ownsRow (A + 1) 5 1 v5 M5.length (M5.map bv)) := Lib.hid (by rw [hM, List.length_append, List.map_append, ← HX.out, ← HN.out, ← HL.out, HN2.out]; exact ho)
  have G5 : Hid (Has w5 A C 26) := Lib.hid ((hg.block _ HG.out.lt (fun e => by have := (HP.out.lt A e.symm).1; omega)).trans HG.out)
  have B5 : Hid (Below w.heap.size w w5) := Lib.hid (HB.out.grown hg HB.out.size (fun q hq => by have := (HP.out.lt q hq).1; have := HA.out; omega))
  have HR5 : Hid (M5 ++ (strN sClose ++ ([])) = F) := Lib.hid (by rw [hM, List.append_assoc]; exact HR4.out)
  clear ho hg hM HP HG HB HSR HN2 hr2 hsum HNS HNL HNC HX HN HL HSZ HR4
  have HK := Lib.hid (str_src ⟨#[41]⟩ (sClose) rfl w5 (by decide))
  go_wp2_with fail
  refine HK.out.mono ?_
  rintro e wx ⟨g2, n2, c2, rfl, hB2, hbx⟩
  obtain ⟨X, hX⟩ : ∃ X, X = M5.map bv := ⟨_, rfl⟩
  obtain ⟨N, hN⟩ : ∃ N, N = (strN sClose).map bv := ⟨_, rfl⟩
  obtain ⟨l, hl⟩ : ∃ l, l = M5.length := ⟨_, rfl⟩
  have HP : Hid (wx.ownsRow (A + 1) 5 1 v5 l X) := Lib.hid (by rw [hX, hl]; exact owns_same P5.out (fun q _ h => hbx.block q h))
  have HG : Hid (Has wx A C 26) := Lib.hid (G5.out.below hbx G5.out.lt)
  have HB : Hid (Below w.heap.size w wx) := Lib.hid (B5.out.trans (hbx.mono B5.out.size))
  have HSR : Hid (IsB wx (some ⟨g2, 0, none⟩) n2 c2 (strN sClose)) := Lib.hid hB2
  have hn2 := hB2.length
  have HN2 := Lib.hid hn2
  have hr2 := hB2.room
  have hsum : l + n2 ≤ 900000000 := by
    have h1 := congrArg List.length HR5.out
    have h2 := HF.out
    rw [List.length_append, List.length_append] at h1
    omega
  have HNS : Hid (∀ u ∈ N, u.oneCell' = true) := Lib.hid (by rw [hN]; exact bv_one _)
  have HNL : Hid (N.length = n2 * 1) := Lib.hid (by rw [hN, List.length_map]; omega)
  have HNC : Hid (∀ ad, (some ⟨g2, 0, none⟩ : Option Addr) = some ad → ∀ j u, N[j]? = some u → wx.cell? (ad.add j) = some u) := Lib.hid (by rw [hN]; exact srcB hB2)
  have HX := Lib.hid hX
  have HN := Lib.hid hN
  have HL := Lib.hid hl
  have HSZ := Lib.hid HG.out.lt
  clear hX hN hl hB2 hn2 hbx HK P5 G5 B5 
  go_wp2_with (at_builtin; refine wpList_append_src rfl (.tmp 88) (.tmp 89) 22 rfl (A + 1) 5 i0 (.int .u8 0) 1 1 Try.underlying22 HI.out HZ0.out HZ1.out HZ2.out rfl (by omega) v5 l X rfl HP.out (some ⟨g2, 0, none⟩) n2 c2 N rfl HNL.out (fun e => by cases e) HNC.out HNS.out (by unfold maxLen; omega) (by omega) HSZ.out ?_)
  intro v6 w6 ho hg
  obtain ⟨M6, hM⟩ : ∃ M, M = M5 ++ (strN sClose) := ⟨_, rfl⟩
  have P6 : Hid (w6.ownsRow (A + 1) 5 1 v6 M6.length (M6.map bv)) := Lib.hid (by rw [hM, List.length_append, List.map_append, ← HX.out, ← HN.out, ← HL.out, HN2.out]; exact ho)
  have G6 : Hid (Has w6 A C 26) := Lib.hid ((hg.block _ HG.out.lt (fun e => by have := (HP.out.lt A e.symm).1; omega)).trans HG.out)
  have B6 : Hid (Below w.heap.size w w6) := Lib.hid (HB.out.grown hg HB.out.size (fun q hq => by have := (HP.out.lt q hq).1; have := HA.out; omega))
  have HR6 : Hid (M6 ++ ([]) = F) := Lib.hid (by rw [hM, List.append_assoc]; exact HR5.out)
  clear ho hg hM HP HG HB HSR HN2 hr2 hsum HNS HNL HNC HX HN HL HSZ HR5
  go_wp2_with fail
  go_ret
  refine ⟨_, rfl, ?_, B6.out⟩
  have hF : M6 = F := by rw [← HR6.out, List.append_nil]
  rw [← hF, ← HA.out]
  exact own_mono P6.out (by omega)

end Go.Proofs.Ythjihibocobndaa

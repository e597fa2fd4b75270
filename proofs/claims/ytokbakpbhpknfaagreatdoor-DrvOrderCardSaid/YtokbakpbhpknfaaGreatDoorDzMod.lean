/-
  The contract of the program's Modulo. Conditions: bounds on the texts' sizes; what the program's text has laid.
-/
import Derived.Test.YtokbakpbhpknfaaGreatDoorDzModP
import Derived.Deep.LoopGhost
import Derived.Deep.AppendLies
import Derived.Deep.MidRow
namespace Go.Proofs.YtokbakpbhpknfaaGreatDoor
open Go.RowKit
set_option linter.unusedVariables false

set_option maxRecDepth 100000 in
set_option maxHeartbeats 20000000 in
theorem dmod_any (s0 s3 s4 : ByteArray) (a1 a2 : Option Addr) (n1 c1 n2 c2 : Nat) (l1 l2 : List ByteArray) (ad : Option Addr) (nd cd : Nat) (ds : List (List UInt8)) (w : World) (h1 : IsS w a1 n1 c1 l1) (h2 : IsS w a2 n2 c2 l2) (hsm : SmallD s0 l1 l2 s3 s4) (hd : IsA w ad nd cd ds) (hl : LaidW w) :
    Calls Tryz.prog 9 #[.agg #[.string s0, .slice a1 n1 c1, .slice a2 n2 c2, .string s3, .string s4], .slice ad nd cd] w (ModP s0 l1 l2 s3 s4 ds w) := by
  have kF := fun (w : World) (h1 : IsS w a1 n1 c1 l1) (h2 : IsS w a2 n2 c2 l2) => dform_any s0 s3 s4 a1 a2 n1 c1 n2 c2 l1 l2 w h1 h2 hsm.z1 hsm.z2 hsm.z0 hsm.z3 hsm.z4
  obtain ⟨L5, hL5⟩ : ∃ L : List Value, L = [.string s0, .slice a1 n1 c1, .slice a2 n2 c2, .string s3, .string s4] := ⟨_, rfl⟩
  have hag : (#[.string s0, .slice a1 n1 c1, .slice a2 n2 c2, .string s3, .string s4] : Array Value) = L5.toArray := by rw [hL5]
  have HLI : Hid ((Tryz.prog.info? 24).map (·.size) = some L5.toArray.size) := Lib.hid (by rw [hL5]; exact info_dL _ _ _ _ _ _ _ _ _)
  obtain ⟨f, hf⟩ : ∃ f, f = formB s0 l1 l2 s3 s4 := ⟨_, rfl⟩
  rw [← hf, hag] at kF
  have KF := Lib.hid kF
  have HF := Lib.hid hf
  have HL5 := Lib.hid hL5
  have HAG := Lib.hid hag
  have hln1 := h1.length
  have HLN1 := Lib.hid h1.length
  have HLN2 := Lib.hid h2.length
  have HLND := Lib.hid hd.length
  have hnd : nd * 32 ≤ 140737488355328 := hd.most
  have I1 := Lib.hid h1
  have I2 := Lib.hid h2
  have ID := Lib.hid hd
  have HL := Lib.hid hl
  have HZI : Hid ((Tryz.prog.info? 30).map (·.size) = some (z32.map Nam.bv).toArray.size) := Lib.hid (info_a32 z32 rfl)
  have HZO : Hid ((z32.map Nam.bv).toArray.all (·.oneCell') = true) := Lib.hid (one32 z32)
  have HZL : Hid ((#[.int .u8 0, .int .u8 0, .int .u8 0, .int .u8 0, .int .u8 0, .int .u8 0, .int .u8 0, .int .u8 0, .int .u8 0, .int .u8 0, .int .u8 0, .int .u8 0, .int .u8 0, .int .u8 0, .int .u8 0, .int .u8 0, .int .u8 0, .int .u8 0, .int .u8 0, .int .u8 0, .int .u8 0, .int .u8 0, .int .u8 0, .int .u8 0, .int .u8 0, .int .u8 0, .int .u8 0, .int .u8 0, .int .u8 0, .int .u8 0, .int .u8 0, .int .u8 0] : Array Value) = (z32.map Nam.bv).toArray) := Lib.hid rfl
  clear kF hf hL5 hag hln1 h1 h2 hd hl hsm
  go_enter Tryz.func9, Tryz.ntmps9
  go_upto_region 1 with fail
  obtain ⟨G, hG⟩ : ∃ G, G = w.heap.size := ⟨_, rfl⟩
  rw [← hG]
  obtain ⟨x1, hx1⟩ : ∃ x, x = w.alloc (.cells #[.string s0, .slice a1 n1 c1, .slice a2 n2 c2, .string s3, .string s4] 24) := ⟨_, rfl⟩
  obtain ⟨w1, hw1⟩ : ∃ x, x = x1.alloc (.cells #[.int .u8 0, .int .u8 0, .int .u8 0, .int .u8 0, .int .u8 0, .int .u8 0, .int .u8 0, .int .u8 0, .int .u8 0, .int .u8 0, .int .u8 0, .int .u8 0, .int .u8 0, .int .u8 0, .int .u8 0, .int .u8 0, .int .u8 0, .int .u8 0, .int .u8 0, .int .u8 0, .int .u8 0, .int .u8 0, .int .u8 0, .int .u8 0, .int .u8 0, .int .u8 0, .int .u8 0, .int .u8 0, .int .u8 0, .int .u8 0, .int .u8 0, .int .u8 0] 30) := ⟨_, rfl⟩
  rw [← hx1, ← hw1]
  have e1 : x1.heap.size = G + 1 := by rw [hx1, hG]; simp
  have P1 : Hid (Has w1 G L5 24) := Lib.hid (by rw [hw1, hx1, hG, HL5.out]; exact (Has.new w [.string s0, .slice a1 n1 c1, .slice a2 n2 c2, .string s3, .string s4] _).alloc _)
  have Q1 : Hid (Has w1 (G + 1) (z32.map Nam.bv) 30) := Lib.hid (by rw [hw1, ← e1, HZL.out]; exact Has.new x1 (z32.map Nam.bv) _)
  have B1 : Hid (Below G w w1) := Lib.hid (by rw [hw1, hx1, hG]; exact ((Below.refl _ _).alloc (Nat.le_refl _) _).alloc (by simp) _)
  have HG := Lib.hid hG
  try rw [e1]
  clear hx1 hw1 e1 hG
  go_wp2_with (refine wpList_load_row rfl 24 _ rfl G rfl 24 L5.toArray (0, 0) _ P1.out Tryz.underlying24 rfl HLI.out ?_)
  refine (KF.out w1 (I1.out.later (by rw [← HG.out]; exact B1.out)) (I2.out.later (by rw [← HG.out]; exact B1.out))).mono ?_
  rintro e w2 ⟨rfl, x2⟩
  have B2 : Hid (Below G w w2) := Lib.hid (B1.out.trans (x2.mono (Nat.le_of_lt P1.out.lt)))
  have P2 := Lib.hid (P1.out.below x2 P1.out.lt)
  have Q2 := Lib.hid (Q1.out.below x2 Q1.out.lt)
  clear x2 P1 Q1 B1 KF
  cases f with
  | false =>
    as_aux_lemma =>
      go_wp2_with (refine wpList_store_row rfl 30 _ _ rfl (G + 1) (z32.map Nam.bv).toArray rfl (by rw [← HZL.out]; rfl) 30 _ Q2.out HZI.out rfl HZO.out ?_)
      refine bodyPost_ret (at_ret (fn := Tryz.f9) (p := 4) (u := 5) (ty := 30) Tryz.results9 _ _ (G + 1) 30 (z32.map Nam.bv).toArray (0, 0) _ rfl (setRow_heap _ _ _ _ _ _ Q2.out) Tryz.underlying30 rfl HZI.out) rfl ?_
      exact ⟨(fun _ => rfl), (fun h => by rw [← HF.out] at h; cases h), (fun h => by rw [← HF.out] at h; cases h), below_setRow (by rw [← HG.out]; exact B2.out) (by rw [HG.out]; omega) _⟩
  | true =>
    have hgd := formB_good HF.out.symm
    have y1 : w2.cell? ⟨G, 1, none⟩ = some (.slice a1 n1 c1) := P2.out.cellAt (by rw [HL5.out]; rfl)
    by_cases hnn : nd = n1
    · subst hnn
      have y4 : w2.cell? ⟨G, 4, none⟩ = some (.string s4) := P2.out.cellAt (by rw [HL5.out]; rfl)
      have y0 : w2.cell? ⟨G, 0, none⟩ = some (.string s0) := P2.out.cellAt (by rw [HL5.out]; rfl)
      have hem : s4.toList.isEmpty = s4.data.toList.isEmpty := by rw [ByteArray.toList_eq]
      have hcv : ∀ (S : ByteArray) (W : World), (convert 9 45 (.string S)).run Tryz.prog W = .ok (.slice (some ⟨W.heap.size, 0, none⟩) S.size (grownCap W S.size 0 5)) (Lib.bytesWorld W 5 S) := fun S W =>
        Lib.run_convert_string_bytes W _ _ _ S Tryz.underlying9 Tryz.underlying45 Tryz.underlying5
      cases h4 : s4.data.toList.isEmpty with
      | false =>
        as_aux_lemma =>
          rw [h4] at hem
          have hz0 := hgd.z0
          have hz4 := hgd.z4
          have hD : modX s0 l2 s3 s4 ds = [102, 105, 120, 101, 100, 58] ++ s4.data.toList ++ [58] ++ s0.data.toList := by unfold modX; rw [if_neg (by rw [h4]; decide)]
          obtain ⟨X, hX⟩ : ∃ X : ByteArray, X = ((⟨#[102, 105, 120, 101, 100, 58]⟩ ++ s4) ++ ⟨#[58]⟩) ++ s0 := ⟨_, rfl⟩
          have hXl : X.data.toList = modX s0 l2 s3 s4 ds := by rw [hX, hD]; simp [ByteArray.data_append]
          have e1 : ((⟨#[102, 105, 120, 101, 100, 58]⟩ : ByteArray) ++ s4).size = 6 + s4.size := by rw [ByteArray.size_append]; rfl
          have e2 : (((⟨#[102, 105, 120, 101, 100, 58]⟩ : ByteArray) ++ s4) ++ (⟨#[58]⟩ : ByteArray)).size = 7 + s4.size := by rw [ByteArray.size_append, e1]; show 6 + s4.size + 1 = _; omega
          have hXs : X.size ≤ 100000000000 := by rw [hX, ByteArray.size_append, e2]; omega
          have hk := fun (w : World) (h : LaidW w) => of_text X w hXs h
          rw [hXl] at hk
          obtain ⟨D, hDD⟩ : ∃ D, D = modD s0 l2 s3 s4 ds := ⟨_, rfl⟩
          have hDl : D.length = 32 := by rw [hDD]; exact modD_length _ _ _ _ _
          rw [show dgB (modX s0 l2 s3 s4 ds) = D from hDD.symm] at hk
          obtain ⟨C, hC⟩ : ∃ C, C = (D.map Nam.bv).toArray := ⟨_, rfl⟩
          have HCI : Hid ((Tryz.prog.info? 30).map (·.size) = some C.size) := Lib.hid (by rw [hC]; exact info_a32 D hDl)
          have HCO : Hid (C.all (·.oneCell') = true) := Lib.hid (by rw [hC]; exact one32 D)
          have HCS : Hid ((z32.map Nam.bv).toArray.size = C.size) := Lib.hid (by rw [hC]; exact rowLen D hDl)
          rw [← hC] at hk
          have HK := Lib.hid hk
          have HX := Lib.hid hX.symm
          have HDD := Lib.hid hDD
          have HC := Lib.hid hC
          clear hX hXl hD hXs hk hDD hDl hC h4 hgd
          go_upto_region 6 with fail
          have hx9 := HX.out
          go_wp2_with fail
          refine (HK.out w2 (HL.out.later (by rw [← HG.out]; exact B2.out))).mono ?_
          rintro e w3 ⟨rfl, x3⟩
          have B3 : Hid (Below G w w3) := Lib.hid (B2.out.trans (x3.mono (Nat.le_of_lt P2.out.lt)))
          have Q3 := Lib.hid (Q2.out.below x3 Q2.out.lt)
          clear x3 y0 y1 y4 hcv hx9 HK
          go_wp2_with (refine wpList_store_row rfl 30 _ _ rfl (G + 1) C rfl rfl 30 _ Q3.out HCI.out HCS.out HCO.out ?_)
          refine bodyPost_ret (at_ret (fn := Tryz.f9) (p := 4) (u := 5) (ty := 30) Tryz.results9 _ _ (G + 1) 30 C (0, 0) _ rfl (setRow_heap _ _ _ _ _ _ Q3.out) Tryz.underlying30 rfl HCI.out) rfl ?_
          exact ⟨(fun h => by rw [← HF.out] at h; cases h), (fun _ h => absurd (by rw [HLND.out, HLN1.out]) h), (fun _ _ => by rw [HC.out, HDD.out]; rfl), below_setRow (by rw [← HG.out]; exact B3.out) (by rw [HG.out]; omega) _⟩
      | true =>
        as_aux_lemma =>
          rw [h4] at hem
          have hn32 : nd ≤ 32 := by have := hgd.n1; have := HLN1.out; omega
          have hD : modX s0 l2 s3 s4 ds = dtextB s0 ((srtT (hexs ds)).map bs) l2 s3 s4 := by unfold modX; rw [if_pos h4]
          have HMD := Lib.hid hD
          have HGD := Lib.hid hgd
          obtain ⟨i0, hi, hz0, hz1, hz2⟩ := info_str_parts
          have HI := Lib.hid hi
          have HZ0 := Lib.hid hz0
          have HZ1 := Lib.hid hz1
          have HZ2 := Lib.hid hz2
          clear hi hz0 hz1 hz2 hD hgd h4
          have hs2 : G + 2 ≤ w2.heap.size := Q2.out.lt
          go_upto_region 7 with fail
          clear y0 y1 y4 hem
          go_wp2_with fail
          go_loopg [6, 34] nd (fun gk v6 v34 wr => ∃ i : Nat, gk = nd - i ∧ i ≤ nd ∧ v34 = .int .i64 (i : Int) ∧ wr.ownsRow (G + 2) 9 1 v6 i ((ds.take i).map hv) ∧ Below (G + 2) w2 wr)
          case atStart => exact ⟨0, rfl, Nat.zero_le _, rfl, World.ownsRow_nil _ _ _ _, Below.refl _ _⟩
          case round =>
            obtain ⟨i, rfl, hin, rfl, how, hb⟩ := hrel
            obtain ⟨va, vc, rfl⟩ := row_form how
            have HO := Lib.hid how
            have HBB := Lib.hid hb
            have hBs : G + 2 ≤ wr.heap.size := by have := hb.size; omega
            clear how hb
            by_cases hlt : i < nd
            · have hlt' : (i : Int) < (nd : Int) := by omega
              have hwr : IntKind.i64.wrap ((i : Int) + 1) = ((i + 1 : Nat) : Int) := by rw [IntKind.wrap_i64]; omega
              have hbw : Below G w wr := B2.out.trans (HBB.out.mono (by omega))
              have IW := ID.out.later (by rw [← HG.out]; exact hbw)
              obtain ⟨b, off, rfl, hbl, hc⟩ : ∃ b off, ad = some ⟨b, off, none⟩ ∧ b < wr.heap.size ∧ ∀ i, i < nd → wr.rangeAt b (off + i * 32) ((ds.getD i []).map Nam.bv) := by
                rcases IW.at_ with h | h
                · omega
                · exact h
              obtain ⟨d, hd⟩ : ∃ d, d = ds.getD i [] := ⟨_, rfl⟩
              have hdl : d.length = 32 := by rw [hd]; exact IW.each i hlt
              have hrange := hc i hlt
              rw [← hd] at hrange
              have hl : i < ds.length := by rw [HLND.out]; exact hlt
              have HT : Hid (ds.take (i + 1) = ds.take i ++ [d]) := Lib.hid (by rw [List.take_succ_eq_append_getElem hl, hd, List.getD_eq_getElem?_getD, List.getElem?_eq_getElem hl]; rfl)
              have HRG := Lib.hid hrange
              have hinfo : (Tryz.prog.info? 30).map (·.size) = some (d.map Nam.bv).length := by rw [List.length_map, hdl]; kernel_rfl
              have HDI := Lib.hid hinfo
              obtain ⟨C, hC⟩ : ∃ C, C = (d.map Nam.bv).toArray := ⟨_, rfl⟩
              have HCI : Hid ((Tryz.prog.info? 30).map (·.size) = some C.size) := Lib.hid (by rw [hC]; exact info_a32 d hdl)
              have HCO : Hid (C.all (·.oneCell') = true) := Lib.hid (by rw [hC]; exact one32 d)
              have HCS : Hid ((z32.map Nam.bv).toArray.size = C.size) := Lib.hid (by rw [hC]; exact rowLen d hdl)
              have HC := Lib.hid hC
              have NW : Hid (Has (wr.alloc (.cells (z32.map Nam.bv).toArray 30)) wr.heap.size (z32.map Nam.bv) 30) := Lib.hid (Has.new wr (z32.map Nam.bv) _)
              obtain ⟨v1, v2⟩ := var_a32 (w := wr) d
              have V1 := Lib.hid v1
              have V2 := Lib.hid v2
              have HDL := Lib.hid hdl
              clear hd hdl hrange hl hinfo hc hC v1 v2 IW hbw
              go_upto_region 11 with (first
                | (refine wpList_load_mid rfl 30 _ rfl b (off + i * 32) rfl (d.map Nam.bv) _ HRG.out Tryz.underlying30 rfl HDI.out ?_)
                | (refine wpList_store_row rfl 30 _ _ rfl wr.heap.size C rfl (by rw [HC.out]; rfl) 30 _ NW.out HCI.out HCS.out HCO.out ?_))
              rw [HZL.out, HC.out]
              obtain ⟨wa, hwa⟩ : ∃ x, x = (wr.alloc (.cells (z32.map Nam.bv).toArray 30)).setRow wr.heap.size (d.map Nam.bv).toArray := ⟨_, rfl⟩
              rw [← hwa] at V1 V2 ⊢
              obtain ⟨g, hg⟩ : ∃ g, g = wr.heap.size := ⟨_, rfl⟩
              rw [← hg] at V1 ⊢
              have BA : Hid (Below (G + 2) w2 wa) := Lib.hid (HBB.out.trans (V2.out.mono hBs))
              have HOA := Lib.hid (own_below HO.out V2.out)
              have hBa : G + 2 ≤ wa.heap.size := Nat.le_trans hBs V2.out.size
              have IB := Nam.Has.isB V1.out (by rw [HDL.out]; omega)
              rw [HDL.out] at IB
              have hk := Nam.hex_b _ _ _ d wa IB (by omega)
              have HK := Lib.hid hk
              clear hwa hg hk IB NW V2 HBB HO hBs HRG
              go_wp2_with fail
              refine HK.out.mono ?_
              rintro e w3 ⟨rfl, x3⟩
              have B3 : Hid (Below (G + 2) w2 w3) := Lib.hid (BA.out.trans (x3.mono hBa))
              have HO3 := Lib.hid (own_below HOA.out x3)
              have hBs3 : G + 2 ≤ w3.heap.size := Nat.le_trans hBa x3.size
              obtain ⟨Y, hY⟩ : ∃ Y : ByteArray, Y = ⟨(Nam.hexL d).toArray⟩ := ⟨_, rfl⟩
              rw [← hY]
              have HY := Lib.hid hY
              clear x3 HOA BA hY HK V1
              go_wp2_with (at_builtin; go_must (refine wpList_append_lies _ rfl (.tmp 38) (.tmp 41) 22 rfl (G + 2) 9 i0 (.string ByteArray.empty) 1 16 Tryz.underlying22 HI.out HZ0.out HZ1.out HZ2.out rfl (by omega) _ i ((ds.take i).map hv) rfl (HO3.out.alloc _) ⟨w3.heap.size, 0, none⟩ 1 1 [.string Y] rfl rfl ?m1 ?m2 ?m3 ?m4 ?m5 ?m6 _ rfl ?m7))
              case m1 => intro j u hj; rw [Addr.add_mid]; exact (Has.new w3 [.string Y] _).cellAt (by rw [Nat.zero_add]; exact hj)
              case m2 => intro u hu; simp at hu; subst hu; rfl
              case m3 => omega
              case m4 => unfold maxLen; omega
              case m5 => omega
              case m6 => simp; omega
              intro g2 cap2 w5 hown3 hgrow2 hlo2 hhi2
              have B5 : Hid (Below (G + 2) w2 w5) := Lib.hid ((B3.out.alloc hBs3 _).grown hgrow2 (by simp; omega) (fun k hk => (HO3.out.lt k hk).1))
              have HO5 : Hid (w5.ownsRow (G + 2) 9 1 (.slice (some ⟨g2, 0, none⟩) (i + 1) cap2) (i + 1) ((ds.take (i + 1)).map hv)) := Lib.hid (by
                rw [HT.out, List.map_append]; show w5.ownsRow (G + 2) _ 1 _ _ (_ ++ [hv d]); rw [show hv d = Value.string Y by rw [HY.out]; rfl]; first | exact hown3 | (simpa using hown3))
              clear hown3 hgrow2 hlo2 hhi2
              go_wp2_with fail
              go_roundg (nd - (i + 1))
              case rel => exact ⟨i + 1, rfl, by omega, rfl, HO5.out, B5.out⟩
              case measure => omega
            · obtain rfl : i = nd := by omega
              have hlt' : ¬ (i : Int) < (i : Int) := by omega
              have hoa : wr.ownsRow (G + 2) 9 1 (.slice va i vc) i (((hexs ds).map bs).map Value.string) := by
                have h := HO.out
                rw [List.take_of_length_le (by rw [HLND.out]; exact Nat.le_refl _), hv_map] at h
                exact h
              have hk := sort_any (G + 2) _ i _ wr hoa (by omega)
              rw [hexs_bts] at hk
              have HK := Lib.hid hk
              have HOA := Lib.hid hoa
              clear hk hoa HO
              go_wp2_with fail
              refine HK.out.mono ?_
              rintro e w3 ⟨rfl, out, hout, ho3, hgr⟩
              have B3 : Hid (Below (G + 2) w2 w3) := Lib.hid (HBB.out.grown hgr hBs (fun k hk => (HOA.out.lt k hk).1))
              obtain ⟨ho1, ho2⟩ := out_map (T := srtT (hexs ds)) hout
              rw [ho1] at ho3
              have I3 := Lib.hid (isS_own ho3)
              have BW : Hid (Below G w w3) := Lib.hid (B2.out.trans (B3.out.mono (by omega)))
              have P3 := Lib.hid (P2.out.below (B3.out) (by omega))
              have Q3 := Lib.hid (Q2.out.below (B3.out) (by omega))
              have hwk := written_any s0 s3 s4 a1 a2 (va) i c1 n2 c2 i vc l2 ((srtT (hexs ds)).map bs) w3 (I2.out.later (by rw [← HG.out]; exact BW.out)) I3.out (by have := HGD.out.n2; have := HLN2.out; omega) (by omega) HGD.out.z2 (hexs_size ds (isA_mem ID.out)) HGD.out.z0 HGD.out.z3 HGD.out.z4
              have hlen := dtextB_len s0 ((srtT (hexs ds)).map bs) l2 s3 s4 (by rw [List.length_map, srtT_len]; unfold hexs; rw [List.length_map, HLND.out]; omega) (hexs_size ds (isA_mem ID.out)) (by have := HGD.out.n2; omega) HGD.out.z2 HGD.out.z0 HGD.out.z3 HGD.out.z4
              rw [HAG.out] at hwk
              obtain ⟨X, hX⟩ : ∃ X, X = bs (dtextB s0 ((srtT (hexs ds)).map bs) l2 s3 s4) := ⟨_, rfl⟩
              rw [← hX] at hwk
              have hXs : X.size ≤ 100000000000 := by rw [hX, bs_size]; omega
              have hXl : X.data.toList = modX s0 l2 s3 s4 ds := by rw [hX, HMD.out]; rfl
              have hof := fun (w : World) (h : LaidW w) => of_text X w hXs h
              rw [hXl] at hof
              obtain ⟨D, hDD⟩ : ∃ D, D = modD s0 l2 s3 s4 ds := ⟨_, rfl⟩
              have hDl : D.length = 32 := by rw [hDD]; exact modD_length _ _ _ _ _
              rw [show dgB (modX s0 l2 s3 s4 ds) = D from hDD.symm] at hof
              obtain ⟨C, hC⟩ : ∃ C, C = (D.map Nam.bv).toArray := ⟨_, rfl⟩
              have HCI : Hid ((Tryz.prog.info? 30).map (·.size) = some C.size) := Lib.hid (by rw [hC]; exact info_a32 D hDl)
              have HCO : Hid (C.all (·.oneCell') = true) := Lib.hid (by rw [hC]; exact one32 D)
              have HCS : Hid ((z32.map Nam.bv).toArray.size = C.size) := Lib.hid (by rw [hC]; exact rowLen D hDl)
              rw [← hC] at hof
              have HW := Lib.hid hwk
              have HOF := Lib.hid hof
              have HDD := Lib.hid hDD
              have HC := Lib.hid hC
              clear hX hXl hXs hof hDD hDl hC hwk hlen ho1 ho2 ho3 hout hgr HK HOA
              go_wp2_with (refine wpList_load_row rfl 24 _ rfl G rfl 24 L5.toArray (0, 0) _ P3.out Tryz.underlying24 rfl HLI.out ?_)
              refine HW.out.mono ?_
              rintro e w4 ⟨rfl, x4⟩
              have B4 : Hid (Below G w w4) := Lib.hid (BW.out.trans (x4.mono (Nat.le_of_lt P3.out.lt)))
              have P4 := Lib.hid (P3.out.below x4 P3.out.lt)
              have Q4 := Lib.hid (Q3.out.below x4 Q3.out.lt)
              clear x4 HW P3 Q3
              go_wp2_with fail
              refine (HOF.out w4 (HL.out.later (by rw [← HG.out]; exact B4.out))).mono ?_
              rintro e w5 ⟨rfl, x5⟩
              have B5 : Hid (Below G w w5) := Lib.hid (B4.out.trans (x5.mono (Nat.le_of_lt P4.out.lt)))
              have Q5 := Lib.hid (Q4.out.below x5 Q4.out.lt)
              clear x5 HOF P4 Q4 hcv
              go_wp2_with (refine wpList_store_row rfl 30 _ _ rfl (G + 1) C rfl rfl 30 _ Q5.out HCI.out HCS.out HCO.out ?_)
              refine bodyPost_ret (at_ret (fn := Tryz.f9) (p := 4) (u := 5) (ty := 30) Tryz.results9 _ _ (G + 1) 30 C (0, 0) _ rfl (setRow_heap _ _ _ _ _ _ Q5.out) Tryz.underlying30 rfl HCI.out) rfl ?_
              exact ⟨(fun h => by rw [← HF.out] at h; cases h), (fun _ h => absurd (by rw [HLND.out, HLN1.out]) h), (fun _ _ => by rw [HC.out, HDD.out]; rfl), below_setRow (by rw [← HG.out]; exact B5.out) (by rw [HG.out]; omega) _⟩
    · as_aux_lemma =>
        have hni : ¬ (nd : Int) = (n1 : Int) := by omega
        have hne : ds.length ≠ l1.length := by rw [HLND.out, HLN1.out]; exact hnn
        have HNE := Lib.hid hne
        clear hne hnn
        go_wp2_with (refine wpList_store_row rfl 30 _ _ rfl (G + 1) (z32.map Nam.bv).toArray rfl (by rw [← HZL.out]; rfl) 30 _ Q2.out HZI.out rfl HZO.out ?_)
        refine bodyPost_ret (at_ret (fn := Tryz.f9) (p := 4) (u := 5) (ty := 30) Tryz.results9 _ _ (G + 1) 30 (z32.map Nam.bv).toArray (0, 0) _ rfl (setRow_heap _ _ _ _ _ _ Q2.out) Tryz.underlying30 rfl HZI.out) rfl ?_
        exact ⟨(fun h => by rw [← HF.out] at h; cases h), (fun _ _ => rfl), (fun _ h => absurd h HNE.out), below_setRow (by rw [← HG.out]; exact B2.out) (by rw [HG.out]; omega) _⟩
end Go.Proofs.YtokbakpbhpknfaaGreatDoor

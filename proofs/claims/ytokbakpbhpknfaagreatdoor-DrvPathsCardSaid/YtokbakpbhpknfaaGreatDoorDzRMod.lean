/-
  The contract of the reference's Modulo, of a right derivation with as many digests as it needs. Conditions: bounds on the texts' sizes.
-/
import Derived.Test.YtokbakpbhpknfaaGreatDoorDzOut
namespace Go.Proofs.YtokbakpbhpknfaaGreatDoor
open Go.RowKit
set_option linter.unusedVariables false

/-- An insertion under way. -/
structure InsI (s : Bts) (N out : List Bts) (k : Nat) (done : Bool) : Prop where
  off : done = false → insT s N = out ++ insT s (N.drop k) ∧ out.length = k
  on : done = true → insT s N = out ++ N.drop k ∧ out.length = k + 1
theorem InsI.start (s : Bts) (N : List Bts) : InsI s N [] 0 false := ⟨fun _ => ⟨rfl, rfl⟩, fun h => by cases h⟩
theorem drop_cons {N : List Bts} {k : Nat} (h : k < N.length) : N.drop k = N.getD k [] :: N.drop (k + 1) := by
  rw [List.drop_eq_getElem_cons h, List.getD_eq_getElem?_getD, List.getElem?_eq_getElem h]; rfl
theorem InsI.less {s : Bts} {N out : List Bts} {k : Nat} (h : InsI s N out k false) (hk : k < N.length) (hl : s < N.getD k []) : InsI s N ((out ++ [s]) ++ [N.getD k []]) (k + 1) true := by
  refine ⟨(fun e => by cases e), fun _ => ?_⟩
  obtain ⟨h1, h2⟩ := h.off rfl
  rw [h1, drop_cons hk]
  refine ⟨?_, by simp [h2]⟩
  unfold insT; rw [if_pos hl]; simp
theorem InsI.more {s : Bts} {N out : List Bts} {k : Nat} (h : InsI s N out k false) (hk : k < N.length) (hl : ¬ s < N.getD k []) : InsI s N (out ++ [N.getD k []]) (k + 1) false := by
  refine ⟨fun _ => ?_, (fun e => by cases e)⟩
  obtain ⟨h1, h2⟩ := h.off rfl
  rw [h1, drop_cons hk]
  refine ⟨?_, by simp [h2]⟩
  conv => lhs; unfold insT
  rw [if_neg hl]; simp
theorem InsI.done {s : Bts} {N out : List Bts} {k : Nat} (h : InsI s N out k true) (hk : k < N.length) : InsI s N (out ++ [N.getD k []]) (k + 1) true := by
  refine ⟨(fun e => by cases e), fun _ => ?_⟩
  obtain ⟨h1, h2⟩ := h.on rfl
  rw [h1, drop_cons hk]
  exact ⟨by simp, by simp [h2]⟩
theorem InsI.end_ {s : Bts} {N out : List Bts} {d : Bool} (h : InsI s N out N.length d) : insT s N = if d then out else out ++ [s] := by
  cases d with
  | true => obtain ⟨h1, _⟩ := h.on rfl; rw [h1, List.drop_length, List.append_nil]; rfl
  | false => obtain ⟨h1, _⟩ := h.off rfl; rw [h1, List.drop_length]; rfl
theorem InsI.len {s : Bts} {N out : List Bts} {k : Nat} {d : Bool} (h : InsI s N out k d) : out.length ≤ k + 1 := by
  cases d with
  | true => rw [(h.on rfl).2]; exact Nat.le_refl _
  | false => rw [(h.off rfl).2]; omega
/-- The digests that are sorted so far. -/
def insN (ds : List (List UInt8)) (i : Nat) : List Bts := insAll (hexs (ds.take i))
theorem insN_len (ds : List (List UInt8)) (i : Nat) (h : i ≤ ds.length) : (insN ds i).length = i := by
  unfold insN
  rw [srtT_ins, srtT_len]; unfold hexs; rw [List.length_map, List.length_take]; omega
theorem insN_step (ds : List (List UInt8)) (i : Nat) (d : List UInt8) (h : ds.take (i + 1) = ds.take i ++ [d]) : insN ds (i + 1) = insT (Nam.hexL d) (insN ds i) := by
  unfold insN insAll hexs
  rw [h, List.map_append, List.foldl_append]; rfl
theorem insN_all (ds : List (List UInt8)) : insN ds ds.length = srtT (hexs ds) := by
  unfold insN; rw [List.take_length, srtT_ins]
theorem isB_range {w : World} {b o : Nat} {d : List UInt8} (h : w.rangeAt b o (d.map Nam.bv)) (hb : b < w.heap.size) (hl : d.length ≤ 1000) : Nam.IsB w (some ⟨b, o, none⟩) d.length d.length d := by
  exact ⟨rfl, .inr ⟨b, o, rfl, hb, fun i hi => h i (Nam.bv (d.getD i 0)) (by simp [List.getD, hi])⟩, by unfold maxLen; omega, (fun h => by cases h), Nat.le_refl _, by unfold maxLen; omega⟩

set_option maxRecDepth 100000 in
set_option maxHeartbeats 30000000 in
theorem drmod_any (s0 s3 s4 : ByteArray) (a1 a2 : Option Addr) (n1 c1 n2 c2 : Nat) (l1 l2 : List ByteArray) (ad : Option Addr) (nd cd : Nat) (ds : List (List UInt8)) (w : World) (h1 : IsS w a1 n1 c1 l1) (h2 : IsS w a2 n2 c2 l2) (hd : IsA w ad nd cd ds) (hf : formB s0 l1 l2 s3 s4 = true) (hn : ds.length = l1.length) :
    Calls Tryz.prog 14 #[.agg #[.string s0, .slice a1 n1 c1, .slice a2 n2 c2, .string s3, .string s4], .slice ad nd cd] w fun e w' => e = .returned (.agg ((modD s0 l2 s3 s4 ds).map Nam.bv).toArray) ∧ Below w.heap.size w w' := by
  have hgd := formB_good hf
  obtain ⟨L5, hL5⟩ : ∃ L : List Value, L = [.string s0, .slice a1 n1 c1, .slice a2 n2 c2, .string s3, .string s4] := ⟨_, rfl⟩
  have hag : (#[.string s0, .slice a1 n1 c1, .slice a2 n2 c2, .string s3, .string s4] : Array Value) = L5.toArray := by rw [hL5]
  have HLI : Hid ((Tryz.prog.info? 24).map (·.size) = some L5.toArray.size) := Lib.hid (by rw [hL5]; exact info_dL _ _ _ _ _ _ _ _ _)
  have hn32 : nd ≤ 32 := by have := hgd.n1; have := hd.length; omega
  have HL5 := Lib.hid hL5
  have HAG := Lib.hid hag
  have HGD := Lib.hid hgd
  have HLN2 := Lib.hid h2.length
  have HLND := Lib.hid hd.length
  have I2 := Lib.hid h2
  have ID := Lib.hid hd
  have HZI : Hid ((Tryz.prog.info? 30).map (·.size) = some (z32.map Nam.bv).toArray.size) := Lib.hid (info_a32 z32 rfl)
  have HZL : Hid ((#[.int .u8 0, .int .u8 0, .int .u8 0, .int .u8 0, .int .u8 0, .int .u8 0, .int .u8 0, .int .u8 0, .int .u8 0, .int .u8 0, .int .u8 0, .int .u8 0, .int .u8 0, .int .u8 0, .int .u8 0, .int .u8 0, .int .u8 0, .int .u8 0, .int .u8 0, .int .u8 0, .int .u8 0, .int .u8 0, .int .u8 0, .int .u8 0, .int .u8 0, .int .u8 0, .int .u8 0, .int .u8 0, .int .u8 0, .int .u8 0, .int .u8 0, .int .u8 0] : Array Value) = (z32.map Nam.bv).toArray) := Lib.hid rfl
  have hem : s4.toList.isEmpty = s4.data.toList.isEmpty := by rw [ByteArray.toList_eq]
  have hcv : ∀ (S : ByteArray) (W : World), (convert 9 45 (.string S)).run Tryz.prog W = .ok (.slice (some ⟨W.heap.size, 0, none⟩) S.size (grownCap W S.size 0 5)) (Lib.bytesWorld W 5 S) := fun S W =>
    Lib.run_convert_string_bytes W _ _ _ S Tryz.underlying9 Tryz.underlying45 Tryz.underlying5
  obtain ⟨D, hDD⟩ : ∃ D, D = modD s0 l2 s3 s4 ds := ⟨_, rfl⟩
  have hDl : D.length = 32 := by rw [hDD]; exact modD_length _ _ _ _ _
  obtain ⟨C, hC⟩ : ∃ C, C = (D.map Nam.bv).toArray := ⟨_, rfl⟩
  rw [← hDD, ← hC]
  have HCI : Hid ((Tryz.prog.info? 30).map (·.size) = some C.size) := Lib.hid (by rw [hC]; exact info_a32 D hDl)
  have HCO : Hid (C.all (·.oneCell') = true) := Lib.hid (by rw [hC]; exact one32 D)
  have HCS : Hid ((z32.map Nam.bv).toArray.size = C.size) := Lib.hid (by rw [hC]; exact rowLen D hDl)
  have HDD := Lib.hid hDD
  have HC := Lib.hid hC
  clear hL5 hag h1 h2 hd hf hn hDD hDl hC
  go_enter Tryz.func14, Tryz.ntmps14
  go_upto_region 1 with fail
  obtain ⟨G, hG⟩ : ∃ G, G = w.heap.size := ⟨_, rfl⟩
  rw [← hG]
  obtain ⟨x1, hx1⟩ : ∃ x, x = w.alloc (.cells #[.string s0, .slice a1 n1 c1, .slice a2 n2 c2, .string s3, .string s4] 24) := ⟨_, rfl⟩
  obtain ⟨w2, hw1⟩ : ∃ x, x = x1.alloc (.cells #[.int .u8 0, .int .u8 0, .int .u8 0, .int .u8 0, .int .u8 0, .int .u8 0, .int .u8 0, .int .u8 0, .int .u8 0, .int .u8 0, .int .u8 0, .int .u8 0, .int .u8 0, .int .u8 0, .int .u8 0, .int .u8 0, .int .u8 0, .int .u8 0, .int .u8 0, .int .u8 0, .int .u8 0, .int .u8 0, .int .u8 0, .int .u8 0, .int .u8 0, .int .u8 0, .int .u8 0, .int .u8 0, .int .u8 0, .int .u8 0, .int .u8 0, .int .u8 0] 30) := ⟨_, rfl⟩
  rw [← hx1, ← hw1]
  have e1 : x1.heap.size = G + 1 := by rw [hx1, hG]; simp
  have P2 : Hid (Has w2 G L5 24) := Lib.hid (by rw [hw1, hx1, hG, HL5.out]; exact (Has.new w [.string s0, .slice a1 n1 c1, .slice a2 n2 c2, .string s3, .string s4] _).alloc _)
  have Q2 : Hid (Has w2 (G + 1) (z32.map Nam.bv) 30) := Lib.hid (by rw [hw1, ← e1, HZL.out]; exact Has.new x1 (z32.map Nam.bv) _)
  have B2 : Hid (Below G w w2) := Lib.hid (by rw [hw1, hx1, hG]; exact ((Below.refl _ _).alloc (Nat.le_refl _) _).alloc (by simp) _)
  have HG := Lib.hid hG
  try rw [e1]
  clear hx1 hw1 e1 hG
  have y4 : w2.cell? ⟨G, 4, none⟩ = some (.string s4) := P2.out.cellAt (by rw [HL5.out]; rfl)
  have y0 : w2.cell? ⟨G, 0, none⟩ = some (.string s0) := P2.out.cellAt (by rw [HL5.out]; rfl)
  cases h4 : s4.data.toList.isEmpty with
  | false =>
    as_aux_lemma =>
      rw [h4] at hem
      have hz0 := hgd.z0
      have hz4 := hgd.z4
      have hD : modX s0 l2 s3 s4 ds = [102, 105, 120, 101, 100, 58] ++ s4.data.toList ++ [58] ++ s0.data.toList := by unfold modX; rw [if_neg (by rw [h4]; decide)]
      obtain ⟨X, hX⟩ : ∃ X : ByteArray, X = ((⟨#[102, 105, 120, 101, 100, 58]⟩ ++ s4) ++ ⟨#[58]⟩) ++ s0 := ⟨_, rfl⟩
      have hXl : X.data.toList = modX s0 l2 s3 s4 ds := by rw [hX, hD]; simp [ByteArray.data_append]
      have e1 : ((⟨#[102, 105, 120, 101, 100, 58]⟩ : ByteArray) ++ s4).size = 6 + s4.size := by rw [ByteArray.size_append]; rfl
      have e2 : (((⟨#[102, 105, 120, 101, 100, 58]⟩ : ByteArray) ++ s4) ++ (⟨#[58]⟩ : ByteArray)).size = 7 + s4.size := by rw [ByteArray.size_append, e1]; show 6 + s4.size + 1 = _; omega
      have hXs : X.size ≤ 100000000000 := by rw [hX, ByteArray.size_append, e2]; omega
      have hk := fun (w : World) => sum_text X w hXs
      rw [hXl, show dgB (modX s0 l2 s3 s4 ds) = D from HDD.out.symm, ← HC.out] at hk
      have HK := Lib.hid hk
      have HX := Lib.hid hX.symm
      clear hX hXl hD hXs hk h4 hgd
      go_upto_region 2 with fail
      have hx9 := HX.out
      go_wp2_with fail
      refine (HK.out w2).mono ?_
      rintro e w3 ⟨rfl, x3⟩
      have B3 : Hid (Below G w w3) := Lib.hid (B2.out.trans (x3.mono (Nat.le_of_lt P2.out.lt)))
      have Q3 := Lib.hid (Q2.out.below x3 Q2.out.lt)
      clear x3 y0 y4 hcv hx9 HK
      go_wp2_with (refine wpList_store_row rfl 30 _ _ rfl (G + 1) C rfl rfl 30 _ Q3.out HCI.out HCS.out HCO.out ?_)
      try simp only [Exit.inBlock, Exit.then]
      refine bodyPost_ret (results_cell_row (p := 4) (ty := 30) Tryz.results14 _ _ (G + 1) 30 C (0, 0) _ rfl (setRow_heap _ _ _ _ _ _ Q3.out) Tryz.underlying30 rfl HCI.out) rfl ?_
      exact ⟨rfl, below_setRow (by rw [← HG.out]; exact B3.out) (by rw [HG.out]; omega) _⟩
  | true =>
    as_aux_lemma =>
      rw [h4] at hem
      have hD : modX s0 l2 s3 s4 ds = dtextB s0 ((srtT (hexs ds)).map bs) l2 s3 s4 := by unfold modX; rw [if_pos h4]
      have HMD := Lib.hid hD
      obtain ⟨i0, hi, hz0, hz1, hz2⟩ := info_str_parts
      have HI := Lib.hid hi
      have HZ0 := Lib.hid hz0
      have HZ1 := Lib.hid hz1
      have HZ2 := Lib.hid hz2
      clear hi hz0 hz1 hz2 hD hgd h4
      have hs2 : G + 2 ≤ w2.heap.size := Q2.out.lt
      go_upto_region 3 with fail
      clear y0 y4 hem
      go_wp2_with fail
      go_loopg [5, 6] nd (fun gk v5 v6 wr => ∃ (i : Nat) (a5 : Option Addr) (c5 : Nat), gk = nd - i ∧ i ≤ nd ∧ v6 = .int .i64 (i : Int) ∧ v5 = .slice a5 i c5 ∧ IsS wr a5 i c5 ((insN ds i).map bs) ∧ Below (G + 2) w2 wr)
      case atStart => exact ⟨0, none, 0, rfl, Nat.zero_le _, rfl, rfl, isS_nil _, Below.refl _ _⟩
      case round =>
        obtain ⟨i, a5, c5, rfl, hin, rfl, rfl, hS5, hb⟩ := hrel
        have IS5 := Lib.hid hS5
        have HBB := Lib.hid hb
        have hBs : G + 2 ≤ wr.heap.size := by have := hb.size; omega
        clear hS5 hb
        by_cases hlt : i < nd
        · have hlt' : (i : Int) < (nd : Int) := by omega
          have hwr : IntKind.i64.wrap ((i : Int) + 1) = ((i + 1 : Nat) : Int) := by rw [IntKind.wrap_i64]; omega
          have hbw : Below G w wr := B2.out.trans (HBB.out.mono (by omega))
          have IW := ID.out.later (by rw [← HG.out]; exact hbw)
          obtain ⟨b, off, rfl, hbl, hc⟩ : ∃ b off, ad = some ⟨b, off, none⟩ ∧ b < wr.heap.size ∧ ∀ i, i < nd → wr.rangeAt b (off + i * 32) ((ds.getD i []).map Nam.bv) := by
            rcases IW.at_ with h | h
            · omega
            · exact h
          obtain ⟨d, hd⟩ : ∃ d, d = ds.getD i [] := ⟨_, rfl⟩
          have hdl : d.length = 32 := by rw [hd]; exact IW.each i hlt
          have hrange := hc i hlt
          rw [← hd] at hrange
          have hl : i < ds.length := by rw [HLND.out]; exact hlt
          have HST : Hid (insN ds (i + 1) = insT (Nam.hexL d) (insN ds i)) := Lib.hid (insN_step ds i d (by rw [List.take_succ_eq_append_getElem hl, hd, List.getD_eq_getElem?_getD, List.getElem?_eq_getElem hl]; rfl))
          have hNl : (insN ds i).length = i := insN_len ds i (by rw [HLND.out]; exact hin)
          have hk := Nam.rhex_b _ _ _ d wr (isB_range hrange hbl (by omega)) (by omega)
          rw [hdl] at hk
          obtain ⟨Y, hY⟩ : ∃ Y : ByteArray, Y = ⟨(Nam.hexL d).toArray⟩ := ⟨_, rfl⟩
          rw [← hY] at hk
          obtain ⟨N, hN⟩ : ∃ N, N = insN ds i := ⟨_, rfl⟩
          obtain ⟨s, hs⟩ : ∃ s, s = Nam.hexL d := ⟨_, rfl⟩
          rw [← hN] at HST IS5 hNl
          rw [← hs] at HST hY
          have HK := Lib.hid hk
          have HY := Lib.hid hY
          have HNL := Lib.hid hNl
          have hcells : Tryz.prog.cellsOf 30 = 32 := by kernel_rfl
          clear hd hdl hrange hl hc IW hbw hk hY hN hs hNl
          go_wp2_with fail
          refine HK.out.mono ?_
          rintro e wx ⟨rfl, x3⟩
          have BX : Hid (Below (G + 2) w2 wx) := Lib.hid (HBB.out.trans (x3.mono hBs))
          have ISX := Lib.hid (IS5.out.later x3)
          obtain ⟨B, hB⟩ : ∃ B, B = wx.heap.size := ⟨_, rfl⟩
          have HBX := Lib.hid hB
          clear x3 HK HBB IS5 hB hcells
          go_wp2_with fail
          go_loopg [8, 9, 10] i (fun gk v8 v9 v10 wr => ∃ (k : Nat) (done : Bool) (out : List Bts), gk = i - k ∧ k ≤ i ∧ v10 = .int .i64 (k : Int) ∧ v9 = .bool done ∧ Hid (InsI s N out k done) ∧ wr.ownsRow B 9 1 v8 out.length (out.map sv) ∧ Below B wx wr)
          case atStart => exact ⟨0, false, [], rfl, Nat.zero_le _, rfl, rfl, Lib.hid (InsI.start s N), World.ownsRow_nil _ _ _ _, Below.refl _ _⟩
          case round =>
            obtain ⟨k, done, out, rfl, hki, rfl, rfl, HII, how, hb⟩ := hrel
            obtain ⟨va, vc, rfl⟩ := row_form how
            have hol := HII.out.len
            obtain ⟨m, hm⟩ : ∃ m, m = out.length := ⟨_, rfl⟩
            rw [← hm] at how hol ⊢
            have HM := Lib.hid hm
            have HO := Lib.hid how
            have HBB := Lib.hid hb
            have hBs2 : B ≤ wr.heap.size := by have := hb.size; have := HBX.out; omega
            clear how hb hm
            by_cases hlk : k < i
            · have hlk' : (k : Int) < (i : Int) := by omega
              have hwk : IntKind.i64.wrap ((k : Int) + 1) = ((k + 1 : Nat) : Int) := by rw [IntKind.wrap_i64]; omega
              have hISR := ISX.out.later (by rw [← HBX.out]; exact HBB.out)
              obtain ⟨b5, o5, rfl, hb5, hc5⟩ : ∃ b off, a5 = some ⟨b, off, none⟩ ∧ b < wr.heap.size ∧ ∀ j, j < i → wr.cell? ⟨b, off + j, none⟩ = some (.string ((N.map bs).getD j ⟨#[]⟩)) := by
                rcases hISR.at_ with h | h
                · omega
                · exact h
              obtain ⟨x, hx⟩ : ∃ x, x = N.getD k [] := ⟨_, rfl⟩
              have hkN : k < N.length := by rw [HNL.out]; exact hlk
              have hbx : ((N.map bs).getD k ⟨#[]⟩) = bs x := by rw [hx, List.getD_eq_getElem?_getD, List.getElem?_map, List.getD_eq_getElem?_getD, List.getElem?_eq_getElem hkN]; rfl
              have hck := hc5 k hlk
              rw [hbx] at hck
              obtain ⟨Z, hZ⟩ : ∃ Z, Z = bs x := ⟨_, rfl⟩
              rw [← hZ] at hck
              have hZt : Z.toList = x := by rw [hZ, ByteArray.toList_eq]; rfl
              have hYt : Y.toList = s := by rw [HY.out, ByteArray.toList_eq]
              have HZ := Lib.hid hZ
              have HX := Lib.hid hx
              have HKN := Lib.hid hkN
              have HCK := Lib.hid hck
              have HB5 := Lib.hid hb5
              clear hc5 hbx hZ hx hkN hISR hb5
              cases done with
              | true =>
                as_aux_lemma =>
                  have HI2 : Hid (InsI s N (out ++ [x]) (k + 1) true) := Lib.hid (by rw [HX.out]; exact HII.out.done HKN.out)
                  clear hZt hYt HII
                  go_upto_region 16 with fail
                  go_wp2_with (at_builtin; go_must (refine wpList_append_lies _ rfl (.tmp 54) (.tmp 59) 22 rfl B 9 i0 (.string ByteArray.empty) 1 16 Tryz.underlying22 HI.out HZ0.out HZ1.out HZ2.out rfl (by omega) _ (m) ((out).map sv) rfl (HO.out.alloc _) ⟨wr.heap.size, 0, none⟩ 1 1 [.string Z] rfl rfl ?d1 ?d2 ?d3 ?d4 ?d5 ?d6 _ rfl ?d7))
                  case d1 => intro j u hj; rw [Addr.add_mid]; exact (Has.new wr [.string Z] _).cellAt (by rw [Nat.zero_add]; exact hj)
                  case d2 => first | (intro u hu; simp at hu; subst hu; rfl) | rfl
                  case d3 => omega
                  case d4 => unfold maxLen; omega
                  case d5 => omega
                  case d6 => first | omega | (simp; omega)
                  intro gd capd wd hown hgrow hlo hhi
                  have Bd : Hid (Below B wx wd) := Lib.hid ((HBB.out.alloc hBs2 _).grown hgrow (by simp; omega) (fun k hk => (HO.out.lt k hk).1))
                  have hBd : B ≤ wd.heap.size := by have := Bd.out.size; have := HBX.out; omega
                  have HO5 : Hid (wd.ownsRow B 9 1 (.slice (some ⟨gd, 0, none⟩) (m + 1) capd) (out ++ [x]).length ((out ++ [x]).map sv)) := Lib.hid (by
                    rw [List.length_append, List.map_append, ← HM.out]; show wd.ownsRow B _ 1 _ _ (_ ++ [Value.string (bs x)]); rw [← HZ.out]; first | exact hown | (simpa using hown))
                  clear hown hgrow hlo hhi
                  go_wp2_with fail
                  go_roundg (i - (k + 1))
                  case rel => exact ⟨k + 1, _, _, rfl, by omega, rfl, rfl, HI2, HO5.out, Bd.out⟩
                  case measure => omega
              | false =>
                by_cases hless : s < x
                · as_aux_lemma =>
                    have HI2 : Hid (InsI s N ((out ++ [s]) ++ [x]) (k + 1) true) := Lib.hid (by rw [HX.out]; exact HII.out.less HKN.out (by rw [← HX.out]; exact hless))
                    have q1 : Op.bytesLess Z.toList Y.toList = false := by
                      rw [hZt, hYt, Bool.eq_false_iff]; intro h; exact bt_irr _ (bt_trans hless ((less_iff _ _).1 h))
                    have q2 : (Z.toList == Y.toList) = false := by
                      rw [hZt, hYt, beq_eq_false_iff_ne]; rintro rfl; exact bt_irr _ hless
                    clear hZt hYt hless HII
                    go_upto_region 14 with fail
                    clear q1 q2 hck
                    go_wp2_with (at_builtin; go_must (refine wpList_append_lies _ rfl (.tmp 50) (.tmp 52) 22 rfl B 9 i0 (.string ByteArray.empty) 1 16 Tryz.underlying22 HI.out HZ0.out HZ1.out HZ2.out rfl (by omega) _ (m) (out.map sv) rfl (HO.out.alloc _) ⟨wr.heap.size, 0, none⟩ 1 1 [.string Y] rfl rfl ?p1 ?p2 ?p3 ?p4 ?p5 ?p6 _ rfl ?p7))
                    case p1 => intro j u hj; rw [Addr.add_mid]; exact (Has.new wr [.string Y] _).cellAt (by rw [Nat.zero_add]; exact hj)
                    case p2 => first | (intro u hu; simp at hu; subst hu; rfl) | rfl
                    case p3 => omega
                    case p4 => unfold maxLen; omega
                    case p5 => omega
                    case p6 => first | omega | (simp; omega)
                    intro gp capp wp hown hgrow hlo hhi
                    have Bp : Hid (Below B wx wp) := Lib.hid ((HBB.out.alloc hBs2 _).grown hgrow (by simp; omega) (fun k hk => (HO.out.lt k hk).1))
                    have hBp : B ≤ wp.heap.size := by have := Bp.out.size; have := HBX.out; omega
                    have HOP : Hid (wp.ownsRow B 9 1 (.slice (some ⟨gp, 0, none⟩) (m + 1) capp) (m + 1) ((out ++ [s]).map sv)) := Lib.hid (by
                      rw [List.map_append]; show wp.ownsRow B _ 1 _ _ (_ ++ [Value.string (bs s)]); rw [show bs s = Y from HY.out.symm]; first | exact hown | (simpa using hown))
                    have hb5x : b5 < B := by
                      rcases ISX.out.at_ with h | ⟨b', o', e, h, _⟩
                      · omega
                      · cases e; rw [HBX.out]; exact h
                    have hck := (Bp.out.cell (p := ⟨b5, o5 + k, none⟩) hb5x).trans ((HBB.out.cell (p := ⟨b5, o5 + k, none⟩) hb5x).symm.trans HCK.out)
                    clear hown hgrow hlo hhi
                    go_upto_region 16 with fail
                    go_wp2_with (at_builtin; go_must (refine wpList_append_lies _ rfl (.tmp 54) (.tmp 59) 22 rfl B 9 i0 (.string ByteArray.empty) 1 16 Tryz.underlying22 HI.out HZ0.out HZ1.out HZ2.out rfl (by omega) _ ((m + 1)) (((out ++ [s])).map sv) rfl (HOP.out.alloc _) ⟨wp.heap.size, 0, none⟩ 1 1 [.string Z] rfl rfl ?e1 ?e2 ?e3 ?e4 ?e5 ?e6 _ rfl ?e7))
                    case e1 => intro j u hj; rw [Addr.add_mid]; exact (Has.new wp [.string Z] _).cellAt (by rw [Nat.zero_add]; exact hj)
                    case e2 => first | (intro u hu; simp at hu; subst hu; rfl) | rfl
                    case e3 => omega
                    case e4 => unfold maxLen; omega
                    case e5 => omega
                    case e6 => first | omega | (simp; omega)
                    intro ge cape we hown hgrow hlo hhi
                    have Be : Hid (Below B wx we) := Lib.hid ((Bp.out.alloc hBp _).grown hgrow (by simp; omega) (fun k hk => (HOP.out.lt k hk).1))
                    have hBe : B ≤ we.heap.size := by have := Be.out.size; have := HBX.out; omega
                    have HO5 : Hid (we.ownsRow B 9 1 (.slice (some ⟨ge, 0, none⟩) ((m + 1) + 1) cape) ((out ++ [s]) ++ [x]).length (((out ++ [s]) ++ [x]).map sv)) := Lib.hid (by
                      rw [List.length_append, List.map_append, List.length_append, ← HM.out]; show we.ownsRow B _ 1 _ _ (_ ++ [Value.string (bs x)]); rw [← HZ.out]; first | exact hown | (simpa using hown))
                    clear hown hgrow hlo hhi
                    go_wp2_with fail
                    go_roundg (i - (k + 1))
                    case rel => exact ⟨k + 1, _, _, rfl, by omega, rfl, rfl, HI2, HO5.out, Be.out⟩
                    case measure => omega
                · as_aux_lemma =>
                    have HI2 : Hid (InsI s N (out ++ [x]) (k + 1) false) := Lib.hid (by rw [HX.out]; exact HII.out.more HKN.out (by rw [← HX.out]; exact hless))
                    rcases bt_not.1 hless with h | h
                    · have q1 : Op.bytesLess Z.toList Y.toList = false := by
                        rw [hZt, hYt, h, Bool.eq_false_iff]; intro h'; exact bt_irr _ ((less_iff _ _).1 h')
                      have q2 : (Z.toList == Y.toList) = true := by rw [hZt, hYt, h]; simp
                      clear hZt hYt hless HII h
                      go_upto_region 16 with fail
                      clear q1 q2
                      go_wp2_with (at_builtin; go_must (refine wpList_append_lies _ rfl (.tmp 54) (.tmp 59) 22 rfl B 9 i0 (.string ByteArray.empty) 1 16 Tryz.underlying22 HI.out HZ0.out HZ1.out HZ2.out rfl (by omega) _ (m) ((out).map sv) rfl (HO.out.alloc _) ⟨wr.heap.size, 0, none⟩ 1 1 [.string Z] rfl rfl ?f1 ?f2 ?f3 ?f4 ?f5 ?f6 _ rfl ?f7))
                      case f1 => intro j u hj; rw [Addr.add_mid]; exact (Has.new wr [.string Z] _).cellAt (by rw [Nat.zero_add]; exact hj)
                      case f2 => first | (intro u hu; simp at hu; subst hu; rfl) | rfl
                      case f3 => omega
                      case f4 => unfold maxLen; omega
                      case f5 => omega
                      case f6 => first | omega | (simp; omega)
                      intro gf capf wf hown hgrow hlo hhi
                      have Bf : Hid (Below B wx wf) := Lib.hid ((HBB.out.alloc hBs2 _).grown hgrow (by simp; omega) (fun k hk => (HO.out.lt k hk).1))
                      have hBf : B ≤ wf.heap.size := by have := Bf.out.size; have := HBX.out; omega
                      have HO5 : Hid (wf.ownsRow B 9 1 (.slice (some ⟨gf, 0, none⟩) (m + 1) capf) (out ++ [x]).length ((out ++ [x]).map sv)) := Lib.hid (by
                        rw [List.length_append, List.map_append, ← HM.out]; show wf.ownsRow B _ 1 _ _ (_ ++ [Value.string (bs x)]); rw [← HZ.out]; first | exact hown | (simpa using hown))
                      clear hown hgrow hlo hhi
                      go_wp2_with fail
                      go_roundg (i - (k + 1))
                      case rel => exact ⟨k + 1, _, _, rfl, by omega, rfl, rfl, HI2, HO5.out, Bf.out⟩
                      case measure => omega
                    · have q1 : Op.bytesLess Z.toList Y.toList = true := by rw [hZt, hYt]; exact (less_iff _ _).2 h
                      clear hZt hYt hless HII h
                      go_upto_region 16 with fail
                      clear q1
                      go_wp2_with (at_builtin; go_must (refine wpList_append_lies _ rfl (.tmp 54) (.tmp 59) 22 rfl B 9 i0 (.string ByteArray.empty) 1 16 Tryz.underlying22 HI.out HZ0.out HZ1.out HZ2.out rfl (by omega) _ (m) ((out).map sv) rfl (HO.out.alloc _) ⟨wr.heap.size, 0, none⟩ 1 1 [.string Z] rfl rfl ?h1 ?h2 ?h3 ?h4 ?h5 ?h6 _ rfl ?h7))
                      case h1 => intro j u hj; rw [Addr.add_mid]; exact (Has.new wr [.string Z] _).cellAt (by rw [Nat.zero_add]; exact hj)
                      case h2 => first | (intro u hu; simp at hu; subst hu; rfl) | rfl
                      case h3 => omega
                      case h4 => unfold maxLen; omega
                      case h5 => omega
                      case h6 => first | omega | (simp; omega)
                      intro gh caph wh hown hgrow hlo hhi
                      have Bh : Hid (Below B wx wh) := Lib.hid ((HBB.out.alloc hBs2 _).grown hgrow (by simp; omega) (fun k hk => (HO.out.lt k hk).1))
                      have hBh : B ≤ wh.heap.size := by have := Bh.out.size; have := HBX.out; omega
                      have HO5 : Hid (wh.ownsRow B 9 1 (.slice (some ⟨gh, 0, none⟩) (m + 1) caph) (out ++ [x]).length ((out ++ [x]).map sv)) := Lib.hid (by
                        rw [List.length_append, List.map_append, ← HM.out]; show wh.ownsRow B _ 1 _ _ (_ ++ [Value.string (bs x)]); rw [← HZ.out]; first | exact hown | (simpa using hown))
                      clear hown hgrow hlo hhi
                      go_wp2_with fail
                      go_roundg (i - (k + 1))
                      case rel => exact ⟨k + 1, _, _, rfl, by omega, rfl, rfl, HI2, HO5.out, Bh.out⟩
                      case measure => omega
            · obtain rfl : k = i := by omega
              have hlk' : ¬ (k : Int) < (k : Int) := by omega
              have hend : insT s N = if done then out else out ++ [s] := by
                have h := HII.out
                rw [← HNL.out] at h
                exact h.end_
              have HEND := Lib.hid hend
              clear hend
              cases done with
              | true =>
                as_aux_lemma =>
                  have hso : wr.ownsRow B 9 1 (.slice va m vc) m ((insT s N).map sv) := by rw [HEND.out]; exact HO.out
                  have hml : m = k + 1 := by rw [HM.out]; exact (HII.out.on rfl).2
                  have IN := Lib.hid (isS_own hso)
                  have HML := Lib.hid hml
                  have BW : Hid (Below (G + 2) w2 wr) := Lib.hid (BX.out.trans (HBB.out.mono (by have := BX.out.size; have := HBX.out; omega)))
                  clear hso hml
                  go_wp2_with fail
                  go_roundg (nd - (k + 1))
                  case rel => exact ⟨k + 1, va, vc, rfl, by omega, rfl, by rw [HML.out], by rw [HST.out, ← HML.out]; exact IN.out, BW.out⟩
                  case measure => omega
              | false =>
                as_aux_lemma =>
                  have hml : m = k := by rw [HM.out]; exact (HII.out.off rfl).2
                  subst hml
                  go_wp2_with (at_builtin; go_must (refine wpList_append_lies _ rfl (.tmp 63) (.tmp 65) 22 rfl B 9 i0 (.string ByteArray.empty) 1 16 Tryz.underlying22 HI.out HZ0.out HZ1.out HZ2.out rfl (by omega) _ (m) (out.map sv) rfl (HO.out.alloc _) ⟨wr.heap.size, 0, none⟩ 1 1 [.string Y] rfl rfl ?r1 ?r2 ?r3 ?r4 ?r5 ?r6 _ rfl ?r7))
                  try (case r1 => intro j u hj; rw [Addr.add_mid]; exact (Has.new wr [.string Y] _).cellAt (by rw [Nat.zero_add]; exact hj))
                  try (case r2 => first | (intro u hu; simp at hu; subst hu; rfl) | rfl)
                  try (case r3 => omega)
                  try (case r4 => unfold maxLen; omega)
                  try (case r5 => omega)
                  try (case r6 => first | omega | (simp; omega))
                  intro gr' capr' wr' hown hgrow hlo hhi
                  have Br' : Hid (Below B wx wr') := Lib.hid ((HBB.out.alloc hBs2 _).grown hgrow (by simp; omega) (fun k hk => (HO.out.lt k hk).1))
                  have hBr' : B ≤ wr'.heap.size := by have := Br'.out.size; have := HBX.out; omega
                  have hso : wr'.ownsRow B 9 1 (.slice (some ⟨gr', 0, none⟩) (m + 1) capr') (m + 1) ((insT s N).map sv) := by
                    rw [HEND.out, if_neg (by decide), List.map_append]; show wr'.ownsRow B _ 1 _ _ (_ ++ [Value.string (bs s)]); rw [show bs s = Y from HY.out.symm]; first | exact hown | (simpa using hown)
                  have IN := Lib.hid (isS_own hso)
                  have BW : Hid (Below (G + 2) w2 wr') := Lib.hid (BX.out.trans (Br'.out.mono (by have := BX.out.size; have := HBX.out; omega)))
                  clear hso hown hgrow hlo hhi
                  go_wp2_with fail
                  go_roundg (nd - (m + 1))
                  case rel => exact ⟨m + 1, _, capr', rfl, by omega, rfl, rfl, by rw [HST.out]; exact IN.out, BW.out⟩
                  case measure => omega
        · obtain rfl : i = nd := by omega
          have hlt' : ¬ (i : Int) < (i : Int) := by omega
          as_aux_lemma =>
            have hall : insN ds i = srtT (hexs ds) := by rw [← HLND.out]; exact insN_all ds
            have I3 : Hid (IsS wr a5 i c5 ((srtT (hexs ds)).map bs)) := Lib.hid (by rw [← hall]; exact IS5.out)
            have BW : Hid (Below G w wr) := Lib.hid (B2.out.trans (HBB.out.mono (by omega)))
            have P3 := Lib.hid (P2.out.below HBB.out (by omega))
            have Q3 := Lib.hid (Q2.out.below HBB.out (by omega))
            have hwk := rtext_any s0 s3 s4 a1 a2 a5 n1 c1 n2 c2 i c5 l2 ((srtT (hexs ds)).map bs) wr (I2.out.later (by rw [← HG.out]; exact BW.out)) I3.out (by have := HGD.out.n2; have := HLN2.out; omega) (by omega) HGD.out.z2 (hexs_size ds (isA_mem ID.out)) HGD.out.z0 HGD.out.z3 HGD.out.z4
            have hlen := dtextB_len s0 ((srtT (hexs ds)).map bs) l2 s3 s4 (by rw [List.length_map, srtT_len]; unfold hexs; rw [List.length_map, HLND.out]; omega) (hexs_size ds (isA_mem ID.out)) (by have := HGD.out.n2; omega) HGD.out.z2 HGD.out.z0 HGD.out.z3 HGD.out.z4
            rw [HAG.out] at hwk
            obtain ⟨X, hX⟩ : ∃ X, X = bs (dtextB s0 ((srtT (hexs ds)).map bs) l2 s3 s4) := ⟨_, rfl⟩
            rw [← hX] at hwk
            have hXs : X.size ≤ 100000000000 := by rw [hX, bs_size]; omega
            have hXl : X.data.toList = modX s0 l2 s3 s4 ds := by rw [hX, HMD.out]; rfl
            have hof := fun (w : World) => sum_text X w hXs
            rw [hXl, show dgB (modX s0 l2 s3 s4 ds) = D from HDD.out.symm, ← HC.out] at hof
            have HW := Lib.hid hwk
            have HOF := Lib.hid hof
            clear hX hXl hXs hof hwk hlen hall
            go_wp2_with (refine wpList_load_row rfl 24 _ rfl G rfl 24 L5.toArray (0, 0) _ P3.out Tryz.underlying24 rfl HLI.out ?_)
            refine HW.out.mono ?_
            rintro e w4 ⟨rfl, x4⟩
            have B4 : Hid (Below G w w4) := Lib.hid (BW.out.trans (x4.mono (Nat.le_of_lt P3.out.lt)))
            have Q4 := Lib.hid (Q3.out.below x4 Q3.out.lt)
            have P4 := Lib.hid (P3.out.below x4 P3.out.lt)
            clear x4 HW P3 Q3
            go_wp2_with fail
            refine (HOF.out w4).mono ?_
            rintro e w5 ⟨rfl, x5⟩
            have B5 : Hid (Below G w w5) := Lib.hid (B4.out.trans (x5.mono (Nat.le_of_lt P4.out.lt)))
            have Q5 := Lib.hid (Q4.out.below x5 Q4.out.lt)
            clear x5 HOF P4 Q4 hcv
            go_wp2_with (refine wpList_store_row rfl 30 _ _ rfl (G + 1) C rfl rfl 30 _ Q5.out HCI.out HCS.out HCO.out ?_)
            try simp only [Exit.inBlock, Exit.then]
            refine bodyPost_ret (results_cell_row (p := 4) (ty := 30) Tryz.results14 _ _ (G + 1) 30 C (0, 0) _ rfl (setRow_heap _ _ _ _ _ _ Q5.out) Tryz.underlying30 rfl HCI.out) rfl ?_
            exact ⟨rfl, below_setRow (by rw [← HG.out]; exact B5.out) (by rw [HG.out]; omega) _⟩
end Go.Proofs.YtokbakpbhpknfaaGreatDoor

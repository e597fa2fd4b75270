/-
  The walk of the law OrderLines. Conditions: what memory bears.
-/
import Derived.Test.YtdliecailkkciaaOLinesM
namespace Go.Proofs.Ytdliecailkkciaa
open Go.RowKit
set_option linter.unusedVariables false

set_option maxRecDepth 100000 in
set_option maxHeartbeats 8000000 in
theorem walk_OrderLines (w : World) (an : Option Addr) (nn cn : Nat) (ns : List ByteArray) (hS : IsS w an nn cn ns) (hsz : ∀ s ∈ ns, s.size ≤ 140737488355328) (hnl : ns.length ≤ 8796093022208) (ak : Option Addr) (nk ck : Nat) (ks : List (List ByteArray)) (hK : IsSS w ak nk ck ks) (hkz : ∀ l ∈ ks, (∀ s ∈ l, s.size ≤ 140737488355328) ∧ l.length ≤ 8796093022208) (z : UInt8) :
    Calls Try.prog 5 #[.slice an nn cn, .slice ak nk ck, .int .u8 (z.toNat : Int)] w fun e w' => e = .returned (.bool true) ∧ Below w.heap.size w w' := by
  obtain ⟨i0, hi0, hz0, hz1, hz2⟩ := info_parts info_str
  obtain ⟨i1, hj0, hy0, hy1, hy2⟩ := info_parts info_strs
  have HI := Lib.hid hi0
  have HZ0 := Lib.hid hz0
  have HZ1 := Lib.hid hz1
  have HZ2 := Lib.hid hz2
  have HJ := Lib.hid hj0
  have HY0 := Lib.hid hy0
  have HY1 := Lib.hid hy1
  have HY2 := Lib.hid hy2
  obtain rfl : nn = ns.length := hS.length.symm
  have HS := Lib.hid hS
  have HK := Lib.hid hK
  have HSZ := Lib.hid hsz
  have HNL := Lib.hid hnl
  have HKZ := Lib.hid hkz
  have HKL := Lib.hid hK.length
  obtain ⟨b, hb⟩ : ∃ b : Nat, b = z.toNat := ⟨_, rfl⟩
  have hbb : (b : Int) ≤ 255 := by have := z.toNat_lt; omega
  rw [← hb]
  clear hi0 hz0 hz1 hz2 hj0 hy0 hy1 hy2 hS hK hsz hnl hkz hb
  go_enter Try.func5, Try.ntmps5
  go_wp2_with fail
  refine (awake_any w).mono ?_
  rintro e w1 ⟨rfl, b1⟩
  have B1 := Lib.hid b1
  clear b1
  go_wp2_with fail
  refine (great_any w1 an ns.length cn HNL.out ak nk ck ks (HK.out.later B1.out) (fun l hl => (HKZ.out l hl).2)).mono ?_
  rintro e w2 ⟨u, rfl, hu, b2⟩
  have B2 : Hid (Below w.heap.size w w2) := Lib.hid (B1.out.trans (b2.mono B1.out.size))
  clear b2
  rcases hu with rfl | ⟨rfl, hgr⟩
  · go_wp2_with fail
    refine (awake_any w2).mono ?_
    rintro e w3 ⟨rfl, b3⟩
    have B3 : Hid (Below w.heap.size w w3) := Lib.hid (B2.out.trans (b3.mono B2.out.size))
    clear b3
    go_wp2_with fail
    go_ret
    exact ⟨rfl, B3.out⟩
  have HGR := Lib.hid hgr
  clear hgr
  by_cases hnk : ns.length = nk
  case neg =>
    have hne : ¬ (ns.length : Int) = (nk : Int) := by omega
    go_wp2_with fail
    refine (awake_any w2).mono ?_
    rintro e w3 ⟨rfl, b3⟩
    have B3 : Hid (Below w.heap.size w w3) := Lib.hid (B2.out.trans (b3.mono B2.out.size))
    clear b3
    go_wp2_with fail
    go_ret
    exact ⟨rfl, B3.out⟩
  subst hnk
  by_cases hn0 : ns.length = 0
  · have hn0' : (ns.length : Int) = 0 := by omega
    clear hn0
    go_wp2_with fail
    refine (awake_any w2).mono ?_
    rintro e w3 ⟨rfl, b3⟩
    have B3 : Hid (Below w.heap.size w w3) := Lib.hid (B2.out.trans (b3.mono B2.out.size))
    clear b3
    go_wp2_with fail
    go_ret
    exact ⟨rfl, B3.out⟩
  have HN0 : Hid (0 < ns.length) := Lib.hid (by omega)
  have hn1 : ((ns.length : Int) == 0) = false := by rw [beq_eq_false_iff_ne]; omega
  have hn60 : (ns.length : Int) ≤ 60 := by have := HGR.out.2; omega
  have L0 : Hid (LN w w2 nilV nilV [] (rotN ns b 0) (rotK ns ks b 0)) := Lib.hid (LN.start w B2.out)
  clear hn0
  go_wp2_with fail
  go_loopg [7, 8, 9] ns.length (fun gk mv kv v9 wr => ∃ (i : Nat) (vs : List Value), gk = ns.length - i ∧ i ≤ ns.length ∧ v9 = .int .i64 (i : Int) ∧ LN w wr mv kv vs (rotN ns b i) (rotK ns ks b i))
  case atStart => exact ⟨0, [], rfl, Nat.zero_le _, rfl, L0.out⟩
  case round =>
    obtain ⟨i, vs, rfl, hi, rfl, hl⟩ := hrel
    have HL := Lib.hid hl
    clear hl L0
    by_cases hlt : i < ns.length
    · have hki : (i : Int) < (ns.length : Int) := by omega
      have hk0 : (0 : Int) ≤ (i : Int) := by omega
      obtain ⟨j, hj⟩ : ∃ j, j = (i + b) % ns.length := ⟨_, rfl⟩
      have hjl : j < ns.length := by rw [hj]; exact Nat.mod_lt _ HN0.out
      have hrem : Int.tmod ((i : Int) + (b : Int)) (ns.length : Int) = (j : Int) := by
        rw [hj, ← Int.natCast_add, ← Int.ofNat_tmod]
      have HRN : Hid (rotN ns b (i + 1) = rotN ns b i ++ [ns.getD j ⟨#[]⟩]) := Lib.hid (by rw [hj]; exact rotN_succ ns b i)
      have HRK : Hid (rotK ns ks b (i + 1) = rotK ns ks b i ++ [ks.getD j [] ++ [ns.getD j ⟨#[]⟩]]) := Lib.hid (by rw [hj]; exact rotK_succ ns ks b i)
      obtain ⟨bn, on, rfl, hbn, hcn⟩ := HS.out.cell hjl
      obtain ⟨bk, ok, rfl, hbk, ao, cc, hck, hsk⟩ := isSS_cell HK.out hjl
      obtain ⟨x, hx⟩ : ∃ x, x = ns.getD j ⟨#[]⟩ := ⟨_, rfl⟩
      rw [← hx] at hcn
      have HC : Hid (∀ W, Below w.heap.size w W → W.cell? ⟨bn, on + j, none⟩ = some (.string x)) := Lib.hid (fun W hb => (hb.cell (p := ⟨bn, on + j, none⟩) hbn).trans hcn)
      have c2 := (HL.out.low.cell (p := ⟨bk, ok + j, none⟩) hbk).trans hck
      have HSK := Lib.hid (hsk.later HL.out.low)
      obtain ⟨l, hl⟩ : ∃ l, l = ks.getD j [] := ⟨_, rfl⟩
      rw [← hx] at HRN HRK
      rw [← hl] at c2 HSK HRK
      have HLL : Hid (l.length ≤ 60) := Lib.hid (by rw [hl]; have := tot_one (ks := ks) hjl; have := HGR.out; omega)
      have hj0 : (0 : Int) ≤ (j : Int) := by omega
      have hjn : (j : Int) < (ns.length : Int) := by omega
      have HLT := Lib.hid hlt
      clear hj hbn hcn hbk hck hsk hx hl hlt hjl
      go_wp2_with (at_builtin; go_must (refine wpList_append_strs rfl (.tmp 53) (.tmp 57) 22 rfl wr.heap.size 9 i0 Try.underlying22 HI.out HZ0.out HZ1.out HZ2.out _ 0 [] rfl (World.ownsRow_nil _ _ _ _) ao _ cc l rfl HSK.out ?_ ?_ ?_))
      case refine_1 => have := HLL.out; omega
      case refine_2 => exact Nat.le_refl _
      intro v1 wa how hgr
      have BA : Hid (Below wr.heap.size wr wa) := Lib.hid (below_grown (Below.refl _ _) (Nat.le_refl _) (World.ownsRow_nil wr wr.heap.size 9 1) hgr)
      have OA : Hid (wa.ownsRow wr.heap.size 9 1 v1 l.length (l.map Value.string)) := Lib.hid how
      have LA := Lib.hid (HL.out.later BA.out)
      have c3 := HC.out wa LA.out.low
      clear how hgr c2
      go_wp2_with (at_builtin; go_must (refine wpList_append_lies _ rfl (.tmp 59) (.tmp 64) 22 rfl wr.heap.size 9 i0 (.string ByteArray.empty) 1 16 Try.underlying22 HI.out HZ0.out HZ1.out HZ2.out rfl (by omega) _ l.length (l.map Value.string) rfl (OA.out.alloc _) ⟨wa.heap.size, 0, none⟩ 1 1 [.string x] rfl rfl ?c1 ?c2 ?c3 ?c4 ?c5 ?c6 _ rfl ?c7))
      case c1 => (intro j u hj; rw [Addr.add_mid]; exact (Has.new wa [.string x] _).cellAt (by rw [Nat.zero_add]; exact hj))
      case c2 => first | rfl | (intro u hu; simp only [List.mem_cons, List.not_mem_nil, or_false] at hu; rcases hu with rfl; rfl)
      case c3 => omega
      case c4 => (have := HLL.out; unfold maxLen; omega)
      case c5 => (have := HLL.out; omega)
      case c6 => (have := BA.out.size; simp; omega)
      intro g3 cap3 wb how hgr hat hlt3
      have BB : Hid (Below wr.heap.size wr wb) := Lib.hid ((BA.out.alloc BA.out.size _).grown hgr (by have := BA.out.size; simp; omega) (fun k hk => (OA.out.lt k hk).1))
      have OB : Hid (wb.ownsRow wr.heap.size 9 1 (.slice (some ⟨g3, 0, none⟩) (l.length + 1) cap3) (l ++ [x]).length ((l ++ [x]).map Value.string)) := Lib.hid (by rw [List.length_append, List.map_append]; exact how)
      have LB := Lib.hid (HL.out.later BB.out)
      have c4 := HC.out wb LB.out.low
      clear how hgr hat hlt3 c3
      go_wp2_with (at_builtin; go_must (refine wpList_append_lies _ rfl (.tmp 66) (.tmp 71) 22 rfl w.heap.size 9 i0 (.string ByteArray.empty) 1 16 Try.underlying22 HI.out HZ0.out HZ1.out HZ2.out rfl (by omega) _ (rotN ns b i).length ((rotN ns b i).map Value.string) rfl (LB.out.m.alloc _) ⟨wb.heap.size, 0, none⟩ 1 1 [.string x] rfl rfl ?d1 ?d2 ?d3 ?d4 ?d5 ?d6 _ rfl ?d7))
      case d1 => (intro j u hj; rw [Addr.add_mid]; exact (Has.new wb [.string x] _).cellAt (by rw [Nat.zero_add]; exact hj))
      case d2 => first | rfl | (intro u hu; simp only [List.mem_cons, List.not_mem_nil, or_false] at hu; rcases hu with rfl; rfl)
      case d3 => omega
      case d4 => (rw [rotN_len]; have := HLT.out; have := HGR.out; unfold maxLen; omega)
      case d5 => (rw [rotN_len]; have := HLT.out; have := HGR.out; omega)
      case d6 => (have := LB.out.low.size; simp; omega)
      intro g4 cap4 wc how hgr hat hlt4
      have A4 : Hid (Below wb.heap.size wb (wb.alloc (.cells #[.string x] 9))) := Lib.hid ((Below.refl _ _).alloc (Nat.le_refl _) _)
      have Z4 : Hid (wb.heap.size ≤ (wb.alloc (.cells #[.string x] 9)).heap.size) := Lib.hid (by simp)
      have hg3 : wr.heap.size ≤ g3 ∧ g3 < wb.heap.size := OB.out.lt g3 rfl
      have HG3 := Lib.hid hg3
      have HMB : Hid (∀ q, u7.ownBlock = some q → q < wr.heap.size) := Lib.hid (fun q hq => (HL.out.m.lt q hq).2)
      have OC : Hid (wc.ownsRow wr.heap.size 9 1 (.slice (some ⟨g3, 0, none⟩) (l.length + 1) cap3) (l ++ [x]).length ((l ++ [x]).map Value.string)) := Lib.hid ((own_later OB.out A4.out).kept hgr (.inr (fun e => by
        have := HMB.out g3 (by rw [← e]; rfl)
        omega)))
      have LC : Hid (LN w wc (.slice (some ⟨g4, 0, none⟩) ((rotN ns b i).length + 1) cap4) u8 vs (rotN ns b (i + 1)) (rotK ns ks b i)) := Lib.hid ((LB.out.later A4.out).mgrow hgr (by rw [HRN.out, List.length_append, List.map_append]; exact how) (fun q hq => by
        simp only [Value.ownBlock, Option.some.injEq] at hq
        subst hq
        exact hat.imp id (fun e => by simp; omega)))
      have AC : Hid ((Value.slice (some ⟨g3, 0, none⟩) (l.length + 1) cap3).ownBlock = none ∨ (Value.slice (some ⟨g3, 0, none⟩) (l.length + 1) cap3).ownBlock ≠ (Value.slice (some ⟨g4, 0, none⟩) ((rotN ns b i).length + 1) cap4).ownBlock) := Lib.hid (.inr (fun e => by
        have e2 : g3 = g4 := by simpa [Value.ownBlock] using e
        rcases hat with h1 | h1
        · have := HMB.out g4 h1; omega
        · have := Z4.out; omega))
      clear how hgr hat hlt4 c4 hg3
      go_wp2_with (at_builtin; go_must (refine wpList_append_lies _ rfl (.tmp 73) (.tmp 75) 23 rfl w.heap.size 22 i1 (.slice none 0 0) 1 24 Try.underlying23 HJ.out HY0.out HY1.out HY2.out rfl (by omega) _ vs.length vs rfl (LC.out.k.alloc _) ⟨wc.heap.size, 0, none⟩ 1 1 [.slice (some ⟨g3, 0, none⟩) (l.length + 1) cap3] rfl rfl ?e1 ?e2 ?e3 ?e4 ?e5 ?e6 _ rfl ?e7))
      case e1 => (intro j u hj; rw [Addr.add_mid]; exact (Has.new wc [.slice (some ⟨g3, 0, none⟩) (l.length + 1) cap3] _).cellAt (by rw [Nat.zero_add]; exact hj))
      case e2 => first | rfl | (intro u hu; simp only [List.mem_cons, List.not_mem_nil, or_false] at hu; rcases hu with rfl; rfl)
      case e3 => omega
      case e4 => (have h1 := LC.out.len; rw [rotK_len] at h1; have := HLT.out; have := HGR.out; unfold maxLen; omega)
      case e5 => (have h1 := LC.out.len; rw [rotK_len] at h1; have := HLT.out; have := HGR.out; omega)
      case e6 => (have := LC.out.low.size; simp; omega)
      intro g5 cap5 wd how hgr hat hlt5
      have A5 : Hid (Below wc.heap.size wc (wc.alloc (.cells #[.slice (some ⟨g3, 0, none⟩) (l.length + 1) cap3] 22))) := Lib.hid ((Below.refl _ _).alloc (Nat.le_refl _) _)
      have LD : Hid (LN w wd (.slice (some ⟨g4, 0, none⟩) ((rotN ns b i).length + 1) cap4) (.slice (some ⟨g5, 0, none⟩) (vs.length + 1) cap5) (vs ++ [.slice (some ⟨g3, 0, none⟩) (l.length + 1) cap3]) (rotN ns b (i + 1)) (rotK ns ks b (i + 1))) := Lib.hid (by
        rw [HRK.out]
        exact (LC.out.later A5.out).kgrow (owns_down (own_later OC.out A5.out) HL.out.low.size) AC.out hgr (by rw [List.length_append]; exact how))
      clear how hgr hat hlt5
      go_wp2_with fail
      go_roundg (ns.length - (i + 1))
      case rel => exact ⟨i + 1, _, rfl, HLT.out, by go_num, LD.out⟩
      case measure => have := HLT.out; omega
    · obtain rfl : i = ns.length := by omega
      have hki : ¬ (ns.length : Int) < (ns.length : Int) := by omega
      obtain ⟨ka, kc, rfl, hkss⟩ := HL.out.isSS
      obtain ⟨ma, mc, rfl, hms⟩ := owns_isS HL.out.m
      rw [rotN_len] at hms
      rw [rotK_len] at hkss
      have HKS := Lib.hid hkss
      have HMS := Lib.hid hms
      have BL := Lib.hid HL.out.low
      rw [rotN_len, rotK_len]
      have T1 : Hid (Told ns ks) := Lib.hid (Told.of (by have := HGR.out; omega) (by have := HGR.out; omega) (fun s hs => by have := HSZ.out s hs; unfold maxLen; omega) (fun l hl s hs => by have := (HKZ.out l hl).1 s hs; unfold maxLen; omega))
      have T2 : Hid (Told (rotN ns b ns.length) (rotK ns ks b ns.length)) := Lib.hid (rot_told HN0.out HKL.out (by have := HGR.out; omega) T1.out.size T1.out.sizes b)
      clear hkss hms HL
      go_wp2_with fail
      refine (new_law T1.out (HS.out.later BL.out) (HK.out.later BL.out)).mono ?_
      rintro e wa ⟨ga, rfl, hg, hb, _⟩
      have GA := Lib.hid hg
      have BA : Hid (Below w.heap.size w wa) := Lib.hid (BL.out.trans (hb.mono BL.out.size))
      have HMS2 := Lib.hid (HMS.out.later hb)
      have HKS2 := Lib.hid (HKS.out.later hb)
      clear hg hb
      go_wp2_with fail
      refine (new_law T2.out HMS2.out HKS2.out).mono ?_
      rintro e wb ⟨gb, rfl, hg, hb, _⟩
      have GB := Lib.hid hg
      have GA2 := Lib.hid (GA.out.later hb)
      have BB : Hid (Below w.heap.size w wb) := Lib.hid (BA.out.trans (hb.mono BA.out.size))
      clear hg hb
      go_wp2_with fail
      refine (sort_law T1.out GA2.out).mono ?_
      rintro e wc ⟨hb, hr⟩
      have GB2 := Lib.hid (GB.out.later hb)
      have BC : Hid (Below w.heap.size w wc) := Lib.hid (BB.out.trans (hb.mono BB.out.size))
      have HTT := Lib.hid (rot_topo HN0.out ks b)
      have HMM := Lib.hid (rot_mem HN0.out b)
      rcases hr with ⟨hall, v1, rfl, how⟩ | ⟨hall, rfl⟩
      · have O1 := Lib.hid how
        have HALL := Lib.hid hall
        clear hb how hall
        go_wp2_with fail
        refine (sort_law T2.out GB2.out).mono ?_
        rintro e wd ⟨hb, hr⟩
        have BD : Hid (Below w.heap.size w wd) := Lib.hid (BC.out.trans (hb.mono BC.out.size))
        rcases hr with ⟨hall, v2, rfl, how⟩ | ⟨hall, rfl⟩
        · have O2 := Lib.hid how
          have O3 := Lib.hid (own_later O1.out hb)
          clear hb how hall
          go_wp2_with fail
          refine (same_law O3.out O2.out HTT.out (by have := topo_len (risL ns) (finN ns ks); have := T1.out.len; omega)).mono ?_
          rintro e we ⟨rfl, hb⟩
          have BE : Hid (Below w.heap.size w we) := Lib.hid (BD.out.trans (hb.mono BD.out.size))
          clear hb
          go_wp2_with fail
          go_ret
          exact ⟨rfl, BE.out⟩
        · exfalso
          refine hall (fun s hs => ?_)
          rw [← HTT.out]
          exact HALL.out s ((HMM.out s).2 hs)
      · have HALL := Lib.hid hall
        clear hb hall
        go_wp2_with fail
        refine (sort_law T2.out GB2.out).mono ?_
        rintro e wd ⟨hb, hr⟩
        have BD : Hid (Below w.heap.size w wd) := Lib.hid (BC.out.trans (hb.mono BC.out.size))
        rcases hr with ⟨hall, v2, rfl, how⟩ | ⟨hall, rfl⟩
        · exfalso
          refine HALL.out (fun s hs => ?_)
          rw [HTT.out]
          exact hall s ((HMM.out s).1 hs)
        · clear hb hall
          go_wp2_with fail
          refine (rfsame_any none none 0 0 0 0 [] [] wd (isS_nil _) (isS_nil _) (by omega) (by omega)).mono ?_
          rintro e we ⟨bb, rfl, hbt, hb⟩
          have hbt : bb = true := hbt.2 rfl
          subst hbt
          have BE : Hid (Below w.heap.size w we) := Lib.hid (BD.out.trans (hb.mono BD.out.size))
          clear hb
          go_wp2_with fail
          go_ret
          exact ⟨rfl, BE.out⟩
end Go.Proofs.Ytdliecailkkciaa

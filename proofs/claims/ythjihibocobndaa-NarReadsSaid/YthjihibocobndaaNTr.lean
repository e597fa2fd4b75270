/-
  The contract of the reader's tree. Condition: the depth and the levels that are left are 17 together.
-/
import Derived.Test.YthjihibocobndaaNDir
namespace Go.Proofs.Ythjihibocobndaa
open Go.RowKit
set_option linter.unusedVariables false

theorem zero_info : (Try.prog.info? 26).map (·.size) = some zeroL.toArray.size := infoL rfl

set_option maxRecDepth 100000 in
set_option maxHeartbeats 16000000 in
theorem rtree_any (rb : Nat) (w0 : World) : ∀ (m dep : Nat), dep + m = 17 → ∀ (R0 : List UInt8) (w : World), Rd rb w0 R0 w →
    Calls Try.prog 29 #[.pointer (some ⟨rb, 0, none⟩), .int .i64 (dep : Int)] w (RP rb w0 w (treeL m R0) (treeV w.heap.size))
  | 0, dep, hd, R0, w, hrd => by
    have h16 : (16 : Int) < (dep : Int) := by omega
    have HZ : Hid (treeL 0 R0 = none) := Lib.hid rfl
    clear hd
    go_enter Try.func29, Try.ntmps29
    go_wp2_with fail
    refine (giveUp_any _).mono ?_
    rintro e wx ⟨rfl, rfl⟩
    go_wp2_with fail
    exact ⟨rfl, But.of_below ((Below.refl _ _).alloc (Nat.le_refl _) _), by rw [HZ.out]⟩
  | m + 1, dep, hd, R0, w, hrd => by
    have IH := Lib.hid (rtree_any rb w0 m (dep + 1) (by omega))
    have h16 : ¬ (16 : Int) < (dep : Int) := by omega
    have hdp : dep ≤ 16 := by omega
    have HRD := Lib.hid hrd
    have hrA0 := hrd.lt
    clear hd hrd
    go_enter Try.func29, Try.ntmps29
    go_upto_region 3 with fail
    obtain ⟨A, hA⟩ : ∃ A, A = w.heap.size := ⟨_, rfl⟩
    rw [← hA] at hrA0 ⊢
    obtain ⟨w1, hx1⟩ : ∃ x1, x1 = w.alloc (.cells #[.int .u8 0, .bool false, .slice none 0 0, .slice none 0 0, .slice none 0 0] 26) := ⟨_, rfl⟩
    rw [← hx1]
    have G1 : Hid (Has w1 A zeroL 26) := Lib.hid (by rw [hx1, hA]; exact Has.new w zeroL _)
    have b1 : Below w.heap.size w w1 := by rw [hx1]; exact (Below.refl _ _).alloc (Nat.le_refl _) _
    have BU1 : Hid (But w.heap.size rb w w1) := Lib.hid (But.of_below b1)
    have RD1 := Lib.hid (HRD.out.later b1)
    have HA := Lib.hid hA
    clear hA hx1 b1 HRD
    have HK := Lib.hid (skip_2s rb w0 R0 ⟨#[40]⟩ ⟨#[116, 121, 112, 101]⟩ sOpen sType rfl rfl w1 RD1.out)
    go_wp2_with fail
    refine HK.out.mono ?_
    rintro e w2 ⟨hb, hm⟩
    have BU2 := Lib.hid (BU1.out.trans (hb.mono BU1.out.size))
    have G2 := Lib.hid (G1.out.but hb G1.out.lt (by omega))
    have HM := Lib.hid hm
    clear hb hm HK BU1 G1 RD1
    cases ht : skipL [sOpen, sType] R0 with
    | none =>
      have hm := HM.out
      rw [ht] at hm
      subst hm
      have HF : Hid (treeL (m + 1) R0 = none) := Lib.hid (by rw [treeL, ht])
      clear HM ht
      go_wp2_with fail
      exact ⟨rfl, BU2.out, by rw [HF.out]⟩
    | some R1 =>
      have hm := HM.out
      rw [ht] at hm
      obtain ⟨v, rfl, hv, hr⟩ : ∃ v, e = .returned v ∧ noneV () v w2 ∧ Rd rb w0 R1 w2 := hm
      cases hv
      have RD2 := Lib.hid hr
      have HT1 := Lib.hid ht
      clear hr HM ht
      go_upto_region 5 with fail
      obtain ⟨B, hB⟩ : ∃ B, B = w2.heap.size := ⟨_, rfl⟩
      rw [← hB]
      obtain ⟨w2', hx1⟩ : ∃ x1, x1 = w2.alloc (.cells #[.int .u8 0, .bool false, .slice none 0 0, .slice none 0 0, .slice none 0 0] 26) := ⟨_, rfl⟩
      rw [← hx1]
      have X2' : Hid (Has w2' B zeroL 26) := Lib.hid (by rw [hx1, hB]; exact Has.new w2 zeroL _)
      have b1 : Below w2.heap.size w2 w2' := by rw [hx1]; exact (Below.refl _ _).alloc (Nat.le_refl _) _
      have G2' := Lib.hid (G2.out.below b1 G2.out.lt)
      have BU2' : Hid (But w.heap.size rb w w2') := Lib.hid (BU2.out.trans (But.of_below (b1.mono BU2.out.size)))
      have RD2' := Lib.hid (RD2.out.later b1)
      have hAB : A < B := by rw [hB]; exact G2.out.lt
      clear hB hx1 b1 G2 BU2 RD2
      have HK := Lib.hid (next_any rb w0 R1 w2' RD2'.out)
      go_wp2_with fail
      refine HK.out.mono ?_
      rintro e w3 ⟨hb, hm⟩
      have BU3 := Lib.hid (BU2'.out.trans (hb.mono BU2'.out.size))
      have G3 := Lib.hid (G2'.out.but hb G2'.out.lt (by omega))
      have X3 := Lib.hid (X2'.out.but hb X2'.out.lt (by omega))
      have HM := Lib.hid hm
      clear hb hm HK BU2' G2' X2' RD2'
      cases ht : nextL R1 with
      | none =>
        have hm := HM.out
        rw [ht] at hm
        subst hm
        have HF : Hid (treeL (m + 1) R0 = none) := Lib.hid (by rw [treeL, HT1.out]; dsimp only; rw [ht])
        clear HM ht
        go_wp2_with fail
        exact ⟨rfl, BU3.out, by rw [HF.out]⟩
      | some q =>
        obtain ⟨s, R2⟩ := q
        have hm := HM.out
        rw [ht] at hm
        obtain ⟨v, rfl, ⟨a0, n0, c0, rfl, hv⟩, hr⟩ := hm
        have RD3 := Lib.hid hr
        have hcv := convert_b (hr.isB hv)
        obtain ⟨sx, hsx⟩ : ∃ sx : ByteArray, sx = ⟨s.toArray⟩ := ⟨_, rfl⟩
        rw [← hsx] at hcv
        have hsx2 : sx.toList = s := by rw [hsx, ByteArray.toList_eq]
        have HSX := Lib.hid hsx2
        have HT2 := Lib.hid ht
        clear hr hv hsx hsx2 HM ht
        by_cases hs1 : s = sRegular
        · skip
          have ht1 : (sx.toList == [114, 101, 103, 117, 108, 97, 114]) = true := by rw [HSX.out]; rw [hs1]; rfl
          have HS1 := Lib.hid hs1
          clear hs1
          have HK := Lib.hid (file_any rb w0 R2 w3 RD3.out)
          go_wp2_with fail
          refine HK.out.mono ?_
          rintro e w4 ⟨hb, hm⟩
          have HB := Lib.hid hb
          have BU4 := Lib.hid (BU3.out.trans (hb.mono BU3.out.size))
          have HM := Lib.hid hm
          clear hb hm HK hcv
          cases ht : fileL R2 with
          | none =>
            have hm := HM.out
            rw [ht] at hm
            subst hm
            have HF : Hid (treeL (m + 1) R0 = none) := Lib.hid (by rw [treeL, HT1.out]; dsimp only; rw [HT2.out]; dsimp only; rw [if_pos HS1.out, ht])
            clear HM ht
            go_wp2_with fail
            exact ⟨rfl, BU4.out, by rw [HF.out]⟩
          | some q =>
            obtain ⟨t, R4⟩ := q
            have hm := HM.out
            rw [ht] at hm
            obtain ⟨v, rfl, ⟨n, cs, rfl, hst⟩, hr⟩ := hm
            have HF : Hid (treeL (m + 1) R0 = some (t, R4)) := Lib.hid (by rw [treeL, HT1.out]; dsimp only; rw [HT2.out]; dsimp only; rw [if_pos HS1.out, ht])
            have RD4 := Lib.hid hr
            have G4 := Lib.hid (G3.out.but HB.out G3.out.lt (by omega))
            have X4 := Lib.hid (X3.out.but HB.out X3.out.lt (by omega))
            have hT := hst w4 (Nat.le_refl _) (fun _ _ _ _ => rfl)
            have h5 := isT_five hT
            have hLI := Lib.hid (infoL h5)
            have hLS : Hid ((#[.int .u8 0, .bool false, .slice none 0 0, .slice none 0 0, .slice none 0 0] : Array Value).size = cs.toArray.size) := Lib.hid (by simp [h5])
            have hLO := Lib.hid (isT_one hT)
            have HST := Lib.hid hst
            have HGH : Hid ((w4.setRow B cs.toArray).heap[A]? = some (.cells #[.int .u8 0, .bool false, .slice none 0 0, .slice none 0 0, .slice none 0 0] 26 (0, 0))) := Lib.hid (G4.out.rowOther (by omega) _)
            have HXH : Hid (w4.heap[B]? = some (.cells #[.int .u8 0, .bool false, .slice none 0 0, .slice none 0 0, .slice none 0 0] 26 (0, 0))) := Lib.hid X4.out
            have HXS : Hid ((w4.setRow B cs.toArray).heap[B]? = some (.cells cs.toArray 26 (0, 0))) := Lib.hid (setRow_heap _ _ _ _ _ _ X4.out)
            clear hr hst hT h5 HM ht
            go_wp2_with (first
              | (refine wpList_store_row rfl 26 _ _ rfl B cs.toArray rfl rfl 26 _ HXH.out hLI.out hLS.out hLO.out ?_)
              | (refine wpList_load_rowG (by rfl) 26 _ rfl B rfl 26 cs.toArray (0, 0) _ HXS.out Try.underlying26 rfl hLI.out ?_)
              | (refine wpList_store_row rfl 26 _ _ rfl A cs.toArray rfl rfl 26 _ HGH.out hLI.out hLS.out hLO.out ?_))
            refine bodyPost_ret (results_cell_row (fn := Try.f29) (p := 4) (ty := 26) Try.results29 _ _ A 26 cs.toArray (0, 0) _ rfl (setRow_heap _ _ _ _ _ _ HGH.out) Try.underlying26 rfl hLI.out) rfl ?_
            have hb1 : But w4.heap.size B w4 (w4.setRow B cs.toArray) := (But.refl _ _ _).setRow (.inr rfl) _
            have hb2 : But (w4.setRow B cs.toArray).heap.size A (w4.setRow B cs.toArray) ((w4.setRow B cs.toArray).setRow A cs.toArray) := (But.refl _ _ _).setRow (.inr rfl) _
            have hA := HA.out
            refine ⟨(BU4.out.setRow (.inl (by omega)) _).setRow (.inl (by omega)) _, ?_⟩
            rw [HF.out]
            have hx3 := X3.out.lt
            refine ⟨_, rfl, ⟨n, cs, rfl, fun w' h1 h2 => HST.out w' ?_ (fun k hk1 hk2 _ => ?_)⟩, (RD4.out.other hb1 (by omega)).other hb2 hrA0⟩
            · exact Nat.le_trans (Nat.le_trans hb1.size hb2.size) h1
            · rw [h2 k (by omega) (Nat.lt_of_lt_of_le hk2 (Nat.le_trans hb1.size hb2.size)) (by simp)]
              exact (hb2.block k (Nat.lt_of_lt_of_le hk2 hb1.size) (by omega)).trans (hb1.block k hk2 (by omega))
        by_cases hs2 : s = sSymlink
        · skip
          have ht1 : (sx.toList == [114, 101, 103, 117, 108, 97, 114]) = false := by rw [HSX.out]; exact beq_eq_false_iff_ne.2 hs1
          have ht2 : (sx.toList == [115, 121, 109, 108, 105, 110, 107]) = true := by rw [HSX.out]; rw [hs2]; rfl
          have HS1 := Lib.hid hs1
          have HS2 := Lib.hid hs2
          clear hs1 hs2
          have HK := Lib.hid (link_any rb w0 R2 w3 RD3.out)
          go_wp2_with fail
          refine HK.out.mono ?_
          rintro e w4 ⟨hb, hm⟩
          have HB := Lib.hid hb
          have BU4 := Lib.hid (BU3.out.trans (hb.mono BU3.out.size))
          have HM := Lib.hid hm
          clear hb hm HK hcv
          cases ht : linkL R2 with
          | none =>
            have hm := HM.out
            rw [ht] at hm
            subst hm
            have HF : Hid (treeL (m + 1) R0 = none) := Lib.hid (by rw [treeL, HT1.out]; dsimp only; rw [HT2.out]; dsimp only; rw [if_neg HS1.out, if_pos HS2.out, ht])
            clear HM ht
            go_wp2_with fail
            exact ⟨rfl, BU4.out, by rw [HF.out]⟩
          | some q =>
            obtain ⟨t, R4⟩ := q
            have hm := HM.out
            rw [ht] at hm
            obtain ⟨v, rfl, ⟨n, cs, rfl, hst⟩, hr⟩ := hm
            have HF : Hid (treeL (m + 1) R0 = some (t, R4)) := Lib.hid (by rw [treeL, HT1.out]; dsimp only; rw [HT2.out]; dsimp only; rw [if_neg HS1.out, if_pos HS2.out, ht])
            have RD4 := Lib.hid hr
            have G4 := Lib.hid (G3.out.but HB.out G3.out.lt (by omega))
            have X4 := Lib.hid (X3.out.but HB.out X3.out.lt (by omega))
            have hT := hst w4 (Nat.le_refl _) (fun _ _ _ _ => rfl)
            have h5 := isT_five hT
            have hLI := Lib.hid (infoL h5)
            have hLS : Hid ((#[.int .u8 0, .bool false, .slice none 0 0, .slice none 0 0, .slice none 0 0] : Array Value).size = cs.toArray.size) := Lib.hid (by simp [h5])
            have hLO := Lib.hid (isT_one hT)
            have HST := Lib.hid hst
            have HGH : Hid ((w4.setRow B cs.toArray).heap[A]? = some (.cells #[.int .u8 0, .bool false, .slice none 0 0, .slice none 0 0, .slice none 0 0] 26 (0, 0))) := Lib.hid (G4.out.rowOther (by omega) _)
            have HXH : Hid (w4.heap[B]? = some (.cells #[.int .u8 0, .bool false, .slice none 0 0, .slice none 0 0, .slice none 0 0] 26 (0, 0))) := Lib.hid X4.out
            have HXS : Hid ((w4.setRow B cs.toArray).heap[B]? = some (.cells cs.toArray 26 (0, 0))) := Lib.hid (setRow_heap _ _ _ _ _ _ X4.out)
            clear hr hst hT h5 HM ht
            go_wp2_with (first
              | (refine wpList_store_row rfl 26 _ _ rfl B cs.toArray rfl rfl 26 _ HXH.out hLI.out hLS.out hLO.out ?_)
              | (refine wpList_load_rowG (by rfl) 26 _ rfl B rfl 26 cs.toArray (0, 0) _ HXS.out Try.underlying26 rfl hLI.out ?_)
              | (refine wpList_store_row rfl 26 _ _ rfl A cs.toArray rfl rfl 26 _ HGH.out hLI.out hLS.out hLO.out ?_))
            refine bodyPost_ret (results_cell_row (fn := Try.f29) (p := 4) (ty := 26) Try.results29 _ _ A 26 cs.toArray (0, 0) _ rfl (setRow_heap _ _ _ _ _ _ HGH.out) Try.underlying26 rfl hLI.out) rfl ?_
            have hb1 : But w4.heap.size B w4 (w4.setRow B cs.toArray) := (But.refl _ _ _).setRow (.inr rfl) _
            have hb2 : But (w4.setRow B cs.toArray).heap.size A (w4.setRow B cs.toArray) ((w4.setRow B cs.toArray).setRow A cs.toArray) := (But.refl _ _ _).setRow (.inr rfl) _
            have hA := HA.out
            refine ⟨(BU4.out.setRow (.inl (by omega)) _).setRow (.inl (by omega)) _, ?_⟩
            rw [HF.out]
            have hx3 := X3.out.lt
            refine ⟨_, rfl, ⟨n, cs, rfl, fun w' h1 h2 => HST.out w' ?_ (fun k hk1 hk2 _ => ?_)⟩, (RD4.out.other hb1 (by omega)).other hb2 hrA0⟩
            · exact Nat.le_trans (Nat.le_trans hb1.size hb2.size) h1
            · rw [h2 k (by omega) (Nat.lt_of_lt_of_le hk2 (Nat.le_trans hb1.size hb2.size)) (by simp)]
              exact (hb2.block k (Nat.lt_of_lt_of_le hk2 hb1.size) (by omega)).trans (hb1.block k hk2 (by omega))
        by_cases hs3 : s = sDirectory
        · skip
          have ht1 : (sx.toList == [114, 101, 103, 117, 108, 97, 114]) = false := by rw [HSX.out]; exact beq_eq_false_iff_ne.2 hs1
          have ht2 : (sx.toList == [115, 121, 109, 108, 105, 110, 107]) = false := by rw [HSX.out]; exact beq_eq_false_iff_ne.2 hs2
          have ht3 : (sx.toList == [100, 105, 114, 101, 99, 116, 111, 114, 121]) = true := by rw [HSX.out]; rw [hs3]; rfl
          have HS1 := Lib.hid hs1
          have HS2 := Lib.hid hs2
          have HS3 := Lib.hid hs3
          clear hs1 hs2 hs3
          have HK := Lib.hid (directory_any rb w0 R2 w3 RD3.out m dep hdp (by have h := IH.out; rw [show ((dep + 1 : Nat) : Int) = (dep : Int) + 1 from by omega] at h; exact h))
          go_wp2_with fail
          refine HK.out.mono ?_
          rintro e w4 ⟨hb, hm⟩
          have HB := Lib.hid hb
          have BU4 := Lib.hid (BU3.out.trans (hb.mono BU3.out.size))
          have HM := Lib.hid hm
          clear hb hm HK hcv
          cases ht : dirL (treeL m) (R2.length + 1) [] [] R2 with
          | none =>
            have hm := HM.out
            rw [ht] at hm
            subst hm
            have HF : Hid (treeL (m + 1) R0 = none) := Lib.hid (by rw [treeL, HT1.out]; dsimp only; rw [HT2.out]; dsimp only; rw [if_neg HS1.out, if_neg HS2.out, if_pos HS3.out, ht])
            clear HM ht
            go_wp2_with fail
            exact ⟨rfl, BU4.out, by rw [HF.out]⟩
          | some q =>
            obtain ⟨t, R4⟩ := q
            have hm := HM.out
            rw [ht] at hm
            obtain ⟨v, rfl, ⟨n, cs, rfl, hst⟩, hr⟩ := hm
            have HF : Hid (treeL (m + 1) R0 = some (t, R4)) := Lib.hid (by rw [treeL, HT1.out]; dsimp only; rw [HT2.out]; dsimp only; rw [if_neg HS1.out, if_neg HS2.out, if_pos HS3.out, ht])
            have RD4 := Lib.hid hr
            have G4 := Lib.hid (G3.out.but HB.out G3.out.lt (by omega))
            have X4 := Lib.hid (X3.out.but HB.out X3.out.lt (by omega))
            have hT := hst w4 (Nat.le_refl _) (fun _ _ _ _ => rfl)
            have h5 := isT_five hT
            have hLI := Lib.hid (infoL h5)
            have hLS : Hid ((#[.int .u8 0, .bool false, .slice none 0 0, .slice none 0 0, .slice none 0 0] : Array Value).size = cs.toArray.size) := Lib.hid (by simp [h5])
            have hLO := Lib.hid (isT_one hT)
            have HST := Lib.hid hst
            have HGH : Hid ((w4.setRow B cs.toArray).heap[A]? = some (.cells #[.int .u8 0, .bool false, .slice none 0 0, .slice none 0 0, .slice none 0 0] 26 (0, 0))) := Lib.hid (G4.out.rowOther (by omega) _)
            have HXH : Hid (w4.heap[B]? = some (.cells #[.int .u8 0, .bool false, .slice none 0 0, .slice none 0 0, .slice none 0 0] 26 (0, 0))) := Lib.hid X4.out
            have HXS : Hid ((w4.setRow B cs.toArray).heap[B]? = some (.cells cs.toArray 26 (0, 0))) := Lib.hid (setRow_heap _ _ _ _ _ _ X4.out)
            clear hr hst hT h5 HM ht
            go_wp2_with (first
              | (refine wpList_store_row rfl 26 _ _ rfl B cs.toArray rfl rfl 26 _ HXH.out hLI.out hLS.out hLO.out ?_)
              | (refine wpList_load_rowG (by rfl) 26 _ rfl B rfl 26 cs.toArray (0, 0) _ HXS.out Try.underlying26 rfl hLI.out ?_)
              | (refine wpList_store_row rfl 26 _ _ rfl A cs.toArray rfl rfl 26 _ HGH.out hLI.out hLS.out hLO.out ?_))
            refine bodyPost_ret (results_cell_row (fn := Try.f29) (p := 4) (ty := 26) Try.results29 _ _ A 26 cs.toArray (0, 0) _ rfl (setRow_heap _ _ _ _ _ _ HGH.out) Try.underlying26 rfl hLI.out) rfl ?_
            have hb1 : But w4.heap.size B w4 (w4.setRow B cs.toArray) := (But.refl _ _ _).setRow (.inr rfl) _
            have hb2 : But (w4.setRow B cs.toArray).heap.size A (w4.setRow B cs.toArray) ((w4.setRow B cs.toArray).setRow A cs.toArray) := (But.refl _ _ _).setRow (.inr rfl) _
            have hA := HA.out
            refine ⟨(BU4.out.setRow (.inl (by omega)) _).setRow (.inl (by omega)) _, ?_⟩
            rw [HF.out]
            have hx3 := X3.out.lt
            refine ⟨_, rfl, ⟨n, cs, rfl, fun w' h1 h2 => HST.out w' ?_ (fun k hk1 hk2 _ => ?_)⟩, (RD4.out.other hb1 (by omega)).other hb2 hrA0⟩
            · exact Nat.le_trans (Nat.le_trans hb1.size hb2.size) h1
            · rw [h2 k (by omega) (Nat.lt_of_lt_of_le hk2 (Nat.le_trans hb1.size hb2.size)) (by simp)]
              exact (hb2.block k (Nat.lt_of_lt_of_le hk2 hb1.size) (by omega)).trans (hb1.block k hk2 (by omega))
        have ht1 : (sx.toList == [114, 101, 103, 117, 108, 97, 114]) = false := by rw [HSX.out]; exact beq_eq_false_iff_ne.2 hs1
        have ht2 : (sx.toList == [115, 121, 109, 108, 105, 110, 107]) = false := by rw [HSX.out]; exact beq_eq_false_iff_ne.2 hs2
        have ht3 : (sx.toList == [100, 105, 114, 101, 99, 116, 111, 114, 121]) = false := by rw [HSX.out]; exact beq_eq_false_iff_ne.2 hs3
        have HF : Hid (treeL (m + 1) R0 = none) := Lib.hid (by rw [treeL, HT1.out]; dsimp only; rw [HT2.out]; dsimp only; rw [if_neg hs1, if_neg hs2, if_neg hs3])
        clear hs1 hs2 hs3
        go_wp2_with fail
        refine (giveUp_any _).mono ?_
        rintro e wx ⟨rfl, rfl⟩
        go_wp2_with fail
        exact ⟨rfl, BU3.out, by rw [HF.out]⟩

end Go.Proofs.Ythjihibocobndaa

/-
  The walk of the law HashFolds.
-/
import Derived.Test.YthnifhelpjfliaaDoorAwakeH
import Derived.Test.YthnifhelpjfliaaDoorRFold
import Derived.Test.YthnifhelpjfliaaDoorFoldsMath
import Derived.Test.YthnifhelpjfliaaDoorEqArr
import Derived.Deep.RegionHeld3
import Derived.Deep.DeepCutAuto
import Derived.Deep.CutBlock
namespace Go.Proofs.YthnifhelpjfliaaDoor
open Go.RowKit

theorem Has.range {w : World} {b : Nat} {L : List Value} {t : TypeId} (h : Has w b L t) : w.rangeAt b 0 L := fun j v hj => by rw [Nat.zero_add]; exact h.cellAt hj
theorem two_of {w w' : World} {b c : Nat} {L M : List Value} {t u : TypeId} (h : Hid (Has w b L t)) (k : Hid (Has w c M u)) (hb : Below w.heap.size w w') : w'.rangeAt b 0 L ∧ w'.rangeAt c 0 M ∧ Below w.heap.size w w' :=
  ⟨(h.out.below hb h.out.lt).range, (k.out.below hb k.out.lt).range, hb⟩
theorem two_drew {w w' : World} {b c : Nat} {L M : List Value} {t u : TypeId} (h : Hid (Has w b L t)) (k : Hid (Has w c M u)) (hb : Below w.heap.size w w') : w'.drew.rangeAt b 0 L ∧ w'.drew.rangeAt c 0 M ∧ Below w.heap.size w w'.drew :=
  two_of h k hb.drew
theorem rfold_in (D : List Nat) (Y : List Value) (hY : Hid (Y = D.map byv)) (hL : D.length = 32) (hD : ∀ x ∈ D, x < 256) (X : List Value) (hX : Hid (X = (foldP D 32).map byv)) {w0 w : World} (hS : Below w0.heap.size w0 w) :
    Calls Tryd.prog 18 #[.agg Y.toArray] w fun e w' => e = .returned (.agg X.toArray) ∧ Below w0.heap.size w0 w' := by
  rw [hY.out, hX.out, fold_same]
  exact (rfold_any D w hL hD).mono fun _ _ ⟨he, hb⟩ => ⟨he, hS.trans (hb.mono hS.size)⟩

set_option maxRecDepth 100000 in
set_option maxHeartbeats 2000000 in
theorem walk_HashFolds (w : World) (D : List Nat) (hDl : D.length = 32) (hD : ∀ x ∈ D, x < 256) (E : List Nat) (hEl : E.length = 32) (hE : ∀ x ∈ E, x < 256) (hl : LaidW w) :
    Calls Tryd.prog 7 #[.agg (D.map byv).toArray, .agg (E.map byv).toArray] w fun e w' => e = .returned (.bool true) ∧ Below w.heap.size w w' := by
  obtain ⟨C1, hC1⟩ : ∃ C, C = (D.map byv).toArray := ⟨_, rfl⟩
  obtain ⟨C2, hC2⟩ : ∃ C, C = (E.map byv).toArray := ⟨_, rfl⟩
  rw [← hC1, ← hC2]
  have HC1 := Lib.hid hC1
  have HC2 := Lib.hid hC2
  have HL := Lib.hid hl
  have h2 := hl.two
  have hnot : ∀ (x : Bool) (w : World), (Op.unary .not (.bool x)).run Tryd.prog w = .ok (.bool (!x)) w := fun _ _ => rfl
  clear hC1 hC2 hl
  go_enter Tryd.func7, Tryd.ntmps7
  go_wp2_with fail
  obtain ⟨w2, hw2⟩ : ∃ w2, w2 = (w.alloc (.cells C1 24)).alloc (.cells C2 24) := ⟨_, rfl⟩
  have a2 : Has w2 w.heap.size (D.map byv) 24 := by rw [hw2, HC1.out]; exact (Has.new w _ _).alloc _
  have e2 : Has w2 (w.heap.size + 1) (E.map byv) 24 := by
    have := Has.new (w.alloc (.cells C1 24)) (E.map byv) 24
    rw [hw2, HC2.out]; simpa using this
  have b2 : Below w.heap.size w w2 := by rw [hw2]; exact ((Below.refl _ _).alloc (by omega) _).alloc (by simp) _
  have s2 : w2.heap.size = w.heap.size + 2 := by rw [hw2]; simp
  rw [← hw2]
  clear hw2
  refine (awake_any w2 (HL.out.below b2 h2)).mono ?_
  rintro e w3 ⟨rfl, b3⟩
  have a3 := a2.below b3 (by omega)
  have e3 := e2.below b3 (by omega)
  have bb3 : Below w.heap.size w w3 := b2.trans (b3.mono (by omega))
  have s3 := b3.size
  rw [s2] at s3
  obtain ⟨G, hG⟩ : ∃ G, G = w.heap.size := ⟨_, rfl⟩
  rw [← hG] at a3 e3 bb3 s3 ⊢
  have HG := Lib.hid hG
  clear hG a2 e2 b2 s2 b3
  go_wp2_with fail
  rw [zeros32]
  obtain ⟨w4, hw4⟩ : ∃ w4, w4 = w3.alloc (.cells ((xorL D E 0).map byv).toArray 24) := ⟨_, rfl⟩
  have a4 : Has w4 G (D.map byv) 24 := by rw [hw4]; exact a3.alloc _
  have e4 : Has w4 (G + 1) (E.map byv) 24 := by rw [hw4]; exact e3.alloc _
  have f4 : Has w4 w3.heap.size ((xorL D E 0).map byv) 24 := by rw [hw4]; exact Has.new w3 _ _
  have bb4 : Below G w w4 := by rw [hw4]; exact bb3.alloc (by omega) _
  rw [show w3.alloc (.cells ((List.replicate 32 0).map byv).toArray 24) = w4 from hw4.symm]
  generalize w3.heap.size = P at *
  clear hw4 a3 e3 bb3
  go_loopw [6] (fun ii wr => ∃ k : Nat, k ≤ 32 ∧ ii = .int .i64 k ∧ Has wr G (D.map byv) 24 ∧ Has wr (G + 1) (E.map byv) 24 ∧ Has wr P ((xorL D E k).map byv) 24 ∧ Below G w wr) (fun ii _ => 32 - (intOf ii).toNat)
  case atStart => exact ⟨0, Nat.zero_le _, rfl, a4, e4, f4, bb4⟩
  case round =>
    clear a4 e4 f4 bb4
    obtain ⟨k, hk, rfl, ha, he, hf, hbel⟩ := hrel
    by_cases hlt : k < 32
    · have hfl := xorL_length D E k
      have c1 := ha.cellAt (map_get byv D k (by omega))
      have c2 := he.cellAt (map_get byv E k (by omega))
      have c3 := hf.cellAt (map_get byv (xorL D E k) k (by omega))
      have z3 := hf.frozen k
      have hx := getD_all hD (by omega) k
      have hy := getD_all hE (by omega) k
      have HS : Hid ((xorL D E k).set k (D.getD k 0 ^^^ E.getD k 0) = xorL D E (k + 1)) := Lib.hid rfl
      generalize D.getD k 0 = x at *
      generalize E.getD k 0 = y at *
      simp only [byv] at c1 c2 c3
      have hX : bits .xor .u8 (x : Int) (y : Int) = ((x ^^^ y : Nat) : Int) := u8_xor_nat _ _ hx hy
      have hk32 : (k : Int) < 32 := by omega
      go_wp2_with fail
      go_region
      all_goals
        go_wp2_with fail
        go_roundw
        case rel =>
          refine ⟨k + 1, by omega, by go_num, (ha.setOther (a := ⟨P, k, none⟩) (by show G ≠ P; omega) _).drew, (he.setOther (a := ⟨P, k, none⟩) (by show G + 1 ≠ P; omega) _).drew, ?_, (hbel.setCell (p := ⟨P, k, none⟩) (by show G ≤ P; omega) _).drew⟩
          rw [← HS.out, List.map_set]
          exact hf.set _ _
        case measure => simp [intOf]; omega
    · obtain rfl : k = 32 := by omega
      have H0 := Lib.hid ha
      have H1 := Lib.hid he
      have H2 := Lib.hid hf
      have HB := Lib.hid hbel
      have lA := ha.lt
      have lE := he.lt
      have lF := hf.lt
      clear ha he hf hbel
      have A0 : Hid (wr.heap[G]? = some (.cells ((D).map byv).toArray 24 (0, 0))) := H0
      have I0 := Lib.hid (info_32 D hDl)
      go_wp2_with (refine wpList_load_row rfl 24 _ rfl G rfl 24 _ (0, 0) _ A0.out Tryd.underlying24 rfl I0.out ?_)
      refine (fold_any D wr hDl hD).mono ?_
      rintro e wa0 ⟨rfl, b0⟩
      have l0 := b0.size
      have H0' := Lib.hid (H0.out.below b0 H0.out.lt)
      have H1' := Lib.hid (H1.out.below b0 H1.out.lt)
      have H2' := Lib.hid (H2.out.below b0 H2.out.lt)
      have HB' := Lib.hid (HB.out.trans (b0.mono (by omega)))
      obtain ⟨R0, hR⟩ : ∃ R, R = ((foldP D 32).map byv).toArray := ⟨_, rfl⟩
      have p1 := info_20 (foldP D 32) (foldP_length D 32)
      have p2 := size_zeros 20 (foldP D 32) (foldP_length D 32)
      have p3 := one_bytes (foldP D 32)
      rw [← hR] at p1 p2 p3 ⊢
      have P1 := Lib.hid p1
      have P2 := Lib.hid p2
      have P3 := Lib.hid p3
      have HR := Lib.hid hR
      clear p1 p2 p3 hR b0 A0 I0
      go_upto_region 9 with (rw [zeros20]; refine wpList_store_row rfl 45 _ _ rfl wa0.heap.size R0 rfl rfl 45 _ (heap_alloc_last _ _) P1.out P2.out P3.out ?_)
      obtain ⟨wb0, hw6⟩ : ∃ w6, w6 = (wa0.alloc (.cells ((List.replicate 20 0).map byv).toArray 45)).setRow wa0.heap.size R0 := ⟨_, rfl⟩
      have hw6' : wb0 = wa0.alloc (.cells R0 45) := by rw [hw6]; exact World.setRow_alloc_new wa0 _ _ _
      rw [← hw6]
      have H0x := Lib.hid (H0'.out.alloc (.cells R0 45))
      rw [← hw6'] at H0x
      have H1x := Lib.hid (H1'.out.alloc (.cells R0 45))
      rw [← hw6'] at H1x
      have H2x := Lib.hid (H2'.out.alloc (.cells R0 45))
      rw [← hw6'] at H2x
      have F0 : Hid (Has wb0 wa0.heap.size ((foldP D 32).map byv) 45) := Lib.hid (by rw [hw6', HR.out]; exact Has.new wa0 _ _)
      have HBx := Lib.hid (HB'.out.alloc (show G ≤ wa0.heap.size by omega) (.cells R0 45))
      rw [← hw6'] at HBx
      have sz0 : wb0.heap.size = wa0.heap.size + 1 := by rw [hw6']; simp
      obtain ⟨Q0, hQ0⟩ : ∃ Q, Q = wa0.heap.size := ⟨_, rfl⟩
      rw [← hQ0] at F0 sz0 l0 ⊢
      clear hw6 hw6' P1 P2 P3 hQ0
      clear H0 H1 H2 HB H0' H1' H2' HB'
      have H0 := H0x.out
      have H1 := H1x.out
      have H2 := H2x.out
      have HB := HBx.out
      replace H0 := Lib.hid H0
      replace H1 := Lib.hid H1
      replace H2 := Lib.hid H2
      replace HB := Lib.hid HB
      clear H0x H1x H2x HBx HR
      have A1 : Hid (wb0.heap[(G + 1)]? = some (.cells ((E).map byv).toArray 24 (0, 0))) := H1
      have I1 := Lib.hid (info_32 E hEl)
      go_wp2_with (refine wpList_load_row rfl 24 _ rfl (G + 1) rfl 24 _ (0, 0) _ A1.out Tryd.underlying24 rfl I1.out ?_)
      refine (fold_any E wb0 hEl hE).mono ?_
      rintro e wa1 ⟨rfl, b1⟩
      have l1 := b1.size
      have H0' := Lib.hid (H0.out.below b1 H0.out.lt)
      have H1' := Lib.hid (H1.out.below b1 H1.out.lt)
      have H2' := Lib.hid (H2.out.below b1 H2.out.lt)
      have F0' := Lib.hid (F0.out.below b1 F0.out.lt)
      have HB' := Lib.hid (HB.out.trans (b1.mono (by omega)))
      obtain ⟨R1, hR⟩ : ∃ R, R = ((foldP E 32).map byv).toArray := ⟨_, rfl⟩
      have p1 := info_20 (foldP E 32) (foldP_length E 32)
      have p2 := size_zeros 20 (foldP E 32) (foldP_length E 32)
      have p3 := one_bytes (foldP E 32)
      rw [← hR] at p1 p2 p3 ⊢
      have P1 := Lib.hid p1
      have P2 := Lib.hid p2
      have P3 := Lib.hid p3
      have HR := Lib.hid hR
      clear p1 p2 p3 hR b1 A1 I1
      go_upto_region 10 with (rw [zeros20]; refine wpList_store_row rfl 45 _ _ rfl wa1.heap.size R1 rfl rfl 45 _ (heap_alloc_last _ _) P1.out P2.out P3.out ?_)
      obtain ⟨wb1, hw6⟩ : ∃ w6, w6 = (wa1.alloc (.cells ((List.replicate 20 0).map byv).toArray 45)).setRow wa1.heap.size R1 := ⟨_, rfl⟩
      have hw6' : wb1 = wa1.alloc (.cells R1 45) := by rw [hw6]; exact World.setRow_alloc_new wa1 _ _ _
      rw [← hw6]
      have H0x := Lib.hid (H0'.out.alloc (.cells R1 45))
      rw [← hw6'] at H0x
      have H1x := Lib.hid (H1'.out.alloc (.cells R1 45))
      rw [← hw6'] at H1x
      have H2x := Lib.hid (H2'.out.alloc (.cells R1 45))
      rw [← hw6'] at H2x
      have F0x := Lib.hid (F0'.out.alloc (.cells R1 45))
      rw [← hw6'] at F0x
      have F1 : Hid (Has wb1 wa1.heap.size ((foldP E 32).map byv) 45) := Lib.hid (by rw [hw6', HR.out]; exact Has.new wa1 _ _)
      have HBx := Lib.hid (HB'.out.alloc (show G ≤ wa1.heap.size by omega) (.cells R1 45))
      rw [← hw6'] at HBx
      have sz1 : wb1.heap.size = wa1.heap.size + 1 := by rw [hw6']; simp
      obtain ⟨Q1, hQ1⟩ : ∃ Q, Q = wa1.heap.size := ⟨_, rfl⟩
      rw [← hQ1] at F1 sz1 l1 ⊢
      clear hw6 hw6' P1 P2 P3 hQ1
      clear H0 H1 H2 F0 HB H0' H1' H2' F0' HB'
      have H0 := H0x.out
      have H1 := H1x.out
      have H2 := H2x.out
      have F0 := F0x.out
      have HB := HBx.out
      replace H0 := Lib.hid H0
      replace H1 := Lib.hid H1
      replace H2 := Lib.hid H2
      replace F0 := Lib.hid F0
      replace HB := Lib.hid HB
      clear H0x H1x H2x F0x HBx HR
      have A2 : Hid (wb1.heap[P]? = some (.cells (((xorL D E 32)).map byv).toArray 24 (0, 0))) := H2
      have I2 := Lib.hid (info_32 (xorL D E 32) (xorL_length D E 32))
      go_wp2_with (refine wpList_load_row rfl 24 _ rfl P rfl 24 _ (0, 0) _ A2.out Tryd.underlying24 rfl I2.out ?_)
      refine (fold_any (xorL D E 32) wb1 (xorL_length D E 32) (xorL_lt D E hD hE 32)).mono ?_
      rintro e wa2 ⟨rfl, b2⟩
      have l2 := b2.size
      have H0' := Lib.hid (H0.out.below b2 H0.out.lt)
      have H1' := Lib.hid (H1.out.below b2 H1.out.lt)
      have H2' := Lib.hid (H2.out.below b2 H2.out.lt)
      have F0' := Lib.hid (F0.out.below b2 F0.out.lt)
      have F1' := Lib.hid (F1.out.below b2 F1.out.lt)
      have HB' := Lib.hid (HB.out.trans (b2.mono (by omega)))
      obtain ⟨R2, hR⟩ : ∃ R, R = ((foldP (xorL D E 32) 32).map byv).toArray := ⟨_, rfl⟩
      have p1 := info_20 (foldP (xorL D E 32) 32) (foldP_length (xorL D E 32) 32)
      have p2 := size_zeros 20 (foldP (xorL D E 32) 32) (foldP_length (xorL D E 32) 32)
      have p3 := one_bytes (foldP (xorL D E 32) 32)
      rw [← hR] at p1 p2 p3 ⊢
      have P1 := Lib.hid p1
      have P2 := Lib.hid p2
      have P3 := Lib.hid p3
      have HR := Lib.hid hR
      clear p1 p2 p3 hR b2 A2 I2
      go_upto_region 11 with (rw [zeros20]; refine wpList_store_row rfl 45 _ _ rfl wa2.heap.size R2 rfl rfl 45 _ (heap_alloc_last _ _) P1.out P2.out P3.out ?_)
      obtain ⟨wb2, hw6⟩ : ∃ w6, w6 = (wa2.alloc (.cells ((List.replicate 20 0).map byv).toArray 45)).setRow wa2.heap.size R2 := ⟨_, rfl⟩
      have hw6' : wb2 = wa2.alloc (.cells R2 45) := by rw [hw6]; exact World.setRow_alloc_new wa2 _ _ _
      rw [← hw6]
      have H0x := Lib.hid (H0'.out.alloc (.cells R2 45))
      rw [← hw6'] at H0x
      have H1x := Lib.hid (H1'.out.alloc (.cells R2 45))
      rw [← hw6'] at H1x
      have H2x := Lib.hid (H2'.out.alloc (.cells R2 45))
      rw [← hw6'] at H2x
      have F0x := Lib.hid (F0'.out.alloc (.cells R2 45))
      rw [← hw6'] at F0x
      have F1x := Lib.hid (F1'.out.alloc (.cells R2 45))
      rw [← hw6'] at F1x
      have F2 : Hid (Has wb2 wa2.heap.size ((foldP (xorL D E 32) 32).map byv) 45) := Lib.hid (by rw [hw6', HR.out]; exact Has.new wa2 _ _)
      have HBx := Lib.hid (HB'.out.alloc (show G ≤ wa2.heap.size by omega) (.cells R2 45))
      rw [← hw6'] at HBx
      have sz2 : wb2.heap.size = wa2.heap.size + 1 := by rw [hw6']; simp
      obtain ⟨Q2, hQ2⟩ : ∃ Q, Q = wa2.heap.size := ⟨_, rfl⟩
      rw [← hQ2] at F2 sz2 l2 ⊢
      clear hw6 hw6' P1 P2 P3 hQ2
      clear H0 H1 H2 F0 F1 HB H0' H1' H2' F0' F1' HB'
      have H0 := H0x.out
      have H1 := H1x.out
      have H2 := H2x.out
      have F0 := F0x.out
      have F1 := F1x.out
      have HB := HBx.out
      replace H0 := Lib.hid H0
      replace H1 := Lib.hid H1
      replace H2 := Lib.hid H2
      replace F0 := Lib.hid F0
      replace F1 := Lib.hid F1
      replace HB := Lib.hid HB
      clear H0x H1x H2x F0x F1x HBx HR
      obtain ⟨X, hX⟩ : ∃ X, X = (foldP D 32).map byv := ⟨_, rfl⟩
      obtain ⟨Y, hY⟩ : ∃ Y, Y = D.map byv := ⟨_, rfl⟩
      have HX := Lib.hid hX
      have HY := Lib.hid hY
      clear H1 H2 hX hY
      go_wp2_with fail
      go_loopw [10] (fun ii wz => ∃ k : Nat, k ≤ 20 ∧ ii = .int .i64 k ∧ Has wz G (D.map byv) 24 ∧ Has wz Q0 ((foldP D 32).map byv) 45 ∧ Has wz Q1 ((foldP E 32).map byv) 45 ∧ Has wz Q2 ((foldP (xorL D E 32) 32).map byv) 45 ∧ Below G w wz) (fun ii _ => 20 - (intOf ii).toNat)
      case atStart => exact ⟨0, Nat.zero_le _, rfl, H0.out, F0.out, F1.out, F2.out, HB.out⟩
      case round =>
        clear H0 F0 F1 F2 HB
        obtain ⟨k, hk2, rfl, ha, hf0, hf1, hf2, hbel⟩ := hrel
        by_cases hlt2 : k < 20
        · have c0 := hf0.cellAt (map_get byv _ k (by rw [foldP_length]; exact hlt2))
          have c1 := hf1.cellAt (map_get byv _ k (by rw [foldP_length]; exact hlt2))
          have c2 := hf2.cellAt (map_get byv _ k (by rw [foldP_length]; exact hlt2))
          rw [fold_xor D E k hlt2] at c2
          have hx := getD_all (foldP_lt D hD 32) (by omega) k
          have hy := getD_all (foldP_lt E hE 32) (by omega) k
          have HA := Lib.hid ha
          have HF0 := Lib.hid hf0
          have HF1 := Lib.hid hf1
          have HF2 := Lib.hid hf2
          have HBB := Lib.hid hbel
          clear ha hf0 hf1 hf2 hbel
          generalize (foldP D 32).getD k 0 = x at *
          generalize (foldP E 32).getD k 0 = y at *
          simp only [byv] at c0 c1 c2
          have hX : bits .xor .u8 (x : Int) (y : Int) = ((x ^^^ y : Nat) : Int) := u8_xor_nat _ _ hx hy
          generalize x ^^^ y = z at *
          have hk20 : (k : Int) < 20 := by omega
          go_wp2_with fail
          go_region
          all_goals
            go_wp2_with fail
            go_roundw
            case rel => exact ⟨k + 1, by omega, by go_num, HA.out.drew, HF0.out.drew, HF1.out.drew, HF2.out.drew, HBB.out.drew⟩
            case measure => simp [intOf]; omega
        · obtain rfl : k = 20 := by omega
          rw [← HX.out] at hf0
          rw [← HY.out] at ha
          have hXl : X.length = 20 := by rw [HX.out, List.length_map, foldP_length]
          have hYl : Y.length = 32 := by rw [HY.out, List.length_map, hDl]
          have hi20 : (Tryd.prog.info? 45).map (·.size) = some X.length := by rw [hXl]; kernel_rfl
          have hi32 : (Tryd.prog.info? 24).map (·.size) = some Y.length := by rw [hYl]; kernel_rfl
          have hu20 := Tryd.underlying45
          have hu32 := Tryd.underlying24
          have heq : ∀ W, (Op.equalIn 10000 45 (.agg X.toArray) (.agg X.toArray)).run Tryd.prog W = .ok true W := by
            intro W
            have := eql_20 W (foldP D 32) (foldP D 32) (foldP_length D 32) (foldP_length D 32)
            rw [← HX.out] at this
            simpa using this
          have hgd := guard_20
          have HA := Lib.hid ha
          have HF := Lib.hid hf0
          have HBB := Lib.hid hbel
          have hSz := HA.out.lt
          clear ha hf0 hf1 hf2 hbel
          go_wp2_with fail
          refine wp_region_held_drew (S := fun w' => w'.rangeAt Q0 0 X ∧ w'.rangeAt G 0 Y ∧ Below wr.heap.size wr w') (by kernel_rfl) (two_drew HF HA (Below.refl _ _)) (fun hHeld => ?_)
          refine wpAnyH_take (i := 0) (oi := { dst := some 47, op := Op.load 45 (Operand.tmp 7), type := 45, pos := "law.go:89", after := #[], guard := none }) rfl (by kernel_rfl) (by kernel_rfl) (by kernel_rfl) (fun _ _ _ h => h)
            (yieldsIf_load_mid (by rfl) 45 (.tmp 7) rfl Q0 0 rfl X _ (fun _ h => h.1) hu20 rfl hi20) hHeld ?_
          simp only [Act.put, List.setIfInBounds_toArray, List.set_cons_zero, List.set_cons_succ]
          refine wpAnyH_take (i := 1) (oi := { dst := some 48, op := Op.load 24 (Operand.tmp 2), type := 24, pos := "law.go:89", after := #[], guard := none }) rfl (by kernel_rfl) (by kernel_rfl) (by kernel_rfl) (fun _ _ _ h => h)
            (yieldsIf_load_mid (by rfl) 24 (.tmp 2) rfl G 0 rfl Y _ (fun _ h => h.2.1) hu32 rfl hi32) hHeld ?_
          simp only [Act.put, List.setIfInBounds_toArray, List.set_cons_zero, List.set_cons_succ]
          refine wpAnyH_ready (rs := [2]) (by kernel_rfl) (by simp) ?_
          refine AllReadyH.cons (o := { dst := some 49, op := Op.call { callee := Callee.value (Operand.func 18), args := #[Operand.tmp 48], argTypes := #[24] }, type := 45, pos := "law.go:89", after := #[{ on := 1, ground := Ground.data }], guard := none }) rfl (fun K hK => ?_) AllReadyH.nil
          go_simp
          refine (rfold_in D Y HY hDl hD X HX hHeld.2.2).mono ?_
          rintro e w9 ⟨rfl, hb9⟩
          go_wp2_with fail
          refine hK.out _ _ (two_of HF HA hb9) (fun hHeld2 => ?_)
          clear hK K
          try simp only [Act.put, List.setIfInBounds_toArray, List.set_cons_zero, List.set_cons_succ]
          have HBE := Lib.hid ((HBB.out.trans ((hHeld2.2.2).mono (by omega))))
          refine wpAnyH_take (i := 3) (oi := { dst := some 50, op := Op.binOp BinOp.eql 45 (Operand.tmp 47) (Operand.tmp 49) 45, type := 4, pos := "law.go:89", after := #[{ on := 0, ground := Ground.data }, { on := 2, ground := Ground.data }], guard := none }) (v := .bool true) rfl (by kernel_rfl) (by kernel_rfl) (by kernel_rfl) (fun _ _ _ h => h)
            (Or.inl ⟨by rfl, by intro w hSw; clear hSw; go_simp⟩) hHeld2 ?_
          refine wpAnyH_take (i := 4) (oi := { dst := some 4, op := Op.assign (Operand.tmp 50), type := 4, pos := "law.go:89", after := #[{ on := 3, ground := Ground.data }, { on := 2, ground := Ground.chain }, { on := 0, ground := Ground.phase }, { on := 1, ground := Ground.phase }, { on := 2, ground := Ground.phase }, { on := 3, ground := Ground.phase }], guard := none }) (v := .bool true) rfl (by kernel_rfl) (by kernel_rfl) (by kernel_rfl) (fun _ _ _ h => h)
            (Or.inl ⟨by rfl, by intro w hSw; clear hSw; go_simp⟩) hHeld2 ?_
          simp only [Act.put, List.setIfInBounds_toArray, List.set_cons_zero, List.set_cons_succ]
          refine wpAnyH_done (by kernel_rfl) ?_ _
          go_wp2_with fail
          go_ret
          exact ⟨rfl, by rw [← HG.out]; exact HBE.out⟩

end Go.Proofs.YthnifhelpjfliaaDoor

/-
  The contract of the writer's tree, at a directory, and at any right tree. Conditions: what comes out is no longer than 10^9 bytes.
-/
import Derived.Test.YthjihibocobndaaNTree
import Derived.Deep.MidRow
import Derived.BigFrame
import Derived.Test.YthjihibocobndaaTRSame
namespace Go.Proofs.Ythjihibocobndaa
open Go.RowKit
set_option linter.unusedVariables false

set_option maxRecDepth 100000 in
set_option maxHeartbeats 8000000 in
theorem tree_dir (wb : Nat) (w0 : World) (hwb : wb = w0.heap.size) (F r : List UInt8) (hF : F.length ≤ 1000000000) (ad : Option Addr) (nd cd : Nat) (an : Option Addr) (nn cn : Nat) (ak : Option Addr) (nk ck : Nat) (d : List UInt8) (ns : List ByteArray) (ks : List T) (w : World) (M : List UInt8) (v : Value) (hx : Wr wb w0 M v w) (hr : M ++ (nodeT (.mk 3 false d ns ks) ++ r) = F)
    (n : Nat) (hS : IsS w0 an nn cn ns) (hK : IsK (IsT w0 n) w0 ak nk ck ks) (hgood : Good (.mk 3 false d ns ks))
    (ih : ∀ (cs : List Value) (t : T), IsT w0 n cs t → ∀ (r : List UInt8) (w : World) (M : List UInt8) (v : Value), Wr wb w0 M v w → Good t → M ++ (nodeT t ++ r) = F →
      Calls Try.prog 17 #[.pointer (some ⟨wb, 0, none⟩), .agg cs.toArray] w (Next wb w0 F r w)) :
    Calls Try.prog 17 #[.pointer (some ⟨wb, 0, none⟩), .agg #[.int .u8 3, .bool false, .slice ad nd cd, .slice an nn cn, .slice ak nk ck]] w (Next wb w0 F r w) := by
  have HS := Lib.hid hS
  have HKK := Lib.hid hK
  have HGD := Lib.hid hgood
  have HIH := Lib.hid ih
  have HEQ : Hid (nn = ns.length ∧ nk = ks.length ∧ ns.length = ks.length) := Lib.hid ⟨hS.length.symm, hK.length.symm, hgood.lens⟩
  clear hS hK hgood ih
  have HX0 := Lib.hid hx
  have HF := Lib.hid hF
  have HR0 : Hid (M ++ (strN sOpen ++ (strN sType ++ (strN sDirectory ++ (entsT ks ns ++ (strN sClose ++ r))))) = F) := Lib.hid (by rw [← hr, node_dir])
  have HWB := Lib.hid hwb
  clear hx hF hr hwb
  go_enter Try.func17, Try.ntmps17
  go_upto_region 1 with fail
  obtain ⟨w1, hw1⟩ : ∃ w1, w1 = w.alloc (.cells #[.int .u8 3, .bool false, .slice ad nd cd, .slice an nn cn, .slice ak nk ck] 26) := ⟨_, rfl⟩
  obtain ⟨C, hC⟩ : ∃ C : List Value, C = [.int .u8 3, .bool false, .slice ad nd cd, .slice an nn cn, .slice ak nk ck] := ⟨_, rfl⟩
  have HG1 : Hid (Has w1 w.heap.size C 26) := Lib.hid (by rw [hw1, hC]; exact Has.new w _ _)
  have HX1 : Hid (Wr wb w0 M v w1) := Lib.hid (by rw [hw1]; exact HX0.out.alloc _)
  have HK1 : Hid (Kp w w1) := Lib.hid (by rw [hw1]; exact Kp.alloc _ _)
  have HC := Lib.hid hC
  rw [← hw1]
  obtain ⟨g, hg⟩ : ∃ g, g = w.heap.size := ⟨_, rfl⟩
  rw [← hg] at HG1 ⊢
  clear hw1 hg hC HX0
  go_wp2_with fail
  have HP1 := Lib.hid (put_2 wb w0 ⟨#[40]⟩ ⟨#[116, 121, 112, 101]⟩ F _ (strN sDirectory ++ (entsT ks ns ++ (strN sClose ++ r))) w1.heap.size _ _ (HX1.out.alloc _) HR0.out HF.out (Has.new w1 [.string ⟨#[40]⟩, .string ⟨#[116, 121, 112, 101]⟩] _))
  skip
  refine HP1.out.mono ?_
  rintro e w2 ⟨rfl, v2, M2, hx2, hr2, hk2⟩
  have HG2 := Lib.hid (hk2.block _ _ _ (HG1.out.alloc _) (by decide) (by decide))
  have HK2 := Lib.hid (HK1.out.trans ((Kp.alloc _ _).trans hk2))
  have HX2 := Lib.hid hx2
  have HR1 := Lib.hid hr2
  clear hx2 hk2 hr2 HP1 HX1 HG1 HK1 HR0
  have hc0 := HG2.out.cellAt (i := 0) (by rw [HC.out]; rfl)
  go_wp2_with fail
  have HP2 := Lib.hid (put_1 wb w0 ⟨#[100, 105, 114, 101, 99, 116, 111, 114, 121]⟩ F _ (entsT ks ns ++ (strN sClose ++ r)) w2.heap.size _ _ (HX2.out.alloc _) HR1.out HF.out (Has.new w2 [.string ⟨#[100, 105, 114, 101, 99, 116, 111, 114, 121]⟩] _))
  clear hc0
  refine HP2.out.mono ?_
  rintro e w3 ⟨rfl, v3, M3, hx3, hr3, hk3⟩
  have HG3 := Lib.hid (hk3.block _ _ _ (HG2.out.alloc _) (by decide) (by decide))
  have HK3 := Lib.hid (HK2.out.trans ((Kp.alloc _ _).trans hk3))
  have HX3 := Lib.hid hx3
  have HR2 := Lib.hid hr3
  clear hx3 hk3 hr3 HP2 HX2 HG2 HK2 HR1
  have hc3 := HG3.out.cellAt (i := 3) (by rw [HC.out]; rfl)
  go_wp2_with fail
  go_loopw [43] (fun ii wr => ∃ (j : Nat) (v : Value) (M : List UInt8), j ≤ nn ∧ ii = .int .i64 j ∧ Wr wb w0 M v wr ∧ M ++ (entsT (ks.drop j) (ns.drop j) ++ (strN sClose ++ r)) = F ∧ Has wr g C 26 ∧ Kp w wr) (fun ii _ => nn - (intOf ii).toNat)
  case atStart => exact ⟨0, _, _, Nat.zero_le _, rfl, HX3.out, HR2.out, HG3.out, HK3.out⟩
  case round =>
    clear HX3 HG3 HK3 HR2 hc3
    obtain ⟨j, v4, M4, hj, rfl, hx4, hr4, hg4, hk4⟩ := hrel
    have HX4 := Lib.hid hx4
    have HG4 := Lib.hid hg4
    have HK4 := Lib.hid hk4
    have HR3 := Lib.hid hr4
    clear hx4 hr4 hg4 hk4
    by_cases hlt : j < nn
    · rcases HS.out.at_ with h0 | ⟨b, off, rfl, hb, hc⟩
      · omega
      rcases HKK.out.at_ with h0 | ⟨b2, off2, rfl, hb2, hc2⟩
      · have := HEQ.out; omega
      have hjk : j < nk := by have := HEQ.out; omega
      obtain ⟨c0, c1, c2, c3, c4, hR, e0, e1, e2, e3, e4⟩ := hc2 j hjk
      obtain ⟨nm, hnm⟩ : ∃ nm, nm = ns.getD j ⟨#[]⟩ := ⟨_, rfl⟩
      have hcn : wr.cell? ⟨b, off + j, none⟩ = some (.string nm) := by rw [hnm]; exact (HX4.out.2.2.cell (p := ⟨b, off + j, none⟩) (by rw [HWB.out]; exact hb)).trans (hc j hlt)
      obtain ⟨kid, hkid⟩ : ∃ kid, kid = ks.getD j default := ⟨_, rfl⟩
      replace HR3 : Hid (M4 ++ (strN sEntry ++ (strN sOpen ++ (strN sName ++ (strN nm.data.toList ++ (strN sNode ++ (nodeT kid ++ (strN sClose ++ (entsT (ks.drop (j + 1)) (ns.drop (j + 1)) ++ (strN sClose ++ r))))))))) = F) := Lib.hid (by
        rw [hnm, hkid, ← ents_step ks ns j (by have := HEQ.out; omega) (by have := HEQ.out; omega)]; exact HR3.out)
      have HGK : Hid (Good kid) := Lib.hid (by rw [hkid]; exact HGD.out.kid j (by have := HEQ.out; omega))
      rw [← hkid] at hR
      obtain ⟨L, hL⟩ : ∃ L, L = [c0, c1, c2, c3, c4] := ⟨_, rfl⟩
      have hll : Hid (L.length = 5) := Lib.hid (by rw [hL]; rfl)
      have hrange : ∀ w5, Below wb w0 w5 → w5.rangeAt b2 (off2 + j * 5) L := fun w5 hbel i u hu => by
        rw [hL] at hu
        rw [Nat.add_assoc]
        match i, hu with
        | 0, hu => cases hu; exact (hbel.cell (p := ⟨b2, off2 + (j * 5 + 0), none⟩) (by rw [HWB.out]; exact hb2)).trans e0
        | 1, hu => cases hu; exact (hbel.cell (p := ⟨b2, off2 + (j * 5 + 1), none⟩) (by rw [HWB.out]; exact hb2)).trans e1
        | 2, hu => cases hu; exact (hbel.cell (p := ⟨b2, off2 + (j * 5 + 2), none⟩) (by rw [HWB.out]; exact hb2)).trans e2
        | 3, hu => cases hu; exact (hbel.cell (p := ⟨b2, off2 + (j * 5 + 3), none⟩) (by rw [HWB.out]; exact hb2)).trans e3
        | 4, hu => cases hu; exact (hbel.cell (p := ⟨b2, off2 + (j * 5 + 4), none⟩) (by rw [HWB.out]; exact hb2)).trans e4
        | i + 5, hu => simp at hu
      rw [← hL] at hR
      have HRANGE := Lib.hid hrange
      have HRK := Lib.hid hR
      have hji : (j : Int) < (nn : Int) := by omega
      have hki : (j : Int) < (nk : Int) := by omega
      have hroom := HKK.out.room
      have hroom2 := HS.out.room
      unfold maxLen at hroom hroom2
      have hni : (j : Int) + 1 ≤ 9223372036854775807 := by omega
      have info5 : Hid ((Try.prog.info? 26).map (·.size) = some 5) := Lib.hid (by kernel_rfl)
      clear hc hc2 e0 e1 e2 e3 e4 hrange hR hL hnm hkid
      go_wp2_with fail
      have HP4 := Lib.hid (put_5 wb w0 ⟨#[101, 110, 116, 114, 121]⟩ ⟨#[40]⟩ ⟨#[110, 97, 109, 101]⟩ nm ⟨#[110, 111, 100, 101]⟩ F _ (nodeT kid ++ (strN sClose ++ (entsT (ks.drop (j + 1)) (ns.drop (j + 1)) ++ (strN sClose ++ r)))) wr.heap.size _ _ (HX4.out.alloc _) HR3.out HF.out (Has.new wr [.string ⟨#[101, 110, 116, 114, 121]⟩, .string ⟨#[40]⟩, .string ⟨#[110, 97, 109, 101]⟩, .string nm, .string ⟨#[110, 111, 100, 101]⟩] _))
      clear hcn
      refine HP4.out.mono ?_
      rintro e w5 ⟨rfl, v5, M5, hx5, hr5, hk5⟩
      have HG5 := Lib.hid (hk5.block _ _ _ (HG4.out.alloc _) (by decide) (by decide))
      have HK5 := Lib.hid (HK4.out.trans ((Kp.alloc _ _).trans hk5))
      have HX5 := Lib.hid hx5
      have HR4 := Lib.hid hr5
      clear hx5 hk5 hr5 HP4 HX4 HG4 HK4 HR3
      have hc4 := HG5.out.cellAt (i := 4) (by rw [HC.out]; rfl)
      go_wp2_with (refine wpList_load_mid rfl 26 _ rfl b2 (off2 + j * 5) rfl L _ (HRANGE.out _ HX5.out.2.2) Try.underlying26 rfl (by rw [info5.out, hll.out]) ?_)
      have HP5 := Lib.hid (HIH.out L kid HRK.out (strN sClose ++ (entsT (ks.drop (j + 1)) (ns.drop (j + 1)) ++ (strN sClose ++ r))) w5 _ _ HX5.out HGK.out HR4.out)
      clear hc4
      refine HP5.out.mono ?_
      rintro e w6 ⟨rfl, v6, M6, hx6, hr6, hk6⟩
      have HG6 := Lib.hid (hk6.block _ _ _ HG5.out (by decide) (by decide))
      have HK6 := Lib.hid (HK5.out.trans hk6)
      have HX6 := Lib.hid hx6
      have HR5 := Lib.hid hr6
      clear hx6 hk6 hr6 HP5 HX5 HG5 HK5 HR4
      go_wp2_with fail
      have HP6 := Lib.hid (put_1 wb w0 ⟨#[41]⟩ F _ (entsT (ks.drop (j + 1)) (ns.drop (j + 1)) ++ (strN sClose ++ r)) w6.heap.size _ _ (HX6.out.alloc _) HR5.out HF.out (Has.new w6 [.string ⟨#[41]⟩] _))
      skip
      refine HP6.out.mono ?_
      rintro e w7 ⟨rfl, v7, M7, hx7, hr7, hk7⟩
      have HG7 := Lib.hid (hk7.block _ _ _ (HG6.out.alloc _) (by decide) (by decide))
      have HK7 := Lib.hid (HK6.out.trans ((Kp.alloc _ _).trans hk7))
      have HX7 := Lib.hid hx7
      have HR6 := Lib.hid hr7
      clear hx7 hk7 hr7 HP6 HX6 HG6 HK6 HR5
      go_wp2_with fail
      go_roundw
      case rel => exact ⟨j + 1, _, _, by omega, by go_num, HX7.out, HR6.out, HG7.out, HK7.out⟩
      case measure => simp [intOf]; omega
    · obtain rfl : j = nn := by omega
      replace HR3 : Hid (M4 ++ (strN sClose ++ r) = F) := Lib.hid (by
        have h := HR3.out
        have he := HEQ.out
        rw [List.drop_of_length_le (by omega), List.drop_of_length_le (by omega)] at h
        simpa only [entsT, List.nil_append] using h)
      go_wp2_with fail
      have HP4 := Lib.hid (put_1 wb w0 ⟨#[41]⟩ F _ (r) wr.heap.size _ _ (HX4.out.alloc _) HR3.out HF.out (Has.new wr [.string ⟨#[41]⟩] _))
      skip
      refine HP4.out.mono ?_
      rintro e w5 ⟨rfl, v5, M5, hx5, hr5, hk5⟩
      have HG5 := Lib.hid (hk5.block _ _ _ (HG4.out.alloc _) (by decide) (by decide))
      have HK5 := Lib.hid (HK4.out.trans ((Kp.alloc _ _).trans hk5))
      have HX5 := Lib.hid hx5
      have HR4 := Lib.hid hr5
      clear hx5 hk5 hr5 HP4 HX4 HG4 HK4 HR3
      go_wp2_with fail
      go_end0
      exact ⟨rfl, _, _, HX5.out, HR4.out, HK5.out⟩

theorem tree_any (wb : Nat) (w0 : World) (hwb : wb = w0.heap.size) (F : List UInt8) (hF : F.length ≤ 1000000000) : ∀ (n : Nat) (cs : List Value) (t : T), IsT w0 n cs t → ∀ (r : List UInt8) (w : World) (M : List UInt8) (v : Value), Wr wb w0 M v w → Good t → M ++ (nodeT t ++ r) = F →
    Calls Try.prog 17 #[.pointer (some ⟨wb, 0, none⟩), .agg cs.toArray] w (Next wb w0 F r w)
  | 0, _, _, ht => absurd ht (by simp [IsT])
  | n + 1, cs, .mk k x d ns ks, ht => by
    intro r w M v hx hg hr
    obtain ⟨ad, nd, cd, an, nn, cn, ak, nk, ck, rfl, hB, hS, hK⟩ := ht
    rcases formed_cases hg.formed with ⟨rfl, rfl, rfl⟩ | ⟨rfl, rfl, rfl, rfl⟩ | ⟨rfl, rfl, rfl, hl⟩
    · cases x
      · exact tree_file wb w0 hwb F r hF ad nd cd an nn cn ak nk ck d _ _ w M v hx hB hr
      · exact tree_exec wb w0 hwb F r hF ad nd cd an nn cn ak nk ck d _ _ w M v hx hB hr
    · exact tree_link wb w0 hwb F r hF ad nd cd an nn cn ak nk ck false d _ _ w M v hx hB hr
    · exact tree_dir wb w0 hwb F r hF ad nd cd an nn cn ak nk ck [] ns ks w M v hx hr n hS hK hg (fun cs t h => tree_any wb w0 hwb F hF n cs t h)

end Go.Proofs.Ythjihibocobndaa

/-
  The contract of the writer's tree, at a file and at a link. Conditions: what comes out is no longer than 10^9 bytes.
-/
import Derived.Test.YthjihibocobndaaNNext
import Derived.Test.YthjihibocobndaaTRSame
namespace Go.Proofs.Ythjihibocobndaa
open Go.RowKit
set_option linter.unusedVariables false

set_option maxRecDepth 100000 in
set_option maxHeartbeats 8000000 in
theorem tree_file (wb : Nat) (w0 : World) (hwb : wb = w0.heap.size) (F r : List UInt8) (hF : F.length ≤ 1000000000) (ad : Option Addr) (nd cd : Nat) (an : Option Addr) (nn cn : Nat) (ak : Option Addr) (nk ck : Nat) (d : List UInt8) (ns : List ByteArray) (ks : List T) (w : World) (M : List UInt8) (v : Value) (hx : Wr wb w0 M v w) (hB : IsB w0 ad nd cd d) (hr : M ++ (nodeT (.mk 1 false d ns ks) ++ r) = F) :
    Calls Try.prog 17 #[.pointer (some ⟨wb, 0, none⟩), .agg #[.int .u8 1, .bool false, .slice ad nd cd, .slice an nn cn, .slice ak nk ck]] w (Next wb w0 F r w) := by
  have HB := Lib.hid hB
  clear hB
  have HX0 := Lib.hid hx
  have HF := Lib.hid hF
  have HR0 : Hid (M ++ (strN sOpen ++ (strN sType ++ (strN sRegular ++ (strN sContents ++ (strN d ++ (strN sClose ++ (r))))))) = F) := Lib.hid (by rw [← hr, node_file])
  have HWB := Lib.hid hwb
  clear hx hF hr hwb
  go_enter Try.func17, Try.ntmps17
  go_upto_region 1 with fail
  obtain ⟨w1, hw1⟩ : ∃ w1, w1 = w.alloc (.cells #[.int .u8 1, .bool false, .slice ad nd cd, .slice an nn cn, .slice ak nk ck] 26) := ⟨_, rfl⟩
  obtain ⟨C, hC⟩ : ∃ C : List Value, C = [.int .u8 1, .bool false, .slice ad nd cd, .slice an nn cn, .slice ak nk ck] := ⟨_, rfl⟩
  have HG1 : Hid (Has w1 w.heap.size C 26) := Lib.hid (by rw [hw1, hC]; exact Has.new w _ _)
  have HX1 : Hid (Wr wb w0 M v w1) := Lib.hid (by rw [hw1]; exact HX0.out.alloc _)
  have HK1 : Hid (Kp w w1) := Lib.hid (by rw [hw1]; exact Kp.alloc _ _)
  have HC := Lib.hid hC
  rw [← hw1]
  obtain ⟨g, hg⟩ : ∃ g, g = w.heap.size := ⟨_, rfl⟩
  rw [← hg] at HG1 ⊢
  clear hw1 hg hC HX0
  go_wp2_with fail
  have HP1 := Lib.hid (put_2 wb w0 ⟨#[40]⟩ ⟨#[116, 121, 112, 101]⟩ F _ (strN sRegular ++ (strN sContents ++ (strN d ++ (strN sClose ++ (r))))) w1.heap.size _ _ (HX1.out.alloc _) HR0.out HF.out (Has.new w1 [.string ⟨#[40]⟩, .string ⟨#[116, 121, 112, 101]⟩] _))
  skip
  refine HP1.out.mono ?_
  rintro e w2 ⟨rfl, v2, M2, hx2, hr2, hk2⟩
  have HG2 := Lib.hid (hk2.block _ _ _ (HG1.out.alloc _) (by decide) (by decide))
  have HK2 := Lib.hid (HK1.out.trans ((Kp.alloc _ _).trans hk2))
  have HX2 := Lib.hid hx2
  have HR1 := Lib.hid hr2
  clear hx2 hk2 hr2 HP1 HX1 HG1 HK1 HR0
  have hc0 := HG2.out.cellAt (i := 0) (by rw [HC.out]; rfl)
  go_wp2_with fail
  have HP2 := Lib.hid (put_1 wb w0 ⟨#[114, 101, 103, 117, 108, 97, 114]⟩ F _ (strN sContents ++ (strN d ++ (strN sClose ++ (r)))) w2.heap.size _ _ (HX2.out.alloc _) HR1.out HF.out (Has.new w2 [.string ⟨#[114, 101, 103, 117, 108, 97, 114]⟩] _))
  clear hc0
  refine HP2.out.mono ?_
  rintro e w3 ⟨rfl, v3, M3, hx3, hr3, hk3⟩
  have HG3 := Lib.hid (hk3.block _ _ _ (HG2.out.alloc _) (by decide) (by decide))
  have HK3 := Lib.hid (HK2.out.trans ((Kp.alloc _ _).trans hk3))
  have HX3 := Lib.hid hx3
  have HR2 := Lib.hid hr3
  clear hx3 hk3 hr3 HP2 HX2 HG2 HK2 HR1
  have hc1 := HG3.out.cellAt (i := 1) (by rw [HC.out]; rfl)
  have hc2 := HG3.out.cellAt (i := 2) (by rw [HC.out]; rfl)
  have hcv := convert_b (HB.out.later (by rw [← HWB.out]; exact HX3.out.2.2))
  go_wp2_with fail
  have HP3 := Lib.hid (put_2 wb w0 ⟨#[99, 111, 110, 116, 101, 110, 116, 115]⟩ ⟨d.toArray⟩ F _ (strN sClose ++ (r)) w3.heap.size _ _ (HX3.out.alloc _) HR2.out HF.out (Has.new w3 [.string ⟨#[99, 111, 110, 116, 101, 110, 116, 115]⟩, .string ⟨d.toArray⟩] _))
  clear hc1 hc2 hcv
  refine HP3.out.mono ?_
  rintro e w4 ⟨rfl, v4, M4, hx4, hr4, hk4⟩
  have HG4 := Lib.hid (hk4.block _ _ _ (HG3.out.alloc _) (by decide) (by decide))
  have HK4 := Lib.hid (HK3.out.trans ((Kp.alloc _ _).trans hk4))
  have HX4 := Lib.hid hx4
  have HR3 := Lib.hid hr4
  clear hx4 hk4 hr4 HP3 HX3 HG3 HK3 HR2
  go_wp2_with fail
  have HP4 := Lib.hid (put_1 wb w0 ⟨#[41]⟩ F _ (r) w4.heap.size _ _ (HX4.out.alloc _) HR3.out HF.out (Has.new w4 [.string ⟨#[41]⟩] _))
  skip
  refine HP4.out.mono ?_
  rintro e w5 ⟨rfl, v5, M5, hx5, hr5, hk5⟩
  have HG5 := Lib.hid (hk5.block _ _ _ (HG4.out.alloc _) (by decide) (by decide))
  have HK5 := Lib.hid (HK4.out.trans ((Kp.alloc _ _).trans hk5))
  have HX5 := Lib.hid hx5
  have HR4 := Lib.hid hr5
  clear hx5 hk5 hr5 HP4 HX4 HG4 HK4 HR3
  go_wp2_with fail
  go_end0
  exact ⟨rfl, _, _, HX5.out, HR4.out, HK5.out⟩

set_option maxRecDepth 100000 in
set_option maxHeartbeats 8000000 in
theorem tree_exec (wb : Nat) (w0 : World) (hwb : wb = w0.heap.size) (F r : List UInt8) (hF : F.length ≤ 1000000000) (ad : Option Addr) (nd cd : Nat) (an : Option Addr) (nn cn : Nat) (ak : Option Addr) (nk ck : Nat) (d : List UInt8) (ns : List ByteArray) (ks : List T) (w : World) (M : List UInt8) (v : Value) (hx : Wr wb w0 M v w) (hB : IsB w0 ad nd cd d) (hr : M ++ (nodeT (.mk 1 true d ns ks) ++ r) = F) :
    Calls Try.prog 17 #[.pointer (some ⟨wb, 0, none⟩), .agg #[.int .u8 1, .bool true, .slice ad nd cd, .slice an nn cn, .slice ak nk ck]] w (Next wb w0 F r w) := by
  have HB := Lib.hid hB
  clear hB
  have HX0 := Lib.hid hx
  have HF := Lib.hid hF
  have HR0 : Hid (M ++ (strN sOpen ++ (strN sType ++ (strN sRegular ++ (strN sExec ++ (strN [] ++ (strN sContents ++ (strN d ++ (strN sClose ++ (r))))))))) = F) := Lib.hid (by rw [← hr, node_exec])
  have HWB := Lib.hid hwb
  clear hx hF hr hwb
  go_enter Try.func17, Try.ntmps17
  go_upto_region 1 with fail
  obtain ⟨w1, hw1⟩ : ∃ w1, w1 = w.alloc (.cells #[.int .u8 1, .bool true, .slice ad nd cd, .slice an nn cn, .slice ak nk ck] 26) := ⟨_, rfl⟩
  obtain ⟨C, hC⟩ : ∃ C : List Value, C = [.int .u8 1, .bool true, .slice ad nd cd, .slice an nn cn, .slice ak nk ck] := ⟨_, rfl⟩
  have HG1 : Hid (Has w1 w.heap.size C 26) := Lib.hid (by rw [hw1, hC]; exact Has.new w _ _)
  have HX1 : Hid (Wr wb w0 M v w1) := Lib.hid (by rw [hw1]; exact HX0.out.alloc _)
  have HK1 : Hid (Kp w w1) := Lib.hid (by rw [hw1]; exact Kp.alloc _ _)
  have HC := Lib.hid hC
  rw [← hw1]
  obtain ⟨g, hg⟩ : ∃ g, g = w.heap.size := ⟨_, rfl⟩
  rw [← hg] at HG1 ⊢
  clear hw1 hg hC HX0
  go_wp2_with fail
  have HP1 := Lib.hid (put_2 wb w0 ⟨#[40]⟩ ⟨#[116, 121, 112, 101]⟩ F _ (strN sRegular ++ (strN sExec ++ (strN [] ++ (strN sContents ++ (strN d ++ (strN sClose ++ (r))))))) w1.heap.size _ _ (HX1.out.alloc _) HR0.out HF.out (Has.new w1 [.string ⟨#[40]⟩, .string ⟨#[116, 121, 112, 101]⟩] _))
  skip
  refine HP1.out.mono ?_
  rintro e w2 ⟨rfl, v2, M2, hx2, hr2, hk2⟩
  have HG2 := Lib.hid (hk2.block _ _ _ (HG1.out.alloc _) (by decide) (by decide))
  have HK2 := Lib.hid (HK1.out.trans ((Kp.alloc _ _).trans hk2))
  have HX2 := Lib.hid hx2
  have HR1 := Lib.hid hr2
  clear hx2 hk2 hr2 HP1 HX1 HG1 HK1 HR0
  have hc0 := HG2.out.cellAt (i := 0) (by rw [HC.out]; rfl)
  go_wp2_with fail
  have HP2 := Lib.hid (put_1 wb w0 ⟨#[114, 101, 103, 117, 108, 97, 114]⟩ F _ (strN sExec ++ (strN [] ++ (strN sContents ++ (strN d ++ (strN sClose ++ (r)))))) w2.heap.size _ _ (HX2.out.alloc _) HR1.out HF.out (Has.new w2 [.string ⟨#[114, 101, 103, 117, 108, 97, 114]⟩] _))
  clear hc0
  refine HP2.out.mono ?_
  rintro e w3 ⟨rfl, v3, M3, hx3, hr3, hk3⟩
  have HG3 := Lib.hid (hk3.block _ _ _ (HG2.out.alloc _) (by decide) (by decide))
  have HK3 := Lib.hid (HK2.out.trans ((Kp.alloc _ _).trans hk3))
  have HX3 := Lib.hid hx3
  have HR2 := Lib.hid hr3
  clear hx3 hk3 hr3 HP2 HX2 HG2 HK2 HR1
  have hc1 := HG3.out.cellAt (i := 1) (by rw [HC.out]; rfl)
  go_wp2_with fail
  have HP3 := Lib.hid (put_2 wb w0 ⟨#[101, 120, 101, 99, 117, 116, 97, 98, 108, 101]⟩ ⟨#[]⟩ F _ (strN sContents ++ (strN d ++ (strN sClose ++ (r)))) w3.heap.size _ _ (HX3.out.alloc _) HR2.out HF.out (Has.new w3 [.string ⟨#[101, 120, 101, 99, 117, 116, 97, 98, 108, 101]⟩, .string ⟨#[]⟩] _))
  clear hc1
  refine HP3.out.mono ?_
  rintro e w4 ⟨rfl, v4, M4, hx4, hr4, hk4⟩
  have HG4 := Lib.hid (hk4.block _ _ _ (HG3.out.alloc _) (by decide) (by decide))
  have HK4 := Lib.hid (HK3.out.trans ((Kp.alloc _ _).trans hk4))
  have HX4 := Lib.hid hx4
  have HR3 := Lib.hid hr4
  clear hx4 hk4 hr4 HP3 HX3 HG3 HK3 HR2
  have hc2 := HG4.out.cellAt (i := 2) (by rw [HC.out]; rfl)
  have hcv := convert_b (HB.out.later (by rw [← HWB.out]; exact HX4.out.2.2))
  go_wp2_with fail
  have HP4 := Lib.hid (put_2 wb w0 ⟨#[99, 111, 110, 116, 101, 110, 116, 115]⟩ ⟨d.toArray⟩ F _ (strN sClose ++ (r)) w4.heap.size _ _ (HX4.out.alloc _) HR3.out HF.out (Has.new w4 [.string ⟨#[99, 111, 110, 116, 101, 110, 116, 115]⟩, .string ⟨d.toArray⟩] _))
  clear hc2 hcv
  refine HP4.out.mono ?_
  rintro e w5 ⟨rfl, v5, M5, hx5, hr5, hk5⟩
  have HG5 := Lib.hid (hk5.block _ _ _ (HG4.out.alloc _) (by decide) (by decide))
  have HK5 := Lib.hid (HK4.out.trans ((Kp.alloc _ _).trans hk5))
  have HX5 := Lib.hid hx5
  have HR4 := Lib.hid hr5
  clear hx5 hk5 hr5 HP4 HX4 HG4 HK4 HR3
  go_wp2_with fail
  have HP5 := Lib.hid (put_1 wb w0 ⟨#[41]⟩ F _ (r) w5.heap.size _ _ (HX5.out.alloc _) HR4.out HF.out (Has.new w5 [.string ⟨#[41]⟩] _))
  skip
  refine HP5.out.mono ?_
  rintro e w6 ⟨rfl, v6, M6, hx6, hr6, hk6⟩
  have HG6 := Lib.hid (hk6.block _ _ _ (HG5.out.alloc _) (by decide) (by decide))
  have HK6 := Lib.hid (HK5.out.trans ((Kp.alloc _ _).trans hk6))
  have HX6 := Lib.hid hx6
  have HR5 := Lib.hid hr6
  clear hx6 hk6 hr6 HP5 HX5 HG5 HK5 HR4
  go_wp2_with fail
  go_end0
  exact ⟨rfl, _, _, HX6.out, HR5.out, HK6.out⟩

set_option maxRecDepth 100000 in
set_option maxHeartbeats 8000000 in
theorem tree_link (wb : Nat) (w0 : World) (hwb : wb = w0.heap.size) (F r : List UInt8) (hF : F.length ≤ 1000000000) (ad : Option Addr) (nd cd : Nat) (an : Option Addr) (nn cn : Nat) (ak : Option Addr) (nk ck : Nat) (x : Bool) (d : List UInt8) (ns : List ByteArray) (ks : List T) (w : World) (M : List UInt8) (v : Value) (hx : Wr wb w0 M v w) (hB : IsB w0 ad nd cd d) (hr : M ++ (nodeT (.mk 2 x d ns ks) ++ r) = F) :
    Calls Try.prog 17 #[.pointer (some ⟨wb, 0, none⟩), .agg #[.int .u8 2, .bool x, .slice ad nd cd, .slice an nn cn, .slice ak nk ck]] w (Next wb w0 F r w) := by
  have HB := Lib.hid hB
  clear hB
  have HX0 := Lib.hid hx
  have HF := Lib.hid hF
  have HR0 : Hid (M ++ (strN sOpen ++ (strN sType ++ (strN sSymlink ++ (strN sTarget ++ (strN d ++ (strN sClose ++ (r))))))) = F) := Lib.hid (by rw [← hr, node_link])
  have HWB := Lib.hid hwb
  clear hx hF hr hwb
  go_enter Try.func17, Try.ntmps17
  go_upto_region 1 with fail
  obtain ⟨w1, hw1⟩ : ∃ w1, w1 = w.alloc (.cells #[.int .u8 2, .bool x, .slice ad nd cd, .slice an nn cn, .slice ak nk ck] 26) := ⟨_, rfl⟩
  obtain ⟨C, hC⟩ : ∃ C : List Value, C = [.int .u8 2, .bool x, .slice ad nd cd, .slice an nn cn, .slice ak nk ck] := ⟨_, rfl⟩
  have HG1 : Hid (Has w1 w.heap.size C 26) := Lib.hid (by rw [hw1, hC]; exact Has.new w _ _)
  have HX1 : Hid (Wr wb w0 M v w1) := Lib.hid (by rw [hw1]; exact HX0.out.alloc _)
  have HK1 : Hid (Kp w w1) := Lib.hid (by rw [hw1]; exact Kp.alloc _ _)
  have HC := Lib.hid hC
  rw [← hw1]
  obtain ⟨g, hg⟩ : ∃ g, g = w.heap.size := ⟨_, rfl⟩
  rw [← hg] at HG1 ⊢
  clear hw1 hg hC HX0
  go_wp2_with fail
  have HP1 := Lib.hid (put_2 wb w0 ⟨#[40]⟩ ⟨#[116, 121, 112, 101]⟩ F _ (strN sSymlink ++ (strN sTarget ++ (strN d ++ (strN sClose ++ (r))))) w1.heap.size _ _ (HX1.out.alloc _) HR0.out HF.out (Has.new w1 [.string ⟨#[40]⟩, .string ⟨#[116, 121, 112, 101]⟩] _))
  skip
  refine HP1.out.mono ?_
  rintro e w2 ⟨rfl, v2, M2, hx2, hr2, hk2⟩
  have HG2 := Lib.hid (hk2.block _ _ _ (HG1.out.alloc _) (by decide) (by decide))
  have HK2 := Lib.hid (HK1.out.trans ((Kp.alloc _ _).trans hk2))
  have HX2 := Lib.hid hx2
  have HR1 := Lib.hid hr2
  clear hx2 hk2 hr2 HP1 HX1 HG1 HK1 HR0
  have hc0 := HG2.out.cellAt (i := 0) (by rw [HC.out]; rfl)
  have hc2 := HG2.out.cellAt (i := 2) (by rw [HC.out]; rfl)
  have hcv := convert_b (HB.out.later (by rw [← HWB.out]; exact HX2.out.2.2))
  go_wp2_with fail
  have HP2 := Lib.hid (put_3 wb w0 ⟨#[115, 121, 109, 108, 105, 110, 107]⟩ ⟨#[116, 97, 114, 103, 101, 116]⟩ ⟨d.toArray⟩ F _ (strN sClose ++ (r)) w2.heap.size _ _ (HX2.out.alloc _) HR1.out HF.out (Has.new w2 [.string ⟨#[115, 121, 109, 108, 105, 110, 107]⟩, .string ⟨#[116, 97, 114, 103, 101, 116]⟩, .string ⟨d.toArray⟩] _))
  clear hc0 hc2 hcv
  refine HP2.out.mono ?_
  rintro e w3 ⟨rfl, v3, M3, hx3, hr3, hk3⟩
  have HG3 := Lib.hid (hk3.block _ _ _ (HG2.out.alloc _) (by decide) (by decide))
  have HK3 := Lib.hid (HK2.out.trans ((Kp.alloc _ _).trans hk3))
  have HX3 := Lib.hid hx3
  have HR2 := Lib.hid hr3
  clear hx3 hk3 hr3 HP2 HX2 HG2 HK2 HR1
  go_wp2_with fail
  have HP3 := Lib.hid (put_1 wb w0 ⟨#[41]⟩ F _ (r) w3.heap.size _ _ (HX3.out.alloc _) HR2.out HF.out (Has.new w3 [.string ⟨#[41]⟩] _))
  skip
  refine HP3.out.mono ?_
  rintro e w4 ⟨rfl, v4, M4, hx4, hr4, hk4⟩
  have HG4 := Lib.hid (hk4.block _ _ _ (HG3.out.alloc _) (by decide) (by decide))
  have HK4 := Lib.hid (HK3.out.trans ((Kp.alloc _ _).trans hk4))
  have HX4 := Lib.hid hx4
  have HR3 := Lib.hid hr4
  clear hx4 hk4 hr4 HP3 HX3 HG3 HK3 HR2
  go_wp2_with fail
  go_end0
  exact ⟨rfl, _, _, HX4.out, HR3.out, HK4.out⟩

end Go.Proofs.Ythjihibocobndaa

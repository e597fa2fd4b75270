/-
  The path of any thing: the program's Make and the reference's. Conditions: the kind's bound; 32 bytes.
-/
import Derived.Test.YtokbakpbhpknfaaGreatDoorRSumN
import Derived.Test.YtokbakpbhpknfaaGreatDoorFoldN
import Derived.Test.YtokbakpbhpknfaaGreatDoorPathN
import Derived.Test.YtokbakpbhpknfaaGreatDoorRHexN
import Derived.Lib.ConvBytes
import Derived.Test.YtokbakpbhpknfaaGreatDoorShelf
namespace Go.Proofs.YtokbakpbhpknfaaGreatDoor
open Go.RowKit
set_option linter.unusedVariables false

def isName' (s : ByteArray) : Bool := Nam.isName s.data.toList

/-- The bytes as numbers. -/
def nats (l : List UInt8) : List Nat := l.map UInt8.toNat

theorem nats_lt (l : List UInt8) : ∀ x ∈ nats l, x < 256 := by
  intro x hx
  obtain ⟨b, _, rfl⟩ := List.mem_map.1 hx
  exact b.toNat_lt

/-- The folded digest of a text, as bytes. -/
def fd (l : List UInt8) : List UInt8 := (foldP (dig (nats l)) 32).map UInt8.ofNat

theorem fd_length (l : List UInt8) : (fd l).length = 20 := by simp [fd, foldP_length]

theorem fd_cells (l : List UInt8) : (foldP (dig (nats l)) 32).map byv = (fd l).map Nam.bv := by
  rw [fd, Nam.bv_byv, List.map_map, List.map_map]
  refine List.map_congr_left fun x hx => ?_
  have := foldP_lt (dig (nats l)) (dig_lt _) 32 x hx
  simp only [Function.comp, UInt8.toNat_ofNat']
  congr 1; omega

/-- What a text's bytes, converted, lie in. -/
theorem conv_isN (w : World) (s : ByteArray) (hs : s.size ≤ maxLen) : IsN (Lib.bytesWorld w 5 s) (some ⟨w.heap.size, 0, none⟩) s.size (grownCap w s.size 0 5) (nats s.data.toList) := by
  refine ⟨by simp [nats], .inr ⟨_, _, rfl, by rw [Lib.bytesWorld_size]; omega, ?_⟩, (fun h => by cases h), ⟨grownCap_ge _ _ _ _, grownCap_le_maxLen _ _ _ _ hs⟩, nats_lt _⟩
  intro i hi
  have hi' : i < s.size := by simpa [nats] using hi
  rw [Nat.zero_add, Lib.bytesWorld_cell w _ s i hi']
  simp [nats, List.getD, hi']

theorem conv_below (w : World) (s : ByteArray) {B0 : Nat} {w0 : World} (h : Below B0 w0 w) (hB : B0 ≤ w.heap.size) : Below B0 w0 (Lib.bytesWorld w 5 s) :=
  ⟨h.os, h.tape, h.output, by rw [Lib.bytesWorld_size]; have := h.size; omega, fun k hk => (Lib.bytesWorld_at_old w _ s k (by omega)).trans (h.block k hk)⟩

/-- The text of a thing. -/
def mkT (kind : List UInt8) (d : List UInt8) (name : List UInt8) : List UInt8 :=
  kind ++ [58, 115, 104, 97, 50, 53, 54, 58] ++ Nam.hexL d ++ [58, 47, 115, 116, 97, 100, 100, 108, 101, 58] ++ name

set_option maxRecDepth 100000 in
set_option maxHeartbeats 8000000 in
theorem rmake_yes (kind name : ByteArray) (d : List UInt8) (w : World) (hk : kind.size ≤ 2000) (hd : d.length = 32) (hn : name.size ≤ 40) :
    Calls Tryz.prog 28 #[.string kind, .agg (d.map Nam.bv).toArray, .string name] w fun e w' => e = .returned (.string (Nam.pathB (fd (mkT kind.data.toList d name.data.toList)) name)) ∧ Below w.heap.size w w' := by
  obtain ⟨C, hC⟩ : ∃ C, C = (d.map Nam.bv).toArray := ⟨_, rfl⟩
  rw [← hC]
  have hxl : (Nam.hexL d).length = 64 := by rw [Nam.hexL_length, hd]
  have hA : ¬ 9223372036854775807 < kind.size + 8 := by omega
  have hB : ¬ 9223372036854775807 < kind.size + 8 + (Nam.hexL d).length := by omega
  have hC2 : ¬ 9223372036854775807 < kind.size + 8 + (Nam.hexL d).length + 10 := by omega
  have hD : ¬ 9223372036854775807 < kind.size + 8 + (Nam.hexL d).length + 10 + name.size := by omega
  have HC := Lib.hid hC
  clear hC
  go_enter Tryz.func28, Tryz.ntmps28
  go_wp2_with fail
  have x1 : Has (w.alloc (.cells C 30)) w.heap.size (d.map Nam.bv) 30 := by rw [HC.out]; exact Has.new w _ _
  have b1 : Below w.heap.size w (w.alloc (.cells C 30)) := (Below.refl _ _).alloc (Nat.le_refl _) _
  have I1 := Nam.Has.isB x1 (by omega)
  rw [hd] at I1
  refine (Nam.rhex_b _ _ _ d _ I1 (by omega)).mono ?_
  rintro e w2 ⟨rfl, b2⟩
  have b3 : Below w.heap.size w w2 := b1.trans (b2.mono b1.size)
  clear x1 b1 b2 I1
  have hcv : ∀ (S : ByteArray) (W : World), (convert 9 45 (.string S)).run Tryz.prog W = .ok (.slice (some ⟨W.heap.size, 0, none⟩) S.size (grownCap W S.size 0 5)) (Lib.bytesWorld W 5 S) := fun S W =>
    Lib.run_convert_string_bytes W _ _ _ S Tryz.underlying9 Tryz.underlying45 Tryz.underlying5
  obtain ⟨X, hX⟩ : ∃ X : ByteArray, X = kind ++ ⟨#[58, 115, 104, 97, 50, 53, 54, 58]⟩ ++ ⟨(Nam.hexL d).toArray⟩ ++ ⟨#[58, 47, 115, 116, 97, 100, 100, 108, 101, 58]⟩ ++ name := ⟨_, rfl⟩
  have hXl : X.data.toList = mkT kind.data.toList d name.data.toList := by rw [hX]; simp [mkT, ByteArray.data_append]
  have hXs : X.size ≤ 3000 := by
    have : X.data.toList.length = X.size := by simp
    rw [← this, hXl]
    simp [mkT, hxl]
    omega
  have HX := Lib.hid hX
  have HXL := Lib.hid hXl
  clear hX hXl
  go_upto_region 2 with fail
  rw [← HX.out]
  clear hA hB hC2 hD hxl
  go_wp2_with fail
  refine (rsum_n _ _ _ (nats X.data.toList) _ (conv_isN w2 X (by unfold maxLen; omega)) (by omega)).mono ?_
  rintro e w3 ⟨rfl, b4⟩
  have b5 := conv_below w2 X b3 b3.size
  have b6 : Below w.heap.size w w3 := b5.trans (b4.mono b5.size)
  have B6 := Lib.hid b6
  clear b3 b4 b5 b6 hcv
  go_wp2_with fail
  refine (rfold_any (dig (nats X.data.toList)) w3 (dig_length _) (dig_lt _)).mono ?_
  rintro e w4 ⟨rfl, b7⟩
  have B7 := Lib.hid (B6.out.trans (b7.mono B6.out.size))
  clear b7
  rw [← fold_same, fd_cells]
  go_wp2_with fail
  refine (Nam.rpath_yes (fd X.data.toList) name w4 (fd_length _) hn).mono ?_
  rintro e w5 ⟨rfl, b8⟩
  rw [HXL.out]
  have B8 := Lib.hid (B7.out.trans (b8.mono B7.out.size))
  clear b8
  go_wp2_with fail
  go_ret
  exact ⟨rfl, B8.out⟩

theorem join_mkT (kind name d : List UInt8) : Lib.join [kind, [115, 104, 97, 50, 53, 54], Nam.hexL d, [47, 115, 116, 97, 100, 100, 108, 101], name] [58] = mkT kind d name := by
  simp [Lib.join, List.intercalate, List.intersperse, mkT]

/-- What Make answers. -/
def makeV (kind name : ByteArray) (d : List UInt8) : Value :=
  if isName' name = true then .tuple #[.string (Nam.pathB (fd (mkT kind.data.toList d name.data.toList)) name), .int .i64 0] else .tuple #[.string ⟨#[]⟩, .int .i64 4]

set_option maxRecDepth 100000 in
set_option maxHeartbeats 8000000 in
theorem nmake_any (kind name : ByteArray) (d : List UInt8) (w : World) (hl : LaidW w) (hk : kind.size ≤ 2000) (hd : d.length = 32) (hn : name.size ≤ 140737488351232) :
    Calls Tryz.prog 18 #[.string kind, .agg (d.map Nam.bv).toArray, .string name] w fun e w' => e = .returned (makeV kind name d) ∧ Below w.heap.size w w' := by
  obtain ⟨C, hC⟩ : ∃ C, C = (d.map Nam.bv).toArray := ⟨_, rfl⟩
  obtain ⟨V, hV⟩ : ∃ V, V = makeV kind name d := ⟨_, rfl⟩
  rw [← hC, ← hV]
  have hxl : (Nam.hexL d).length = 64 := by rw [Nam.hexL_length, hd]
  have HC := Lib.hid hC
  have HV := Lib.hid hV
  have HL := Lib.hid hl
  have hcv : ∀ (S : ByteArray) (W : World), (convert 9 45 (.string S)).run Tryz.prog W = .ok (.slice (some ⟨W.heap.size, 0, none⟩) S.size (grownCap W S.size 0 5)) (Lib.bytesWorld W 5 S) := fun S W =>
    Lib.run_convert_string_bytes W _ _ _ S Tryz.underlying9 Tryz.underlying45 Tryz.underlying5
  have HCV := Lib.hid hcv
  clear hC hl hcv hV
  go_enter Tryz.func18, Tryz.ntmps18
  go_wp2_with fail
  have x1 : Has (w.alloc (.cells C 30)) w.heap.size (d.map Nam.bv) 30 := by rw [HC.out]; exact Has.new w _ _
  have b1 : Below w.heap.size w (w.alloc (.cells C 30)) := (Below.refl _ _).alloc (Nat.le_refl _) _
  have I1 := Nam.Has.isB x1 (by omega)
  rw [hd] at I1
  refine (Nam.hex_b _ _ _ d _ I1 (by omega)).mono ?_
  rintro e w2 ⟨rfl, b2⟩
  have b3 : Below w.heap.size w w2 := b1.trans (b2.mono b1.size)
  have B3 := Lib.hid b3
  clear x1 b1 b2 I1 b3
  go_wp2_with fail
  obtain ⟨w3, hw3⟩ : ∃ w3, w3 = w2.alloc (.cells #[.string kind, .string ⟨#[115, 104, 97, 50, 53, 54]⟩, .string ⟨(Nam.hexL d).toArray⟩, .string ⟨#[47, 115, 116, 97, 100, 100, 108, 101]⟩, .string name] 9) := ⟨_, rfl⟩
  have x3 : Has w3 w2.heap.size [.string kind, .string ⟨#[115, 104, 97, 50, 53, 54]⟩, .string ⟨(Nam.hexL d).toArray⟩, .string ⟨#[47, 115, 116, 97, 100, 100, 108, 101]⟩, .string name] 9 := by rw [hw3]; exact Has.new w2 _ _
  have b3 : Below w.heap.size w w3 := by rw [hw3]; exact B3.out.alloc B3.out.size _
  rw [← hw3]
  obtain ⟨g, hg⟩ : ∃ g, g = w2.heap.size := ⟨_, rfl⟩
  rw [← hg] at x3 ⊢
  have hnl : name.data.toList.length = name.size := by simp
  have hkl : kind.data.toList.length = kind.size := by simp
  have hj : Lib.join ([kind, ⟨#[115, 104, 97, 50, 53, 54]⟩, ⟨(Nam.hexL d).toArray⟩, ⟨#[47, 115, 116, 97, 100, 100, 108, 101]⟩, name].map (fun s : ByteArray => s.data.toList)) (⟨#[58]⟩ : ByteArray).data.toList = mkT kind.data.toList d name.data.toList := by
    simp only [List.map_cons, List.map_nil]
    exact join_mkT _ _ _
  have hml : (mkT kind.data.toList d name.data.toList).length ≤ 140737488355328 := by
    simp only [mkT, List.length_append, List.length_cons, List.length_nil, hxl, hnl, hkl]
    omega
  refine (Tryz.strings_Join g 0 5 [kind, ⟨#[115, 104, 97, 50, 53, 54]⟩, ⟨(Nam.hexL d).toArray⟩, ⟨#[47, 115, 116, 97, 100, 100, 108, 101]⟩, name] ⟨#[58]⟩ w3 (fun j x hx => ?_) x3.lt (by simp) (by simp) (by rw [hj]; exact hml)).mono ?_
  · rw [Nat.zero_add]
    refine x3.cellAt ?_
    match j, hx with
    | 0, hx | 1, hx | 2, hx | 3, hx | 4, hx => cases hx; rfl
    | j + 5, hx => simp at hx
  rintro e w4 ⟨rfl, b4⟩
  rw [hj]
  have B4 := Lib.hid (b3.trans (b4.mono b3.size))
  obtain ⟨X, hX⟩ : ∃ X : ByteArray, X = ⟨(mkT kind.data.toList d name.data.toList).toArray⟩ := ⟨_, rfl⟩
  rw [← hX]
  have hXl : X.data.toList = mkT kind.data.toList d name.data.toList := by rw [hX]
  have hXs : X.size ≤ 140737488355328 := by
    have h : X.data.toList.length = X.size := by simp
    rw [← h, hXl]; exact hml
  have HXL := Lib.hid hXl
  have hcv := HCV.out
  clear x3 b3 b4 hw3 hg hj hml hX hXl HCV hxl
  go_wp2_with fail
  have hl5 : LaidW (Lib.bytesWorld w4 5 X) := HL.out.below (conv_below w4 X B4.out B4.out.size) HL.out.two
  refine (of_n _ _ _ (nats X.data.toList) _ (conv_isN w4 X (by unfold maxLen; omega)) (by omega) hl5).mono ?_
  rintro e w5 ⟨rfl, b5⟩
  have b6 := conv_below w4 X B4.out B4.out.size
  have B6 := Lib.hid (b6.trans (b5.mono b6.size))
  clear b5 b6 hl5 hcv
  go_wp2_with fail
  refine (fold_any (dig (nats X.data.toList)) w5 (dig_length _) (dig_lt _)).mono ?_
  rintro e w6 ⟨rfl, b7⟩
  have B7 := Lib.hid (B6.out.trans (b7.mono B6.out.size))
  clear b7
  rw [fd_cells]
  go_wp2_with fail
  cases hin : Nam.isName name.data.toList
  · refine (Nam.path_no (fd X.data.toList) name w6 hin).mono ?_
    rintro e w7 ⟨rfl, b8⟩
    have B8 := Lib.hid (B7.out.trans (b8.mono B7.out.size))
    have HVV : Hid (V = .tuple #[.string ⟨#[]⟩, .int .i64 4]) := Lib.hid (by rw [HV.out]; unfold makeV isName'; rw [if_neg (by rw [hin]; decide)])
    clear b8 hin
    go_wp2_with fail
    go_ret2
    exact ⟨by rw [HVV.out]; rfl, B8.out⟩
  · refine (Nam.path_yes (fd X.data.toList) name w6 (fd_length _) hin).mono ?_
    rintro e w7 ⟨rfl, b8⟩
    rw [HXL.out]
    have B8 := Lib.hid (B7.out.trans (b8.mono B7.out.size))
    have HVV : Hid (V = .tuple #[.string (Nam.pathB (fd (mkT kind.data.toList d name.data.toList)) name), .int .i64 0]) := Lib.hid (by rw [HV.out]; unfold makeV isName'; rw [if_pos hin])
    clear b8 hin
    go_wp2_with fail
    go_ret2
    exact ⟨by rw [HVV.out]; rfl, B8.out⟩

end Go.Proofs.YtokbakpbhpknfaaGreatDoor

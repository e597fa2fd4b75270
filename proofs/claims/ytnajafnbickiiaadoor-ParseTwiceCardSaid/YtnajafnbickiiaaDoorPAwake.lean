/-
  The law's awake: the document's two examples. Conditions: the listed variables lie as the text lays them.
-/
import Derived.Test.YtnajafnbickiiaaDoorPParse
namespace Go.Proofs.YtnajafnbickiiaaDoor
open Go.RowKit
set_option linter.unusedVariables false

theorem IsXS.heads {w : World} {S : Nat → Prop} {cs : List Value} {x : Ex} (h : IsXS w S cs x) :
    cs[0]? = some (.int .u8 (x.kind : Int)) ∧ cs[1]? = some (.int .i64 (x.num : Int)) ∧ cs[2]? = some (.string ⟨x.text.toArray⟩) ∧ cs[7]? = some (.int .i64 (x.at_ : Int)) := by
  cases h <;> exact ⟨rfl, rfl, rfl, rfl⟩
theorem IsXS.kids {w : World} {S : Nat → Prop} {cs : List Value} {x : Ex} (h : IsXS w S cs x) (hk : x.kids ≠ []) :
    ∃ g cap, cs[6]? = some (.slice (some ⟨g, 0, none⟩) x.kids.length cap) ∧ S g ∧ g < w.heap.size ∧ ∀ i z, x.kids[i]? = some z → ∃ C : List Value, w.rangeAt g (i * 8) C ∧ IsXS w S C z := by
  cases h with
  | leaf => exact absurd rfl hk
  | node k n t a g cap kids C h0 hb hg hc hC hX =>
    exact ⟨g, cap, rfl, hb, hg, fun i z hz => ⟨C i, (hC i (List.getElem?_eq_some_iff.1 hz).1).2, hX i z hz⟩⟩

def tA : List Tk := [⟨1, [97], 0⟩, ⟨4, [46], 1⟩, ⟨1, [98], 2⟩, ⟨2, [111, 114], 4⟩, ⟨1, [99], 7⟩, ⟨1, [100], 9⟩, ⟨0, [], 10⟩]
def xA : Ex := .mk 8 0 [] [.mk 7 0 [98] [.mk 3 0 [97] [] 0, .mk 3 0 [99] [] 7] 1, .mk 3 0 [100] [] 9] 9
theorem lexA1 : lexTop [97, 46, 98, 32, 111, 114, 32, 99, 32, 100] = .ok tA := by kernel_rfl
theorem goodA : goodB tA = true := by kernel_rfl
theorem pgA : pg 400 .expr 0 tA = .ok xA [⟨0, [], 10⟩] := by kernel_rfl
def tB : List Tk := [⟨3, [49], 0⟩, ⟨4, [45], 2⟩, ⟨3, [50], 4⟩, ⟨4, [45], 6⟩, ⟨3, [51], 8⟩, ⟨0, [], 9⟩]
def xB : Ex := .mk 15 0 [45] [.mk 15 0 [45] [.mk 1 1 [] [] 0, .mk 1 2 [] [] 4] 2, .mk 1 3 [] [] 8] 6
theorem lexB1 : lexTop [49, 32, 45, 32, 50, 32, 45, 32, 51] = .ok tB := by kernel_rfl
theorem goodB1 : goodB tB = true := by kernel_rfl
theorem pgB : pg 400 .expr 0 tB = .ok xB [⟨0, [], 9⟩] := by kernel_rfl

set_option maxRecDepth 100000 in
set_option maxHeartbeats 4000000 in
theorem awake_any (w : World) (hl : LaidL w) (hlp : LaidP w) : Calls Tryd.prog 6 #[] w fun e w' => e = .returned (.bool true) ∧ Below w.heap.size w w' := by
  have HT := Lib.hid (parse_good ⟨#[97, 46, 98, 32, 111, 114, 32, 99, 32, 100]⟩ hl hlp 400 tA xA _ _ lexA1 goodA pgA rfl)
  have HL := Lib.hid hl
  have HLP := Lib.hid hlp
  clear hl hlp
  go_enter Tryd.func6, Tryd.ntmps6
  go_wp2_with fail
  refine HT.out.mono ?_
  rintro e w1 ⟨cs, rfl, ix, hb⟩
  have L1 := Lib.hid (HL.out.below hb HL.out.size)
  have LP1 := Lib.hid (HLP.out.below hb HLP.out.lt)
  have B1 := Lib.hid hb
  obtain ⟨E, hE⟩ : ∃ E, E = cs.toArray := ⟨_, rfl⟩
  rw [← hE]
  have HE := Lib.hid hE
  have HEI : Hid ((Tryd.prog.info? 28).map (·.size) = some E.size) := Lib.hid (by rw [hE, List.size_toArray, ix.len]; exact info_ex)
  have HEO : Hid (E.all (·.oneCell') = true) := Lib.hid (by rw [hE]; exact ix.one)
  have HES : Hid (exZ.toArray.size = E.size) := Lib.hid (by rw [hE, List.size_toArray, List.size_toArray, ix.len]; rfl)
  have NW : Hid (Has (w1.alloc (.cells #[.int .u8 0, .int .i64 0, .string ⟨#[]⟩, .slice none 0 0, .slice none 0 0, .bool false, .slice none 0 0, .int .i64 0] 28)) w1.heap.size exZ 28) := Lib.hid (Has.new w1 exZ _)
  have IX := Lib.hid ix
  clear ix hb hE HT HL HLP
  go_upto_region 2 with (refine wpList_store_row rfl 28 _ _ rfl w1.heap.size E rfl rfl 28 _ NW.out HEI.out HES.out HEO.out ?_)
  obtain ⟨X, hX⟩ : ∃ X, X = w1.heap.size := ⟨_, rfl⟩
  obtain ⟨w2, hw2⟩ : ∃ y, y = (w1.alloc (.cells #[.int .u8 0, .int .i64 0, .string ⟨#[]⟩, .slice none 0 0, .slice none 0 0, .bool false, .slice none 0 0, .int .i64 0] 28)).setRow w1.heap.size E := ⟨_, rfl⟩
  rw [← hw2, ← hX]
  have X2 : Hid (Has w2 X cs 28) := Lib.hid (by rw [hw2, hX, HE.out]; exact NW.out.row _)
  have D2 : Hid (Below X w1 w2) := Lib.hid (by rw [hw2, hX]; exact below_setRow ((Below.refl _ _).alloc (Nat.le_refl _) _) (Nat.le_refl _) _)
  have I2 : Hid (IsXS w2 (fun k => k ≤ k) cs xA) := Lib.hid (IsXS.mono (IX.out.keep D2.out.size fun k h1 h2 => D2.out.block k (by rw [hX]; exact h2)) fun k _ _ => Nat.le_refl _)
  have L2 := Lib.hid (L1.out.below D2.out (by rw [hX]; exact L1.out.size))
  have LP2 := Lib.hid (LP1.out.below D2.out (by rw [hX]; exact LP1.out.lt))
  have B2 : Hid (Below w.heap.size w w2) := Lib.hid (B1.out.trans (D2.out.mono (by rw [hX]; exact B1.out.size)))
  clear hX hw2 NW D2 IX L1 LP1 B1 HE HEI HEO HES
  have HT := Lib.hid (parse_good ⟨#[49, 32, 45, 32, 50, 32, 45, 32, 51]⟩ L2.out LP2.out 400 tB xB _ _ lexB1 goodB1 pgB rfl)
  go_wp2_with fail
  refine HT.out.mono ?_
  rintro e w3 ⟨ds, rfl, ix, hb⟩
  have X3 := Lib.hid (X2.out.below hb X2.out.lt)
  have I3 : Hid (IsXS w3 (fun k => k ≤ k) cs xA) := Lib.hid (I2.out.keep hb.size fun k _ h2 => hb.block k h2)
  have B3 : Hid (Below w.heap.size w w3) := Lib.hid (B2.out.trans (hb.mono B2.out.size))
  obtain ⟨E, hE⟩ : ∃ E, E = ds.toArray := ⟨_, rfl⟩
  rw [← hE]
  have HE := Lib.hid hE
  have HEI : Hid ((Tryd.prog.info? 28).map (·.size) = some E.size) := Lib.hid (by rw [hE, List.size_toArray, ix.len]; exact info_ex)
  have HEO : Hid (E.all (·.oneCell') = true) := Lib.hid (by rw [hE]; exact ix.one)
  have HES : Hid (exZ.toArray.size = E.size) := Lib.hid (by rw [hE, List.size_toArray, List.size_toArray, ix.len]; rfl)
  have NW : Hid (Has (w3.alloc (.cells #[.int .u8 0, .int .i64 0, .string ⟨#[]⟩, .slice none 0 0, .slice none 0 0, .bool false, .slice none 0 0, .int .i64 0] 28)) w3.heap.size exZ 28) := Lib.hid (Has.new w3 exZ _)
  have IX := Lib.hid ix
  clear ix hb hE HT X2 I2 B2 L2 LP2
  go_upto_region 3 with (refine wpList_store_row rfl 28 _ _ rfl w3.heap.size E rfl rfl 28 _ NW.out HEI.out HES.out HEO.out ?_)
  obtain ⟨Y, hX⟩ : ∃ X, X = w3.heap.size := ⟨_, rfl⟩
  obtain ⟨w4, hw2⟩ : ∃ y, y = (w3.alloc (.cells #[.int .u8 0, .int .i64 0, .string ⟨#[]⟩, .slice none 0 0, .slice none 0 0, .bool false, .slice none 0 0, .int .i64 0] 28)).setRow w3.heap.size E := ⟨_, rfl⟩
  rw [← hw2, ← hX]
  have Y4 : Hid (Has w4 Y ds 28) := Lib.hid (by rw [hw2, hX, HE.out]; exact NW.out.row _)
  have D4 : Hid (Below Y w3 w4) := Lib.hid (by rw [hw2, hX]; exact below_setRow ((Below.refl _ _).alloc (Nat.le_refl _) _) (Nat.le_refl _) _)
  have X4 := Lib.hid (X3.out.below D4.out (by rw [hX]; exact X3.out.lt))
  have J4 : IsXS w4 (fun k => k ≤ k) ds xB := IsXS.mono (IX.out.keep D4.out.size fun k h1 h2 => D4.out.block k (by rw [hX]; exact h2)) fun k _ _ => Nat.le_refl _
  have I4 : IsXS w4 (fun k => k ≤ k) cs xA := I3.out.keep D4.out.size fun k h1 h2 => D4.out.block k (by rw [hX]; exact h2)
  have B4 : Hid (Below w.heap.size w w4) := Lib.hid (B3.out.trans (D4.out.mono (by rw [hX]; exact B3.out.size)))
  clear hX hw2 NW D4 IX X3 I3 B3 HE HEI HEO HES
  obtain ⟨g1, c1, s1, _, _, k1⟩ := I4.kids (by decide)
  obtain ⟨C1, r1, i1⟩ := k1 0 _ rfl
  obtain ⟨g2, c2, s2, _, _, _⟩ := i1.kids (by decide)
  obtain ⟨g3, c3, s3, _, _, k3⟩ := J4.kids (by decide)
  obtain ⟨C3, r3, i3⟩ := k3 0 _ rfl
  obtain ⟨C4, r4, i4⟩ := k3 1 _ rfl
  have a1 : w4.cell? ⟨X, 0, none⟩ = some (.int .u8 8) := X4.out.cellAt (i := 0) I4.heads.1
  have a2 : w4.cell? ⟨X, 6, none⟩ = some (.slice (some ⟨g1, 0, none⟩) 2 c1) := X4.out.cellAt (i := 6) s1
  have a3 : w4.cell? ⟨g1, 0, none⟩ = some (.int .u8 7) := r1 0 _ i1.heads.1
  have a4 : w4.cell? ⟨g1, 6, none⟩ = some (.slice (some ⟨g2, 0, none⟩) 2 c2) := r1 6 _ s2
  have a5 : w4.cell? ⟨Y, 6, none⟩ = some (.slice (some ⟨g3, 0, none⟩) 2 c3) := Y4.out.cellAt (i := 6) s3
  have a6 : w4.cell? ⟨g3, 0, none⟩ = some (.int .u8 15) := r3 0 _ i3.heads.1
  have a7 : w4.cell? ⟨g3, 9, none⟩ = some (.int .i64 3) := r4 1 _ i4.heads.2.1
  clear I4 J4 s1 s2 s3 k1 k3 r1 r3 r4 i1 i3 i4 X4 Y4
  go_wp2_with fail
  go_ret
  exact ⟨rfl, B4.out⟩
end Go.Proofs.YtnajafnbickiiaaDoor

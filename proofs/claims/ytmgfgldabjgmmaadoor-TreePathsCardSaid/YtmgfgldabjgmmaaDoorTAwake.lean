/-
  The contract of awake: the document's example holds. Condition: a global's kind.
-/
import Derived.Test.YtmgfgldabjgmmaaDoorTPaths
import Derived.Test.YtmgfgldabjgmmaaDoorTAt
import Derived.Laws.CopyOwn
namespace Go.Proofs.YtmgfgldabjgmmaaDoor
open Go.RowKit
set_option linter.unusedVariables false

def fileT : T := .mk 1 false [] [] []
def dirB : T := .mk 3 false [] [⟨#[98]⟩] [fileT]
def rootT : T := .mk 3 false [] [⟨#[97]⟩, ⟨#[99]⟩] [dirB, fileT]

theorem le_lit (a b : List UInt8) : leS ⟨a.toArray⟩ ⟨b.toArray⟩ = (Op.bytesLess a b || a == b) := by
  unfold leS; rw [ByteArray.toList_eq, ByteArray.toList_eq]

theorem form_file : formedT fileT = true := by rw [fileT, formedT_other (by decide)]; rfl
theorem form_b : formedT dirB = true := by
  rw [dirB, formedT_dir]
  have : risingT [⟨#[98]⟩] = true := risingT_good (fun i hi => by
    match i, hi with
    | 0, _ => exact ⟨by decide, fun h => by omega⟩)
  rw [this]; rfl
theorem form_root : formedT rootT = true := by
  rw [rootT, formedT_dir]
  have : risingT [⟨#[97]⟩, ⟨#[99]⟩] = true := risingT_good (fun i hi => by
    match i, hi with
    | 0, _ => exact ⟨by decide, fun h => by omega⟩
    | 1, _ => exact ⟨by decide, fun _ => by
        show leS ⟨[99].toArray⟩ ⟨[97].toArray⟩ = false
        rw [le_lit]; decide⟩)
  rw [this]; rfl

theorem size_root : sizeT rootT = some (4, 0) := by
  have h1 : takeT fileT 2 2 0 = some (3, 0) := by
    have := form_file
    rw [fileT] at this ⊢
    rw [takeT_mk, this]; simp [takeL]
  have h2 : takeT fileT 1 3 0 = some (4, 0) := by
    have := form_file
    rw [fileT] at this ⊢
    rw [takeT_mk, this]; simp [takeL]
  have h3 : takeT dirB 1 1 0 = some (3, 0) := by
    have := form_b
    rw [dirB] at this ⊢
    rw [takeT_mk, this]; simp [takeL, h1]
  have h4 := form_root
  unfold sizeT
  rw [rootT] at h4 ⊢
  rw [takeT_mk, h4]; simp [takeL, h2, h3]

theorem paths_root : pathsT rootT ⟨#[]⟩ = [⟨#[97]⟩, ⟨#[97, 47, 98]⟩, ⟨#[99]⟩] := by
  have e1 : (⟨#[]⟩ ++ ⟨#[97]⟩ : ByteArray) = ⟨#[97]⟩ := bytes_ext rfl
  have e2 : (⟨#[97]⟩ ++ ⟨#[47]⟩ : ByteArray) = ⟨#[97, 47]⟩ := bytes_ext rfl
  have e3 : (⟨#[97, 47]⟩ ++ ⟨#[98]⟩ : ByteArray) = ⟨#[97, 47, 98]⟩ := bytes_ext rfl
  have e4 : (⟨#[]⟩ ++ ⟨#[99]⟩ : ByteArray) = ⟨#[99]⟩ := bytes_ext rfl
  simp [rootT, dirB, fileT, pathsT, pathsL, e1, e2, e3, e4]

theorem split_cd : splitT [99, 47, 100] = ([[99], [100]], 0) := by decide

theorem find_cd (l : List ByteArray) (h : l.map (·.data.toList) = [[99], [100]]) : findT l rootT = .inl 8 := by
  match l, h with
  | [a, b], h =>
    simp only [List.map_cons, List.map_nil, List.cons.injEq, and_true] at h
    have ha : a = ⟨#[99]⟩ := bytes_ext h.1
    have hb : b = ⟨#[100]⟩ := bytes_ext h.2
    subst ha hb
    have hi : Lib.idxOfS [⟨#[97]⟩, ⟨#[99]⟩] ⟨#[99]⟩ = 1 := by decide
    rw [rootT, findT, hi]
    simp [fileT, findT]
  | [], h => simp at h
  | [a], h => simp at h
  | a :: b :: c :: t, h => simp at h

theorem isB_none (w : World) : IsB w none 0 0 [] := ⟨rfl, .inl rfl, fun _ => ⟨rfl, rfl⟩, ⟨Nat.le_refl _, Nat.zero_le _⟩, Nat.zero_le _⟩
theorem isS_none (w : World) : IsS w none 0 0 [] := ⟨rfl, .inl rfl, fun _ => ⟨rfl, rfl⟩, ⟨Nat.le_refl _, Nat.zero_le _⟩⟩
theorem isK_none (R : List Value → T → Prop) (w : World) : IsK R w none 0 0 [] := ⟨rfl, .inl rfl, fun _ => ⟨rfl, rfl⟩, ⟨Nat.le_refl _, Nat.zero_le _⟩⟩
theorem isT_file (w : World) (n : Nat) : IsT w (n + 1) [.int .u8 1, .bool false, .slice none 0 0, .slice none 0 0, .slice none 0 0] fileT :=
  ⟨none, 0, 0, none, 0, 0, none, 0, 0, rfl, isB_none w, isS_none w, isK_none _ w⟩

set_option maxRecDepth 100000 in
set_option maxHeartbeats 20000000 in
theorem awake_any (w : World) (hm : MaxW w) (hmx : 0 < w.heap.size) :
    Calls Tryd.prog 11 #[] w fun e w' => e = .returned (.bool true) ∧ Below w.heap.size w w' := by
  have HM := Lib.hid hm
  clear hm
  go_enter Tryd.func11, Tryd.ntmps11
  go_upto_region 2 with fail
  obtain ⟨A, hA⟩ : ∃ A, A = w.heap.size := ⟨_, rfl⟩
  rw [← hA]
  obtain ⟨w1, hw1⟩ : ∃ w1, w1 = w.alloc (.cells #[.string ⟨#[97]⟩, .string ⟨#[99]⟩] 9) := ⟨_, rfl⟩
  rw [← hw1]
  have e1 : w1.heap.size = A + 1 := by rw [hw1, hA]; simp
  have x1 : Has w1 A [.string ⟨#[97]⟩, .string ⟨#[99]⟩] 9 := by rw [hw1, hA]; exact Has.new w _ _
  have b1 : Below w.heap.size w w1 := by rw [hw1]; exact (Below.refl _ _).alloc (Nat.le_refl _) _
  obtain ⟨w2, hw2⟩ : ∃ w2, w2 = w1.alloc (.cells #[.string ⟨#[98]⟩] 9) := ⟨_, rfl⟩
  rw [← hw2]
  have e2 : w2.heap.size = A + 1 + 1 := by rw [hw2, ← e1]; simp
  have y2 : Has w2 (A + 1) [.string ⟨#[98]⟩] 9 := by rw [hw2, ← e1]; exact Has.new w1 _ _
  have x2 : Has w2 A [.string ⟨#[97]⟩, .string ⟨#[99]⟩] 9 := by rw [hw2]; exact x1.alloc _
  have b2 : Below w.heap.size w w2 := by rw [hw2]; exact b1.alloc b1.size _
  obtain ⟨w3, hw3⟩ : ∃ w3, w3 = w2.alloc (.cells #[.int .u8 1, .bool false, .slice none 0 0, .slice none 0 0, .slice none 0 0] 26) := ⟨_, rfl⟩
  rw [← hw3]
  have e3 : w3.heap.size = A + 1 + 1 + 1 := by rw [hw3, ← e2]; simp
  have z3 : Has w3 (A + 1 + 1) [.int .u8 1, .bool false, .slice none 0 0, .slice none 0 0, .slice none 0 0] 26 := by rw [hw3, ← e2]; exact Has.new w2 _ _
  have y3 : Has w3 (A + 1) [.string ⟨#[98]⟩] 9 := by rw [hw3]; exact y2.alloc _
  have x3 : Has w3 A [.string ⟨#[97]⟩, .string ⟨#[99]⟩] 9 := by rw [hw3]; exact x2.alloc _
  have b3 : Below w.heap.size w w3 := by rw [hw3]; exact b2.alloc b2.size _
  obtain ⟨w4, hw4⟩ : ∃ w4, w4 = w3.alloc (.cells #[.int .u8 3, .bool false, .slice none 0 0, .slice (some ⟨A + 1, 0, none⟩) 1 1, .slice (some ⟨A + 1 + 1, 0, none⟩) 1 1, .int .u8 1, .bool false, .slice none 0 0, .slice none 0 0, .slice none 0 0] 26) := ⟨_, rfl⟩
  rw [← hw4]
  have e4 : w4.heap.size = A + 1 + 1 + 1 + 1 := by rw [hw4, ← e3]; simp
  have v4 : Has w4 (A + 1 + 1 + 1) [.int .u8 3, .bool false, .slice none 0 0, .slice (some ⟨A + 1, 0, none⟩) 1 1, .slice (some ⟨A + 1 + 1, 0, none⟩) 1 1, .int .u8 1, .bool false, .slice none 0 0, .slice none 0 0, .slice none 0 0] 26 := by rw [hw4, ← e3]; exact Has.new w3 _ _
  have z4 : Has w4 (A + 1 + 1) [.int .u8 1, .bool false, .slice none 0 0, .slice none 0 0, .slice none 0 0] 26 := by rw [hw4]; exact z3.alloc _
  have y4 : Has w4 (A + 1) [.string ⟨#[98]⟩] 9 := by rw [hw4]; exact y3.alloc _
  have x4 : Has w4 A [.string ⟨#[97]⟩, .string ⟨#[99]⟩] 9 := by rw [hw4]; exact x3.alloc _
  have b4 : Below w.heap.size w w4 := by rw [hw4]; exact b3.alloc b3.size _
  obtain ⟨w5, hw5⟩ : ∃ w5, w5 = w4.alloc (.cells #[.int .u8 3, .bool false, .slice none 0 0, .slice (some ⟨A, 0, none⟩) 2 2, .slice (some ⟨A + 1 + 1 + 1, 0, none⟩) 2 2] 26) := ⟨_, rfl⟩
  rw [← hw5]
  have u5 : Has w5 (A + 1 + 1 + 1 + 1) [.int .u8 3, .bool false, .slice none 0 0, .slice (some ⟨A, 0, none⟩) 2 2, .slice (some ⟨A + 1 + 1 + 1, 0, none⟩) 2 2] 26 := by rw [hw5, ← e4]; exact Has.new w4 _ _
  have v5 : Has w5 (A + 1 + 1 + 1) [.int .u8 3, .bool false, .slice none 0 0, .slice (some ⟨A + 1, 0, none⟩) 1 1, .slice (some ⟨A + 1 + 1, 0, none⟩) 1 1, .int .u8 1, .bool false, .slice none 0 0, .slice none 0 0, .slice none 0 0] 26 := by rw [hw5]; exact v4.alloc _
  have z5 : Has w5 (A + 1 + 1) [.int .u8 1, .bool false, .slice none 0 0, .slice none 0 0, .slice none 0 0] 26 := by rw [hw5]; exact z4.alloc _
  have y5 : Has w5 (A + 1) [.string ⟨#[98]⟩] 9 := by rw [hw5]; exact y4.alloc _
  have x5 : Has w5 A [.string ⟨#[97]⟩, .string ⟨#[99]⟩] 9 := by rw [hw5]; exact x4.alloc _
  have b5 : Below w.heap.size w w5 := by rw [hw5]; exact b4.alloc b4.size _
  have ml : (1 : Nat) ≤ maxLen ∧ 2 ≤ maxLen := by unfold maxLen; omega
  have kB : IsK (IsT w5 1) w5 (some ⟨A + 1 + 1, 0, none⟩) 1 1 [fileT] := ⟨rfl, .inr ⟨_, _, rfl, z5.lt, fun i hi => by
    match i, hi with
    | 0, _ => exact ⟨_, _, _, _, _, isT_file w5 0, z5.cellAt (i := 0) rfl, z5.cellAt (i := 1) rfl, z5.cellAt (i := 2) rfl, z5.cellAt (i := 3) rfl, z5.cellAt (i := 4) rfl⟩⟩, (fun h => by cases h), ⟨Nat.le_refl _, ml.1⟩⟩
  have sB : IsS w5 (some ⟨A + 1, 0, none⟩) 1 1 [⟨#[98]⟩] := ⟨rfl, .inr ⟨_, _, rfl, y5.lt, fun i hi => by
    match i, hi with
    | 0, _ => exact y5.cellAt (i := 0) rfl⟩, (fun h => by cases h), ⟨Nat.le_refl _, ml.1⟩⟩
  have tB : IsT w5 2 [.int .u8 3, .bool false, .slice none 0 0, .slice (some ⟨A + 1, 0, none⟩) 1 1, .slice (some ⟨A + 1 + 1, 0, none⟩) 1 1] dirB := ⟨_, _, _, _, _, _, _, _, _, rfl, isB_none w5, sB, kB⟩
  have sR : IsS w5 (some ⟨A, 0, none⟩) 2 2 [⟨#[97]⟩, ⟨#[99]⟩] := ⟨rfl, .inr ⟨_, _, rfl, x5.lt, fun i hi => by
    match i, hi with
    | 0, _ => exact x5.cellAt (i := 0) rfl
    | 1, _ => exact x5.cellAt (i := 1) rfl⟩, (fun h => by cases h), ⟨Nat.le_refl _, ml.2⟩⟩
  have kR : IsK (IsT w5 2) w5 (some ⟨A + 1 + 1 + 1, 0, none⟩) 2 2 [dirB, fileT] := ⟨rfl, .inr ⟨_, _, rfl, v5.lt, fun i hi => by
    match i, hi with
    | 0, _ => exact ⟨_, _, _, _, _, tB, v5.cellAt (i := 0) rfl, v5.cellAt (i := 1) rfl, v5.cellAt (i := 2) rfl, v5.cellAt (i := 3) rfl, v5.cellAt (i := 4) rfl⟩
    | 1, _ => exact ⟨_, _, _, _, _, isT_file w5 1, v5.cellAt (i := 5) rfl, v5.cellAt (i := 6) rfl, v5.cellAt (i := 7) rfl, v5.cellAt (i := 8) rfl, v5.cellAt (i := 9) rfl⟩⟩, (fun h => by cases h), ⟨Nat.le_refl _, ml.2⟩⟩
  have tR : IsT w5 3 [.int .u8 3, .bool false, .slice none 0 0, .slice (some ⟨A, 0, none⟩) 2 2, .slice (some ⟨A + 1 + 1 + 1, 0, none⟩) 2 2] rootT := ⟨_, _, _, _, _, _, _, _, _, rfl, isB_none w5, sR, kR⟩
  obtain ⟨RC, hRC⟩ : ∃ RC : List Value, RC = [.int .u8 3, .bool false, .slice none 0 0, .slice (some ⟨A, 0, none⟩) 2 2, .slice (some ⟨A + 1 + 1 + 1, 0, none⟩) 2 2] := ⟨_, rfl⟩
  rw [← hRC] at tR u5
  obtain ⟨P4, hP4⟩ : ∃ P4, P4 = A + 1 + 1 + 1 + 1 := ⟨_, rfl⟩
  rw [← hP4] at u5 ⊢
  have HT := Lib.hid tR
  have HU := Lib.hid (show w5.heap[P4]? = some (.cells RC.toArray 26 (0, 0)) from u5)
  have HB := Lib.hid b5
  have HI5 := Lib.hid (infoL (isT_five tR))
  have HKP := Lib.hid (paths_any 3 RC rootT w5 tR (4, 0) size_root)
  clear hA hw1 e1 x1 b1 hw2 e2 y2 x2 b2 hw3 e3 z3 y3 x3 b3 hw4 e4 v4 z4 y4 x4 b4 hw5 u5 v5 z5 y5 x5 b5 ml kB sB tB sR kR tR hRC hP4
  go_wp2_with (refine wpList_load_row rfl 26 _ rfl P4 rfl 26 RC.toArray (0, 0) _ HU.out Tryd.underlying26 rfl HI5.out ?_)
  refine HKP.out.mono ?_
  rintro e w6 ⟨v, rfl, o6, b6⟩
  rw [paths_root] at o6
  obtain ⟨a6, c6, rfl, i6, _⟩ := isS_of_owns o6
  have hU6 := (b6.block P4 (Array.getElem?_eq_some_iff.1 HU.out).1).trans HU.out
  have HU6 := Lib.hid hU6
  have HI6 := Lib.hid i6
  have HB6 := Lib.hid (HB.out.trans (b6.mono HB.out.size))
  have HKA := Lib.hid (at_err 3 RC rootT ⟨#[99, 47, 100]⟩ w6 (IsT.later b6 _ _ _ HT.out) (HM.out.below (HB.out.trans (b6.mono HB.out.size)) hmx) (Nat.lt_of_lt_of_le hmx (HB.out.trans (b6.mono HB.out.size)).size) (by show (splitT [99, 47, 100]).2 = 0; rw [split_cd]) 8 (fun l hl => find_cd l (by
    have : (splitT [99, 47, 100]).1 = [[99], [100]] := by rw [split_cd]
    rw [← this]; exact hl)))
  have HT6 := Lib.hid (IsT.later b6 _ _ _ HT.out)
  clear o6 i6 b6 hU6 HKP
  go_wp2_with (refine wpList_load_row rfl 26 _ rfl P4 rfl 26 RC.toArray (0, 0) _ HU6.out Tryd.underlying26 rfl HI5.out ?_)
  refine HKA.out.mono ?_
  rintro e w7 ⟨rfl, b7⟩
  have HU7 := Lib.hid ((b7.block P4 (Array.getElem?_eq_some_iff.1 HU6.out).1).trans HU6.out)
  have HI7 := Lib.hid (HI6.out.later b7)
  have HT7 := Lib.hid (IsT.later b7 _ _ _ HT6.out)
  have HB7 := Lib.hid (HB6.out.trans (b7.mono HB6.out.size))
  have HZI : Hid ((Tryd.prog.info? 26).map (·.size) = some zT.toArray.size) := Lib.hid (by rw [info5]; rfl)
  have HZO : Hid (zT.toArray.all (·.oneCell') = true) := Lib.hid (all_oneCell_toArray (fun v hv => by
    simp only [zT, List.mem_cons, List.not_mem_nil, or_false] at hv
    rcases hv with rfl | rfl | rfl | rfl | rfl <;> rfl))
  obtain ⟨ZT, hZT⟩ : ∃ ZT, ZT = zT.toArray := ⟨_, rfl⟩
  rw [← hZT] at HZI HZO ⊢
  have HZS : Hid ((#[.int .u8 0, .bool false, .slice none 0 0, .slice none 0 0, .slice none 0 0] : Array Value).size = ZT.size) := Lib.hid (by rw [hZT]; rfl)
  obtain ⟨w8, hw8⟩ : ∃ w8, w8 = (w7.alloc (.cells #[.int .u8 0, .bool false, .slice none 0 0, .slice none 0 0, .slice none 0 0] 26)).setRow w7.heap.size ZT := ⟨_, rfl⟩
  have b8 : Below w7.heap.size w7 w8 := by rw [hw8]; exact below_setRow ((Below.refl _ _).alloc (Nat.le_refl _) _) (Nat.le_refl _) _
  have HU8 := Lib.hid ((b8.block P4 (Array.getElem?_eq_some_iff.1 HU7.out).1).trans HU7.out)
  have HW8 := Lib.hid hw8
  have HU8' : Hid (((w7.alloc (.cells #[.int .u8 0, .bool false, .slice none 0 0, .slice none 0 0, .slice none 0 0] 26)).setRow w7.heap.size ZT).heap[P4]? = some (.cells RC.toArray 26 (0, 0))) := Lib.hid (by rw [← HW8.out]; exact HU8.out)
  have HI8 := Lib.hid (HI7.out.later b8)
  have HB8 := Lib.hid (HB7.out.trans (b8.mono HB7.out.size))
  have HKF := Lib.hid (form_any 3 RC rootT w8 (IsT.later b8 _ _ _ HT7.out))
  clear b7 b8 hw8 hZT HKA
  go_wp2_with (first
    | (refine wpList_store_row rfl 26 _ _ rfl w7.heap.size ZT rfl rfl 26 _ (heap_alloc_new w7 _) HZI.out HZS.out HZO.out ?_)
    | (refine wpList_load_row rfl 26 _ rfl P4 rfl 26 RC.toArray (0, 0) _ HU8'.out Tryd.underlying26 rfl HI5.out ?_))
  rw [← HW8.out]
  refine HKF.out.mono ?_
  rintro e w9 ⟨rfl, b9⟩
  rw [show (sizeT rootT).isSome = true from by rw [size_root]; rfl]
  have i9 := HI8.out.later b9
  have HB9 := Lib.hid (HB8.out.trans (b9.mono HB8.out.size))
  rcases i9.at_ with h0 | ⟨bb, oo, rfl, _, hc⟩
  · simp at h0
  have hc1 := hc 1 (by simp)
  have hc2 : w9.cell? ⟨bb, oo + 1, none⟩ = some (.string ⟨#[97, 47, 98]⟩) := hc1
  clear b9 i9 hc hc1 HKF HU8' HW8
  go_wp2_with fail
  go_ret
  exact ⟨rfl, HB9.out⟩

end Go.Proofs.YtmgfgldabjgmmaaDoor

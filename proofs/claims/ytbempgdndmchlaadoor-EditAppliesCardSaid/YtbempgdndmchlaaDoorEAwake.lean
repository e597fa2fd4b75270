/-
  The document's example of edits: a directory is made, a file put into it, it is moved.
-/
import Derived.Test.YtbempgdndmchlaaDoorERunA
import Derived.Test.YtbempgdndmchlaaDoorEArg
import Derived.Test.YtbempgdndmchlaaDoorERAt
namespace Go.Proofs.YtbempgdndmchlaaDoor
open Go.RowKit
set_option linter.unusedVariables false

def fileT : T := .mk 1 false [] [] []
def ex3 : List EdD := [⟨1, ⟨#[97]⟩, ⟨#[]⟩, zeroT⟩, ⟨2, ⟨#[97, 47, 102]⟩, ⟨#[]⟩, fileT⟩, ⟨3, ⟨#[98]⟩, ⟨#[97]⟩, zeroT⟩]
def exOut : T := .mk 3 false [] [⟨#[98]⟩] [.mk 3 false [] [⟨#[102]⟩] [fileT]]

theorem ex_run : runE emptyDir ex3 = (0, exOut, 3, 0) := by kernel_rfl
theorem ex_at : atT [98, 47, 102] exOut = .inr fileT := by kernel_rfl

def z5 : List Value := [.int .u8 0, .bool false, .slice none 0 0, .slice none 0 0, .slice none 0 0]
def d5 : List Value := [.int .u8 3, .bool false, .slice none 0 0, .slice none 0 0, .slice none 0 0]
def f5 : List Value := [.int .u8 1, .bool false, .slice none 0 0, .slice none 0 0, .slice none 0 0]
def ex24 : List Value := [.int .u8 1, .string ⟨#[97]⟩, .string ⟨#[]⟩] ++ z5 ++ ([.int .u8 2, .string ⟨#[97, 47, 102]⟩, .string ⟨#[]⟩] ++ f5) ++ ([.int .u8 3, .string ⟨#[98]⟩, .string ⟨#[97]⟩] ++ z5)
theorem isT_leaf (w : World) (k : UInt8) : IsT w 1 [.int .u8 (k.toNat : Int), .bool false, .slice none 0 0, .slice none 0 0, .slice none 0 0] (.mk k false [] [] []) := ⟨none, 0, 0, none, 0, 0, none, 0, 0, rfl, isB_none w, isS_none w, isK_none _ w⟩
theorem ex_slice {w : World} {g : Nat} (h : Has w g ex24 41) : IsXs w 1 (some ⟨g, 0, none⟩) 3 3 ex3 := by
  refine ⟨rfl, .inr ⟨g, 0, rfl, h.lt, fun i hi => ⟨eight ex24 i, ?_, fun j v hv => ?_⟩⟩, (fun e => by cases e), Nat.le_refl _, by decide⟩
  · match i, hi with
    | 0, _ => exact ⟨z5, rfl, isT_leaf w 0⟩
    | 1, _ => exact ⟨f5, rfl, isT_leaf w 1⟩
    | 2, _ => exact ⟨z5, rfl, isT_leaf w 0⟩
  · have hj : j < 8 := by
      obtain ⟨h1, _⟩ := List.getElem?_eq_some_iff.1 hv
      unfold eight at h1
      rw [List.length_take] at h1; omega
    rw [eight_get j hj] at hv
    rw [Nat.zero_add]
    exact h.cellAt hv
theorem ex_good : (sizeT exOut).isSome = true := by decide +kernel

set_option maxRecDepth 100000 in
set_option maxHeartbeats 8000000 in
theorem awake_any (w : World) (hm : MaxW w) (hmx : 0 < w.heap.size) : Calls Tryd.prog 10 #[] w fun e w' => e = .returned (.bool true) ∧ Below w.heap.size w w' := by
  obtain ⟨w1, hw1⟩ : ∃ w1, w1 = w.alloc (.cells ex24.toArray 41) := ⟨_, rfl⟩
  have b1 : Below w.heap.size w w1 := by rw [hw1]; exact (Below.refl _ _).alloc (Nat.le_refl _) _
  have g1 : Has w1 w.heap.size ex24 41 := by rw [hw1]; exact Has.new w ex24 _
  have HAP := Lib.hid (applyA_any 1 d5 emptyDir w1 (isT_leaf w1 3) 1 _ 3 3 ex3 (ex_slice g1) (hm.below b1 hmx) (Nat.lt_of_lt_of_le hmx b1.size))
  have HW1 : Hid (w1 = w.alloc (.cells #[.int .u8 1, .string ⟨#[97]⟩, .string ⟨#[]⟩, .int .u8 0, .bool false, .slice none 0 0, .slice none 0 0, .slice none 0 0, .int .u8 2, .string ⟨#[97, 47, 102]⟩, .string ⟨#[]⟩, .int .u8 1, .bool false, .slice none 0 0, .slice none 0 0, .slice none 0 0, .int .u8 3, .string ⟨#[98]⟩, .string ⟨#[97]⟩, .int .u8 0, .bool false, .slice none 0 0, .slice none 0 0, .slice none 0 0] 41)) := Lib.hid hw1
  have B1 := Lib.hid b1
  clear hm hmx hw1 b1 g1
  go_enter Tryd.func10, Tryd.ntmps10
  go_wp2_with fail
  rw [← HW1.out]
  refine HAP.out.mono ?_
  rintro e w2 ⟨out, rfl, ho5, ho1, hb2, hok, _⟩
  rw [ex_run] at hok ⊢
  obtain ⟨S, hmt⟩ := hok rfl
  have HMT := Lib.hid hmt
  have B2 := Lib.hid (B1.out.trans (hb2.mono B1.out.size))
  have HO5 := Lib.hid (infoL ho5)
  have HO1 := Lib.hid ho1
  have HOS : Hid ((#[.int .u8 0, .bool false, .slice none 0 0, .slice none 0 0, .slice none 0 0] : Array Value).size = out.toArray.size) := Lib.hid (by simp [ho5])
  obtain ⟨w3, hw3⟩ : ∃ w3, w3 = (w2.alloc (.cells #[.int .u8 0, .bool false, .slice none 0 0, .slice none 0 0, .slice none 0 0] 26)).setRow w2.heap.size out.toArray := ⟨_, rfl⟩
  have b3 : Below w2.heap.size w2 w3 := by rw [hw3]; exact below_setRow ((Below.refl _ _).alloc (Nat.le_refl _) _) (Nat.le_refl _) _
  have g3 : Hid (w3.heap[w2.heap.size]? = some (.cells out.toArray 26 (0, 0))) := Lib.hid (by rw [hw3]; exact setRow_heap _ _ _ _ _ _ (heap_alloc_new w2 _))
  have B3 := Lib.hid b3
  have MT3 := Lib.hid (hmt.later b3)
  have HT3 := Lib.hid ((hmt.later b3).isT 100 (by decide +kernel) (sizeT_get ex_good).2.2.1)
  have HGD : Hid (Good exOut) := Lib.hid (Good.of (sizeT_get ex_good).1)
  have HRA := Lib.hid (rat_any 100 out exOut ⟨#[98, 47, 102]⟩ w3 HT3.out HGD.out)
  rw [show atT (⟨#[98, 47, 102]⟩ : ByteArray).data.toList exOut = .inr fileT from ex_at] at HRA
  have HW3 := Lib.hid hw3
  clear hmt hb2 ho5 ho1 hok hw3 b3 HAP HW1
  go_upto_region 2 with (refine wpList_store_row rfl 26 _ _ rfl w2.heap.size out.toArray rfl rfl 26 _ (heap_alloc_new w2 _) HO5.out HOS.out HO1.out ?_)
  rw [← HW3.out]
  go_wp2_with (refine wpList_load_row rfl 26 _ rfl w2.heap.size rfl 26 out.toArray (0, 0) _ g3.out Tryd.underlying26 rfl HO5.out ?_)
  refine HRA.out.mono ?_
  rintro e w4 ⟨n4, cs4, rfl, hT4, hb4⟩
  have hT4' : IsT w4 n4 cs4 fileT := IsT.later hb4 _ _ _ hT4
  have HC5 := Lib.hid (infoL (isT_five hT4'))
  have HC1 := Lib.hid (isT_one hT4')
  have HCS : Hid ((#[.int .u8 0, .bool false, .slice none 0 0, .slice none 0 0, .slice none 0 0] : Array Value).size = cs4.toArray.size) := Lib.hid (by simp [isT_five hT4'])
  obtain ⟨w5, hw5⟩ : ∃ w5, w5 = (w4.alloc (.cells #[.int .u8 0, .bool false, .slice none 0 0, .slice none 0 0, .slice none 0 0] 26)).setRow w4.heap.size cs4.toArray := ⟨_, rfl⟩
  have b5 : Below w4.heap.size w4 w5 := by rw [hw5]; exact below_setRow ((Below.refl _ _).alloc (Nat.le_refl _) _) (Nat.le_refl _) _
  have B5 := Lib.hid (B2.out.trans ((B3.out.trans ((hb4.mono B3.out.size).trans (b5.mono (Nat.le_trans B3.out.size hb4.size)))).mono B2.out.size))
  have g5 : Has w5 w4.heap.size cs4 26 := by rw [hw5]; exact setRow_heap _ _ _ _ _ _ (heap_alloc_new w4 _)
  have h5 : Has w5 w2.heap.size out 26 := ((hb4.trans (b5.mono hb4.size)).block _ ((Array.getElem?_eq_some_iff.1 g3.out).1)).trans g3.out
  obtain ⟨vd, vn, vk, L, Ss, hout, _, _, hn, _⟩ := mt_inv (show MT w3 _ out (.mk 3 false [] [⟨#[98]⟩] [.mk 3 false [] [⟨#[102]⟩] [fileT]]) S from MT3.out)
  obtain ⟨an, cn, rfl, _⟩ := isS_owned hn
  have hk : ∃ c1 c2 c3 c4, cs4 = [.int .u8 1, c1, c2, c3, c4] := by
    cases n4 with
    | zero => exact absurd hT4' (by simp [IsT])
    | succ n4 =>
      obtain ⟨_, _, _, _, _, _, _, _, _, hcs, _⟩ := hT4'
      exact ⟨_, _, _, _, hcs⟩
  obtain ⟨c1, c2, c3, c4, hcs4⟩ := hk
  have hq0 := g5.cellAt (i := 0) (v := .int .u8 1) (by rw [hcs4]; rfl)
  have hq3 := h5.cellAt (i := 3) (v := .slice an 1 cn) (by rw [hout]; rfl)
  have HW5 := Lib.hid hw5
  clear hT4 hT4' hb4 hw5 b5 g5 h5 hout hn hcs4
  go_upto_region 3 with (refine wpList_store_row rfl 26 _ _ rfl w4.heap.size cs4.toArray rfl rfl 26 _ (heap_alloc_new w4 _) HC5.out HCS.out HC1.out ?_)
  rw [← HW5.out]
  go_wp2_with fail
  go_ret
  exact ⟨rfl, B5.out⟩

end Go.Proofs.YtbempgdndmchlaaDoor

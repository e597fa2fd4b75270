/-
  The walk of the law TreeForms: it returns true. Condition: a global's kind; the names are no longer than memory.
-/
import Derived.Test.YtmgfgldabjgmmaaDoorTCount
import Derived.Test.YtmgfgldabjgmmaaDoorTGreat
import Derived.Test.YtmgfgldabjgmmaaDoorTAwake
namespace Go.Proofs.YtmgfgldabjgmmaaDoor
open Go.RowKit
set_option linter.unusedVariables false

def rsizeV (t : T) : Value := match sizeT t with
  | none => .tuple #[.int .i64 0, .int .i64 0, .bool false]
  | some q => .tuple #[.int .i64 (q.1 : Int), .int .i64 (q.2 : Int), .bool true]

set_option maxRecDepth 100000 in
set_option maxHeartbeats 8000000 in
theorem rsize_any (n : Nat) (cs : List Value) (t : T) (w : World) (ht : IsT w n cs t) (hs : Small t) :
    Calls Tryd.prog 13 #[.agg cs.toArray] w fun e w' => e = .returned (rsizeV t) ∧ Below w.heap.size w w' := by
  have hI := Lib.hid (infoL (isT_five ht))
  have HT := Lib.hid ht
  have HSM := Lib.hid hs
  clear ht hs
  go_enter Tryd.func13, Tryd.ntmps13
  go_upto_region 1 with fail
  obtain ⟨w1, hw1⟩ : ∃ w1, w1 = w.alloc (.cells cs.toArray 26) := ⟨_, rfl⟩
  have g1 : Has w1 w.heap.size cs 26 := by rw [hw1]; exact Has.new w cs _
  have b1 : Below w.heap.size w w1 := by rw [hw1]; exact (Below.refl _ _).alloc (Nat.le_refl _) _
  rw [← hw1]
  have HK := Lib.hid (count_any n cs t w1 (IsT.later b1 _ _ _ HT.out) HSM.out 0 0 0 4096 65536 (by omega) (by omega) (by omega) (by omega) (by omega))
  have G1 := Lib.hid (show w1.heap[w.heap.size]? = some (.cells cs.toArray 26 (0, 0)) from g1)
  have B1 := Lib.hid b1
  clear hw1 g1 b1
  go_wp2_with (refine wpList_load_row rfl 26 _ rfl w.heap.size rfl 26 cs.toArray (0, 0) _ G1.out Tryd.underlying26 rfl hI.out ?_)
  refine HK.out.mono ?_
  rintro e w2 ⟨rfl, b2⟩
  have B2 := Lib.hid (B1.out.trans (b2.mono B1.out.size))
  have hk : sizeT t = takeT t 0 0 0 := rfl
  clear HK b2
  cases hs : takeT t 0 0 0 with
  | none =>
    have HV : Hid (rsizeV t = .tuple #[.int .i64 0, .int .i64 0, .bool false]) := Lib.hid (by unfold rsizeV; rw [hk, hs])
    rw [cntV_none rfl]
    clear hs hk
    go_wp2_with fail
    go_ret3
    exact ⟨by rw [HV.out]; rfl, B2.out⟩
  | some q =>
    have HV : Hid (rsizeV t = .tuple #[.int .i64 (q.1 : Int), .int .i64 (q.2 : Int), .bool true]) := Lib.hid (by unfold rsizeV; rw [hk, hs])
    have hle := takeT_le _ _ _ _ _ hs
    obtain ⟨m, hm⟩ : ∃ m : Nat, m = q.1 := ⟨_, rfl⟩
    obtain ⟨b, hb⟩ : ∃ b : Nat, b = q.2 := ⟨_, rfl⟩
    have hcv : cntV (some q) = .tuple #[.int .i64 (4096 - (m : Int)), .int .i64 (65536 - (b : Int))] := by rw [hm, hb]; rfl
    rw [hcv]
    rw [← hm, ← hb] at HV hle
    have n0 : ¬ (4096 - (m : Int) < 0) := by omega
    have n1 : ¬ (4096 < (m : Int)) := by omega
    clear hs hk hcv hm hb
    go_wp2_with fail
    go_ret3
    exact ⟨by rw [HV.out]; simp; try omega, B2.out⟩

set_option maxRecDepth 100000 in
set_option maxHeartbeats 20000000 in
theorem walk_TreeForms (w : World) (n : Nat) (cs : List Value) (t : T) (ht : IsT w n cs t) (hs : Small t) (hm : MaxW w) :
    Calls Tryd.prog 3 #[.agg cs.toArray] w fun e w' => e = .returned (.bool true) ∧ Below w.heap.size w w' := by
  have hmx : 0 < w.heap.size := by
    obtain ⟨m, h⟩ := hm
    exact World.block_lt_of_cell? w _ h
  have hI := Lib.hid (infoL (isT_five ht))
  have HT := Lib.hid ht
  have HSM := Lib.hid hs
  have HM := Lib.hid hm
  have hbb : ∀ b : Bool, (b == b) = true := fun b => by simp
  clear ht hs hm
  go_enter Tryd.func3, Tryd.ntmps3
  go_upto_region 1 with fail
  obtain ⟨w1, hw1⟩ : ∃ w1, w1 = w.alloc (.cells cs.toArray 26) := ⟨_, rfl⟩
  have g1 : Has w1 w.heap.size cs 26 := by rw [hw1]; exact Has.new w cs _
  have b1 : Below w.heap.size w w1 := by rw [hw1]; exact (Below.refl _ _).alloc (Nat.le_refl _) _
  have s1 : w1.heap.size = w.heap.size + 1 := by rw [hw1]; simp
  rw [← hw1]
  have G1 := Lib.hid (show w1.heap[w.heap.size]? = some (.cells cs.toArray 26 (0, 0)) from g1)
  have H1 := Lib.hid g1
  have B1 := Lib.hid b1
  clear hw1 g1 b1
  go_wp2_with (refine wpList_load_row rfl 26 _ rfl w.heap.size rfl 26 cs.toArray (0, 0) _ G1.out Tryd.underlying26 rfl hI.out ?_)
  refine (great_any n cs t w1 (IsT.later B1.out _ _ _ HT.out) 6000 (by omega) (by omega)).mono ?_
  rintro e w2 ⟨⟨gr, rfl⟩, b2⟩
  have H2 := Lib.hid (H1.out.below b2 (by omega))
  have B2 := Lib.hid (B1.out.trans (b2.mono (by omega)))
  have s2 := b2.size
  have HM2 := Lib.hid (HM.out.below B2.out hmx)
  clear b2 G1
  cases gr
  · go_wp2_with fail
    refine (awake_any w2 HM2.out (by omega)).mono ?_
    rintro e w3 ⟨rfl, b3⟩
    have H3 := Lib.hid (H2.out.below b3 (by omega))
    have B3 := Lib.hid (B2.out.trans (b3.mono (by omega)))
    have s3 := b3.size
    have G3 := Lib.hid (show w3.heap[w.heap.size]? = some (.cells cs.toArray 26 (0, 0)) from H3.out)
    clear b3
    go_wp2_with (refine wpList_load_row rfl 26 _ rfl w.heap.size rfl 26 cs.toArray (0, 0) _ G3.out Tryd.underlying26 rfl hI.out ?_)
    refine (size_any n cs t w3 (IsT.later B3.out _ _ _ HT.out)).mono ?_
    rintro e w4 ⟨rfl, b4⟩
    have H4 := Lib.hid (H3.out.below b4 (by omega))
    have B4 := Lib.hid (B3.out.trans (b4.mono (by omega)))
    have s4 := b4.size
    have G4 := Lib.hid (show w4.heap[w.heap.size]? = some (.cells cs.toArray 26 (0, 0)) from H4.out)
    clear b4 G3
    cases hz : sizeT t with
    | none =>
      have hv : sizeV t = .tuple #[.int .i64 0, .int .i64 0, .int .i64 3] := by unfold sizeV; rw [hz]
      have HR : Hid (rsizeV t = .tuple #[.int .i64 0, .int .i64 0, .bool false]) := Lib.hid (by unfold rsizeV; rw [hz])
      have HF : Hid ((sizeT t).isSome = false) := Lib.hid (by rw [hz]; rfl)
      rw [hv]
      clear hv hz
      go_wp2_with (refine wpList_load_row rfl 26 _ rfl w.heap.size rfl 26 cs.toArray (0, 0) _ G4.out Tryd.underlying26 rfl hI.out ?_)
      refine (rsize_any n cs t w4 (IsT.later B4.out _ _ _ HT.out) HSM.out).mono ?_
      rintro e w5 ⟨rfl, b5⟩
      rw [HR.out]
      have H5 := Lib.hid (H4.out.below b5 (by omega))
      have B5 := Lib.hid (B4.out.trans (b5.mono (by omega)))
      have s5 := b5.size
      have G5 := Lib.hid (show w5.heap[w.heap.size]? = some (.cells cs.toArray 26 (0, 0)) from H5.out)
      clear b5 G4
      go_wp2_with (refine wpList_load_row rfl 26 _ rfl w.heap.size rfl 26 cs.toArray (0, 0) _ G5.out Tryd.underlying26 rfl hI.out ?_)
      refine (form_any n cs t w5 (IsT.later B5.out _ _ _ HT.out)).mono ?_
      rintro e w6 ⟨rfl, b6⟩
      rw [HF.out]
      have B6 := Lib.hid (B5.out.trans (b6.mono (by omega)))
      clear b6
      go_wp2_with fail
      go_ret
      exact ⟨rfl, B6.out⟩
    | some q =>
      obtain ⟨m, hm⟩ : ∃ m : Nat, m = q.1 := ⟨_, rfl⟩
      obtain ⟨b, hb⟩ : ∃ b : Nat, b = q.2 := ⟨_, rfl⟩
      have hv : sizeV t = .tuple #[.int .i64 (m : Int), .int .i64 (b : Int), .int .i64 0] := by unfold sizeV; rw [hz, hm, hb]
      have HR : Hid (rsizeV t = .tuple #[.int .i64 (m : Int), .int .i64 (b : Int), .bool true]) := Lib.hid (by unfold rsizeV; rw [hz, hm, hb])
      have HF : Hid ((sizeT t).isSome = true) := Lib.hid (by rw [hz]; rfl)
      rw [hv]
      clear hv hz hm hb
      go_wp2_with (refine wpList_load_row rfl 26 _ rfl w.heap.size rfl 26 cs.toArray (0, 0) _ G4.out Tryd.underlying26 rfl hI.out ?_)
      refine (rsize_any n cs t w4 (IsT.later B4.out _ _ _ HT.out) HSM.out).mono ?_
      rintro e w5 ⟨rfl, b5⟩
      rw [HR.out]
      have H5 := Lib.hid (H4.out.below b5 (by omega))
      have B5 := Lib.hid (B4.out.trans (b5.mono (by omega)))
      have s5 := b5.size
      have G5 := Lib.hid (show w5.heap[w.heap.size]? = some (.cells cs.toArray 26 (0, 0)) from H5.out)
      clear b5 G4
      go_wp2_with (refine wpList_load_row rfl 26 _ rfl w.heap.size rfl 26 cs.toArray (0, 0) _ G5.out Tryd.underlying26 rfl hI.out ?_)
      refine (form_any n cs t w5 (IsT.later B5.out _ _ _ HT.out)).mono ?_
      rintro e w6 ⟨rfl, b6⟩
      rw [HF.out]
      have B6 := Lib.hid (B5.out.trans (b6.mono (by omega)))
      clear b6
      go_wp2_with fail
      go_ret
      exact ⟨rfl, B6.out⟩
  · go_wp2_with fail
    refine (awake_any w2 HM2.out (by omega)).mono ?_
    rintro e w3 ⟨rfl, b3⟩
    have B3 := Lib.hid (B2.out.trans (b3.mono (by omega)))
    clear b3
    go_wp2_with fail
    go_ret
    exact ⟨rfl, B3.out⟩

end Go.Proofs.YtmgfgldabjgmmaaDoor

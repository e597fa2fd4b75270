/-
  The contract of nar's Write: a tree's archive in memory of its own, or the error of what is none. No condition but that the argument reads as a tree.
-/
import Derived.Test.YthjihibocobndaaNTreeDir
import Derived.Test.YthjihibocobndaaNLen
import Derived.Test.YthjihibocobndaaTSize
namespace Go.Proofs.Ythjihibocobndaa
open Go.RowKit
set_option linter.unusedVariables false

/-- Behind Write. -/
def Wrote (t : T) (w : World) (e : Ending) (w' : World) : Prop :=
  Below w.heap.size w w' ∧ ((sizeT t = none ∧ e = .returned (.tuple #[.slice none 0 0, .int .i64 3])) ∨
    ((sizeT t).isSome = true ∧ ∃ g cap, e = .returned (.tuple #[.slice (some ⟨g, 0, none⟩) (archT t).length cap, .int .i64 0]) ∧
      w'.ownsRow w.heap.size 5 1 (.slice (some ⟨g, 0, none⟩) (archT t).length cap) (archT t).length ((archT t).map bv)))

theorem row_mono {w : World} {B B' n size : Nat} {e : TypeId} {v : Value} {xs : List Value} (h : w.ownsRow B e size v n xs) (hb : B' ≤ B) : w.ownsRow B' e size v n xs := by
  refine ⟨h.1, ?_⟩
  rcases h.2 with h0 | ⟨g, cap, cur, h1, h2, h3⟩
  · exact .inl h0
  · exact .inr ⟨g, cap, cur, h1, Nat.le_trans hb h2, h3⟩

theorem arch_pos (t : T) : 0 < (archT t).length := by
  unfold archT
  rw [List.length_append, strN_length]; omega

set_option maxRecDepth 100000 in
set_option maxHeartbeats 8000000 in
theorem write_any (n : Nat) (cs : List Value) (t : T) (w : World) (ht : IsT w n cs t) :
    Calls Try.prog 8 #[.agg cs.toArray] w (Wrote t w) := by
  have hI := Lib.hid (infoL (isT_five ht))
  have HT := Lib.hid ht
  clear ht
  go_enter Try.func8, Try.ntmps8
  go_upto_region 1 with fail
  obtain ⟨w1, hw1⟩ : ∃ w1, w1 = w.alloc (.cells cs.toArray 26) := ⟨_, rfl⟩
  have g1 : Has w1 w.heap.size cs 26 := by rw [hw1]; exact Has.new w cs _
  have b1 : Below w.heap.size w w1 := by rw [hw1]; exact (Below.refl _ _).alloc (Nat.le_refl _) _
  rw [← hw1]
  have HK := Lib.hid (form_any n cs t w1 (IsT.later b1 _ _ _ HT.out))
  have G1 := Lib.hid (show w1.heap[w.heap.size]? = some (.cells cs.toArray 26 (0, 0)) from g1)
  have B1 := Lib.hid b1
  clear hw1 b1
  have X1 := Lib.hid g1
  clear g1
  go_wp2_with (refine wpList_load_row rfl 26 _ rfl w.heap.size rfl 26 cs.toArray (0, 0) _ G1.out Try.underlying26 rfl hI.out ?_)
  refine HK.out.mono ?_
  rintro e w2 ⟨rfl, b2⟩
  have B2 := Lib.hid (B1.out.trans (b2.mono B1.out.size))
  have X2 := Lib.hid (X1.out.below b2 X1.out.lt)
  clear HK b2 G1 X1 B1
  cases hs : sizeT t with
  | none =>
    have HSZ := Lib.hid hs
    clear hs
    simp only [Option.isSome_none]
    go_wp2_with fail
    go_ret2
    exact ⟨B2.out, .inl ⟨HSZ.out, rfl⟩⟩
  | some q =>
    have HSZ := Lib.hid hs
    clear hs
    simp only [Option.isSome_some]
    go_upto_region 4 with fail
    obtain ⟨w3, hw3⟩ : ∃ w3, w3 = w2.alloc (.cells #[.slice none 0 0] 44) := ⟨_, rfl⟩
    obtain ⟨wb, hwb⟩ : ∃ wb, wb = w2.heap.size := ⟨_, rfl⟩
    have HX3 : Hid (Wr wb w2 [] (.slice none 0 0) w3) := Lib.hid (by
      rw [hw3, hwb]
      exact ⟨Has.new w2 [.slice none 0 0] _, World.ownsRow_nil _ _ _ _, (Below.refl _ _).alloc (Nat.le_refl _) _⟩)
    have X3 : Hid (Has w3 w.heap.size cs 26) := Lib.hid (by rw [hw3]; exact X2.out.alloc _)
    have HF : Hid ((strN sMagic ++ (nodeT t ++ [])).length ≤ 1000000000) := Lib.hid (by rw [List.append_nil]; exact arch_len HSZ.out)
    have HT2 : Hid (IsT w2 n cs t) := Lib.hid (IsT.later B2.out _ _ _ HT.out)
    have HWB := Lib.hid hwb
    rw [← hw3, ← hwb]
    clear hw3 hwb X2
    go_wp2_with fail
    have HP3 := Lib.hid (put_1 wb w2 ⟨#[110, 105, 120, 45, 97, 114, 99, 104, 105, 118, 101, 45, 49]⟩ (strN sMagic ++ (nodeT t ++ [])) _ (nodeT t ++ []) w3.heap.size _ _ (HX3.out.alloc _) rfl HF.out (Has.new w3 [.string ⟨#[110, 105, 120, 45, 97, 114, 99, 104, 105, 118, 101, 45, 49]⟩] _))
    refine HP3.out.mono ?_
    rintro e w4 ⟨rfl, v4, M4, hx4, hr4, hk4⟩
    have X4 := Lib.hid (hk4.block _ _ _ (X3.out.alloc _) (by decide) (by decide))
    have HX4 := Lib.hid hx4
    have HR4 := Lib.hid hr4
    clear hx4 hr4 hk4 HP3 HX3 X3
    have G4 := Lib.hid (show w4.heap[w.heap.size]? = some (.cells cs.toArray 26 (0, 0)) from X4.out)
    go_wp2_with (refine wpList_load_row rfl 26 _ rfl w.heap.size rfl 26 cs.toArray (0, 0) _ G4.out Try.underlying26 rfl hI.out ?_)
    have HP4 := Lib.hid (tree_any wb w2 HWB.out _ HF.out n cs t HT2.out [] w4 M4 v4 HX4.out (.of HSZ.out) HR4.out)
    refine HP4.out.mono ?_
    rintro e w5 ⟨rfl, v5, M5, hx5, hr5, hk5⟩
    obtain rfl : M5 = archT t := by rw [List.append_nil, List.append_nil] at hr5; exact hr5
    obtain ⟨g, cap, rfl⟩ : ∃ g cap, v5 = .slice (some ⟨g, 0, none⟩) (archT t).length cap := by
      rcases hx5.2.1.2 with ⟨_, h0⟩ | ⟨g, cap, cur, h, _⟩
      · have := arch_pos t; omega
      · exact ⟨g, cap, h⟩
    have hc5 := hx5.1.cellAt (i := 0) rfl
    have HX5 := Lib.hid hx5
    clear hx5 hr5 hk5 HP4 HX4 HR4 G4 X4
    obtain ⟨k, hk⟩ : ∃ k, k = (archT t).length := ⟨_, rfl⟩
    have HKK := Lib.hid hk
    rw [← hk] at hc5
    clear hk
    go_wp2_with fail
    go_ret2
    refine ⟨B2.out.trans (HX5.out.2.2.mono (by rw [HWB.out]; exact B2.out.size)), .inr ⟨by rw [HSZ.out]; rfl, g, cap, by rw [HKK.out]; rfl, row_mono HX5.out.2.1 (by rw [HWB.out]; exact B2.out.size)⟩⟩

end Go.Proofs.Ythjihibocobndaa

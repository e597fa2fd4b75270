/-
  Whether a tree is great: the reference's left and Great, without the number. Condition: how much is asked.
-/
import Derived.Test.YtbempgdndmchlaaDoorTSize
import Derived.Deep.RegionWith
namespace Go.Proofs.YtbempgdndmchlaaDoor
open Go.RowKit
set_option linter.unusedVariables false

set_option maxRecDepth 100000 in
set_option maxHeartbeats 20000000 in
theorem left_any : ∀ (n : Nat) (cs : List Value) (t : T) (w : World), IsT w n cs t → ∀ (m : Int), 0 ≤ m → m ≤ 1000000 →
    Calls Tryd.prog 17 #[.agg cs.toArray, .int .i64 m] w fun e w' => (∃ r : Int, e = .returned (.int .i64 r) ∧ -1 ≤ r ∧ r ≤ 1000000) ∧ Below w.heap.size w w'
  | 0, _, _, _, ht => absurd ht (by simp [IsT])
  | n + 1, cs, .mk k x d ns ks, w, ht => by
    intro m hm0 hm1
    obtain ⟨ad, nd, cd, an, nn, cn, ak, nk, ck, rfl, hB, hS, hK⟩ := ht
    have HK := Lib.hid hK
    clear hB hS hK
    go_enter Tryd.func17, Tryd.ntmps17
    go_upto_region 1 with fail
    obtain ⟨w1, hw1⟩ : ∃ w1, w1 = w.alloc (.cells #[.int .u8 (k.toNat : Int), .bool x, .slice ad nd cd, .slice an nn cn, .slice ak nk ck] 26) := ⟨_, rfl⟩
    have g1 : Has w1 w.heap.size [.int .u8 (k.toNat : Int), .bool x, .slice ad nd cd, .slice an nn cn, .slice ak nk ck] 26 := by rw [hw1]; exact Has.new w _ _
    have b1 : Below w.heap.size w w1 := by rw [hw1]; exact (Below.refl _ _).alloc (Nat.le_refl _) _
    have s1 : w1.heap.size = w.heap.size + 1 := by rw [hw1]; simp
    rw [← hw1]
    obtain ⟨g, hg⟩ : ∃ g, g = w.heap.size := ⟨_, rfl⟩
    rw [← hg] at g1 s1 b1 ⊢
    have HG := Lib.hid hg
    clear hg hw1
    have G1 := Lib.hid g1
    have B1 := Lib.hid b1
    clear g1 b1
    go_wp2_with fail
    have info5 : Hid ((Tryd.prog.info? 26).map (·.size) = some 5) := Lib.hid (by kernel_rfl)
    go_loopw [1, 5] (fun vn vi wr => ∃ (i : Nat) (r : Int), i ≤ nk ∧ vi = .int .i64 i ∧ vn = .int .i64 r ∧ -1 ≤ r ∧ r ≤ 1000000 ∧ Has wr g [.int .u8 (k.toNat : Int), .bool x, .slice ad nd cd, .slice an nn cn, .slice ak nk ck] 26 ∧ Below g w wr ∧ g + 1 ≤ wr.heap.size) (fun vn vi _ => nk - (intOf vi).toNat)
    case atStart => exact ⟨0, m - 1, Nat.zero_le _, rfl, rfl, by omega, by omega, G1.out, B1.out, by omega⟩
    case round =>
      clear G1 B1
      obtain ⟨i, r, hi, rfl, rfl, hr0, hr1, hg, hbel, hsz⟩ := hrel
      have cg4 := hg.cellAt (i := 4) rfl
      have HG' := Lib.hid hg
      have HBE := Lib.hid hbel
      clear hg
      by_cases hlt : i < nk
      · by_cases hr : 0 ≤ r
        · rcases HK.out.at_ with h0 | ⟨b, off, rfl, hb, hc⟩
          · omega
          obtain ⟨c0, c1, c2, c3, c4, hR, e0, e1, e2, e3, e4⟩ := hc i hlt
          have hbg : b < g := by rw [HG.out]; exact hb
          have hrange : wr.rangeAt b (off + i * 5) [c0, c1, c2, c3, c4] := fun j v hv => by
            rw [Nat.add_assoc]
            match j, hv with
            | 0, hv => cases hv; exact (hbel.cell (p := ⟨b, off + (i * 5 + 0), none⟩) hbg).trans e0
            | 1, hv => cases hv; exact (hbel.cell (p := ⟨b, off + (i * 5 + 1), none⟩) hbg).trans e1
            | 2, hv => cases hv; exact (hbel.cell (p := ⟨b, off + (i * 5 + 2), none⟩) hbg).trans e2
            | 3, hv => cases hv; exact (hbel.cell (p := ⟨b, off + (i * 5 + 3), none⟩) hbg).trans e3
            | 4, hv => cases hv; exact (hbel.cell (p := ⟨b, off + (i * 5 + 4), none⟩) hbg).trans e4
            | j + 5, hv => simp at hv
          have HRANGE := Lib.hid hrange
          have hki : (i : Int) < (nk : Int) := by omega
          have hroom := HK.out.room
          unfold maxLen at hroom
          have hni : (i : Int) + 1 ≤ 9223372036854775807 := by omega
          obtain ⟨L, hL⟩ : ∃ L, L = [c0, c1, c2, c3, c4] := ⟨_, rfl⟩
          rw [← hL] at HRANGE hR
          have hll : Hid (L.length = 5) := Lib.hid (by rw [hL]; rfl)
          have K5 := Lib.hid (left_any n L (ks.getD i default) wr (IsT.later (by rw [← HG.out]; exact hbel) _ _ _ hR) r hr hr1)
          have HLT := Lib.hid hlt
          clear hbel hc hR e0 e1 e2 e3 e4 hrange hL
          go_wp2_with (refine wpList_load_mid rfl 26 _ rfl b (off + i * 5) rfl L _ HRANGE.out Tryd.underlying26 rfl (by rw [info5.out, hll.out]) ?_)
          refine K5.out.mono ?_
          rintro e w6 ⟨⟨r6, rfl, hr6, hr7⟩, b6⟩
          have B6 := Lib.hid b6
          clear b6 K5
          go_wp2_with fail
          go_roundw
          case rel => exact ⟨i + 1, r6, by omega, by go_num, rfl, hr6, hr7, HG'.out.below B6.out (by omega), HBE.out.trans (B6.out.mono (by omega)), by have := B6.out.size; omega⟩
          case measure =>
            have := HLT.out
            simp only [intOf]; omega
        · go_wp2_with fail
          go_ret
          exact ⟨⟨r, rfl, hr0, hr1⟩, by rw [← HG.out]; exact HBE.out⟩
      · go_wp2_with fail
        go_ret
        exact ⟨⟨r, rfl, hr0, hr1⟩, by rw [← HG.out]; exact HBE.out⟩

set_option maxRecDepth 100000 in
set_option maxHeartbeats 8000000 in
theorem great_any (n : Nat) (cs : List Value) (t : T) (w : World) (ht : IsT w n cs t) (m : Int) (hm0 : 0 ≤ m) (hm1 : m ≤ 1000000) :
    Calls Tryd.prog 8 #[.agg cs.toArray, .int .i64 m] w fun e w' => (∃ g, e = .returned (.bool g)) ∧ Below w.heap.size w w' := by
  have hI := Lib.hid (infoL (isT_five ht))
  have HT := Lib.hid ht
  clear ht
  go_enter Tryd.func8, Tryd.ntmps8
  go_upto_region 1 with fail
  obtain ⟨w1, hw1⟩ : ∃ w1, w1 = w.alloc (.cells cs.toArray 26) := ⟨_, rfl⟩
  have g1 : Has w1 w.heap.size cs 26 := by rw [hw1]; exact Has.new w cs _
  have b1 : Below w.heap.size w w1 := by rw [hw1]; exact (Below.refl _ _).alloc (Nat.le_refl _) _
  rw [← hw1]
  have HK := Lib.hid (left_any n cs t w1 (IsT.later b1 _ _ _ HT.out) m hm0 hm1)
  have G1 := Lib.hid (show w1.heap[w.heap.size]? = some (.cells cs.toArray 26 (0, 0)) from g1)
  have B1 := Lib.hid b1
  clear hw1 g1 b1
  go_wp2_with (refine wpList_load_row rfl 26 _ rfl w.heap.size rfl 26 cs.toArray (0, 0) _ G1.out Tryd.underlying26 rfl hI.out ?_)
  refine HK.out.mono ?_
  rintro e w2 ⟨⟨r, rfl, hr0, hr1⟩, b2⟩
  have B2 := Lib.hid (B1.out.trans (b2.mono B1.out.size))
  clear HK b2
  go_wp2_with fail
  go_ret
  exact ⟨⟨_, rfl⟩, B2.out⟩

end Go.Proofs.YtbempgdndmchlaaDoor

/-
  The contract of the reference's Sum: the same digest. Condition: at most 2^40 bytes.
-/
import Derived.Test.YtaknkiejjnilnaaDoorROf
namespace Go.Proofs.YtaknkiejjnilnaaDoor
open Go.RowKit
set_option linter.unusedVariables false

set_option maxRecDepth 100000 in
set_option maxHeartbeats 2000000 in
theorem rsum_n (a : Option Addr) (n cap : Nat) (B : List Nat) (w : World) (hB : IsN w a n cap B) (hn : n ≤ 1099511627776) :
    Calls Tryd.prog 9 #[.slice a n cap] w fun e w' => e = .returned (.agg ((dig B).map byv).toArray) ∧ Below w.heap.size w w' := by
  have HB := Lib.hid hB
  have HN := Lib.hid hn
  clear hB hn
  go_enter Tryd.func9, Tryd.ntmps9
  go_wp2_with fail
  rw [zeros32]
  obtain ⟨w1, hw1⟩ : ∃ w1, w1 = w.alloc (.cells ((List.replicate 32 0).map byv).toArray 29) := ⟨_, rfl⟩
  have o1 : Has w1 w.heap.size ((List.replicate 32 0).map byv) 29 := by rw [hw1]; exact Has.new w _ _
  have b1 : Below w.heap.size w w1 := by rw [hw1]; exact (Below.refl _ _).alloc (by omega) _
  have s1 : w1.heap.size = w.heap.size + 1 := by rw [hw1]; simp
  rw [← hw1]
  clear hw1
  refine (make_any w1).mono ?_
  rintro e w2 ⟨rfl, b2⟩
  have o2 := o1.below b2 (by omega)
  have bb2 : Below w.heap.size w w2 := b1.trans (b2.mono (by omega))
  have s2 := b2.size
  obtain ⟨WK, hWK⟩ : ∃ WK, WK = (WKL.map wv).toArray := ⟨_, rfl⟩
  rw [← hWK]
  have HWK := Lib.hid hWK
  have hc := Lib.hid (rof_n a n cap B w2 (HB.out.later bb2) HN.out)
  rw [← hWK] at hc
  clear b1 b2 o1 hWK
  go_wp2_with fail
  refine hc.out.mono ?_
  rintro e w4 ⟨rfl, b4⟩
  have o4 := o2.below b4 (by omega)
  have bb4 : Below w.heap.size w w4 := bb2.trans (b4.mono (by omega))
  have p1 := info_32 (dig B) (dig_length B)
  have p2 := size_zeros 32 (dig B) (dig_length B)
  have p3 := one_bytes (dig B)
  have p4 : w4.heap[w.heap.size]? = some (.cells ((List.replicate 32 0).map byv).toArray 29 (0, 0)) := o4
  obtain ⟨R2, hR2⟩ : ∃ R2, R2 = ((dig B).map byv).toArray := ⟨_, rfl⟩
  rw [← hR2] at p1 p2 p3 ⊢
  have P1 := Lib.hid p1
  have P2 := Lib.hid p2
  have P3 := Lib.hid p3
  have P4 := Lib.hid p4
  have HR2 := Lib.hid hR2
  clear p1 p2 p3 p4 hR2 o2 o4 bb2 b4 hc
  go_wp2_with (refine wpList_store_row rfl 29 _ _ rfl w.heap.size R2 rfl rfl 29 _ P4.out P1.out P2.out P3.out ?_)
  have hres : ∀ tmps : Array Value, tmps.getD 2 undef = .pointer (some ⟨w.heap.size, 0, none⟩) → (results Tryd.f9 tmps).run Tryd.prog (w4.setRow w.heap.size R2) = .ok (.agg R2) (w4.setRow w.heap.size R2) :=
    fun tmps hp => results_cell_row (fn := Tryd.f9) (p := 2) (ty := 29) Tryd.results9 tmps _ w.heap.size 29 R2 (0, 0) _ hp (setRow_heap _ _ _ _ _ _ P4.out) Tryd.underlying29 rfl P1.out
  refine bodyPost_ret (hres _ rfl) rfl ?_
  exact ⟨by rw [HR2.out], below_setRow bb4 (Nat.le_refl _) _⟩

end Go.Proofs.YtaknkiejjnilnaaDoor

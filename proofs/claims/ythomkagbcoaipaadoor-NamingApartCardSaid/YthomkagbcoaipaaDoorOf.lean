/-
  The contracts of Sum behind any bytes, and of Of at any bytes.
-/
import Derived.Test.YthomkagbcoaipaaDoorWrite
import Derived.Test.YthomkagbcoaipaaDoorEqArr
namespace Go.Proofs.YthomkagbcoaipaaDoor
open Go.RowKit
set_option linter.unusedVariables false

theorem sum_took (h : Nat) (L : List Value) (M : List Nat) (w : World) (hh : Has w h L 85) (hT : Took L M) (hl : LaidW w) (h1 : 2 < h) :
    Calls Tryd.prog 27 #[.pointer (some ⟨h, 0, none⟩)] w fun e w' => e = .returned (.agg ((dig M).map byv).toArray) ∧ Has w' h (Go.Proofs.YthomkagbcoaipaaDoor.rowD L) 85 ∧ But w.heap.size h w w' := by
  obtain ⟨S, T, hH, hS, hTt⟩ := hT
  have e := Took.dig (L := L) hS hTt
  exact (sum_any h L S T M.length w hh hH hl h1).mono fun _ _ ⟨he, hr⟩ => ⟨by rw [he, e], hr⟩

theorem IsN.below {w w' : World} {a : Option Addr} {len cap : Nat} {l : List Nat} (h : IsN w a len cap l) {g : Nat} (hb : Below g w w') (hg : w.heap.size ≤ g) : IsN w' a len cap l :=
  h.later (hb.mono hg)

theorem IsN.apart {w w' : World} {a : Option Addr} {len cap : Nat} {l : List Nat} {h g : Nat} (H : IsN w a len cap l) (hb : But g h w w') (hg : w.heap.size ≤ g) (hne : ∀ b off, a = some ⟨b, off, none⟩ → b ≠ h) : IsN w' a len cap l := by
  refine ⟨H.length, ?_, H.nil, H.room, H.small⟩
  rcases H.at_ with h0 | ⟨b, off, rfl, hlt, hby⟩
  · exact .inl h0
  · exact .inr ⟨b, off, rfl, Nat.lt_of_lt_of_le hlt hb.size, hby.but hb (Nat.lt_of_lt_of_le hlt hg) (hne b off rfl)⟩

/-- Bytes that lay there ahead of a block are not in it. -/
theorem IsN.old {w : World} {a : Option Addr} {len cap : Nat} {l : List Nat} (H : IsN w a len cap l) (h0 : len ≠ 0) {h : Nat} (hh : w.heap.size ≤ h) : ∀ b off, a = some ⟨b, off, none⟩ → b ≠ h := by
  intro b off e
  rcases H.at_ with h | ⟨b', off', rfl, hlt, _⟩
  · exact absurd h h0
  · cases e; omega

set_option maxRecDepth 100000 in
set_option maxHeartbeats 2000000 in
theorem of_n (a : Option Addr) (n cap : Nat) (B : List Nat) (w : World) (hB : IsN w a n cap B) (hN : n < 18446744073709551616) (hl : LaidW w) :
    Calls Tryd.prog 14 #[.slice a n cap] w fun e w' => e = .returned (.agg ((dig B).map byv).toArray) ∧ Below w.heap.size w w' := by
  have h2 := hl.two
  have HB := Lib.hid hB
  have HL := Lib.hid hl
  clear hB hl
  go_enter Tryd.func14, Tryd.ntmps14
  go_wp2_with fail
  rw [zeros32]
  obtain ⟨w1, hw1⟩ : ∃ w1, w1 = w.alloc (.cells ((List.replicate 32 0).map byv).toArray 22) := ⟨_, rfl⟩
  have o1 : Has w1 w.heap.size ((List.replicate 32 0).map byv) 22 := by rw [hw1]; exact Has.new w _ _
  have s1 : w1.heap.size = w.heap.size + 1 := by rw [hw1]; simp
  have b1 : Below w.heap.size w w1 := by rw [hw1]; exact (Below.refl _ _).alloc (by omega) _
  rw [← hw1]
  have l1 := HL.out.below b1 h2
  refine (new_any w1 l1).mono ?_
  rintro e w2 ⟨rfl, hw2⟩
  obtain ⟨h, hh⟩ : ∃ h, h = w1.heap.size := ⟨_, rfl⟩
  have n2 : Has w2 h newRow 85 := by rw [hw2, hh]; exact Has.new w1 _ _
  have o2 : Has w2 w.heap.size ((List.replicate 32 0).map byv) 22 := by rw [hw2]; exact o1.alloc _
  have b2 : Below w.heap.size w w2 := by rw [hw2]; exact b1.alloc (by omega) _
  have s2 : w2.heap.size = w.heap.size + 2 := by rw [hw2]; simp [s1]
  rw [← hh]
  rw [s1] at hh
  have HHH := Lib.hid hh
  clear hw1 hw2 o1 b1 l1 s1 hh
  go_wp2_with fail
  refine (write_n h a n cap newRow [] B w2 n2 took_new (HB.out.later b2) (fun h0 => HB.out.old h0 (by have := HHH.out; omega)) (by simpa using hN) (HL.out.below b2 h2) (by have := HHH.out; omega)).mono ?_
  rintro e w3 ⟨rfl, L3, n3, t3, bb3⟩
  rw [List.nil_append] at t3
  have o3 := o2.but bb3 (by omega) (by have := HHH.out; omega)
  have l3 : LaidW w3 := (HL.out.below b2 h2).but bb3 (by have := HHH.out; omega) (by omega)
  have s3 := bb3.size
  have T3 := Lib.hid t3
  have LL3 := Lib.hid l3
  clear t3 l3
  go_wp2_with fail
  refine (sum_took h L3 B w3 n3 T3.out LL3.out (by have := HHH.out; omega)).mono ?_
  rintro e w4 ⟨rfl, n4, bb4⟩
  have o4 := o3.but bb4 (by omega) (by have := HHH.out; omega)
  have p1 := info_32 (dig B) (dig_length B)
  have p2 := size_zeros 32 (dig B) (dig_length B)
  have p3 := one_bytes (dig B)
  have p4 : w4.heap[w.heap.size]? = some (.cells ((List.replicate 32 0).map byv).toArray 22 (0, 0)) := o4
  obtain ⟨R2, hR2⟩ : ∃ R2, R2 = ((dig B).map byv).toArray := ⟨_, rfl⟩
  rw [← hR2] at p1 p2 p3 ⊢
  have P1 := Lib.hid p1
  have P2 := Lib.hid p2
  have P3 := Lib.hid p3
  have P4 := Lib.hid p4
  have HR2 := Lib.hid hR2
  clear p1 p2 p3 p4 hR2
  go_wp2_with (refine wpList_store_row rfl 22 _ _ rfl w.heap.size R2 rfl rfl 22 _ P4.out P1.out P2.out P3.out ?_)
  have hres : ∀ tmps : Array Value, tmps.getD 2 undef = .pointer (some ⟨w.heap.size, 0, none⟩) → (results Tryd.f14 tmps).run Tryd.prog (w4.setRow w.heap.size R2) = .ok (.agg R2) (w4.setRow w.heap.size R2) :=
    fun tmps hp => results_cell_row (fn := Tryd.f14) (p := 2) (ty := 22) Tryd.results14 tmps _ w.heap.size 22 R2 (0, 0) _ hp (setRow_heap _ _ _ _ _ _ P4.out) Tryd.underlying22 rfl P1.out
  refine bodyPost_ret (hres _ rfl) rfl ?_
  refine ⟨by rw [HR2.out], ?_⟩
  have c3 : Below w.heap.size w2 w3 := (bb3.mono (by omega)).below (by have := HHH.out; omega)
  have c4 : Below w.heap.size w3 w4 := (bb4.mono (by omega)).below (by have := HHH.out; omega)
  exact below_setRow ((b2.trans c3).trans c4) (Nat.le_refl _) _

end Go.Proofs.YthomkagbcoaipaaDoor

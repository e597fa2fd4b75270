/-
  The contract of base.Encode: bytes in signs. Conditions: at most some hundred thousand bytes.
-/
import Derived.Test.YthomkagbcoaipaaRows
import Derived.Test.YthomkagbcoaipaaLen
import Derived.Test.YthomkagbcoaipaaBits
namespace Go.Proofs.Ythomkagbcoaipaa
open Go.RowKit

theorem add_at (g j : Nat) : (⟨g, 0, none⟩ : Addr).add j = ⟨g, j, none⟩ := by
  cases j <;> simp [Addr.add]

theorem info_u8 : (Try.prog.info? 5).map (fun i => (i.zero, i.size, i.bytes)) = some (some (.int .u8 0), 1, 1) := by kernel_rfl

set_option maxHeartbeats 400000 in
theorem encode_any (b off cap : Nat) (l : List UInt8) (w : World) (h0 : 0 < l.length) (hm : l.length ≤ 100000) (hb : By w b off l) (hbk : b < w.heap.size) :
    Calls Try.prog 15 #[.slice (some ⟨b, off, none⟩) l.length cap] w fun e w' => e = .returned (.string ⟨(enc l).toArray⟩) ∧ Below w.heap.size w w' := by
  obtain ⟨i0, hi, hz0, hz1, hz2⟩ := info_parts info_u8
  have hs : slen l.length ≤ 200000 := by unfold slen; omega
  go_enter Try.func15, Try.ntmps15
  go_wp2_with (first
    | (go_at_call 21; refine (len_any _ _ (by omega) (by omega)).mono ?_; rintro e w' ⟨rfl, rfl⟩)
    | (at_make; refine wpList_make_full _ rfl _ _ 36 rfl w.heap.size 5 i0 (.int .u8 0) 1 Try.underlying36 hi hz0 hz1 _ _ _ _ (slen l.length) rfl rfl ?m1 ?m2 ?m3 ?m4 ?m5 ?m6))
  case m1 => omega
  case m2 => omega
  case m3 => rw [hz2]; omega
  case m4 => unfold maxLen; omega
  case m5 => exact Nat.le_refl _
  intro w1 hown0 hgrow0
  have hown1 : w1.ownsRow w.heap.size 5 1 (.slice (some ⟨w.heap.size, 0, none⟩) (slen l.length) (slen l.length)) (slen l.length) (encAt (slen l.length) 0 (val l)) := by
    have := hown0
    rw [toList_madeCells_one] at this
    simpa [encAt, encN, bv] using this
  have hbel1 : Below w.heap.size w w1 := (Below.refl _ _).grown hgrow0 (Nat.le_refl _) (by intro k hk; cases hk)
  clear hown0 hgrow0 hi hz0 hz1 hz2
  go_wp2_with fail
  go_loopw [11] (fun i wr => ∃ k : Nat, k ≤ slen l.length ∧ i = .int .i64 k ∧ wr.ownsRow w.heap.size 5 1 (.slice (some ⟨w.heap.size, 0, none⟩) (slen l.length) (slen l.length)) (slen l.length) (encAt (slen l.length) k (val l)) ∧ Below w.heap.size w wr) (fun i _ => slen l.length - (intOf i).toNat)
  case atStart => exact ⟨0, Nat.zero_le _, rfl, hown1, hbel1⟩
  case round =>
    clear hown1 hbel1
    obtain ⟨k, hk, rfl, hown, hbel⟩ := hrel
    by_cases hlt : k < slen l.length
    · have hbr : By wr b off l := fun i hi => (hbel.cell (by exact hbk)).trans (hb i hi)
      obtain ⟨u, hu⟩ := encAt_get (slen l.length) k (val l) (slen l.length - 1 - k) (by omega) (by omega)
      have hcell : wr.cell? ⟨w.heap.size, slen l.length - 1 - k, none⟩ = some u := by rw [hown.cellAt _ (by omega)]; exact hu
      have hfree : wr.frozen? ⟨w.heap.size, slen l.length - 1 - k, none⟩ = false := hown.frozenAt _
      have H1 := Lib.hid hb
      have H2 := Lib.hid hu
      have hd := dig_lt (val l) k
      clear hb hu
      go_wp2_with (go_at_call 22; refine (bits_any _ _ _ k l _ _ (by omega) (by unfold slen at hlt; omega) (by omega) hbr).mono ?_; rintro e w' ⟨rfl, rfl⟩)
      go_roundw
      case rel => exact ⟨k + 1, by omega, by go_num, by rw [← encAt_step _ _ _ hlt, ← sign_at _ hd]; exact (hown.stored _ _).1, hbel.setCell (Nat.le_refl _) _⟩
      case measure => simp [intOf]; omega
    · obtain rfl : k = slen l.length := by omega
      rw [encAt_all] at hown
      have hcv := run_convert_bytes_back (P := Try.prog) wr 36 9 5 ⟨w.heap.size, 0, none⟩ (slen l.length) (enc l) Try.underlying36 Try.underlying5 Try.underlying9
        (fun j hj => by
          rw [enc_length] at hj
          have h1 := hown.cellAt j (by omega)
          rw [add_at, h1, List.getElem?_map, List.getElem?_eq_getElem (by rw [encN_length]; exact hj)]
          rfl)
      rw [enc_length] at hcv
      go_wp2
      go_ret
      exact ⟨rfl, hbel⟩

set_option maxHeartbeats 400000 in
theorem encode_none (a : Option Addr) (cap : Nat) (w : World) :
    Calls Try.prog 15 #[.slice a 0 cap] w fun e w' => e = .returned (.string ⟨#[]⟩) ∧ Below w.heap.size w w' := by
  obtain ⟨i0, hi, hz0, hz1, hz2⟩ := info_parts info_u8
  go_enter Try.func15, Try.ntmps15
  go_wp2_with (first
    | (go_at_call 21; refine (len_none _ _ (by omega)).mono ?_; rintro e w' ⟨rfl, rfl⟩)
    | (at_make; refine wpList_make_full _ rfl _ _ 36 rfl w.heap.size 5 i0 (.int .u8 0) 1 Try.underlying36 hi hz0 hz1 _ _ _ _ 0 rfl rfl ?m1 ?m2 ?m3 ?m4 ?m5 ?m6))
  case m1 => rfl
  case m2 => rfl
  case m3 => omega
  case m4 => unfold maxLen; omega
  case m5 => exact Nat.le_refl _
  intro w1 hown0 hgrow0
  have hbel1 : Below w.heap.size w w1 := (Below.refl _ _).grown hgrow0 (Nat.le_refl _) (by intro k hk; cases hk)
  have hcv := run_convert_bytes_back (P := Try.prog) w1 36 9 5 ⟨w.heap.size, 0, none⟩ 0 [] Try.underlying36 Try.underlying5 Try.underlying9 (fun j hj => by simp at hj)
  rw [List.length_nil] at hcv
  clear hown0 hgrow0 hi hz0 hz1 hz2
  go_wp2_with fail
  refine wp_loop_rounds 1 ?_
  rw [rounds_succ]
  go_wp2
  go_ret
  exact ⟨rfl, hbel1⟩

end Go.Proofs.Ythomkagbcoaipaa

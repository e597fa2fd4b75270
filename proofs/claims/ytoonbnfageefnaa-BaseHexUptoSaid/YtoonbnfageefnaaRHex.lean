/-
  The contract of the reference's Hex: the same digits. Conditions: at most 2^46 bytes.
-/
import Derived.Test.YtoonbnfageefnaaRowMore
import Derived.Test.YtoonbnfageefnaaREnc
import Derived.Deep.RegionHeld3
import Derived.Deep.AppendLies
namespace Go.Proofs.Ytoonbnfageefnaa
open Go.RowKit

set_option maxRecDepth 100000 in
set_option maxHeartbeats 2000000 in
theorem rhex_any (b off cap : Nat) (l : List UInt8) (w : World) (h0 : 0 < l.length) (hm : l.length ≤ 70368744177664) (hb : By w b off l) (hbk : b < w.heap.size) :
    Calls Try.prog 19 #[.slice (some ⟨b, off, none⟩) l.length cap] w fun e w' => e = .returned (.string ⟨(hexL l).toArray⟩) ∧ Below w.heap.size w w' := by
  obtain ⟨i0, hi, hz0, hz1, hz2⟩ := info_parts info_u8
  go_enter Try.func19, Try.ntmps19
  go_wp2_with fail
  go_loopw [3, 4] (fun v i wr => ∃ k : Nat, k ≤ l.length ∧ i = .int .i64 k ∧ wr.ownsRow w.heap.size 5 1 v (2 * k) ((hexL (l.take k)).map bv) ∧ Below w.heap.size w wr) (fun _ i _ => l.length - (intOf i).toNat)
  case atStart => exact ⟨0, Nat.zero_le _, rfl, World.ownsRow_nil _ _ _ _, Below.refl _ _⟩
  case round =>
    obtain ⟨k, hk, rfl, hown, hbel⟩ := hrel
    by_cases hlt : k < l.length
    · have hcell : wr.cell? ⟨b, off + k, none⟩ = some (.int .u8 ((l.getD k 0).toNat : Int)) := (hbel.cell (by exact hbk)).trans (hb k hlt)
      have bx := (l.getD k 0).toNat_lt
      have H1 := Lib.hid hb
      have H3 := Lib.hid (hexL_step l k hlt)
      have hsz := hbel.size
      have hblk : u3.ownBlock ≠ some b := by
        intro e
        have := (hown.lt b e).1
        omega
      clear hb
      generalize (l.getD k 0).toNat = x at *
      have x1 : (0 : Int) ≤ (x : Int) / 16 := by omega
      have x2 : (x : Int) / 16 < 16 := by omega
      have x3 : (0 : Int) ≤ (x : Int) % 16 := by omega
      have x4 : (x : Int) % 16 < 16 := by omega
      have x5 : x < 256 := by omega
      have x6 : (0 : Int) ≤ (x : Int) := by omega
      have x7 : (x : Int) < 256 := by omega
      have hdig := digit_at
      have ht1 : (x : Int).tdiv 16 = (x : Int) / 16 := Int.tdiv_eq_ediv_of_nonneg x6
      have ht2 : (x : Int).tmod 16 = (x : Int) % 16 := Int.tmod_eq_emod_of_nonneg x6
      have hw1 : IntKind.u8.wrap ((x : Int) / 16) = (x : Int) / 16 := by rw [IntKind.wrap_u8]; omega
      have hw2 : IntKind.u8.wrap ((x : Int) % 16) = (x : Int) % 16 := by rw [IntKind.wrap_u8]; omega
      have hk1 : (k : Int) < (l.length : Int) := by omega
      have hne : some (⟨b, off + k, none⟩ : Addr).block ≠ u3.ownBlock := fun e => hblk e.symm
      go_wp2
      go_region_held3 (fun w' => w'.cell? ⟨b, off + k, none⟩ = some (.int .u8 (x : Int)))
        (first
          | go_keep
          | (refine hgrow2.cell (by assumption) hne)
          | (go_split_ands; refine hgrow2.cell (by assumption) hne))
        ((refine step_append_lies _ (by rfl) _ _ _ (by rfl) w.heap.size 5 i0 (.int .u8 0) 1 1 Try.underlying22 hi hz0 hz1 hz2 rfl (by omega) u3 (2 * k) ((hexL (l.take k)).map bv) (by rfl) ((hown.alloc _).drew) ⟨wr.heap.size, 0, none⟩ 2 2 [.int .u8 ((hx (x / 16)).toNat : Int), .int .u8 ((hx (x % 16)).toNat : Int)] (by rfl) (by rfl) (World.news_of_block (cs := #[.int .u8 ((hx (x / 16)).toNat : Int), .int .u8 ((hx (x % 16)).toNat : Int)]) (t := 5) (fr := (0, 0)) (heap_alloc_new wr _)) (by simp [Value.oneCell']) (by omega) (by unfold maxLen; omega) (by omega) (by simp; omega) (wr.heap.size + 1) (by simp) ?_; intro gg cap2 w2 hown2 hgrow2 _ _))
      all_goals
        have e2 : 2 * (k + 1) = 2 * k + 2 := by omega
        have hbel2 : Below w.heap.size w w2 := ((hbel.alloc hsz _).drew).grown hgrow2 (by simp; omega) (fun q hq => (hown.lt q hq).1)
        have hown3 : w2.ownsRow w.heap.size 5 1 (.slice (some ⟨gg, 0, none⟩) (2 * k + 2) cap2) (2 * (k + 1)) ((hexL (l.take (k + 1))).map bv) := by
          rw [e2, H3.out, List.map_append]; exact hown2
        clear e2 hown2 hgrow2 hown hbel
        go_wp2
        go_roundw
        case rel => exact ⟨k + 1, by omega, by go_num, hown3, hbel2⟩
        case measure => simp [intOf]; omega
    · obtain rfl : k = l.length := by omega
      rw [List.take_length] at hown
      obtain ⟨a, c, rfl, hI, _⟩ := isB_of_owns hown
      have hcv := convert_b hI
      clear hI hown
      go_wp2
      go_ret
      exact ⟨rfl, hbel⟩

set_option maxRecDepth 100000 in
set_option maxHeartbeats 1000000 in
theorem rhex_none (a : Option Addr) (cap : Nat) (w : World) :
    Calls Try.prog 19 #[.slice a 0 cap] w fun e w' => e = .returned (.string ⟨#[]⟩) ∧ Below w.heap.size w w' := by
  have hcv := convert_b (w := w) (a := none) (n := 0) (cap := 0) (l := []) ⟨rfl, .inl rfl, by unfold maxLen; omega, fun _ => ⟨rfl, rfl⟩, by omega, by unfold maxLen; omega⟩
  go_enter Try.func19, Try.ntmps19
  go_wp2_with fail
  refine wp_loop_rounds 1 ?_
  rw [rounds_succ]
  go_wp2
  go_ret
  exact ⟨rfl, Below.refl _ _⟩

theorem rhex_b (a : Option Addr) (len cap : Nat) (l : List UInt8) (w : World) (h : IsB w a len cap l) (hm : len ≤ 70368744177664) :
    Calls Try.prog 19 #[.slice a len cap] w fun e w' => e = .returned (.string ⟨(hexL l).toArray⟩) ∧ Below w.heap.size w w' := by
  obtain ⟨h1, h2, h3, _, _⟩ := h
  rcases h2 with h0 | ⟨b, off, rfl, hlt, hby⟩
  · subst h0
    obtain rfl : l = [] := List.eq_nil_of_length_eq_zero h1
    exact rhex_none a cap w
  · subst h1
    rcases Nat.eq_zero_or_pos l.length with h0 | h0
    · obtain rfl : l = [] := List.eq_nil_of_length_eq_zero h0
      exact rhex_none _ cap w
    · exact rhex_any b off cap l w h0 hm hby hlt

end Go.Proofs.Ytoonbnfageefnaa

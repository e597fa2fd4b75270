/-
  The contract of base.Hex: bytes in digits. Conditions: at most 2^47 bytes.
-/
import Derived.Test.YtoonbnfageefnaaRows
import Derived.Test.YtoonbnfageefnaaEnc
import Derived.Deep.RegionHeld3
import Derived.Deep.AppendLies
namespace Go.Proofs.Ytoonbnfageefnaa
open Go.RowKit

/-- An append within the capacity, as one step of a region that draws its order. -/
theorem step_append_fits {P : Program} {w : World} {ops : Array Oper} {o : Oper} {a : Act} {K : Act → World → Prop} {Q : Exit → Act → World → Prop} {E : Prop} (hgd : o.guard = none) (s x : Operand) (t : TypeId)
    (hop : o.op = .call { callee := .builtin .append, args := #[s, x], argTypes := #[t, t] })
    (base : Nat) (e : TypeId) (i : TypeInfo) (size : Nat) (h1 : P.underlying t = some (.slice e)) (h2 : P.info? e = some i) (h4 : i.size = size)
    (g k cap : Nat) (xs : List Value) (hs : a.eval s = .slice (some ⟨g, 0, none⟩) k cap) (hown : w.ownsRow base e size (.slice (some ⟨g, 0, none⟩) k cap) k xs)
    (ad : Addr) (m c : Nat) (news : List Value) (hx : a.eval x = .slice (some ad) m c) (hn : news.length = m * size)
    (hc : ∀ j u, news[j]? = some u → w.cell? (ad.add j) = some u) (h1c : ∀ u ∈ news, u.oneCell' = true) (b1 : k + m ≤ cap)
    (h : ∀ w', w'.ownsRow base e size (.slice (some ⟨g, 0, none⟩) (k + m) cap) (k + m) (xs ++ news) → w.grownBy w' (some g) → K (a.put o.dst (.slice (some ⟨g, 0, none⟩) (k + m) cap)) w') :
    if Region.wanted o (yielded ops a.tmps) = true then Oper.wp P o a w K Q else E := by
  have hw : Region.wanted o (yielded ops a.tmps) = true := by simp [Region.wanted, hgd]
  rw [if_pos hw]
  obtain ⟨w', hrun, r1, r2⟩ := run_append_fits (P := P) w base t o.type e i size h1 h2 h4 g k cap xs hown ad m c news hn hc h1c b1
  unfold Oper.wp
  simp [execOp, hop, resolve, invoke, builtin, hs, hx, hrun, Result.andThen]
  exact h w' r1 r2

set_option maxRecDepth 100000 in
set_option maxHeartbeats 400000 in
theorem hex_any (b off cap : Nat) (l : List UInt8) (w : World) (h0 : 0 < l.length) (hm : l.length ≤ 140737488355328) (hb : By w b off l) (hbk : b < w.heap.size) :
    Calls Try.prog 16 #[.slice (some ⟨b, off, none⟩) l.length cap] w fun e w' => e = .returned (.string ⟨(hexL l).toArray⟩) ∧ Below w.heap.size w w' := by
  obtain ⟨i0, hi, hz0, hz1, hz2⟩ := info_parts info_u8
  go_enter Try.func16, Try.ntmps16
  go_wp2_with (at_make; refine wpList_make_own _ rfl _ _ 22 rfl w.heap.size 5 i0 (.int .u8 0) 1 Try.underlying22 hi hz0 hz1 _ _ _ (2 * l.length) rfl rfl ?m2 ?m3 ?m4 ?m5 ?m6)
  case m2 => omega
  case m3 => rw [hz2]; omega
  case m4 => unfold maxLen; omega
  case m5 => exact Nat.le_refl _
  intro w1 hown0 hgrow0
  have hbel1 : Below w.heap.size w w1 := (Below.refl _ _).grown hgrow0 (Nat.le_refl _) (by intro k hk; cases hk)
  clear hgrow0
  go_wp2_with fail
  go_loopw [3, 11] (fun v i wr => ∃ k : Nat, k ≤ l.length ∧ i = .int .i64 k ∧ v = .slice (some ⟨w.heap.size, 0, none⟩) (2 * k) (2 * l.length) ∧ wr.ownsRow w.heap.size 5 1 (.slice (some ⟨w.heap.size, 0, none⟩) (2 * k) (2 * l.length)) (2 * k) ((hexL (l.take k)).map bv) ∧ Below w.heap.size w wr) (fun _ i _ => l.length - (intOf i).toNat)
  case atStart => exact ⟨0, Nat.zero_le _, rfl, rfl, hown0, hbel1⟩
  case round =>
    clear hown0 hbel1
    obtain ⟨k, hk, rfl, rfl, hown, hbel⟩ := hrel
    by_cases hlt : k < l.length
    · have hcell : wr.cell? ⟨b, off + k, none⟩ = some (.int .u8 ((l.getD k 0).toNat : Int)) := (hbel.cell (by exact hbk)).trans (hb k hlt)
      have bx := (l.getD k 0).toNat_lt
      have H1 := Lib.hid hb
      have H3 := Lib.hid (hexL_step l k hlt)
      clear hb
      generalize (l.getD k 0).toNat = x at *
      have x1 : (0 : Int) ≤ (x : Int) / 16 := by omega
      have x2 : (x : Int) / 16 < 16 := by omega
      have x3 : (0 : Int) ≤ (x : Int) % 16 := by omega
      have x4 : (x : Int) % 16 < 16 := by omega
      have x5 : x < 256 := by omega
      have x6 : (0 : Int) ≤ (x : Int) := by omega
      have x7 : (x : Int) < 256 := by omega
      have hdig := digit_at
      have hne : some (⟨b, off + k, none⟩ : Addr).block ≠ some w.heap.size := by simp; omega
      have x8 : bits .and .u8 (x : Int) 15 = (x : Int) % 16 := u8_and15 _ x6 x7
      go_wp2
      go_region_held3 (fun w' => w'.cell? ⟨b, off + k, none⟩ = some (.int .u8 (x : Int)))
        (first
          | go_keep
          | (refine hgrow2.cell (by assumption) hne)
          | (go_split_ands; refine hgrow2.cell (by assumption) hne))
        ((refine step_append_fits (by rfl) _ _ _ (by rfl) w.heap.size 5 i0 1 Try.underlying22 hi hz1 w.heap.size (2 * k) (2 * l.length) ((hexL (l.take k)).map bv) (by rfl) ((hown.alloc _).drew) ⟨wr.heap.size, 0, none⟩ 2 2 [.int .u8 ((hx (x / 16)).toNat : Int), .int .u8 ((hx (x % 16)).toNat : Int)] (by rfl) (by rfl) (World.news_of_block (cs := #[.int .u8 ((hx (x / 16)).toNat : Int), .int .u8 ((hx (x % 16)).toNat : Int)]) (t := 5) (fr := (0, 0)) (heap_alloc_new wr _)) (by simp [Value.oneCell']) (by omega) ?_; intro w2 hown2 hgrow2))
      all_goals
        have e2 : 2 * (k + 1) = 2 * k + 2 := by omega
        have hbel2 : Below w.heap.size w w2 := ((hbel.alloc (by have := hbel.size; omega) _).drew).grown hgrow2 (by have := hbel.size; simp; omega) (by intro k hk; cases hk; exact Nat.le_refl _)
        have hown3 : w2.ownsRow w.heap.size 5 1 (.slice (some ⟨w.heap.size, 0, none⟩) (2 * (k + 1)) (2 * l.length)) (2 * (k + 1)) ((hexL (l.take (k + 1))).map bv) := by
          rw [e2, H3.out, List.map_append]; exact hown2
        have H2 := Lib.hid e2
        clear e2 hown2 hgrow2 hown hbel
        go_wp2
        go_roundw
        case rel => exact ⟨k + 1, by omega, by go_num, by rw [H2.out], hown3, hbel2⟩
        case measure => simp [intOf]; omega
    · obtain rfl : k = l.length := by omega
      rw [List.take_length] at hown
      have hcv := run_convert_bytes_back (P := Try.prog) wr 22 9 5 ⟨w.heap.size, 0, none⟩ (2 * l.length) (hexL l) Try.underlying22 Try.underlying5 Try.underlying9
        (fun j hj => by
          rw [hexL_length] at hj
          have h1 := hown.cellAt j (by omega)
          rw [add_at, h1, List.getElem?_map, List.getElem?_eq_getElem (by rw [hexL_length]; exact hj)]
          rfl)
      rw [hexL_length] at hcv
      go_wp2
      go_ret
      exact ⟨rfl, hbel⟩

set_option maxHeartbeats 400000 in
theorem hex_none (a : Option Addr) (cap : Nat) (w : World) :
    Calls Try.prog 16 #[.slice a 0 cap] w fun e w' => e = .returned (.string ⟨#[]⟩) ∧ Below w.heap.size w w' := by
  obtain ⟨i0, hi, hz0, hz1, hz2⟩ := info_parts info_u8
  go_enter Try.func16, Try.ntmps16
  go_wp2_with (at_make; refine wpList_make_own _ rfl _ _ 22 rfl w.heap.size 5 i0 (.int .u8 0) 1 Try.underlying22 hi hz0 hz1 _ _ _ 0 rfl rfl ?m2 ?m3 ?m4 ?m5 ?m6)
  case m2 => rfl
  case m3 => omega
  case m4 => unfold maxLen; omega
  case m5 => exact Nat.le_refl _
  intro w1 hown0 hgrow0
  have hbel1 : Below w.heap.size w w1 := (Below.refl _ _).grown hgrow0 (Nat.le_refl _) (by intro k hk; cases hk)
  have hcv := run_convert_bytes_back (P := Try.prog) w1 22 9 5 ⟨w.heap.size, 0, none⟩ 0 [] Try.underlying22 Try.underlying5 Try.underlying9 (fun j hj => by simp at hj)
  rw [List.length_nil] at hcv
  clear hown0 hgrow0 hi hz0 hz1 hz2
  go_wp2_with fail
  refine wp_loop_rounds 1 ?_
  rw [rounds_succ]
  go_wp2
  go_ret
  exact ⟨rfl, hbel1⟩

end Go.Proofs.Ytoonbnfageefnaa

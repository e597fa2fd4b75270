/-
  The contracts of the two length functions: how many base-32 signs a number of bytes has. Conditions: the number is at most a thousand million.
-/
import Derived.Test.YtokbakpbhpknfaaGreatDoorRows
import Derived.Test.YtokbakpbhpknfaaGreatDoorMathN
import Derived.WalkKit
import Derived.WalkSpells
import Derived.WalkLawsBesides
import Derived.Lib.Hide
import Derived.Deep.RegionHeld3
import Derived.Deep.AppendLies
import Derived.ProofKit
import Derived.OpenShut
import Derived.Laws.AppendOwnNone
namespace Go.Proofs.YtokbakpbhpknfaaGreatDoor.Nam
open Go.RowKit

theorem ret_i64 {a b : Int} (h : a = b) : Ending.returned (.int .i64 a) = .returned (.int .i64 b) := by rw [h]

set_option maxHeartbeats 400000 in
theorem len_any (n : Int) (w : World) (h0 : 0 < n) (h1 : n ≤ 1000000000) :
    Calls Tryz.prog 83 #[.int .i64 n] w fun e w' => e = .returned (.int .i64 (slen n.toNat)) ∧ w = w' := by
  have h2 : ¬ n ≤ 0 := by omega
  go_enter Tryz.func83, Tryz.ntmps83
  go_wp2
  go_ret
  exact ⟨ret_i64 (by unfold slen; omega), rfl⟩

set_option maxHeartbeats 400000 in
theorem len_none (n : Int) (w : World) (h0 : n ≤ 0) :
    Calls Tryz.prog 83 #[.int .i64 n] w fun e w' => e = .returned (.int .i64 0) ∧ w = w' := by
  go_enter Tryz.func83, Tryz.ntmps83
  go_wp2
  go_ret
  exact ⟨rfl, rfl⟩

set_option maxHeartbeats 400000 in
theorem rlen_none (n : Int) (w : World) (h0 : n ≤ 0) :
    Calls Tryz.prog 102 #[.int .i64 n] w fun e w' => e = .returned (.int .i64 0) ∧ w = w' := by
  have h1 : ¬ 0 < n := by omega
  go_enter Tryz.func102, Tryz.ntmps102
  go_wp2
  refine wp_loop_rounds 1 ?_
  rw [rounds_succ]
  go_wp2
  go_ret
  exact ⟨rfl, rfl⟩

set_option maxHeartbeats 400000 in
theorem rlen_any (n : Int) (w : World) (h0 : 0 < n) (h1 : n ≤ 1000000000) :
    Calls Tryz.prog 102 #[.int .i64 n] w fun e w' => e = .returned (.int .i64 (slen n.toNat)) ∧ w = w' := by
  have hb : (slen n.toNat : Int) ≤ 2000000000 := by unfold slen; omega
  go_enter Tryz.func102, Tryz.ntmps102
  go_wp2
  go_loop [3] (fun t => ∃ k : Nat, (k : Int) ≤ slen n.toNat ∧ t = .int .i64 k) (fun t => slen n.toNat - (intOf t).toNat)
  case atStart => exact ⟨0, by omega, rfl⟩
  case round =>
    obtain ⟨k, hk, rfl⟩ := hrel
    by_cases hlt : (k : Int) * 5 < n * 8
    · go_wp2
      go_round
      case rel => exact ⟨k + 1, by unfold slen at *; omega, by go_num⟩
      case measure => simp [intOf]; unfold slen at *; omega
    · go_wp2
      go_ret
      exact ⟨ret_i64 (by unfold slen at *; omega), rfl⟩

end Go.Proofs.YtokbakpbhpknfaaGreatDoor.Nam

namespace Go.Proofs.YtokbakpbhpknfaaGreatDoor.Nam
open Go.RowKit

theorem ret_u8 {a b : Int} (h : a = b) : Ending.returned (.int .u8 a) = .returned (.int .u8 b) := by rw [h]

/-- The cells from b, off on hold these bytes. -/
def By (w : World) (b off : Nat) (l : List UInt8) : Prop := ∀ i, i < l.length → w.cell? ⟨b, off + i, none⟩ = some (.int .u8 ((l.getD i 0).toNat : Int))

set_option maxHeartbeats 400000 in
theorem bits_two (b off len cap : Nat) (j x y : Int) (w : World) (h0 : 0 ≤ j) (h1 : j ≤ 1000000000) (hl : j / 8 + 1 < (len : Int)) (hm : len ≤ 1000000000)
    (hx : w.cell? ⟨b, off + (j / 8).toNat, none⟩ = some (.int .u8 x)) (hy : w.cell? ⟨b, off + (j / 8 + 1).toNat, none⟩ = some (.int .u8 y))
    (x0 : 0 ≤ x) (x1 : x < 256) (y0 : 0 ≤ y) (y1 : y < 256) :
    Calls Tryz.prog 89 #[.slice (some ⟨b, off, none⟩) len cap, .int .i64 j] w fun e w' => e = .returned (.int .u8 ((x + 256 * y) / 2 ^ (j % 8).toNat % 32)) ∧ w = w' := by
  have hq : 0 ≤ j / 8 := by omega
  have hr : 0 ≤ j % 8 := by omega
  have hr8 : j % 8 < 8 := by omega
  have hq1 : j / 8 < (len : Int) := by omega
  go_enter Tryz.func89, Tryz.ntmps89
  go_wp2
  go_ret
  exact ⟨ret_u8 (by rw [u64_join x y x0 x1 y0 y1]; omega), rfl⟩

set_option maxHeartbeats 400000 in
theorem bits_one (b off len cap : Nat) (j x : Int) (w : World) (h0 : 0 ≤ j) (h1 : j ≤ 1000000000) (hl : j / 8 < (len : Int)) (hl2 : ¬ j / 8 + 1 < (len : Int)) (hm : len ≤ 1000000000)
    (hx : w.cell? ⟨b, off + (j / 8).toNat, none⟩ = some (.int .u8 x))
    (x0 : 0 ≤ x) (x1 : x < 256) :
    Calls Tryz.prog 89 #[.slice (some ⟨b, off, none⟩) len cap, .int .i64 j] w fun e w' => e = .returned (.int .u8 (x / 2 ^ (j % 8).toNat % 32)) ∧ w = w' := by
  have hq : 0 ≤ j / 8 := by omega
  have hr : 0 ≤ j % 8 := by omega
  have hr8 : j % 8 < 8 := by omega
  go_enter Tryz.func89, Tryz.ntmps89
  go_wp2
  go_ret
  exact ⟨ret_u8 (by omega), rfl⟩

theorem cast_digit (n r : Nat) : (((n / 2 ^ r % 32 : Nat)) : Int) = (n : Int) / 2 ^ r % 32 := by
  simp [Int.natCast_ediv, Int.natCast_emod, Int.natCast_pow]

theorem bits_any (b off cap k : Nat) (l : List UInt8) (j : Int) (w : World) (hj : j = 5 * (k : Int)) (hk : 5 * k < 8 * l.length) (hm : l.length ≤ 100000000) (hb : By w b off l) :
    Calls Tryz.prog 89 #[.slice (some ⟨b, off, none⟩) l.length cap, .int .i64 j] w fun e w' => e = .returned (.int .u8 (dig (val l) k : Int)) ∧ w = w' := by
  unfold dig
  have hq : 5 * k / 8 < l.length := by omega
  have e1 : (j / 8).toNat = 5 * k / 8 := by omega
  have e2 : (j % 8).toNat = 5 * k % 8 := by omega
  have hx := hb _ hq
  have bx := (l.getD (5 * k / 8) 0).toNat_lt
  have hd := digit_two l k
  rw [val_at l _ hq] at hd
  by_cases h2 : 5 * k / 8 + 1 < l.length
  · have e3 : (j / 8 + 1).toNat = 5 * k / 8 + 1 := by omega
    have hy := hb _ h2
    have bY := (l.getD (5 * k / 8 + 1) 0).toNat_lt
    rw [val_at l _ h2] at hd
    refine (bits_two b off l.length cap j (l.getD (5 * k / 8) 0).toNat (l.getD (5 * k / 8 + 1) 0).toNat w (by omega) (by omega) (by omega) (by omega) (by rw [e1]; exact hx) (by rw [e3]; exact hy) (by omega) (by omega) (by omega) (by omega)).mono ?_
    rintro e w' ⟨rfl, hw⟩
    refine ⟨ret_u8 ?_, hw⟩
    have e5 : ((l.getD (5 * k / 8) 0).toNat + 256 * ((l.getD (5 * k / 8 + 1) 0).toNat + 256 * val (l.drop (5 * k / 8 + 1 + 1)))) % 65536 = (l.getD (5 * k / 8) 0).toNat + 256 * (l.getD (5 * k / 8 + 1) 0).toNat := by omega
    rw [hd, e5, e2, cast_digit]
    simp
  · rw [val_at_beyond l _ (by omega)] at hd
    refine (bits_one b off l.length cap j (l.getD (5 * k / 8) 0).toNat w (by omega) (by omega) (by omega) (by omega) (by omega) (by rw [e1]; exact hx) (by omega) (by omega)).mono ?_
    rintro e w' ⟨rfl, hw⟩
    refine ⟨ret_u8 ?_, hw⟩
    have e5 : ((l.getD (5 * k / 8) 0).toNat + 256 * 0) % 65536 = (l.getD (5 * k / 8) 0).toNat := by omega
    rw [hd, e5, e2, cast_digit]

end Go.Proofs.YtokbakpbhpknfaaGreatDoor.Nam

namespace Go.Proofs.YtokbakpbhpknfaaGreatDoor.Nam
open Go.RowKit

theorem add_at (g j : Nat) : (⟨g, 0, none⟩ : Addr).add j = ⟨g, j, none⟩ := by
  cases j <;> simp [Addr.add]

theorem info_u8 : (Tryz.prog.info? 5).map (fun i => (i.zero, i.size, i.bytes)) = some (some (.int .u8 0), 1, 1) := by kernel_rfl

set_option maxHeartbeats 400000 in
theorem encode_any (b off cap : Nat) (l : List UInt8) (w : World) (h0 : 0 < l.length) (hm : l.length ≤ 100000) (hb : By w b off l) (hbk : b < w.heap.size) :
    Calls Tryz.prog 63 #[.slice (some ⟨b, off, none⟩) l.length cap] w fun e w' => e = .returned (.string ⟨(enc l).toArray⟩) ∧ Below w.heap.size w w' := by
  obtain ⟨i0, hi, hz0, hz1, hz2⟩ := info_parts info_u8
  have hs : slen l.length ≤ 200000 := by unfold slen; omega
  go_enter Tryz.func63, Tryz.ntmps63
  go_wp2_with (first
    | (go_at_call 83; refine (len_any _ _ (by omega) (by omega)).mono ?_; rintro e w' ⟨rfl, rfl⟩)
    | (at_make; refine wpList_make_full _ rfl _ _ 45 rfl w.heap.size 5 i0 (.int .u8 0) 1 Tryz.underlying45 hi hz0 hz1 _ _ _ _ (slen l.length) rfl rfl ?m1 ?m2 ?m3 ?m4 ?m5 ?m6))
  case m1 => omega
  case m2 => omega
  case m3 => rw [hz2]; omega
  case m4 => unfold maxLen; omega
  case m5 => exact Nat.le_refl _
  intro w1 hown0 hgrow0
  have hown1 : w1.ownsRow w.heap.size 5 1 (.slice (some ⟨w.heap.size, 0, none⟩) (slen l.length) (slen l.length)) (slen l.length) (encAt (slen l.length) 0 (val l)) := by
    have := hown0
    rw [toList_madeCells_one] at this
    simpa [encAt, encN, bv] using this
  have hbel1 : Below w.heap.size w w1 := (Below.refl _ _).grown hgrow0 (Nat.le_refl _) (by intro k hk; cases hk)
  clear hown0 hgrow0 hi hz0 hz1 hz2
  go_wp2_with fail
  go_loopw [11] (fun i wr => ∃ k : Nat, k ≤ slen l.length ∧ i = .int .i64 k ∧ wr.ownsRow w.heap.size 5 1 (.slice (some ⟨w.heap.size, 0, none⟩) (slen l.length) (slen l.length)) (slen l.length) (encAt (slen l.length) k (val l)) ∧ Below w.heap.size w wr) (fun i _ => slen l.length - (intOf i).toNat)
  case atStart => exact ⟨0, Nat.zero_le _, rfl, hown1, hbel1⟩
  case round =>
    clear hown1 hbel1
    obtain ⟨k, hk, rfl, hown, hbel⟩ := hrel
    by_cases hlt : k < slen l.length
    · have hbr : By wr b off l := fun i hi => (hbel.cell (by exact hbk)).trans (hb i hi)
      obtain ⟨u, hu⟩ := encAt_get (slen l.length) k (val l) (slen l.length - 1 - k) (by omega) (by omega)
      have hcell : wr.cell? ⟨w.heap.size, slen l.length - 1 - k, none⟩ = some u := by rw [hown.cellAt _ (by omega)]; exact hu
      have hfree : wr.frozen? ⟨w.heap.size, slen l.length - 1 - k, none⟩ = false := hown.frozenAt _
      have H1 := Lib.hid hb
      have H2 := Lib.hid hu
      have hd := dig_lt (val l) k
      clear hb hu
      go_wp2_with (go_at_call 89; refine (bits_any _ _ _ k l _ _ (by omega) (by unfold slen at hlt; omega) (by omega) hbr).mono ?_; rintro e w' ⟨rfl, rfl⟩)
      go_roundw
      case rel => exact ⟨k + 1, by omega, by go_num, by rw [← encAt_step _ _ _ hlt, ← sign_at _ hd]; exact (hown.stored _ _).1, hbel.setCell (Nat.le_refl _) _⟩
      case measure => simp [intOf]; omega
    · obtain rfl : k = slen l.length := by omega
      rw [encAt_all] at hown
      have hcv := run_convert_bytes_back (P := Tryz.prog) wr 45 9 5 ⟨w.heap.size, 0, none⟩ (slen l.length) (enc l) Tryz.underlying45 Tryz.underlying5 Tryz.underlying9
        (fun j hj => by
          rw [enc_length] at hj
          have h1 := hown.cellAt j (by omega)
          rw [add_at, h1, List.getElem?_map, List.getElem?_eq_getElem (by rw [encN_length]; exact hj)]
          rfl)
      rw [enc_length] at hcv
      go_wp2
      go_ret
      exact ⟨rfl, hbel⟩

set_option maxHeartbeats 400000 in
theorem encode_none (a : Option Addr) (cap : Nat) (w : World) :
    Calls Tryz.prog 63 #[.slice a 0 cap] w fun e w' => e = .returned (.string ⟨#[]⟩) ∧ Below w.heap.size w w' := by
  obtain ⟨i0, hi, hz0, hz1, hz2⟩ := info_parts info_u8
  go_enter Tryz.func63, Tryz.ntmps63
  go_wp2_with (first
    | (go_at_call 83; refine (len_none _ _ (by omega)).mono ?_; rintro e w' ⟨rfl, rfl⟩)
    | (at_make; refine wpList_make_full _ rfl _ _ 45 rfl w.heap.size 5 i0 (.int .u8 0) 1 Tryz.underlying45 hi hz0 hz1 _ _ _ _ 0 rfl rfl ?m1 ?m2 ?m3 ?m4 ?m5 ?m6))
  case m1 => rfl
  case m2 => rfl
  case m3 => omega
  case m4 => unfold maxLen; omega
  case m5 => exact Nat.le_refl _
  intro w1 hown0 hgrow0
  have hbel1 : Below w.heap.size w w1 := (Below.refl _ _).grown hgrow0 (Nat.le_refl _) (by intro k hk; cases hk)
  have hcv := run_convert_bytes_back (P := Tryz.prog) w1 45 9 5 ⟨w.heap.size, 0, none⟩ 0 [] Tryz.underlying45 Tryz.underlying5 Tryz.underlying9 (fun j hj => by simp at hj)
  rw [List.length_nil] at hcv
  clear hown0 hgrow0 hi hz0 hz1 hz2
  go_wp2_with fail
  refine wp_loop_rounds 1 ?_
  rw [rounds_succ]
  go_wp2
  go_ret
  exact ⟨rfl, hbel1⟩

end Go.Proofs.YtokbakpbhpknfaaGreatDoor.Nam

namespace Go.Proofs.YtokbakpbhpknfaaGreatDoor.Nam
open Go.RowKit

/-- An append within the capacity, as one step of a region that draws its order. -/
theorem step_append_fits {P : Program} {w : World} {ops : Array Oper} {o : Oper} {a : Act} {K : Act → World → Prop} {Q : Exit → Act → World → Prop} {E : Prop} (hgd : o.guard = none) (s x : Operand) (t : TypeId)
    (hop : o.op = .call { callee := .builtin .append, args := #[s, x], argTypes := #[t, t] })
    (base : Nat) (e : TypeId) (i : TypeInfo) (size : Nat) (h1 : P.underlying t = some (.slice e)) (h2 : P.info? e = some i) (h4 : i.size = size)
    (g k cap : Nat) (xs : List Value) (hs : a.eval s = .slice (some ⟨g, 0, none⟩) k cap) (hown : w.ownsRow base e size (.slice (some ⟨g, 0, none⟩) k cap) k xs)
    (ad : Addr) (m c : Nat) (news : List Value) (hx : a.eval x = .slice (some ad) m c) (hn : news.length = m * size)
    (hc : ∀ j u, news[j]? = some u → w.cell? (ad.add j) = some u) (h1c : ∀ u ∈ news, u.oneCell' = true) (b1 : k + m ≤ cap)
    (h : ∀ w', w'.ownsRow base e size (.slice (some ⟨g, 0, none⟩) (k + m) cap) (k + m) (xs ++ news) → w.grownBy w' (some g) → K (a.put o.dst (.slice (some ⟨g, 0, none⟩) (k + m) cap)) w') :
    if Region.wanted o (yielded ops a.tmps) = true then Oper.wp P o a w K Q else E := by
  have hw : Region.wanted o (yielded ops a.tmps) = true := by simp [Region.wanted, hgd]
  rw [if_pos hw]
  obtain ⟨w', hrun, r1, r2⟩ := run_append_fits (P := P) w base t o.type e i size h1 h2 h4 g k cap xs hown ad m c news hn hc h1c b1
  unfold Oper.wp
  simp [execOp, hop, resolve, invoke, builtin, hs, hx, hrun, Result.andThen]
  exact h w' r1 r2

set_option maxRecDepth 100000 in
set_option maxHeartbeats 400000 in
theorem hex_any (b off cap : Nat) (l : List UInt8) (w : World) (h0 : 0 < l.length) (hm : l.length ≤ 140737488355328) (hb : By w b off l) (hbk : b < w.heap.size) :
    Calls Tryz.prog 21 #[.slice (some ⟨b, off, none⟩) l.length cap] w fun e w' => e = .returned (.string ⟨(hexL l).toArray⟩) ∧ Below w.heap.size w w' := by
  obtain ⟨i0, hi, hz0, hz1, hz2⟩ := info_parts info_u8
  go_enter Tryz.func21, Tryz.ntmps21
  go_wp2_with (at_make; refine wpList_make_own _ rfl _ _ 45 rfl w.heap.size 5 i0 (.int .u8 0) 1 Tryz.underlying45 hi hz0 hz1 _ _ _ (2 * l.length) rfl rfl ?m2 ?m3 ?m4 ?m5 ?m6)
  case m2 => omega
  case m3 => rw [hz2]; omega
  case m4 => unfold maxLen; omega
  case m5 => exact Nat.le_refl _
  intro w1 hown0 hgrow0
  have hbel1 : Below w.heap.size w w1 := (Below.refl _ _).grown hgrow0 (Nat.le_refl _) (by intro k hk; cases hk)
  clear hgrow0
  go_wp2_with fail
  go_loopw [3, 11] (fun v i wr => ∃ k : Nat, k ≤ l.length ∧ i = .int .i64 k ∧ v = .slice (some ⟨w.heap.size, 0, none⟩) (2 * k) (2 * l.length) ∧ wr.ownsRow w.heap.size 5 1 (.slice (some ⟨w.heap.size, 0, none⟩) (2 * k) (2 * l.length)) (2 * k) ((hexL (l.take k)).map bv) ∧ Below w.heap.size w wr) (fun _ i _ => l.length - (intOf i).toNat)
  case atStart => exact ⟨0, Nat.zero_le _, rfl, rfl, hown0, hbel1⟩
  case round =>
    clear hown0 hbel1
    obtain ⟨k, hk, rfl, rfl, hown, hbel⟩ := hrel
    by_cases hlt : k < l.length
    · have hcell : wr.cell? ⟨b, off + k, none⟩ = some (.int .u8 ((l.getD k 0).toNat : Int)) := (hbel.cell (by exact hbk)).trans (hb k hlt)
      have bx := (l.getD k 0).toNat_lt
      have H1 := Lib.hid hb
      have H3 := Lib.hid (hexL_step l k hlt)
      clear hb
      generalize (l.getD k 0).toNat = x at *
      have x1 : (0 : Int) ≤ (x : Int) / 16 := by omega
      have x2 : (x : Int) / 16 < 16 := by omega
      have x3 : (0 : Int) ≤ (x : Int) % 16 := by omega
      have x4 : (x : Int) % 16 < 16 := by omega
      have x5 : x < 256 := by omega
      have x6 : (0 : Int) ≤ (x : Int) := by omega
      have x7 : (x : Int) < 256 := by omega
      have hdig := digit_at
      have hne : some (⟨b, off + k, none⟩ : Addr).block ≠ some w.heap.size := by simp; omega
      have x8 : bits .and .u8 (x : Int) 15 = (x : Int) % 16 := u8_and15 _ x6 x7
      go_wp2
      go_region_held3 (fun w' => w'.cell? ⟨b, off + k, none⟩ = some (.int .u8 (x : Int)))
        (first
          | go_keep
          | (refine hgrow2.cell (by assumption) hne)
          | (go_split_ands; refine hgrow2.cell (by assumption) hne))
        ((refine step_append_fits (by rfl) _ _ _ (by rfl) w.heap.size 5 i0 1 Tryz.underlying45 hi hz1 w.heap.size (2 * k) (2 * l.length) ((hexL (l.take k)).map bv) (by rfl) ((hown.alloc _).drew) ⟨wr.heap.size, 0, none⟩ 2 2 [.int .u8 ((hx (x / 16)).toNat : Int), .int .u8 ((hx (x % 16)).toNat : Int)] (by rfl) (by rfl) (World.news_of_block (cs := #[.int .u8 ((hx (x / 16)).toNat : Int), .int .u8 ((hx (x % 16)).toNat : Int)]) (t := 5) (fr := (0, 0)) (heap_alloc_new wr _)) (by simp [Value.oneCell']) (by omega) ?_; intro w2 hown2 hgrow2))
      all_goals
        have e2 : 2 * (k + 1) = 2 * k + 2 := by omega
        have hbel2 : Below w.heap.size w w2 := ((hbel.alloc (by have := hbel.size; omega) _).drew).grown hgrow2 (by have := hbel.size; simp; omega) (by intro k hk; cases hk; exact Nat.le_refl _)
        have hown3 : w2.ownsRow w.heap.size 5 1 (.slice (some ⟨w.heap.size, 0, none⟩) (2 * (k + 1)) (2 * l.length)) (2 * (k + 1)) ((hexL (l.take (k + 1))).map bv) := by
          rw [e2, H3.out, List.map_append]; exact hown2
        have H2 := Lib.hid e2
        clear e2 hown2 hgrow2 hown hbel
        go_wp2
        go_roundw
        case rel => exact ⟨k + 1, by omega, by go_num, by rw [H2.out], hown3, hbel2⟩
        case measure => simp [intOf]; omega
    · obtain rfl : k = l.length := by omega
      rw [List.take_length] at hown
      have hcv := run_convert_bytes_back (P := Tryz.prog) wr 45 9 5 ⟨w.heap.size, 0, none⟩ (2 * l.length) (hexL l) Tryz.underlying45 Tryz.underlying5 Tryz.underlying9
        (fun j hj => by
          rw [hexL_length] at hj
          have h1 := hown.cellAt j (by omega)
          rw [add_at, h1, List.getElem?_map, List.getElem?_eq_getElem (by rw [hexL_length]; exact hj)]
          rfl)
      rw [hexL_length] at hcv
      go_wp2
      go_ret
      exact ⟨rfl, hbel⟩

set_option maxHeartbeats 400000 in
theorem hex_none (a : Option Addr) (cap : Nat) (w : World) :
    Calls Tryz.prog 21 #[.slice a 0 cap] w fun e w' => e = .returned (.string ⟨#[]⟩) ∧ Below w.heap.size w w' := by
  obtain ⟨i0, hi, hz0, hz1, hz2⟩ := info_parts info_u8
  go_enter Tryz.func21, Tryz.ntmps21
  go_wp2_with (at_make; refine wpList_make_own _ rfl _ _ 45 rfl w.heap.size 5 i0 (.int .u8 0) 1 Tryz.underlying45 hi hz0 hz1 _ _ _ 0 rfl rfl ?m2 ?m3 ?m4 ?m5 ?m6)
  case m2 => rfl
  case m3 => omega
  case m4 => unfold maxLen; omega
  case m5 => exact Nat.le_refl _
  intro w1 hown0 hgrow0
  have hbel1 : Below w.heap.size w w1 := (Below.refl _ _).grown hgrow0 (Nat.le_refl _) (by intro k hk; cases hk)
  have hcv := run_convert_bytes_back (P := Tryz.prog) w1 45 9 5 ⟨w.heap.size, 0, none⟩ 0 [] Tryz.underlying45 Tryz.underlying5 Tryz.underlying9 (fun j hj => by simp at hj)
  rw [List.length_nil] at hcv
  clear hown0 hgrow0 hi hz0 hz1 hz2
  go_wp2_with fail
  refine wp_loop_rounds 1 ?_
  rw [rounds_succ]
  go_wp2
  go_ret
  exact ⟨rfl, hbel1⟩

end Go.Proofs.YtokbakpbhpknfaaGreatDoor.Nam

namespace Go.Proofs.YtokbakpbhpknfaaGreatDoor.Nam
open Go.RowKit

/-- A slice of integers that came in: it is nil; or it leads to a row of 'cap' cells. -/
def IsRow (k : IntKind) (w : World) (a : Option Addr) (len cap : Nat) (zs : List Int) : Prop :=
  (a = none ∧ len = 0 ∧ cap = 0 ∧ zs = []) ∨
  ∃ x, a = some x ∧ len ≤ cap ∧ cap ≤ maxLen ∧ zs.length = cap ∧ (∀ i, i < zs.length → w.cell? (x.add i) = some (.int k (zs.getD i 0))) ∧ ∀ n ∈ zs, (Lit.int k n).wf = true

/-- A slice of bytes that came in, as the list of its bytes: where there is one, they lie in old cells. -/
structure IsB (w : World) (a : Option Addr) (len cap : Nat) (l : List UInt8) : Prop where
  length : l.length = len
  at_ : len = 0 ∨ ∃ b off, a = some ⟨b, off, none⟩ ∧ b < w.heap.size ∧ By w b off l
  most : len ≤ maxLen
  nil : a = none → len = 0 ∧ cap = 0
  room : len ≤ cap ∧ cap ≤ maxLen

theorem bytes_of {w : World} {a : Option Addr} {len cap : Nat} {zs : List Int} (h : IsRow .u8 w a len cap zs) : ∃ l, IsB w a len cap l := by
  rcases h with ⟨rfl, rfl, rfl, rfl⟩ | ⟨x, rfl, hl, hm, hz, hcell, hwz⟩
  · exact ⟨[], rfl, .inl rfl, by unfold maxLen; omega, fun _ => ⟨rfl, rfl⟩, by omega, by unfold maxLen; omega⟩
  · refine ⟨(zs.take len).map fun z => UInt8.ofNat z.toNat, by simp; omega, ?_, by omega, (fun h => by cases h), hl, hm⟩
    rcases Nat.eq_zero_or_pos len with h0 | h0
    · exact .inl h0
    · right
      obtain ⟨b, off, spot⟩ := x
      have hc := hcell 0 (by omega)
      have hspot : spot = none := by simpa [Addr.add] using World.cell?_spot hc
      subst hspot
      have hb := World.block_lt_of_cell? w _ hc
      refine ⟨b, off, rfl, by simpa [Addr.add] using hb, ?_⟩
      intro i hi
      have hi' : i < len := by simp at hi; omega
      have hc := hcell i (by omega)
      have hr := range_u8 hwz i
      have hadd : (⟨b, off, none⟩ : Addr).add i = ⟨b, off + i, none⟩ := by cases i <;> simp [Addr.add]
      rw [hadd] at hc
      rw [hc]
      have e1 : ((zs.take len).map fun z => UInt8.ofNat z.toNat).getD i 0 = UInt8.ofNat (zs[i]?.getD 0).toNat := by
        simp [List.getD, hi', List.getElem?_eq_getElem (show i < zs.length by omega)]
      rw [e1, List.getD_eq_getElem?_getD]
      generalize zs[i]?.getD 0 = z at hr
      have e2 : (UInt8.ofNat z.toNat).toNat = z.toNat := by
        rw [UInt8.toNat_ofNat']; omega
      rw [e2]
      congr 2
      omega

end Go.Proofs.YtokbakpbhpknfaaGreatDoor.Nam

namespace Go.Proofs.YtokbakpbhpknfaaGreatDoor.Nam
open Go.RowKit

theorem IsB.later {w w' : World} {a : Option Addr} {len cap : Nat} {l : List UInt8} (h : IsB w a len cap l) (hb : Below w.heap.size w w') : IsB w' a len cap l := by
  refine ⟨h.length, ?_, h.most, h.nil, h.room⟩
  rcases h.at_ with h0 | ⟨b, off, rfl, hlt, hby⟩
  · exact .inl h0
  · exact .inr ⟨b, off, rfl, Nat.lt_of_lt_of_le hlt hb.size, fun i hi => (hb.cell (by exact hlt)).trans (hby i hi)⟩

theorem encode_b (a : Option Addr) (len cap : Nat) (l : List UInt8) (w : World) (h : IsB w a len cap l) (hm : len ≤ 100000) :
    Calls Tryz.prog 63 #[.slice a len cap] w fun e w' => e = .returned (.string ⟨(enc l).toArray⟩) ∧ Below w.heap.size w w' := by
  obtain ⟨h1, h2, h3, _⟩ := h
  rcases h2 with h0 | ⟨b, off, rfl, hlt, hby⟩
  · subst h0
    obtain rfl : l = [] := List.eq_nil_of_length_eq_zero h1
    exact encode_none a cap w
  · subst h1
    rcases Nat.eq_zero_or_pos l.length with h0 | h0
    · obtain rfl : l = [] := List.eq_nil_of_length_eq_zero h0
      exact encode_none _ cap w
    · exact encode_any b off cap l w h0 hm hby hlt

theorem hex_b (a : Option Addr) (len cap : Nat) (l : List UInt8) (w : World) (h : IsB w a len cap l) (hm : len ≤ 140737488355328) :
    Calls Tryz.prog 21 #[.slice a len cap] w fun e w' => e = .returned (.string ⟨(hexL l).toArray⟩) ∧ Below w.heap.size w w' := by
  obtain ⟨h1, h2, h3, _⟩ := h
  rcases h2 with h0 | ⟨b, off, rfl, hlt, hby⟩
  · subst h0
    obtain rfl : l = [] := List.eq_nil_of_length_eq_zero h1
    exact hex_none a cap w
  · subst h1
    rcases Nat.eq_zero_or_pos l.length with h0 | h0
    · obtain rfl : l = [] := List.eq_nil_of_length_eq_zero h0
      exact hex_none _ cap w
    · exact hex_any b off cap l w h0 hm hby hlt

/-- What a row that the call itself made reads as. -/
theorem isB_of_owns {w : World} {base n : Nat} {v : Value} {l : List UInt8} (h : w.ownsRow base 5 1 v n (l.map bv)) :
    ∃ a cap, v = .slice a n cap ∧ IsB w a n cap l ∧ ∀ x, a = some x → base ≤ x.block := by
  have hl : l.length = n := by simpa using h.1
  rcases h.2 with ⟨rfl, rfl⟩ | ⟨g, cap, cur, rfl, hb, hg, hnc, hcm, hcs, htake⟩
  · exact ⟨none, 0, rfl, ⟨hl, .inl rfl, by unfold maxLen; omega, fun _ => ⟨rfl, rfl⟩, by omega, by unfold maxLen; omega⟩, fun x hx => by cases hx⟩
  · refine ⟨some ⟨g, 0, none⟩, cap, rfl, ⟨hl, .inr ⟨g, 0, rfl, ?_, ?_⟩, by omega, (fun hx => by cases hx), hnc, hcm⟩, fun x hx => by cases hx; exact hb⟩
    · rcases Nat.lt_or_ge g w.heap.size with hlt | hge
      · exact hlt
      · rw [Array.getElem?_eq_none hge] at hg; cases hg
    · intro i hi
      have h2 : w.ownsRow base 5 1 (.slice (some ⟨g, 0, none⟩) n cap) n (l.map bv) := h
      rw [Nat.zero_add, h2.cellAt i (by omega)]
      simp [hi, bv, List.getD]

/-- 'append' of bytes that came in, nil and empty ones too, onto nil or onto a row of the call's own. -/
theorem wpList_append_bytes {P : Program} {w : World} {ops : Array Oper} {rest : List Oper} {o : Oper} {a : Act} {Q : Exit → Act → World → Prop} (hgd : o.guard = none) (s x : Operand) (t : TypeId)
    (ho : o.op = .call { callee := .builtin .append, args := #[s, x], argTypes := #[t, t] })
    (base : Nat) (e : TypeId) (i : TypeInfo) (ht : P.underlying t = some (.slice e)) (hi : P.info? e = some i) (hz : i.zero = some (.int .u8 0))
    (hsize : i.size = 1) (hby : i.bytes = 1)
    (v : Value) (n : Nat) (l : List UInt8) (hs : a.eval s = v) (hown : w.ownsRow base e 1 v n (l.map bv))
    (ao : Option Addr) (m c : Nat) (k : List UInt8) (hx : a.eval x = .slice ao m c) (hsrc : IsB w ao m c k)
    (hbytes : n + m ≤ 140737488355328) (hbase : base ≤ w.heap.size)
    (h : ∀ v' w', w'.ownsRow base e 1 v' (n + m) ((l ++ k).map bv) → w.grownBy w' v.ownBlock → wpList P ops Q rest (a.put o.dst v') w') : wpList P ops Q (o :: rest) a w := by
  obtain ⟨h1, h2, h3, h4, _⟩ := hsrc
  cases ao with
  | none =>
    obtain ⟨rfl, rfl⟩ := h4 rfl
    obtain rfl : k = [] := List.eq_nil_of_length_eq_zero h1
    refine wpList_append_own_none hgd s x t ho base e i 1 ht hi v n (l.map bv) hs hown hx ?_
    exact h v w (by simpa using hown) (World.grownBy.refl w _)
  | some ad =>
    refine wpList_append_own w hgd s x t ho base e i _ 1 1 ht hi hz hsize hby rfl (by omega) v n (l.map bv) hs hown ad m c (k.map bv) hx (by simp [h1]) ?_ ?_ (by unfold maxLen; omega) (by omega) hbase ?_
    · intro j u hj
      rcases h2 with h0 | ⟨b, off, he, hlt, hby'⟩
      · subst h0
        obtain rfl : k = [] := List.eq_nil_of_length_eq_zero h1
        simp at hj
      · cases he
        rw [List.getElem?_map] at hj
        rcases Nat.lt_or_ge j k.length with hlt' | hge
        · rw [List.getElem?_eq_getElem hlt'] at hj
          have hb := hby' j hlt'
          have hadd : (⟨b, off, none⟩ : Addr).add j = ⟨b, off + j, none⟩ := by cases j <;> simp [Addr.add]
          rw [hadd, hb]
          simp [bv] at hj
          rw [← hj]
          simp [List.getD, hlt']
        · rw [List.getElem?_eq_none hge] at hj; cases hj
    · intro u hu
      obtain ⟨b, _, rfl⟩ := List.mem_map.1 hu
      rfl
    · intro v' w' h5 h6 _
      exact h v' w' (by rw [List.map_append]; exact h5) h6

end Go.Proofs.YtokbakpbhpknfaaGreatDoor.Nam

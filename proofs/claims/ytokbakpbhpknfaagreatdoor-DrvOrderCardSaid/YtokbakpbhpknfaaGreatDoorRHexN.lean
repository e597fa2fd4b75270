/-
  The contract of the reference's Encode: the same signs. Conditions: at most a thousand bytes.
-/
import Derived.Test.YtokbakpbhpknfaaGreatDoorRowN
import Derived.Test.YtokbakpbhpknfaaGreatDoorMathN
import Derived.Deep.AppendLies
import Derived.Deep.RegionHeld3
import Derived.Test.YtokbakpbhpknfaaGreatDoorDecN
namespace Go.Proofs.YtokbakpbhpknfaaGreatDoor.Nam
open Go.RowKit

theorem info_int : (Tryz.prog.info? 3).map (fun i => (i.zero, i.size, i.bytes)) = some (some (.int .i64 0), 1, 8) := by kernel_rfl

theorem sign_any (v : Nat) (h : v < 32) (w : World) :
    Calls Tryz.prog 103 #[.int .i64 (v : Int)] w fun e w' => e = .returned (.int .u8 ((sgn v).toNat : Int)) ∧ w = w' := by
  have h2 : (v : Int) < 32 := by omega
  go_enter Tryz.func103, Tryz.ntmps103
  go_wp2
  go_ret
  refine ⟨ret_u8 ?_, rfl⟩
  rw [← sign_at v h]

theorem take_rev (l : List UInt8) (t : Nat) (h : t < l.length) : l.reverse.take (t + 1) = l.reverse.take t ++ [l.getD (l.length - 1 - t) 0] := by
  rw [take_one l.reverse 0 t (by rw [List.length_reverse]; exact h)]
  congr 2
  rw [List.getD_eq_getElem?_getD, List.getD_eq_getElem?_getD, List.getElem?_reverse h]

set_option maxRecDepth 100000 in
set_option maxHeartbeats 4000000 in
theorem rencode_any (b off cap : Nat) (l : List UInt8) (w : World) (h0 : 0 < l.length) (hm : l.length ≤ 1000) (hb : By w b off l) (hbk : b < w.heap.size) :
    Calls Tryz.prog 81 #[.slice (some ⟨b, off, none⟩) l.length cap] w fun e w' => e = .returned (.string ⟨(enc l).toArray⟩) ∧ Below w.heap.size w w' := by
  obtain ⟨i0, hi, hz0, hz1, hz2⟩ := info_parts info_int
  obtain ⟨i1, hi1, hy0, hy1, hy2⟩ := info_parts info_u8
  have hs : slen l.length ≤ 200000 := by unfold slen; omega
  have HB := Lib.hid hb
  clear hb
  go_enter Tryz.func81, Tryz.ntmps81
  go_wp2_with fail
  go_loopw [3, 4] (fun v i wr => ∃ t : Nat, t ≤ l.length ∧ i = .int .i64 ((l.length : Int) - 1 - t) ∧ wr.ownsRow w.heap.size 3 1 v t ((l.reverse.take t).map iv) ∧ Below w.heap.size w wr) (fun _ i _ => (intOf i + 1).toNat)
  case atStart => exact ⟨0, Nat.zero_le _, by simp, World.ownsRow_nil _ _ _ _, Below.refl _ _⟩
  case round =>
    obtain ⟨t, ht, rfl, hown, hbel⟩ := hrel
    have hsz := hbel.size
    by_cases hlt : t < l.length
    · have hcell : wr.cell? ⟨b, off + (l.length - 1 - t), none⟩ = some (.int .u8 ((l.getD (l.length - 1 - t) 0).toNat : Int)) := (hbel.cell (by exact hbk)).trans (HB.out _ (by omega))
      have HT := Lib.hid (take_rev l t hlt)
      generalize l.getD (l.length - 1 - t) 0 = c at *
      have cb : ((c.toNat : Nat) : Int) < 256 := by have := c.toNat_lt; omega
      have hp : (0 : Int) ≤ (l.length : Int) - 1 - (t : Int) := by omega
      go_wp2_with (at_builtin; go_must (refine wpList_append_lies _ rfl (.tmp 18) (.tmp 24) 141 rfl w.heap.size 3 i0 (.int .i64 0) 1 8 Tryz.underlying141 hi hz0 hz1 hz2 rfl (by omega) _ t ((l.reverse.take t).map iv) rfl (hown.alloc _) ⟨wr.heap.size, 0, none⟩ 1 1 [iv c] rfl rfl ?c1 ?c2 ?c3 ?c4 ?c5 ?c6 _ rfl ?c7))
      case c1 =>
        intro j u hj
        match j, hj with
        | 0, hj => simp at hj; subst hj; simp [Addr.add, iv]
      case c2 => intro u hu; simp at hu; subst hu; rfl
      case c3 => omega
      case c4 => unfold maxLen; omega
      case c5 => omega
      case c6 => simp; omega
      intro g cap2 w2 hown2 hgrow2 _ _
      have hown3 : w2.ownsRow w.heap.size 3 1 (.slice (some ⟨g, 0, none⟩) (t + 1) cap2) (t + 1) ((l.reverse.take (t + 1)).map iv) := by
        rw [HT.out]; simpa using hown2
      have hbel2 : Below w.heap.size w w2 := (hbel.alloc hsz _).grown hgrow2 (by simp; omega) (fun k hk => (hown.lt k hk).1)
      clear hown2 hgrow2 hown hbel
      go_wp2
      go_roundw
      case rel => exact ⟨t + 1, by omega, by go_num, hown3, hbel2⟩
      case measure => simp [intOf]; omega
    · obtain rfl : t = l.length := by omega
      have hlast : ¬ (0 : Int) ≤ (l.length : Int) - 1 - (l.length : Int) := by omega
      have hown1 : wr.ownsRow w.heap.size 3 1 u3 l.length ((hb l.length (val l)).map iv) := by
        rw [hb_val]
        rw [List.take_of_length_le (by rw [List.length_reverse]; exact Nat.le_refl _)] at hown
        exact hown
      obtain ⟨g, c3, rfl, hg1, hg2⟩ := hown1.form h0
      clear hown
      go_wp2_with (first
        | (go_at_call 102; refine (rlen_any _ _ (by omega) (by omega)).mono ?_; rintro e w' ⟨rfl, rfl⟩)
        | (at_make; refine wpList_make_full _ rfl _ _ 45 rfl w.heap.size 5 i1 (.int .u8 0) 1 Tryz.underlying45 hi1 hy0 hy1 _ _ _ _ (slen l.length) rfl rfl ?m1 ?m2 ?m3 ?m4 ?m5 ?m6))
      case m1 => rfl
      case m2 => rfl
      case m3 => rw [hy2]; omega
      case m4 => unfold maxLen; omega
      case m5 => exact hsz
      intro w1 hown0 hgrow0
      have hout : w1.ownsRow w.heap.size 5 1 (.slice (some ⟨wr.heap.size, 0, none⟩) (slen l.length) (slen l.length)) (slen l.length) (encAt (slen l.length) 0 (val l)) := by
        have := hown0
        rw [toList_madeCells_one] at this
        simpa [encAt, encN, bv] using this
      have hnum : w1.ownsRow w.heap.size 3 1 (.slice (some ⟨g, 0, none⟩) l.length c3) l.length ((hb l.length (val l)).map iv) := hown1.kept hgrow0 (.inr (by simp [Value.ownBlock]))
      have hbel1 : Below w.heap.size w w1 := hbel.grown hgrow0 hsz (by intro k hk; cases hk)
      have hgH : g ≠ wr.heap.size := by omega
      clear hown0 hgrow0 hown1 hbel hi hz0 hz1 hz2 hi1 hy0 hy1 hy2
      have hgB : w.heap.size ≤ wr.heap.size := hsz
      generalize wr.heap.size = H at *
      have HGH := Lib.hid hgH
      clear hgH
      go_wp2_with fail
      go_loopw [7] (fun kk w2 => ∃ t : Nat, t ≤ slen l.length ∧ kk = .int .i64 ((slen l.length : Int) - 1 - t) ∧ w2.ownsRow w.heap.size 3 1 (.slice (some ⟨g, 0, none⟩) l.length c3) l.length ((hb l.length (val l / 32 ^ t)).map iv) ∧ w2.ownsRow w.heap.size 5 1 (.slice (some ⟨H, 0, none⟩) (slen l.length) (slen l.length)) (slen l.length) (encAt (slen l.length) t (val l)) ∧ Below w.heap.size w w2) (fun kk _ => (intOf kk + 1).toNat)
      case atStart => exact ⟨0, Nat.zero_le _, by simp, by simpa using hnum, hout, hbel1⟩
      case round =>
        clear hnum hout hbel1
        obtain ⟨t, ht, rfl, hnum, hout, hbel⟩ := hrel
        by_cases hlt : t < slen l.length
        · have hk0 : (0 : Int) ≤ (slen l.length : Int) - 1 - (t : Int) := by omega
          have hV : val l / 32 ^ (t + 1) = val l / 32 ^ t / 32 := by rw [Nat.pow_succ, Nat.div_div_eq_div_mul]
          have hD : dig (val l) t = val l / 32 ^ t % 32 := rfl
          have HV := Lib.hid hV
          have HD := Lib.hid hD
          clear hV hD
          have hVlt : val l / 32 ^ t < 256 ^ l.length := Nat.lt_of_le_of_lt (Nat.div_le_self _ _) (val_lt l)
          have hR0 : restAt l.length (val l / 32 ^ t) 0 = 0 := by unfold restAt; rw [Nat.sub_zero, Nat.div_eq_of_lt hVlt]
          have HR0 := Lib.hid hR0
          clear hVlt hR0
          generalize val l / 32 ^ t = V at *
          go_wp2_with fail
          obtain ⟨wo, hwo⟩ : ∃ wo : World, wo = wr := ⟨_, rfl⟩
          subst hwo
          go_loopw [8, 9] (fun rr ii w3 => ∃ j : Nat, j ≤ l.length ∧ ii = .int .i64 j ∧ rr = .int .i64 (restAt l.length V j : Int) ∧ w3.ownsRow w.heap.size 3 1 (.slice (some ⟨g, 0, none⟩) l.length c3) l.length (midRow l.length V j) ∧ w3.ownsRow w.heap.size 5 1 (.slice (some ⟨H, 0, none⟩) (slen l.length) (slen l.length)) (slen l.length) (encAt (slen l.length) t (val l)) ∧ Below w.heap.size w w3) (fun _ ii _ => l.length - (intOf ii).toNat)
          case atStart => exact ⟨0, Nat.zero_le _, rfl, by rw [HR0.out]; rfl, by rw [midRow_start]; exact hnum, hout, hbel⟩
          case round =>
            clear hnum hout hbel
            obtain ⟨j, hj, rfl, rfl, hnum, hout, hbel⟩ := hrel
            by_cases hjl : j < l.length
            · have hcell : wr.cell? ⟨g, j, none⟩ = some (.int .i64 ((V / 256 ^ (l.length - 1 - j) % 256 : Nat) : Int)) := by
                rw [hnum.cellAt j (by omega), midRow_get _ _ _ hjl]
              have hfree : wr.frozen? ⟨g, j, none⟩ = false := hnum.frozenAt j
              have HS := Lib.hid (midRow_step l.length V j hjl)
              have HR := Lib.hid (restAt_step l.length V j hjl)
              have hd : V / 256 ^ (l.length - 1 - j) % 256 < 256 := Nat.mod_lt _ (by omega)
              have hr : restAt l.length V j < 32 := Nat.mod_lt _ (by omega)
              generalize V / 256 ^ (l.length - 1 - j) % 256 = d at *
              generalize restAt l.length V j = r at *
              have hd2 : (d : Int) < 256 := by omega
              have hr2 : (r : Int) < 32 := by omega
              go_wp2_with fail
              go_roundw
              case rel => exact ⟨j + 1, by omega, by go_num, by rw [← HR.out]; go_num, by rw [← HS.out, show ((r : Int) * 256 + (d : Int)) / 32 = (((r * 256 + d) / 32 : Nat) : Int) from by omega]; exact (hnum.stored j _).1, hout.kept (hnum.stored j _).2 (.inr (by have := HGH.out; simp [Value.ownBlock]; omega)), hbel.setCell hg1 _⟩
              case measure => simp [intOf]; omega
            · obtain rfl : j = l.length := by omega
              have hend : restAt l.length V l.length = dig (val l) t := by rw [restAt_end]; exact HD.out.symm
              rw [hend]
              rw [midRow_end, ← HV.out] at hnum
              obtain ⟨u, hu⟩ := encAt_get (slen l.length) t (val l) (slen l.length - 1 - t) (by omega) (by omega)
              have hcell : wr.cell? ⟨H, slen l.length - 1 - t, none⟩ = some u := by rw [hout.cellAt _ (by omega)]; exact hu
              have hfree : wr.frozen? ⟨H, slen l.length - 1 - t, none⟩ = false := hout.frozenAt _
              have hdl := dig_lt (val l) t
              have HU := Lib.hid hu
              clear hu hend
              go_wp2_with fail
              refine (sign_any _ hdl _).mono ?_
              rintro e w' ⟨rfl, rfl⟩
              go_wp2_with fail
              go_roundw
              case rel => exact ⟨t + 1, by omega, by go_num, hnum.kept (hout.stored _ _).2 (.inr (by have := HGH.out; simp [Value.ownBlock]; omega)), by rw [← encAt_step _ _ _ hlt]; exact (hout.stored _ _).1, hbel.setCell hgB _⟩
              case measure => simp [intOf]; omega
        · obtain rfl : t = slen l.length := by omega
          have hk0 : ¬ (0 : Int) ≤ (slen l.length : Int) - 1 - (slen l.length : Int) := by omega
          rw [encAt_all] at hout
          have hcv := run_convert_bytes_back (P := Tryz.prog) wr 45 9 5 ⟨H, 0, none⟩ (slen l.length) (enc l) Tryz.underlying45 Tryz.underlying5 Tryz.underlying9
            (fun j hj => by
              rw [enc_length] at hj
              have h1 := hout.cellAt j (by omega)
              rw [add_at, h1, List.getElem?_map, List.getElem?_eq_getElem (by rw [encN_length]; exact hj)]
              rfl)
          rw [enc_length] at hcv
          clear hnum hout
          go_wp2
          go_ret
          exact ⟨rfl, hbel⟩

set_option maxRecDepth 100000 in
set_option maxHeartbeats 1000000 in
theorem rencode_none (a : Option Addr) (cap : Nat) (w : World) :
    Calls Tryz.prog 81 #[.slice a 0 cap] w fun e w' => e = .returned (.string ⟨#[]⟩) ∧ Below w.heap.size w w' := by
  obtain ⟨i1, hi1, hy0, hy1, hy2⟩ := info_parts info_u8
  go_enter Tryz.func81, Tryz.ntmps81
  go_wp2_with fail
  refine wp_loop_rounds 1 ?_
  rw [rounds_succ]
  go_wp2_with (first
    | (go_at_call 102; refine (rlen_none _ _ (by omega)).mono ?_; rintro e w' ⟨rfl, rfl⟩)
    | (at_make; refine wpList_make_full _ rfl _ _ 45 rfl w.heap.size 5 i1 (.int .u8 0) 1 Tryz.underlying45 hi1 hy0 hy1 _ _ _ _ 0 rfl rfl ?m1 ?m2 ?m3 ?m4 ?m5 ?m6))
  case m1 => rfl
  case m2 => rfl
  case m3 => omega
  case m4 => unfold maxLen; omega
  case m5 => exact Nat.le_refl _
  intro w1 hown0 hgrow0
  have hbel1 : Below w.heap.size w w1 := (Below.refl _ _).grown hgrow0 (Nat.le_refl _) (by intro k hk; cases hk)
  have hcv := run_convert_bytes_back (P := Tryz.prog) w1 45 9 5 ⟨w.heap.size, 0, none⟩ 0 [] Tryz.underlying45 Tryz.underlying5 Tryz.underlying9 (fun j hj => by simp at hj)
  rw [List.length_nil] at hcv
  clear hown0 hgrow0 hi1 hy0 hy1 hy2
  go_wp2_with fail
  refine wp_loop_rounds 1 ?_
  rw [rounds_succ]
  go_wp2
  go_ret
  exact ⟨rfl, hbel1⟩

theorem rencode_b (a : Option Addr) (len cap : Nat) (l : List UInt8) (w : World) (h : IsB w a len cap l) (hm : len ≤ 1000) :
    Calls Tryz.prog 81 #[.slice a len cap] w fun e w' => e = .returned (.string ⟨(enc l).toArray⟩) ∧ Below w.heap.size w w' := by
  obtain ⟨h1, h2, h3, _, _⟩ := h
  rcases h2 with h0 | ⟨b, off, rfl, hlt, hby⟩
  · subst h0
    obtain rfl : l = [] := List.eq_nil_of_length_eq_zero h1
    exact rencode_none a cap w
  · subst h1
    rcases Nat.eq_zero_or_pos l.length with h0 | h0
    · obtain rfl : l = [] := List.eq_nil_of_length_eq_zero h0
      exact rencode_none _ cap w
    · exact rencode_any b off cap l w h0 hm hby hlt

/-- 'string(b)' of bytes that came in, nil and empty ones too. -/
theorem convert_b {w : World} {a : Option Addr} {n cap : Nat} {l : List UInt8} (h : IsB w a n cap l) :
    (convert 45 9 (.slice a n cap)).run Tryz.prog w = .ok (.string ⟨l.toArray⟩) w := by
  obtain ⟨h1, h2, h3, h4, _⟩ := h
  have hnil : n = 0 → (convert 45 9 (.slice a n cap)).run Tryz.prog w = .ok (.string ⟨l.toArray⟩) w := by
    intro h0
    subst h0
    obtain rfl : l = [] := List.eq_nil_of_length_eq_zero h1
    cases a with
    | none =>
      obtain ⟨_, rfl⟩ := h4 rfl
      rw [run_convert_bytes_string w 45 9 5 none 0 0 Tryz.underlying45 Tryz.underlying5 Tryz.underlying9]
      rfl
    | some x =>
      have := run_convert_bytes_back (P := Tryz.prog) w 45 9 5 x cap [] Tryz.underlying45 Tryz.underlying5 Tryz.underlying9 (fun j hj => by simp at hj)
      rw [List.length_nil] at this
      exact this
  rcases h2 with h0 | ⟨b, off, rfl, hlt, hby⟩
  · exact hnil h0
  · subst h1
    refine run_convert_bytes_back (P := Tryz.prog) w 45 9 5 ⟨b, off, none⟩ cap l Tryz.underlying45 Tryz.underlying5 Tryz.underlying9 (fun j hj => ?_)
    have hadd : (⟨b, off, none⟩ : Addr).add j = ⟨b, off + j, none⟩ := by cases j <;> simp [Addr.add]
    rw [hadd, hby j hj]
    simp [List.getD, hj]

end Go.Proofs.YtokbakpbhpknfaaGreatDoor.Nam

namespace Go.Proofs.YtokbakpbhpknfaaGreatDoor.Nam
open Go.RowKit

set_option maxRecDepth 100000 in
set_option maxHeartbeats 2000000 in
theorem rhex_any (b off cap : Nat) (l : List UInt8) (w : World) (h0 : 0 < l.length) (hm : l.length ≤ 70368744177664) (hb : By w b off l) (hbk : b < w.heap.size) :
    Calls Tryz.prog 33 #[.slice (some ⟨b, off, none⟩) l.length cap] w fun e w' => e = .returned (.string ⟨(hexL l).toArray⟩) ∧ Below w.heap.size w w' := by
  obtain ⟨i0, hi, hz0, hz1, hz2⟩ := info_parts info_u8
  go_enter Tryz.func33, Tryz.ntmps33
  go_wp2_with fail
  go_loopw [3, 4] (fun v i wr => ∃ k : Nat, k ≤ l.length ∧ i = .int .i64 k ∧ wr.ownsRow w.heap.size 5 1 v (2 * k) ((hexL (l.take k)).map bv) ∧ Below w.heap.size w wr) (fun _ i _ => l.length - (intOf i).toNat)
  case atStart => exact ⟨0, Nat.zero_le _, rfl, World.ownsRow_nil _ _ _ _, Below.refl _ _⟩
  case round =>
    obtain ⟨k, hk, rfl, hown, hbel⟩ := hrel
    by_cases hlt : k < l.length
    · have hcell : wr.cell? ⟨b, off + k, none⟩ = some (.int .u8 ((l.getD k 0).toNat : Int)) := (hbel.cell (by exact hbk)).trans (hb k hlt)
      have bx := (l.getD k 0).toNat_lt
      have H1 := Lib.hid hb
      have H3 := Lib.hid (hexL_step l k hlt)
      have hsz := hbel.size
      have hblk : u3.ownBlock ≠ some b := by
        intro e
        have := (hown.lt b e).1
        omega
      clear hb
      generalize (l.getD k 0).toNat = x at *
      have x1 : (0 : Int) ≤ (x : Int) / 16 := by omega
      have x2 : (x : Int) / 16 < 16 := by omega
      have x3 : (0 : Int) ≤ (x : Int) % 16 := by omega
      have x4 : (x : Int) % 16 < 16 := by omega
      have x5 : x < 256 := by omega
      have x6 : (0 : Int) ≤ (x : Int) := by omega
      have x7 : (x : Int) < 256 := by omega
      have hdig := digit_at
      have ht1 : (x : Int).tdiv 16 = (x : Int) / 16 := Int.tdiv_eq_ediv_of_nonneg x6
      have ht2 : (x : Int).tmod 16 = (x : Int) % 16 := Int.tmod_eq_emod_of_nonneg x6
      have hw1 : IntKind.u8.wrap ((x : Int) / 16) = (x : Int) / 16 := by rw [IntKind.wrap_u8]; omega
      have hw2 : IntKind.u8.wrap ((x : Int) % 16) = (x : Int) % 16 := by rw [IntKind.wrap_u8]; omega
      have hk1 : (k : Int) < (l.length : Int) := by omega
      have hne : some (⟨b, off + k, none⟩ : Addr).block ≠ u3.ownBlock := fun e => hblk e.symm
      go_wp2
      go_region_held3 (fun w' => w'.cell? ⟨b, off + k, none⟩ = some (.int .u8 (x : Int)))
        (first
          | go_keep
          | (refine hgrow2.cell (by assumption) hne)
          | (go_split_ands; refine hgrow2.cell (by assumption) hne))
        ((refine step_append_lies _ (by rfl) _ _ _ (by rfl) w.heap.size 5 i0 (.int .u8 0) 1 1 Tryz.underlying45 hi hz0 hz1 hz2 rfl (by omega) u3 (2 * k) ((hexL (l.take k)).map bv) (by rfl) ((hown.alloc _).drew) ⟨wr.heap.size, 0, none⟩ 2 2 [.int .u8 ((hx (x / 16)).toNat : Int), .int .u8 ((hx (x % 16)).toNat : Int)] (by rfl) (by rfl) (World.news_of_block (cs := #[.int .u8 ((hx (x / 16)).toNat : Int), .int .u8 ((hx (x % 16)).toNat : Int)]) (t := 5) (fr := (0, 0)) (heap_alloc_new wr _)) (by simp [Value.oneCell']) (by omega) (by unfold maxLen; omega) (by omega) (by simp; omega) (wr.heap.size + 1) (by simp) ?_; intro gg cap2 w2 hown2 hgrow2 _ _))
      all_goals
        have e2 : 2 * (k + 1) = 2 * k + 2 := by omega
        have hbel2 : Below w.heap.size w w2 := ((hbel.alloc hsz _).drew).grown hgrow2 (by simp; omega) (fun q hq => (hown.lt q hq).1)
        have hown3 : w2.ownsRow w.heap.size 5 1 (.slice (some ⟨gg, 0, none⟩) (2 * k + 2) cap2) (2 * (k + 1)) ((hexL (l.take (k + 1))).map bv) := by
          rw [e2, H3.out, List.map_append]; exact hown2
        clear e2 hown2 hgrow2 hown hbel
        go_wp2
        go_roundw
        case rel => exact ⟨k + 1, by omega, by go_num, hown3, hbel2⟩
        case measure => simp [intOf]; omega
    · obtain rfl : k = l.length := by omega
      rw [List.take_length] at hown
      obtain ⟨a, c, rfl, hI, _⟩ := isB_of_owns hown
      have hcv := convert_b hI
      clear hI hown
      go_wp2
      go_ret
      exact ⟨rfl, hbel⟩

set_option maxRecDepth 100000 in
set_option maxHeartbeats 1000000 in
theorem rhex_none (a : Option Addr) (cap : Nat) (w : World) :
    Calls Tryz.prog 33 #[.slice a 0 cap] w fun e w' => e = .returned (.string ⟨#[]⟩) ∧ Below w.heap.size w w' := by
  have hcv := convert_b (w := w) (a := none) (n := 0) (cap := 0) (l := []) ⟨rfl, .inl rfl, by unfold maxLen; omega, fun _ => ⟨rfl, rfl⟩, by omega, by unfold maxLen; omega⟩
  go_enter Tryz.func33, Tryz.ntmps33
  go_wp2_with fail
  refine wp_loop_rounds 1 ?_
  rw [rounds_succ]
  go_wp2
  go_ret
  exact ⟨rfl, Below.refl _ _⟩

theorem rhex_b (a : Option Addr) (len cap : Nat) (l : List UInt8) (w : World) (h : IsB w a len cap l) (hm : len ≤ 70368744177664) :
    Calls Tryz.prog 33 #[.slice a len cap] w fun e w' => e = .returned (.string ⟨(hexL l).toArray⟩) ∧ Below w.heap.size w w' := by
  obtain ⟨h1, h2, h3, _, _⟩ := h
  rcases h2 with h0 | ⟨b, off, rfl, hlt, hby⟩
  · subst h0
    obtain rfl : l = [] := List.eq_nil_of_length_eq_zero h1
    exact rhex_none a cap w
  · subst h1
    rcases Nat.eq_zero_or_pos l.length with h0 | h0
    · obtain rfl : l = [] := List.eq_nil_of_length_eq_zero h0
      exact rhex_none _ cap w
    · exact rhex_any b off cap l w h0 hm hby hlt

end Go.Proofs.YtokbakpbhpknfaaGreatDoor.Nam

namespace Go.Proofs.YtokbakpbhpknfaaGreatDoor.Nam
open Go.RowKit

/-- What two digits come to behind j of them. -/
def part (a b : UInt8) (j : Nat) : Int := if j = 0 then 0 else if j = 1 then dv a else dv a * 16 + dv b

/-- What is handed back for bytes that may be nil. -/
def RdPost (o : Option (List UInt8)) (w : World) (e : Ending) (w' : World) : Prop :=
  (∀ p, o = some p → ∃ a c, e = .returned (.tuple #[.slice a p.length c, .int .i64 0]) ∧ IsB w' a p.length c p) ∧
  (o = none → e = .returned (.tuple #[.slice none 0 0, .int .i64 3])) ∧ Below w.heap.size w w'

set_option maxRecDepth 100000 in
set_option maxHeartbeats 4000000 in
theorem rreadhex_any (s : ByteArray) (w : World) (hm : s.size ≤ 140737488355328) :
    Calls Tryz.prog 24 #[.string s] w fun e w' => RdPost (unhex s.data.toList) w e w' := by
  obtain ⟨i0, hi, hz0', hz1, hz2⟩ := info_parts info_u8
  have hl : (prs s.data.toList).length = s.size / 2 := by rw [prs_length]; simp
  have hlen : s.data.toList.length = s.size := by simp
  have HL := Lib.hid hl
  have HLEN := Lib.hid hlen
  clear hl hlen
  go_enter Tryz.func24, Tryz.ntmps24
  go_wp2_with fail
  go_loopw [4, 5] (fun v i wr => ∃ t : Nat, 2 * t ≤ s.size ∧ i = .int .i64 (2 * (t : Int)) ∧ okd (s.data.toList.take (2 * t)) = true ∧ wr.ownsRow w.heap.size 5 1 v t (((prs s.data.toList).take t).map bv) ∧ Below w.heap.size w wr) (fun _ i _ => (s.size - (intOf i).toNat))
  case atStart => exact ⟨0, by omega, rfl, by simp [okd], World.ownsRow_nil _ _ _ _, Below.refl _ _⟩
  case round =>
    obtain ⟨t, ht, rfl, hok, hown, hbel⟩ := hrel
    have hsz := hbel.size
    have htb : (t : Int) ≤ 70368744177664 := by omega
    by_cases hlt : 2 * t + 1 < s.size
    · have hA : 2 * t < s.size := by omega
      have hga : (s[2 * t]'hA) = s.data.toList.getD (2 * t) 0 := by
        rw [List.getD_eq_getElem?_getD, List.getElem?_eq_getElem (by rw [HLEN.out]; exact hA)]
        rfl
      have hgb : (s[2 * t + 1]'hlt) = s.data.toList.getD (2 * t + 1) 0 := by
        rw [List.getD_eq_getElem?_getD, List.getElem?_eq_getElem (by rw [HLEN.out]; exact hlt)]
        rfl
      have hba := unhex_bad s.data.toList (2 * t) (by rw [HLEN.out]; exact hA)
      have hbb := unhex_bad s.data.toList (2 * t + 1) (by rw [HLEN.out]; exact hlt)
      have hpg := prs_get s.data.toList t (by rw [HLEN.out]; exact hlt)
      have htk : s.data.toList.take (2 * (t + 1)) = s.data.toList.take (2 * t) ++ [s.data.toList.getD (2 * t) 0, s.data.toList.getD (2 * t + 1) 0] := by
        rw [show 2 * (t + 1) = 2 * t + 1 + 1 from by omega, take_one _ 0 (2 * t + 1) (by rw [HLEN.out]; exact hlt), take_one _ 0 (2 * t) (by rw [HLEN.out]; exact hA)]
        simp
      have hpt : (prs s.data.toList).take (t + 1) = (prs s.data.toList).take t ++ [two (s.data.toList.getD (2 * t) 0) (s.data.toList.getD (2 * t + 1) 0)] := by
        have hk : t < (prs s.data.toList).length := by rw [HL.out]; omega
        rw [List.take_succ_eq_append_getElem hk]
        rw [List.getElem?_eq_getElem hk] at hpg
        rw [Option.some.inj hpg]
      clear hpg
      generalize s.data.toList.getD (2 * t) 0 = a at *
      generalize s.data.toList.getD (2 * t + 1) 0 = b at *
      have HBA := Lib.hid hba
      have HBB := Lib.hid hbb
      have HTK := Lib.hid htk
      have HPT := Lib.hid hpt
      have HOK := Lib.hid hok
      have hcB : ((2 : Int) * (t : Int) + 1) < (s.size : Int) := by omega
      have hcA : ((2 : Int) * (t : Int)) < (s.size : Int) := by omega
      clear hba hbb htk hpt hok
      have OWN := Lib.hid hown
      have BEL := Lib.hid hbel
      clear hown hbel
      go_wp2_with fail
      go_loop [6, 7] (fun vv kk => ∃ j : Nat, j ≤ 2 ∧ kk = .int .i64 (2 * (t : Int) + (j : Int)) ∧ vv = .int .i64 (part a b j) ∧ (1 ≤ j → 0 ≤ dv a) ∧ (2 ≤ j → 0 ≤ dv b)) (fun _ kk => (2 * (t : Int) + 2 - intOf kk).toNat)
      case atStart => exact ⟨0, by omega, by simp, rfl, by omega, by omega⟩
      case round =>
        obtain ⟨j, hj, rfl, rfl, hj1, hj2⟩ := hrel
        have HJ1 := Lib.hid hj1
        have HJ2 := Lib.hid hj2
        clear hj1 hj2
        have hcase : j = 0 ∨ j = 1 ∨ j = 2 := by omega
        rcases hcase with rfl | rfl | rfl
        · have hp0 : part a b 0 = 0 := rfl
          rw [hp0]
          have hz : ((0 : Nat) : Int) = 0 := rfl
          rw [hz, Int.add_zero]
          clear hp0 hz
          rcases dv_cases a with ⟨c1, c2, c3⟩ | ⟨c1, c2, c3⟩ | ⟨c1, c2, c3⟩
          · have d1 : (48 : Int) ≤ (a.toNat : Int) := by omega
            have d2 : (a.toNat : Int) ≤ 57 := by omega
            have C3 := Lib.hid c3
            clear c1 c2 c3
            go_wp2_with fail
            go_round
            case rel => exact ⟨1, by omega, by go_num, by rw [show part a b 1 = dv a from rfl, C3.out], by intro _; rw [C3.out]; omega, by omega⟩
            case measure => simp [intOf]; omega
          · have d1 : (97 : Int) ≤ (a.toNat : Int) := by omega
            have d2 : (a.toNat : Int) ≤ 102 := by omega
            have C3 := Lib.hid c3
            clear c1 c2 c3
            go_wp2_with fail
            go_round
            case rel => exact ⟨1, by omega, by go_num, by rw [show part a b 1 = dv a from rfl, C3.out]; go_num, by intro _; rw [C3.out]; omega, by omega⟩
            case measure => simp [intOf]; omega
          · have d0 : (a.toNat : Int) < 256 := by have := a.toNat_lt; omega
            have d3 : (0 : Int) ≤ (a.toNat : Int) := by omega
            have C3 := Lib.hid c3
            have C4 := Lib.hid c1
            have C5 := Lib.hid c2
            by_cases e1 : (48 : Int) ≤ (a.toNat : Int)
            · have e2 : ¬ (a.toNat : Int) ≤ 57 := by omega
              by_cases e3 : (97 : Int) ≤ (a.toNat : Int)
              · have e4 : ¬ (a.toNat : Int) ≤ 102 := by omega
                clear c1 c2 c3
                go_wp2_with fail
                go_ret2
                rw [HBA.out (by rw [C3.out]; omega)]
                exact ⟨(fun p hp => by cases hp), (fun _ => rfl), BEL.out⟩
              · clear c1 c2 c3
                go_wp2_with fail
                go_ret2
                rw [HBA.out (by rw [C3.out]; omega)]
                exact ⟨(fun p hp => by cases hp), (fun _ => rfl), BEL.out⟩
            · have e3 : ¬ (97 : Int) ≤ (a.toNat : Int) := by omega
              clear c1 c2 c3
              go_wp2_with fail
              go_ret2
              rw [HBA.out (by rw [C3.out]; omega)]
              exact ⟨(fun p hp => by cases hp), (fun _ => rfl), BEL.out⟩
        · have hp1 : part a b 1 = dv a := rfl
          rw [hp1]
          have hz : ((1 : Nat) : Int) = 1 := rfl
          rw [hz]
          clear hp1 hz
          have da0 : 0 ≤ dv a := HJ1.out (by omega)
          have da1 := dv_lt a
          obtain ⟨x, hx⟩ : ∃ x, x = dv a := ⟨_, rfl⟩
          rw [← hx] at da0 da1 ⊢
          have HX := Lib.hid hx
          have HP2 : Hid (part a b 2 = x * 16 + dv b) := Lib.hid (by rw [hx]; rfl)
          clear hx
          rcases dv_cases b with ⟨c1, c2, c3⟩ | ⟨c1, c2, c3⟩ | ⟨c1, c2, c3⟩
          · have d1 : (48 : Int) ≤ (b.toNat : Int) := by omega
            have d2 : (b.toNat : Int) ≤ 57 := by omega
            have C3 := Lib.hid c3
            clear c1 c2 c3
            go_wp2_with fail
            go_round
            case rel => exact ⟨2, by omega, by go_num, by rw [HP2.out, C3.out]; go_num, fun _ => da0, by intro _; rw [C3.out]; omega⟩
            case measure => simp [intOf]; omega
          · have d1 : (97 : Int) ≤ (b.toNat : Int) := by omega
            have d2 : (b.toNat : Int) ≤ 102 := by omega
            have C3 := Lib.hid c3
            clear c1 c2 c3
            go_wp2_with fail
            go_round
            case rel => exact ⟨2, by omega, by go_num, by rw [HP2.out, C3.out]; go_num, fun _ => da0, by intro _; rw [C3.out]; omega⟩
            case measure => simp [intOf]; omega
          · skip
            have d0 : (b.toNat : Int) < 256 := by have := b.toNat_lt; omega
            have d3 : (0 : Int) ≤ (b.toNat : Int) := by omega
            have C3 := Lib.hid c3
            by_cases e1 : (48 : Int) ≤ (b.toNat : Int)
            · have e2 : ¬ (b.toNat : Int) ≤ 57 := by omega
              by_cases e3 : (97 : Int) ≤ (b.toNat : Int)
              · have e4 : ¬ (b.toNat : Int) ≤ 102 := by omega
                clear c1 c2 c3
                go_wp2_with fail
                go_ret2
                rw [HBB.out (by rw [C3.out]; omega)]
                exact ⟨(fun p hp => by cases hp), (fun _ => rfl), BEL.out⟩
              · clear c1 c2 c3
                go_wp2_with fail
                go_ret2
                rw [HBB.out (by rw [C3.out]; omega)]
                exact ⟨(fun p hp => by cases hp), (fun _ => rfl), BEL.out⟩
            · have e3 : ¬ (97 : Int) ≤ (b.toNat : Int) := by omega
              clear c1 c2 c3
              go_wp2_with fail
              go_ret2
              rw [HBB.out (by rw [C3.out]; omega)]
              exact ⟨(fun p hp => by cases hp), (fun _ => rfl), BEL.out⟩
        · have da0 : 0 ≤ dv a := HJ1.out (by omega)
          have da1 := dv_lt a
          have db0 : 0 ≤ dv b := HJ2.out (by omega)
          have db1 := dv_lt b
          rw [show part a b 2 = dv a * 16 + dv b from rfl]
          have htwo : bv (two a b) = .int .u8 (dv a * 16 + dv b) := by
            unfold bv two
            rw [UInt8.toNat_ofNat']
            congr 1
            omega
          have hokk : okd [a, b] = true := by simp [okd, da0, db0]
          obtain ⟨z, hz⟩ : ∃ z, z = dv a * 16 + dv b := ⟨_, rfl⟩
          have hz0 : 0 ≤ z := by omega
          have hz256 : z < 256 := by omega
          rw [← hz] at htwo ⊢
          have HTWO := Lib.hid htwo
          have HOKK := Lib.hid hokk
          clear htwo hokk da0 da1 db0 db1 hz hj
          go_wp2_with (at_builtin; go_must (refine wpList_append_lies _ rfl (.tmp 53) (.tmp 56) 45 rfl w.heap.size 5 i0 (.int .u8 0) 1 1 Tryz.underlying45 hi hz0' hz1 hz2 rfl (by omega) _ t (((prs s.data.toList).take t).map bv) rfl (OWN.out.alloc _) ⟨wr.heap.size, 0, none⟩ 1 1 [.int .u8 z] rfl rfl ?c1 ?c2 ?c3 ?c4 ?c5 ?c6 _ rfl ?c7))
          case c2 => rfl
          case c4 => unfold maxLen; omega
          case c5 => omega
          case c6 => omega
          intro g cap2 w2 hown2 hgrow2 _ _
          have hown3 : w2.ownsRow w.heap.size 5 1 (.slice (some ⟨g, 0, none⟩) (t + 1) cap2) (t + 1) (((prs s.data.toList).take (t + 1)).map bv) := by
            rw [HPT.out, List.map_append, List.map_singleton, HTWO.out]; simpa using hown2
          have hbel2 : Below w.heap.size w w2 := (BEL.out.alloc hsz _).grown hgrow2 (by simp; omega) (fun k hk => (OWN.out.lt k hk).1)
          clear hown2 hgrow2
          go_wp2
          go_roundw
          case rel => exact ⟨t + 1, by omega, by go_num, by rw [HTK.out]; unfold okd at *; rw [List.all_append, HOK.out]; exact HOKK.out, hown3, hbel2⟩
          case measure => simp [intOf]; omega
    · have hlt2 : ¬ ((2 : Int) * (t : Int) + 1) < (s.size : Int) := by omega
      have ht2 : t = s.size / 2 := by omega
      rcases Nat.mod_two_eq_zero_or_one s.size with hev | hodd
      · have hun : unhex s.data.toList = some (prs s.data.toList) := by
          unfold unhex
          have h1 := hok
          rw [List.take_of_length_le (by rw [HLEN.out]; omega)] at h1
          rw [if_pos ⟨by rw [HLEN.out]; exact hev, h1⟩]
        have HUN := Lib.hid hun
        have hrow : (prs s.data.toList).take t = prs s.data.toList := List.take_of_length_le (by rw [HL.out]; omega)
        have hm2 : ((s.size : Int) % 2 == 1) = false := by
          have : (s.size : Int) % 2 = 0 := by omega
          rw [this]; rfl
        rw [hrow] at hown
        obtain ⟨a, c, rfl, hI, _⟩ := isB_of_owns hown
        have HI := Lib.hid hI
        have HT2 : Hid (t = (prs s.data.toList).length) := Lib.hid (by rw [HL.out]; exact ht2)
        clear hok hun hrow hev hown hI ht2
        go_wp2_with fail
        go_ret2
        rw [HUN.out]
        refine ⟨(fun p hp => ?_), (fun h => by cases h), hbel⟩
        cases hp
        exact ⟨a, c, by rw [← HT2.out]; rfl, by rw [← HT2.out]; exact HI.out⟩
      · have hun := unhex_odd s.data.toList (by rw [HLEN.out]; omega)
        have HUN := Lib.hid hun
        have hm2 : ((s.size : Int) % 2 == 1) = true := by
          have : (s.size : Int) % 2 = 1 := by omega
          rw [this]; rfl
        clear hok hun hodd hown ht2
        go_wp2_with fail
        go_ret2
        rw [HUN.out]
        exact ⟨(fun p hp => by cases hp), (fun _ => rfl), hbel⟩

end Go.Proofs.YtokbakpbhpknfaaGreatDoor.Nam

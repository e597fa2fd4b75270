/-
  The contract of the reference's Encode: the same signs. Conditions: at most a thousand bytes.
-/
import Derived.Test.YtcmgafehidgkmaaRowMore
import Derived.Test.YtcmgafehidgkmaaREncMath
import Derived.Deep.AppendLies
namespace Go.Proofs.Ytcmgafehidgkmaa.Nam
open Go.RowKit

theorem info_int : (Try.prog.info? 3).map (fun i => (i.zero, i.size, i.bytes)) = some (some (.int .i64 0), 1, 8) := by kernel_rfl

theorem sign_any (v : Nat) (h : v < 32) (w : World) :
    Calls Try.prog 36 #[.int .i64 (v : Int)] w fun e w' => e = .returned (.int .u8 ((sgn v).toNat : Int)) ∧ w = w' := by
  have h2 : (v : Int) < 32 := by omega
  go_enter Try.func36, Try.ntmps36
  go_wp2
  go_ret
  refine ⟨ret_u8 ?_, rfl⟩
  rw [← sign_at v h]

theorem take_rev (l : List UInt8) (t : Nat) (h : t < l.length) : l.reverse.take (t + 1) = l.reverse.take t ++ [l.getD (l.length - 1 - t) 0] := by
  rw [take_one l.reverse 0 t (by rw [List.length_reverse]; exact h)]
  congr 2
  rw [List.getD_eq_getElem?_getD, List.getD_eq_getElem?_getD, List.getElem?_reverse h]

set_option maxRecDepth 100000 in
set_option maxHeartbeats 4000000 in
theorem rencode_any (b off cap : Nat) (l : List UInt8) (w : World) (h0 : 0 < l.length) (hm : l.length ≤ 1000) (hb : By w b off l) (hbk : b < w.heap.size) :
    Calls Try.prog 26 #[.slice (some ⟨b, off, none⟩) l.length cap] w fun e w' => e = .returned (.string ⟨(enc l).toArray⟩) ∧ Below w.heap.size w w' := by
  obtain ⟨i0, hi, hz0, hz1, hz2⟩ := info_parts info_int
  obtain ⟨i1, hi1, hy0, hy1, hy2⟩ := info_parts info_u8
  have hs : slen l.length ≤ 200000 := by unfold slen; omega
  have HB := Lib.hid hb
  clear hb
  go_enter Try.func26, Try.ntmps26
  go_wp2_with fail
  go_loopw [3, 4] (fun v i wr => ∃ t : Nat, t ≤ l.length ∧ i = .int .i64 ((l.length : Int) - 1 - t) ∧ wr.ownsRow w.heap.size 3 1 v t ((l.reverse.take t).map iv) ∧ Below w.heap.size w wr) (fun _ i _ => (intOf i + 1).toNat)
  case atStart => exact ⟨0, Nat.zero_le _, by simp, World.ownsRow_nil _ _ _ _, Below.refl _ _⟩
  case round =>
    obtain ⟨t, ht, rfl, hown, hbel⟩ := hrel
    have hsz := hbel.size
    by_cases hlt : t < l.length
    · have hcell : wr.cell? ⟨b, off + (l.length - 1 - t), none⟩ = some (.int .u8 ((l.getD (l.length - 1 - t) 0).toNat : Int)) := (hbel.cell (by exact hbk)).trans (HB.out _ (by omega))
      have HT := Lib.hid (take_rev l t hlt)
      generalize l.getD (l.length - 1 - t) 0 = c at *
      have cb : ((c.toNat : Nat) : Int) < 256 := by have := c.toNat_lt; omega
      have hp : (0 : Int) ≤ (l.length : Int) - 1 - (t : Int) := by omega
      go_wp2_with (at_builtin; go_must (refine wpList_append_lies _ rfl (.tmp 18) (.tmp 24) 67 rfl w.heap.size 3 i0 (.int .i64 0) 1 8 Try.underlying67 hi hz0 hz1 hz2 rfl (by omega) _ t ((l.reverse.take t).map iv) rfl (hown.alloc _) ⟨wr.heap.size, 0, none⟩ 1 1 [iv c] rfl rfl ?c1 ?c2 ?c3 ?c4 ?c5 ?c6 _ rfl ?c7))
      case c1 =>
        intro j u hj
        match j, hj with
        | 0, hj => simp at hj; subst hj; simp [Addr.add, iv]
      case c2 => intro u hu; simp at hu; subst hu; rfl
      case c3 => omega
      case c4 => unfold maxLen; omega
      case c5 => omega
      case c6 => simp; omega
      intro g cap2 w2 hown2 hgrow2 _ _
      have hown3 : w2.ownsRow w.heap.size 3 1 (.slice (some ⟨g, 0, none⟩) (t + 1) cap2) (t + 1) ((l.reverse.take (t + 1)).map iv) := by
        rw [HT.out]; simpa using hown2
      have hbel2 : Below w.heap.size w w2 := (hbel.alloc hsz _).grown hgrow2 (by simp; omega) (fun k hk => (hown.lt k hk).1)
      clear hown2 hgrow2 hown hbel
      go_wp2
      go_roundw
      case rel => exact ⟨t + 1, by omega, by go_num, hown3, hbel2⟩
      case measure => simp [intOf]; omega
    · obtain rfl : t = l.length := by omega
      have hlast : ¬ (0 : Int) ≤ (l.length : Int) - 1 - (l.length : Int) := by omega
      have hown1 : wr.ownsRow w.heap.size 3 1 u3 l.length ((hb l.length (val l)).map iv) := by
        rw [hb_val]
        rw [List.take_of_length_le (by rw [List.length_reverse]; exact Nat.le_refl _)] at hown
        exact hown
      obtain ⟨g, c3, rfl, hg1, hg2⟩ := hown1.form h0
      clear hown
      go_wp2_with (first
        | (go_at_call 35; refine (rlen_any _ _ (by omega) (by omega)).mono ?_; rintro e w' ⟨rfl, rfl⟩)
        | (at_make; refine wpList_make_full _ rfl _ _ 22 rfl w.heap.size 5 i1 (.int .u8 0) 1 Try.underlying22 hi1 hy0 hy1 _ _ _ _ (slen l.length) rfl rfl ?m1 ?m2 ?m3 ?m4 ?m5 ?m6))
      case m1 => rfl
      case m2 => rfl
      case m3 => rw [hy2]; omega
      case m4 => unfold maxLen; omega
      case m5 => exact hsz
      intro w1 hown0 hgrow0
      have hout : w1.ownsRow w.heap.size 5 1 (.slice (some ⟨wr.heap.size, 0, none⟩) (slen l.length) (slen l.length)) (slen l.length) (encAt (slen l.length) 0 (val l)) := by
        have := hown0
        rw [toList_madeCells_one] at this
        simpa [encAt, encN, bv] using this
      have hnum : w1.ownsRow w.heap.size 3 1 (.slice (some ⟨g, 0, none⟩) l.length c3) l.length ((hb l.length (val l)).map iv) := hown1.kept hgrow0 (.inr (by simp [Value.ownBlock]))
      have hbel1 : Below w.heap.size w w1 := hbel.grown hgrow0 hsz (by intro k hk; cases hk)
      have hgH : g ≠ wr.heap.size := by omega
      clear hown0 hgrow0 hown1 hbel hi hz0 hz1 hz2 hi1 hy0 hy1 hy2
      have hgB : w.heap.size ≤ wr.heap.size := hsz
      generalize wr.heap.size = H at *
      have HGH := Lib.hid hgH
      clear hgH
      go_wp2_with fail
      go_loopw [7] (fun kk w2 => ∃ t : Nat, t ≤ slen l.length ∧ kk = .int .i64 ((slen l.length : Int) - 1 - t) ∧ w2.ownsRow w.heap.size 3 1 (.slice (some ⟨g, 0, none⟩) l.length c3) l.length ((hb l.length (val l / 32 ^ t)).map iv) ∧ w2.ownsRow w.heap.size 5 1 (.slice (some ⟨H, 0, none⟩) (slen l.length) (slen l.length)) (slen l.length) (encAt (slen l.length) t (val l)) ∧ Below w.heap.size w w2) (fun kk _ => (intOf kk + 1).toNat)
      case atStart => exact ⟨0, Nat.zero_le _, by simp, by simpa using hnum, hout, hbel1⟩
      case round =>
        clear hnum hout hbel1
        obtain ⟨t, ht, rfl, hnum, hout, hbel⟩ := hrel
        by_cases hlt : t < slen l.length
        · have hk0 : (0 : Int) ≤ (slen l.length : Int) - 1 - (t : Int) := by omega
          have hV : val l / 32 ^ (t + 1) = val l / 32 ^ t / 32 := by rw [Nat.pow_succ, Nat.div_div_eq_div_mul]
          have hD : dig (val l) t = val l / 32 ^ t % 32 := rfl
          have HV := Lib.hid hV
          have HD := Lib.hid hD
          clear hV hD
          have hVlt : val l / 32 ^ t < 256 ^ l.length := Nat.lt_of_le_of_lt (Nat.div_le_self _ _) (val_lt l)
          have hR0 : restAt l.length (val l / 32 ^ t) 0 = 0 := by unfold restAt; rw [Nat.sub_zero, Nat.div_eq_of_lt hVlt]
          have HR0 := Lib.hid hR0
          clear hVlt hR0
          generalize val l / 32 ^ t = V at *
          go_wp2_with fail
          obtain ⟨wo, hwo⟩ : ∃ wo : World, wo = wr := ⟨_, rfl⟩
          subst hwo
          go_loopw [8, 9] (fun rr ii w3 => ∃ j : Nat, j ≤ l.length ∧ ii = .int .i64 j ∧ rr = .int .i64 (restAt l.length V j : Int) ∧ w3.ownsRow w.heap.size 3 1 (.slice (some ⟨g, 0, none⟩) l.length c3) l.length (midRow l.length V j) ∧ w3.ownsRow w.heap.size 5 1 (.slice (some ⟨H, 0, none⟩) (slen l.length) (slen l.length)) (slen l.length) (encAt (slen l.length) t (val l)) ∧ Below w.heap.size w w3) (fun _ ii _ => l.length - (intOf ii).toNat)
          case atStart => exact ⟨0, Nat.zero_le _, rfl, by rw [HR0.out]; rfl, by rw [midRow_start]; exact hnum, hout, hbel⟩
          case round =>
            clear hnum hout hbel
            obtain ⟨j, hj, rfl, rfl, hnum, hout, hbel⟩ := hrel
            by_cases hjl : j < l.length
            · have hcell : wr.cell? ⟨g, j, none⟩ = some (.int .i64 ((V / 256 ^ (l.length - 1 - j) % 256 : Nat) : Int)) := by
                rw [hnum.cellAt j (by omega), midRow_get _ _ _ hjl]
              have hfree : wr.frozen? ⟨g, j, none⟩ = false := hnum.frozenAt j
              have HS := Lib.hid (midRow_step l.length V j hjl)
              have HR := Lib.hid (restAt_step l.length V j hjl)
              have hd : V / 256 ^ (l.length - 1 - j) % 256 < 256 := Nat.mod_lt _ (by omega)
              have hr : restAt l.length V j < 32 := Nat.mod_lt _ (by omega)
              generalize V / 256 ^ (l.length - 1 - j) % 256 = d at *
              generalize restAt l.length V j = r at *
              have hd2 : (d : Int) < 256 := by omega
              have hr2 : (r : Int) < 32 := by omega
              go_wp2_with fail
              go_roundw
              case rel => exact ⟨j + 1, by omega, by go_num, by rw [← HR.out]; go_num, by rw [← HS.out, show ((r : Int) * 256 + (d : Int)) / 32 = (((r * 256 + d) / 32 : Nat) : Int) from by omega]; exact (hnum.stored j _).1, hout.kept (hnum.stored j _).2 (.inr (by have := HGH.out; simp [Value.ownBlock]; omega)), hbel.setCell hg1 _⟩
              case measure => simp [intOf]; omega
            · obtain rfl : j = l.length := by omega
              have hend : restAt l.length V l.length = dig (val l) t := by rw [restAt_end]; exact HD.out.symm
              rw [hend]
              rw [midRow_end, ← HV.out] at hnum
              obtain ⟨u, hu⟩ := encAt_get (slen l.length) t (val l) (slen l.length - 1 - t) (by omega) (by omega)
              have hcell : wr.cell? ⟨H, slen l.length - 1 - t, none⟩ = some u := by rw [hout.cellAt _ (by omega)]; exact hu
              have hfree : wr.frozen? ⟨H, slen l.length - 1 - t, none⟩ = false := hout.frozenAt _
              have hdl := dig_lt (val l) t
              have HU := Lib.hid hu
              clear hu hend
              go_wp2_with fail
              refine (sign_any _ hdl _).mono ?_
              rintro e w' ⟨rfl, rfl⟩
              go_wp2_with fail
              go_roundw
              case rel => exact ⟨t + 1, by omega, by go_num, hnum.kept (hout.stored _ _).2 (.inr (by have := HGH.out; simp [Value.ownBlock]; omega)), by rw [← encAt_step _ _ _ hlt]; exact (hout.stored _ _).1, hbel.setCell hgB _⟩
              case measure => simp [intOf]; omega
        · obtain rfl : t = slen l.length := by omega
          have hk0 : ¬ (0 : Int) ≤ (slen l.length : Int) - 1 - (slen l.length : Int) := by omega
          rw [encAt_all] at hout
          have hcv := run_convert_bytes_back (P := Try.prog) wr 22 9 5 ⟨H, 0, none⟩ (slen l.length) (enc l) Try.underlying22 Try.underlying5 Try.underlying9
            (fun j hj => by
              rw [enc_length] at hj
              have h1 := hout.cellAt j (by omega)
              rw [add_at, h1, List.getElem?_map, List.getElem?_eq_getElem (by rw [encN_length]; exact hj)]
              rfl)
          rw [enc_length] at hcv
          clear hnum hout
          go_wp2
          go_ret
          exact ⟨rfl, hbel⟩

set_option maxRecDepth 100000 in
set_option maxHeartbeats 1000000 in
theorem rencode_none (a : Option Addr) (cap : Nat) (w : World) :
    Calls Try.prog 26 #[.slice a 0 cap] w fun e w' => e = .returned (.string ⟨#[]⟩) ∧ Below w.heap.size w w' := by
  obtain ⟨i1, hi1, hy0, hy1, hy2⟩ := info_parts info_u8
  go_enter Try.func26, Try.ntmps26
  go_wp2_with fail
  refine wp_loop_rounds 1 ?_
  rw [rounds_succ]
  go_wp2_with (first
    | (go_at_call 35; refine (rlen_none _ _ (by omega)).mono ?_; rintro e w' ⟨rfl, rfl⟩)
    | (at_make; refine wpList_make_full _ rfl _ _ 22 rfl w.heap.size 5 i1 (.int .u8 0) 1 Try.underlying22 hi1 hy0 hy1 _ _ _ _ 0 rfl rfl ?m1 ?m2 ?m3 ?m4 ?m5 ?m6))
  case m1 => rfl
  case m2 => rfl
  case m3 => omega
  case m4 => unfold maxLen; omega
  case m5 => exact Nat.le_refl _
  intro w1 hown0 hgrow0
  have hbel1 : Below w.heap.size w w1 := (Below.refl _ _).grown hgrow0 (Nat.le_refl _) (by intro k hk; cases hk)
  have hcv := run_convert_bytes_back (P := Try.prog) w1 22 9 5 ⟨w.heap.size, 0, none⟩ 0 [] Try.underlying22 Try.underlying5 Try.underlying9 (fun j hj => by simp at hj)
  rw [List.length_nil] at hcv
  clear hown0 hgrow0 hi1 hy0 hy1 hy2
  go_wp2_with fail
  refine wp_loop_rounds 1 ?_
  rw [rounds_succ]
  go_wp2
  go_ret
  exact ⟨rfl, hbel1⟩

theorem rencode_b (a : Option Addr) (len cap : Nat) (l : List UInt8) (w : World) (h : IsB w a len cap l) (hm : len ≤ 1000) :
    Calls Try.prog 26 #[.slice a len cap] w fun e w' => e = .returned (.string ⟨(enc l).toArray⟩) ∧ Below w.heap.size w w' := by
  obtain ⟨h1, h2, h3, _, _⟩ := h
  rcases h2 with h0 | ⟨b, off, rfl, hlt, hby⟩
  · subst h0
    obtain rfl : l = [] := List.eq_nil_of_length_eq_zero h1
    exact rencode_none a cap w
  · subst h1
    rcases Nat.eq_zero_or_pos l.length with h0 | h0
    · obtain rfl : l = [] := List.eq_nil_of_length_eq_zero h0
      exact rencode_none _ cap w
    · exact rencode_any b off cap l w h0 hm hby hlt

/-- 'string(b)' of bytes that came in, nil and empty ones too. -/
theorem convert_b {w : World} {a : Option Addr} {n cap : Nat} {l : List UInt8} (h : IsB w a n cap l) :
    (convert 22 9 (.slice a n cap)).run Try.prog w = .ok (.string ⟨l.toArray⟩) w := by
  obtain ⟨h1, h2, h3, h4, _⟩ := h
  have hnil : n = 0 → (convert 22 9 (.slice a n cap)).run Try.prog w = .ok (.string ⟨l.toArray⟩) w := by
    intro h0
    subst h0
    obtain rfl : l = [] := List.eq_nil_of_length_eq_zero h1
    cases a with
    | none =>
      obtain ⟨_, rfl⟩ := h4 rfl
      rw [run_convert_bytes_string w 22 9 5 none 0 0 Try.underlying22 Try.underlying5 Try.underlying9]
      rfl
    | some x =>
      have := run_convert_bytes_back (P := Try.prog) w 22 9 5 x cap [] Try.underlying22 Try.underlying5 Try.underlying9 (fun j hj => by simp at hj)
      rw [List.length_nil] at this
      exact this
  rcases h2 with h0 | ⟨b, off, rfl, hlt, hby⟩
  · exact hnil h0
  · subst h1
    refine run_convert_bytes_back (P := Try.prog) w 22 9 5 ⟨b, off, none⟩ cap l Try.underlying22 Try.underlying5 Try.underlying9 (fun j hj => ?_)
    have hadd : (⟨b, off, none⟩ : Addr).add j = ⟨b, off + j, none⟩ := by cases j <;> simp [Addr.add]
    rw [hadd, hby j hj]
    simp [List.getD, hj]

end Go.Proofs.Ytcmgafehidgkmaa.Nam

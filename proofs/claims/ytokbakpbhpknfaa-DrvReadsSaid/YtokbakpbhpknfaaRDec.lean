/-
  The contract of the reference's Decode: the same bytes, or the same refusal. Conditions: at most a thousand signs.
-/
import Derived.Test.YtokbakpbhpknfaaREnc
import Derived.Test.YtokbakpbhpknfaaDecN
import Derived.Test.YtokbakpbhpknfaaMathN
import Derived.Deep.QuietTactic
import Derived.BigQuiet
namespace Go.Proofs.Ytokbakpbhpknfaa.Nam
open Go.RowKit

theorem cells_nought_int (n : Nat) : (List.replicate n (Value.int .i64 0)) = (byN n 0).map iv := by
  induction n with
  | zero => rfl
  | succ n ih => simp [List.replicate_succ, byN, ih, iv]

/-- The bytes that have been handed over, and noughts behind them. -/
def outRow (n v j : Nat) : List Value := ((byN n v).take j ++ List.replicate (n - j) 0).map bv

theorem outRow_start (n v : Nat) : outRow n v 0 = (byN n 0).map bv := by
  rw [← cells_nought n]; simp [outRow, bv]

theorem outRow_end (n v : Nat) : outRow n v n = (byN n v).map bv := by
  simp [outRow, List.take_of_length_le, byN_length]

theorem outRow_step (n v j : Nat) (h : j < n) : (outRow n v j).set j (.int .u8 ((v / 256 ^ j % 256 : Nat) : Int)) = outRow n v (j + 1) := by
  have hlen : ((byN n v).take j).length = j := by rw [List.length_take, byN_length]; omega
  have ht : (byN n v).take (j + 1) = (byN n v).take j ++ [UInt8.ofNat (v / 256 ^ j % 256)] := by
    have hlt : j < (byN n v).length := by rw [byN_length]; exact h
    rw [List.take_succ_eq_append_getElem hlt]
    have := byN_get n v j h
    rw [List.getElem?_eq_getElem hlt] at this
    rw [Option.some.inj this]
  have hr : List.replicate (n - j) (0 : UInt8) = 0 :: List.replicate (n - (j + 1)) 0 := by
    rw [show n - j = (n - (j + 1)) + 1 from by omega, List.replicate_succ]
  unfold outRow
  rw [ht, hr, List.map_append, List.set_append_right j _ (by rw [List.length_map, hlen]; exact Nat.le_refl _)]
  rw [List.length_map, hlen, Nat.sub_self]
  simp only [List.map_cons, List.set_cons_zero, List.append_assoc, List.map_append, List.cons_append, List.nil_append, bv]
  rw [UInt8.toNat_ofNat', Nat.mod_mod_of_dvd _ (by decide)]

theorem outRow_get (n v j : Nat) (h : j < n) : ∃ u, (outRow n v j)[j]? = some u :=
  ⟨_, List.getElem?_eq_getElem (by simp [outRow, byN_length]; omega)⟩

theorem dlen_ref (n : Nat) : (n : Int) * 5 / 8 = (dlen n : Int) := by unfold dlen; omega

theorem sign_quiet (v : Nat) (h : v < 32) (w : World) :
    Calls Try.prog 63 #[.int .i64 (v : Int)] w fun e w' => e = .returned (.int .u8 ((sgn v).toNat : Int)) ∧ w' = w :=
  (sign_any v h w).mono fun _ _ ⟨he, hw⟩ => ⟨he, hw.symm⟩

theorem dec_none_oks' (l : List UInt8) (k : Nat) (h : k < l.length) (hs : sv (l.getD k 0) < 0) : dec l = none := by
  unfold dec
  rw [if_neg]
  rintro ⟨_, h2, _⟩
  have h3 := oks_all_take l (k + 1) h2
  rw [oks_take _ _ h] at h3
  simp at h3
  have := h3.2
  rw [List.getD_eq_getElem?_getD] at hs
  omega

theorem dec_none_big' (l : List UInt8) (k : Nat) (h : 256 ^ dlen l.length ≤ hvN l k) : dec l = none := by
  unfold dec
  rw [if_neg]
  rintro ⟨_, _, h3⟩
  have := hvN_le l k
  omega

set_option maxRecDepth 100000 in
set_option maxHeartbeats 1000000 in
theorem rdecode_far (s : ByteArray) (w : World) (hm : s.size ≤ 100000) (h : slen (dlen s.size) ≠ s.size) :
    Calls Try.prog 56 #[.string s] w fun e w' => DecPost (dec s.data.toList) w e w' := by
  have hn := dec_none_len s.data.toList (by simpa using h)
  rw [hn]
  have h1 : ((slen (dlen s.size) : Nat) : Int) ≠ (s.size : Int) := by omega
  have h2 : (((slen (dlen s.size) : Nat) : Int) != (s.size : Int)) = true := by simpa using h1
  clear h h1 hn
  rcases Nat.eq_zero_or_pos (dlen s.size) with h0 | h0
  · have h3 : (s.size : Int) * 5 / 8 ≤ 0 := by rw [dlen_ref]; omega
    rw [h0] at h2
    have h4 : ((0 : Int) != (s.size : Int)) = true := h2
    have H3 := Lib.hid h3
    clear h0 h2 h3
    go_enter Try.func56, Try.ntmps56
    go_wp2_with (go_at_call 62; refine (rlen_none _ _ H3.out).mono ?_; rintro e w' ⟨rfl, rfl⟩)
    go_ret2
    exact ⟨(fun p hp => by cases hp), (fun _ => rfl), Below.refl _ _⟩
  · have h3 : 0 < (s.size : Int) * 5 / 8 := by rw [dlen_ref]; omega
    have e3 : ((s.size : Int) * 5 / 8).toNat = dlen s.size := by rw [dlen_ref]; omega
    have H3 := Lib.hid h3
    have E3 := Lib.hid e3
    clear h0 h3 e3
    go_enter Try.func56, Try.ntmps56
    go_wp2_with (go_at_call 62; refine (rlen_any _ _ H3.out (by omega)).mono ?_; rintro e w' ⟨rfl, rfl⟩; rw [E3.out])
    go_ret2
    exact ⟨(fun p hp => by cases hp), (fun _ => rfl), Below.refl _ _⟩

theorem rlen_b (n : Nat) (w : World) (h : n ≤ 1000000000) :
    Calls Try.prog 62 #[.int .i64 (n : Int)] w fun e w' => e = .returned (.int .i64 (slen n)) ∧ w = w' := by
  rcases Nat.eq_zero_or_pos n with rfl | h0
  · exact rlen_none _ w (by omega)
  · have := rlen_any (n : Int) w (by omega) (by omega)
    rw [Int.toNat_natCast] at this
    exact this

set_option maxRecDepth 100000 in
set_option maxHeartbeats 4000000 in
theorem rdecode_some (s : ByteArray) (w : World) (hm : s.size ≤ 1000) (h : slen (dlen s.size) = s.size) :
    Calls Try.prog 56 #[.string s] w fun e w' => DecPost (dec s.data.toList) w e w' := by
  obtain ⟨i0, hi, hz0, hz1, hz2⟩ := info_parts info_int
  obtain ⟨i1, hi1, hy0, hy1, hy2⟩ := info_parts info_u8
  have e3 : ((s.size : Int) * 5 / 8) = (dlen s.size : Int) := dlen_ref _
  have h2 : (((slen (dlen s.size) : Nat) : Int) != (s.size : Int)) = false := by rw [h]; simp
  have hbig : dlen s.size ≤ 100000 := by unfold dlen; omega
  have hlen : s.data.toList.length = s.size := by simp
  have HL := Lib.hid hlen
  have HS := Lib.hid h
  have E3 := Lib.hid e3
  clear h hlen e3
  generalize hn : dlen s.size = n at *
  have HN := Lib.hid hn
  clear hn
  go_enter Try.func56, Try.ntmps56
  go_wp2_with (first
    | (go_at_call 62; rw [E3.out]; refine (rlen_b _ _ (by omega)).mono ?_; rintro e w' ⟨rfl, rfl⟩)
    | (at_make; refine wpList_make_full _ rfl _ _ 83 rfl w.heap.size 3 i0 (.int .i64 0) 1 Try.underlying83 hi hz0 hz1 _ _ _ _ (n + 1) rfl rfl ?m1 ?m2 ?m3 ?m4 ?m5 ?m6))
  case m1 => simp
  case m2 => simp
  case m3 => rw [hz2]; omega
  case m4 => unfold maxLen; omega
  case m5 => exact Nat.le_refl _
  intro w1 hown0 hgrow0
  have hown1 : w1.ownsRow w.heap.size 3 1 (.slice (some ⟨w.heap.size, 0, none⟩) (n + 1) (n + 1)) (n + 1) ((byN (n + 1) 0).map iv) := by
    have := hown0
    rw [toList_madeCells_one, cells_nought_int] at this
    exact this
  have hbel1 : Below w.heap.size w w1 := (Below.refl _ _).grown hgrow0 (Nat.le_refl _) (by intro k hk; cases hk)
  have hsz1 : w.heap.size < w1.heap.size := (hown1.lt _ rfl).2
  clear hown0 hgrow0 hi hz0 hz1 hz2
  generalize hB : w.heap.size = B at *
  have HB := Lib.hid hB
  clear hB
  go_wp2_with fail
  go_loopw [6] (fun i wr => ∃ k : Nat, k ≤ s.size ∧ i = .int .i64 k ∧ oks (s.data.toList.take k) = true ∧ hvN s.data.toList k < 256 ^ (n + 1) ∧ wr.ownsRow B 3 1 (.slice (some ⟨B, 0, none⟩) (n + 1) (n + 1)) (n + 1) ((byN (n + 1) (hvN s.data.toList k)).map iv) ∧ B < wr.heap.size ∧ Below B w wr) (fun i _ => s.size - (intOf i).toNat)
  case atStart => exact ⟨0, Nat.zero_le _, rfl, by simp [oks], by simp [hvN, rv]; exact Nat.pos_of_ne_zero (by simp), by simpa [hvN, rv] using hown1, hsz1, hbel1⟩
  case round =>
    clear hown1 hbel1 hsz1
    obtain ⟨k, hk, rfl, hok, hfit, hown, hsz, hbel⟩ := hrel
    by_cases hlt : k < s.size
    · have hlt' : k < s.data.toList.length := by rw [HL.out]; exact hlt
      have hget : (s[k]'hlt) = s.data.toList.getD k 0 := by
        rw [List.getD_eq_getElem?_getD, List.getElem?_eq_getElem hlt']
        rfl
      have hot := oks_take s.data.toList k hlt'
      have hhv := hvN_step s.data.toList k hlt'
      have hdn := dec_none_oks' s.data.toList k hlt'
      have hdb := dec_none_big' s.data.toList (k + 1)
      rw [HL.out, HN.out] at hdb
      generalize s.data.toList.getD k 0 = c at *
      generalize hvN s.data.toList k = h at *
      have HOT := Lib.hid hot
      have HHV := Lib.hid hhv
      have HOK := Lib.hid hok
      have HDN := Lib.hid hdn
      have HDB := Lib.hid hdb
      have HFIT := Lib.hid hfit
      clear hot hhv hok hdn hdb hfit hlt'
      obtain ⟨wo, hwo⟩ : ∃ wo : World, wo = wr := ⟨_, rfl⟩
      subst hwo
      go_wp2_with fail
      go_loopw [7, 8] (fun vv jj w3 => ∃ j : Nat, j ≤ 32 ∧ jj = .int .i64 j ∧ vv = .int .i64 (fnd c j) ∧ w3.ownsRow B 3 1 (.slice (some ⟨B, 0, none⟩) (n + 1) (n + 1)) (n + 1) ((byN (n + 1) h).map iv) ∧ B < w3.heap.size ∧ Below B w w3) (fun _ jj _ => 32 - (intOf jj).toNat)
      case atStart => exact ⟨0, by omega, rfl, by rw [fnd_zero], hown, hsz, hbel⟩
      case round =>
        clear hown hbel hsz
        obtain ⟨j, hj, rfl, rfl, hown, hsz, hbel⟩ := hrel
        by_cases hjl : j < 32
        · have hj2 : (j : Int) < 32 := by omega
          by_cases hc : sgn j = c
          · have hcmp : (((sgn j).toNat : Int) == (c.toNat : Int)) = true := by rw [hc]; simp
            have HF := Lib.hid (fnd_hit c j hjl hc)
            clear hc
            go_wp2_with fail
            go_quiet ((go_at_call 63; exact Calls.quiet_of_same (sign_quiet _ hjl _)))
            go_wp2
            go_roundw
            case rel => exact ⟨j + 1, by omega, by go_num, by rw [HF.out], hown, hsz, ⟨hbel.os, hbel.tape, hbel.output, hbel.size, hbel.block⟩⟩
            case measure => simp [intOf]; omega
          · have hcmp : (((sgn j).toNat : Int) == (c.toNat : Int)) = false := by
              rw [beq_eq_false_iff_ne]
              intro e
              exact hc (UInt8.toNat_inj.1 (by omega))
            have HF := Lib.hid (fnd_miss c j hjl hc)
            clear hc
            go_wp2_with fail
            go_quiet ((go_at_call 63; exact Calls.quiet_of_same (sign_quiet _ hjl _)))
            go_wp2
            go_roundw
            case rel => exact ⟨j + 1, by omega, by go_num, by rw [HF.out], hown, hsz, ⟨hbel.os, hbel.tape, hbel.output, hbel.size, hbel.block⟩⟩
            case measure => simp [intOf]; omega
        · obtain rfl : j = 32 := by omega
          rw [fnd_all]
          by_cases hneg : sv c < 0
          · have hd : decide (sv c < 0) = true := by simpa using hneg
            go_wp2_with fail
            go_ret2
            rw [HDN.out hneg]
            exact ⟨(fun p hp => by cases hp), (fun _ => rfl), hbel.mono (by have := HB.out; omega)⟩
          · obtain ⟨v, hv⟩ : ∃ v : Nat, sv c = (v : Int) := ⟨(sv c).toNat, by omega⟩
            have hv32 : v < 32 := by have := sv_lt c; omega
            have htn : (sv c).toNat = v := by omega
            rw [hv]
            have HV := Lib.hid hv
            have HT := Lib.hid htn
            have hd2 : decide ((v : Int) < 0) = false := by simp
            clear hv htn hneg
            obtain ⟨wo, hwo⟩ : ∃ wo : World, wo = wr := ⟨_, rfl⟩
            subst hwo
            go_wp2_with fail
            go_loopw [7, 9] (fun vv jj w3 => ∃ j : Nat, j ≤ n + 1 ∧ jj = .int .i64 j ∧ vv = .int .i64 (carry h v j : Int) ∧ w3.ownsRow B 3 1 (.slice (some ⟨B, 0, none⟩) (n + 1) (n + 1)) (n + 1) (carryRow (n + 1) h v j) ∧ B < w3.heap.size ∧ Below B w w3) (fun _ jj _ => n + 1 - (intOf jj).toNat)
            case atStart => exact ⟨0, by omega, rfl, by rw [carry_zero], by rw [carryRow_start]; exact hown, hsz, hbel⟩
            case round =>
              clear hown hbel hsz
              obtain ⟨j, hj, rfl, rfl, hown, hsz, hbel⟩ := hrel
              by_cases hjl : j < n + 1
              · have hj2 : (j : Int) < (n : Int) + 1 := by omega
                have hcell : wr.cell? ⟨B, j, none⟩ = some (.int .i64 ((h / 256 ^ j % 256 : Nat) : Int)) := by
                  rw [hown.cellAt j (by omega), carryRow_get _ _ _ _ hjl]
                have hfree : wr.frozen? ⟨B, j, none⟩ = false := hown.frozenAt j
                have HS2 := Lib.hid (carryRow_step (n + 1) h v j hjl)
                have HC := Lib.hid (carry_step h v j)
                have hcl := carry_le h v j hv32
                have hd : h / 256 ^ j % 256 < 256 := Nat.mod_lt _ (by omega)
                generalize h / 256 ^ j % 256 = d at *
                generalize carry h v j = r at *
                have hd3 : (d : Int) < 256 := by omega
                have hr3 : (r : Int) ≤ 32 := by omega
                go_wp2_with fail
                go_roundw
                case rel => exact ⟨j + 1, by omega, by go_num, by rw [← HC.out]; go_num, by rw [← HS2.out, show ((r : Int) + (d : Int) * 32) % 256 = (((r + d * 32) % 256 : Nat) : Int) from by omega]; exact (hown.stored j _).1, by simpa using hsz, hbel.setCell (Nat.le_refl _) _⟩
                case measure => simp [intOf]; omega
              · obtain rfl : j = n + 1 := by omega
                rw [carryRow_end] at hown
                have hce := carry_end h v (n + 1) HFIT.out
                by_cases hz : carry h v (n + 1) = 0
                · have HZ := Lib.hid (hce.1 hz)
                  rw [hz]
                  clear hce hz
                  go_wp2_with fail
                  go_roundw
                  case rel => exact ⟨k + 1, by omega, by go_num, by rw [HOT.out, HOK.out]; simp; have := HV.out; omega, by rw [HHV.out, HT.out]; exact HZ.out, by rw [HHV.out, HT.out]; exact hown, hsz, hbel⟩
                  case measure => simp [intOf]; omega
                · have HZ := Lib.hid (fun hh => hz (hce.2 hh))
                  have hz2 : (0 : Int) < (carry h v (n + 1) : Int) := by omega
                  clear hce hz
                  go_wp2_with fail
                  go_ret2
                  rw [HDB.out (by
                    rw [HHV.out, HT.out]
                    have h1 : ¬ h * 32 + v < 256 ^ (n + 1) := HZ.out
                    have h2 : 256 ^ n ≤ 256 ^ (n + 1) := Nat.pow_le_pow_right (by omega) (by omega)
                    exact Nat.le_trans h2 (Nat.le_of_not_lt h1))]
                  exact ⟨(fun p hp => by cases hp), (fun _ => rfl), hbel.mono (by have := HB.out; omega)⟩
    · obtain rfl : k = s.size := by omega
      have hV : hvN s.data.toList s.size = rv s.data.toList.reverse := by rw [← HL.out]; exact hvN_all _
      have hok2 : oks s.data.toList = true := by
        have := hok
        rw [List.take_of_length_le (by rw [HL.out]; exact Nat.le_refl _)] at this
        exact this
      rw [hV] at hown hfit
      have hdec : dec s.data.toList = if rv s.data.toList.reverse < 256 ^ n then some (byN n (rv s.data.toList.reverse)) else none := by
        unfold dec
        rw [HL.out, HN.out, HS.out, hok2]
        simp
      have HD := Lib.hid hdec
      have hcell : wr.cell? ⟨B, n, none⟩ = some (.int .i64 ((rv s.data.toList.reverse / 256 ^ n % 256 : Nat) : Int)) := by
        rw [hown.cellAt n (by omega), List.getElem?_map, byN_get _ _ _ (by omega)]
        simp only [Option.map_some, iv]
        rw [UInt8.toNat_ofNat', Nat.mod_mod_of_dvd _ (by decide)]
      clear hV hok hok2 hdec
      generalize rv s.data.toList.reverse = V at *
      by_cases hfit2 : V < 256 ^ n
      · have hzero : V / 256 ^ n % 256 = 0 := by rw [Nat.div_eq_of_lt hfit2]
        rw [hzero] at hcell
        rw [if_pos hfit2] at HD
        have hdig : ∀ j, j < n → wr.cell? ⟨B, j, none⟩ = some (.int .i64 ((V / 256 ^ j % 256 : Nat) : Int)) := by
          intro j hj
          rw [hown.cellAt j (by omega), List.getElem?_map, byN_get _ _ _ (by omega)]
          simp only [Option.map_some, iv]
          rw [UInt8.toNat_ofNat', Nat.mod_mod_of_dvd _ (by decide)]
        have HDIG := Lib.hid hdig
        clear hzero hfit hfit2 hdig hown
        go_wp2_with (at_make; refine wpList_make_full _ rfl _ _ 38 rfl B 5 i1 (.int .u8 0) 1 Try.underlying38 hi1 hy0 hy1 _ _ _ _ n rfl rfl ?p1 ?p2 ?p3 ?p4 ?p5 ?p6)
        case p1 => rfl
        case p2 => rfl
        case p3 => rw [hy2]; omega
        case p4 => unfold maxLen; omega
        case p5 => omega
        intro w2 hown0 hgrow0
        have hout : w2.ownsRow B 5 1 (.slice (some ⟨wr.heap.size, 0, none⟩) n n) n (outRow n V 0) := by
          have := hown0
          rw [toList_madeCells_one, cells_nought, ← outRow_start n V] at this
          exact this
        have hbel2 : Below B w w2 := hbel.grown hgrow0 (by omega) (by intro k hk; cases hk)
        have HDIG2 : Hid (∀ j, j < n → w2.cell? ⟨B, j, none⟩ = some (.int .i64 ((V / 256 ^ j % 256 : Nat) : Int))) :=
          Lib.hid fun j hj => hgrow0.cell (HDIG.out j hj) (by simp)
        clear hown0 hgrow0 hcell HDIG hbel
        generalize wr.heap.size = H at *
        go_wp2_with fail
        go_loopw [11] (fun ii w3 => ∃ j : Nat, j ≤ n ∧ ii = .int .i64 j ∧ (∀ q, q < n → w3.cell? ⟨B, q, none⟩ = some (.int .i64 ((V / 256 ^ q % 256 : Nat) : Int))) ∧ w3.ownsRow B 5 1 (.slice (some ⟨H, 0, none⟩) n n) n (outRow n V j) ∧ Below B w w3) (fun ii _ => n - (intOf ii).toNat)
        case atStart => exact ⟨0, by omega, rfl, HDIG2.out, hout, hbel2⟩
        case round =>
          clear hout hbel2 HDIG2
          obtain ⟨j, hj, rfl, hdg, hout, hbel⟩ := hrel
          have HDG := Lib.hid hdg
          clear hdg
          by_cases hjl : j < n
          · have hcell := HDG.out j hjl
            have hd : V / 256 ^ j % 256 < 256 := Nat.mod_lt _ (by omega)
            have HS2 := Lib.hid (outRow_step n V j hjl)
            obtain ⟨u, hu⟩ := outRow_get n V j hjl
            have hcell2 : wr.cell? ⟨H, j, none⟩ = some u := by rw [hout.cellAt j (by omega)]; exact hu
            have hfree : wr.frozen? ⟨H, j, none⟩ = false := hout.frozenAt j
            have HU := Lib.hid hu
            clear hu
            generalize V / 256 ^ j % 256 = d at *
            have hd3 : (d : Int) < 256 := by omega
            go_wp2_with fail
            go_roundw
            case rel => exact ⟨j + 1, by omega, by go_num, fun q hq => (by rw [World.cell?_setCell_other _ _ _ _ (by simp; try omega)]; exact HDG.out q hq), by rw [← HS2.out]; exact (hout.stored j _).1, hbel.setCell (Nat.le_of_lt hsz) _⟩
            case measure => simp [intOf]; omega
          · obtain rfl : j = n := by omega
            rw [outRow_end] at hout
            go_wp2_with fail
            go_ret2
            rw [HD.out]
            refine ⟨(fun p hp => ?_), (fun h => by cases h), hbel.mono (by have := HB.out; omega)⟩
            cases hp
            exact ⟨H, by rw [byN_length]; rfl, by rw [byN_length, HB.out]; exact hout⟩
      · have hp : 0 < 256 ^ n := Nat.pos_of_ne_zero (by simp)
        have h1 : 1 ≤ V / 256 ^ n := (Nat.le_div_iff_mul_le hp).2 (by omega)
        have h2 : V / 256 ^ n < 256 := by
          rw [Nat.div_lt_iff_lt_mul hp, Nat.mul_comm, ← Nat.pow_succ]; exact hfit
        have h3 : (0 : Int) < ((V / 256 ^ n % 256 : Nat) : Int) := by rw [Nat.mod_eq_of_lt h2]; omega
        rw [if_neg hfit2] at HD
        clear hp h1 h2 hfit2 hfit hown
        generalize V / 256 ^ n % 256 = d at *
        go_wp2_with fail
        go_ret2
        rw [HD.out]
        exact ⟨(fun p hp => by cases hp), (fun _ => rfl), hbel.mono (by have := HB.out; omega)⟩

theorem rdecode_any (s : ByteArray) (w : World) (hm : s.size ≤ 1000) :
    Calls Try.prog 56 #[.string s] w fun e w' => DecPost (dec s.data.toList) w e w' := by
  by_cases h : slen (dlen s.size) = s.size
  · exact rdecode_some s w hm h
  · exact rdecode_far s w (by omega) h

end Go.Proofs.Ytokbakpbhpknfaa.Nam

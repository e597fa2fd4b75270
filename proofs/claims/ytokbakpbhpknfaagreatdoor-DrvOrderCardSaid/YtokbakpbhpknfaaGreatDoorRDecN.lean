/-
  The contract of the reference's Decode: the same bytes, or the same refusal. Conditions: at most a thousand signs.
-/
import Derived.Test.YtokbakpbhpknfaaGreatDoorRHexN
import Derived.Test.YtokbakpbhpknfaaGreatDoorDecN
import Derived.Test.YtokbakpbhpknfaaGreatDoorMathN
import Derived.Deep.QuietTactic
import Derived.BigQuiet
import Derived.Test.YtokbakpbhpknfaaGreatDoorPathN
import Derived.Deep.RegionHeld3
namespace Go.Proofs.YtokbakpbhpknfaaGreatDoor.Nam
open Go.RowKit

theorem cells_nought_int (n : Nat) : (List.replicate n (Value.int .i64 0)) = (byN n 0).map iv := by
  induction n with
  | zero => rfl
  | succ n ih => simp [List.replicate_succ, byN, ih, iv]

/-- The bytes that have been handed over, and noughts behind them. -/
def outRow (n v j : Nat) : List Value := ((byN n v).take j ++ List.replicate (n - j) 0).map bv

theorem outRow_start (n v : Nat) : outRow n v 0 = (byN n 0).map bv := by
  rw [← cells_nought n]; simp [outRow, bv]

theorem outRow_end (n v : Nat) : outRow n v n = (byN n v).map bv := by
  simp [outRow, List.take_of_length_le, byN_length]

theorem outRow_step (n v j : Nat) (h : j < n) : (outRow n v j).set j (.int .u8 ((v / 256 ^ j % 256 : Nat) : Int)) = outRow n v (j + 1) := by
  have hlen : ((byN n v).take j).length = j := by rw [List.length_take, byN_length]; omega
  have ht : (byN n v).take (j + 1) = (byN n v).take j ++ [UInt8.ofNat (v / 256 ^ j % 256)] := by
    have hlt : j < (byN n v).length := by rw [byN_length]; exact h
    rw [List.take_succ_eq_append_getElem hlt]
    have := byN_get n v j h
    rw [List.getElem?_eq_getElem hlt] at this
    rw [Option.some.inj this]
  have hr : List.replicate (n - j) (0 : UInt8) = 0 :: List.replicate (n - (j + 1)) 0 := by
    rw [show n - j = (n - (j + 1)) + 1 from by omega, List.replicate_succ]
  unfold outRow
  rw [ht, hr, List.map_append, List.set_append_right j _ (by rw [List.length_map, hlen]; exact Nat.le_refl _)]
  rw [List.length_map, hlen, Nat.sub_self]
  simp only [List.map_cons, List.set_cons_zero, List.append_assoc, List.map_append, List.cons_append, List.nil_append, bv]
  rw [UInt8.toNat_ofNat', Nat.mod_mod_of_dvd _ (by decide)]

theorem outRow_get (n v j : Nat) (h : j < n) : ∃ u, (outRow n v j)[j]? = some u :=
  ⟨_, List.getElem?_eq_getElem (by simp [outRow, byN_length]; omega)⟩

theorem dlen_ref (n : Nat) : (n : Int) * 5 / 8 = (dlen n : Int) := by unfold dlen; omega

theorem sign_quiet (v : Nat) (h : v < 32) (w : World) :
    Calls Tryz.prog 103 #[.int .i64 (v : Int)] w fun e w' => e = .returned (.int .u8 ((sgn v).toNat : Int)) ∧ w' = w :=
  (sign_any v h w).mono fun _ _ ⟨he, hw⟩ => ⟨he, hw.symm⟩

theorem dec_none_oks' (l : List UInt8) (k : Nat) (h : k < l.length) (hs : sv (l.getD k 0) < 0) : dec l = none := by
  unfold dec
  rw [if_neg]
  rintro ⟨_, h2, _⟩
  have h3 := oks_all_take l (k + 1) h2
  rw [oks_take _ _ h] at h3
  simp at h3
  have := h3.2
  rw [List.getD_eq_getElem?_getD] at hs
  omega

theorem dec_none_big' (l : List UInt8) (k : Nat) (h : 256 ^ dlen l.length ≤ hvN l k) : dec l = none := by
  unfold dec
  rw [if_neg]
  rintro ⟨_, _, h3⟩
  have := hvN_le l k
  omega

set_option maxRecDepth 100000 in
set_option maxHeartbeats 1000000 in
theorem rdecode_far (s : ByteArray) (w : World) (hm : s.size ≤ 100000) (h : slen (dlen s.size) ≠ s.size) :
    Calls Tryz.prog 101 #[.string s] w fun e w' => DecPost (dec s.data.toList) w e w' := by
  have hn := dec_none_len s.data.toList (by simpa using h)
  rw [hn]
  have h1 : ((slen (dlen s.size) : Nat) : Int) ≠ (s.size : Int) := by omega
  have h2 : (((slen (dlen s.size) : Nat) : Int) != (s.size : Int)) = true := by simpa using h1
  clear h h1 hn
  rcases Nat.eq_zero_or_pos (dlen s.size) with h0 | h0
  · have h3 : (s.size : Int) * 5 / 8 ≤ 0 := by rw [dlen_ref]; omega
    rw [h0] at h2
    have h4 : ((0 : Int) != (s.size : Int)) = true := h2
    have H3 := Lib.hid h3
    clear h0 h2 h3
    go_enter Tryz.func101, Tryz.ntmps101
    go_wp2_with (go_at_call 102; refine (rlen_none _ _ H3.out).mono ?_; rintro e w' ⟨rfl, rfl⟩)
    go_ret2
    exact ⟨(fun p hp => by cases hp), (fun _ => rfl), Below.refl _ _⟩
  · have h3 : 0 < (s.size : Int) * 5 / 8 := by rw [dlen_ref]; omega
    have e3 : ((s.size : Int) * 5 / 8).toNat = dlen s.size := by rw [dlen_ref]; omega
    have H3 := Lib.hid h3
    have E3 := Lib.hid e3
    clear h0 h3 e3
    go_enter Tryz.func101, Tryz.ntmps101
    go_wp2_with (go_at_call 102; refine (rlen_any _ _ H3.out (by omega)).mono ?_; rintro e w' ⟨rfl, rfl⟩; rw [E3.out])
    go_ret2
    exact ⟨(fun p hp => by cases hp), (fun _ => rfl), Below.refl _ _⟩

theorem rlen_b (n : Nat) (w : World) (h : n ≤ 1000000000) :
    Calls Tryz.prog 102 #[.int .i64 (n : Int)] w fun e w' => e = .returned (.int .i64 (slen n)) ∧ w = w' := by
  rcases Nat.eq_zero_or_pos n with rfl | h0
  · exact rlen_none _ w (by omega)
  · have := rlen_any (n : Int) w (by omega) (by omega)
    rw [Int.toNat_natCast] at this
    exact this

set_option maxRecDepth 100000 in
set_option maxHeartbeats 4000000 in
theorem rdecode_some (s : ByteArray) (w : World) (hm : s.size ≤ 1000) (h : slen (dlen s.size) = s.size) :
    Calls Tryz.prog 101 #[.string s] w fun e w' => DecPost (dec s.data.toList) w e w' := by
  obtain ⟨i0, hi, hz0, hz1, hz2⟩ := info_parts info_int
  obtain ⟨i1, hi1, hy0, hy1, hy2⟩ := info_parts info_u8
  have e3 : ((s.size : Int) * 5 / 8) = (dlen s.size : Int) := dlen_ref _
  have h2 : (((slen (dlen s.size) : Nat) : Int) != (s.size : Int)) = false := by rw [h]; simp
  have hbig : dlen s.size ≤ 100000 := by unfold dlen; omega
  have hlen : s.data.toList.length = s.size := by simp
  have HL := Lib.hid hlen
  have HS := Lib.hid h
  have E3 := Lib.hid e3
  clear h hlen e3
  generalize hn : dlen s.size = n at *
  have HN := Lib.hid hn
  clear hn
  go_enter Tryz.func101, Tryz.ntmps101
  go_wp2_with (first
    | (go_at_call 102; rw [E3.out]; refine (rlen_b _ _ (by omega)).mono ?_; rintro e w' ⟨rfl, rfl⟩)
    | (at_make; refine wpList_make_full _ rfl _ _ 141 rfl w.heap.size 3 i0 (.int .i64 0) 1 Tryz.underlying141 hi hz0 hz1 _ _ _ _ (n + 1) rfl rfl ?m1 ?m2 ?m3 ?m4 ?m5 ?m6))
  case m1 => simp
  case m2 => simp
  case m3 => rw [hz2]; omega
  case m4 => unfold maxLen; omega
  case m5 => exact Nat.le_refl _
  intro w1 hown0 hgrow0
  have hown1 : w1.ownsRow w.heap.size 3 1 (.slice (some ⟨w.heap.size, 0, none⟩) (n + 1) (n + 1)) (n + 1) ((byN (n + 1) 0).map iv) := by
    have := hown0
    rw [toList_madeCells_one, cells_nought_int] at this
    exact this
  have hbel1 : Below w.heap.size w w1 := (Below.refl _ _).grown hgrow0 (Nat.le_refl _) (by intro k hk; cases hk)
  have hsz1 : w.heap.size < w1.heap.size := (hown1.lt _ rfl).2
  clear hown0 hgrow0 hi hz0 hz1 hz2
  generalize hB : w.heap.size = B at *
  have HB := Lib.hid hB
  clear hB
  go_wp2_with fail
  go_loopw [6] (fun i wr => ∃ k : Nat, k ≤ s.size ∧ i = .int .i64 k ∧ oks (s.data.toList.take k) = true ∧ hvN s.data.toList k < 256 ^ (n + 1) ∧ wr.ownsRow B 3 1 (.slice (some ⟨B, 0, none⟩) (n + 1) (n + 1)) (n + 1) ((byN (n + 1) (hvN s.data.toList k)).map iv) ∧ B < wr.heap.size ∧ Below B w wr) (fun i _ => s.size - (intOf i).toNat)
  case atStart => exact ⟨0, Nat.zero_le _, rfl, by simp [oks], by simp [hvN, rv]; exact Nat.pos_of_ne_zero (by simp), by simpa [hvN, rv] using hown1, hsz1, hbel1⟩
  case round =>
    clear hown1 hbel1 hsz1
    obtain ⟨k, hk, rfl, hok, hfit, hown, hsz, hbel⟩ := hrel
    by_cases hlt : k < s.size
    · have hlt' : k < s.data.toList.length := by rw [HL.out]; exact hlt
      have hget : (s[k]'hlt) = s.data.toList.getD k 0 := by
        rw [List.getD_eq_getElem?_getD, List.getElem?_eq_getElem hlt']
        rfl
      have hot := oks_take s.data.toList k hlt'
      have hhv := hvN_step s.data.toList k hlt'
      have hdn := dec_none_oks' s.data.toList k hlt'
      have hdb := dec_none_big' s.data.toList (k + 1)
      rw [HL.out, HN.out] at hdb
      generalize s.data.toList.getD k 0 = c at *
      generalize hvN s.data.toList k = h at *
      have HOT := Lib.hid hot
      have HHV := Lib.hid hhv
      have HOK := Lib.hid hok
      have HDN := Lib.hid hdn
      have HDB := Lib.hid hdb
      have HFIT := Lib.hid hfit
      clear hot hhv hok hdn hdb hfit hlt'
      obtain ⟨wo, hwo⟩ : ∃ wo : World, wo = wr := ⟨_, rfl⟩
      subst hwo
      go_wp2_with fail
      go_loopw [7, 8] (fun vv jj w3 => ∃ j : Nat, j ≤ 32 ∧ jj = .int .i64 j ∧ vv = .int .i64 (fnd c j) ∧ w3.ownsRow B 3 1 (.slice (some ⟨B, 0, none⟩) (n + 1) (n + 1)) (n + 1) ((byN (n + 1) h).map iv) ∧ B < w3.heap.size ∧ Below B w w3) (fun _ jj _ => 32 - (intOf jj).toNat)
      case atStart => exact ⟨0, by omega, rfl, by rw [fnd_zero], hown, hsz, hbel⟩
      case round =>
        clear hown hbel hsz
        obtain ⟨j, hj, rfl, rfl, hown, hsz, hbel⟩ := hrel
        by_cases hjl : j < 32
        · have hj2 : (j : Int) < 32 := by omega
          by_cases hc : sgn j = c
          · have hcmp : (((sgn j).toNat : Int) == (c.toNat : Int)) = true := by rw [hc]; simp
            have HF := Lib.hid (fnd_hit c j hjl hc)
            clear hc
            go_wp2_with fail
            go_quiet ((go_at_call 103; exact Calls.quiet_of_same (sign_quiet _ hjl _)))
            go_wp2
            go_roundw
            case rel => exact ⟨j + 1, by omega, by go_num, by rw [HF.out], hown, hsz, ⟨hbel.os, hbel.tape, hbel.output, hbel.size, hbel.block⟩⟩
            case measure => simp [intOf]; omega
          · have hcmp : (((sgn j).toNat : Int) == (c.toNat : Int)) = false := by
              rw [beq_eq_false_iff_ne]
              intro e
              exact hc (UInt8.toNat_inj.1 (by omega))
            have HF := Lib.hid (fnd_miss c j hjl hc)
            clear hc
            go_wp2_with fail
            go_quiet ((go_at_call 103; exact Calls.quiet_of_same (sign_quiet _ hjl _)))
            go_wp2
            go_roundw
            case rel => exact ⟨j + 1, by omega, by go_num, by rw [HF.out], hown, hsz, ⟨hbel.os, hbel.tape, hbel.output, hbel.size, hbel.block⟩⟩
            case measure => simp [intOf]; omega
        · obtain rfl : j = 32 := by omega
          rw [fnd_all]
          by_cases hneg : sv c < 0
          · have hd : decide (sv c < 0) = true := by simpa using hneg
            go_wp2_with fail
            go_ret2
            rw [HDN.out hneg]
            exact ⟨(fun p hp => by cases hp), (fun _ => rfl), hbel.mono (by have := HB.out; omega)⟩
          · obtain ⟨v, hv⟩ : ∃ v : Nat, sv c = (v : Int) := ⟨(sv c).toNat, by omega⟩
            have hv32 : v < 32 := by have := sv_lt c; omega
            have htn : (sv c).toNat = v := by omega
            rw [hv]
            have HV := Lib.hid hv
            have HT := Lib.hid htn
            have hd2 : decide ((v : Int) < 0) = false := by simp
            clear hv htn hneg
            obtain ⟨wo, hwo⟩ : ∃ wo : World, wo = wr := ⟨_, rfl⟩
            subst hwo
            go_wp2_with fail
            go_loopw [7, 9] (fun vv jj w3 => ∃ j : Nat, j ≤ n + 1 ∧ jj = .int .i64 j ∧ vv = .int .i64 (carry h v j : Int) ∧ w3.ownsRow B 3 1 (.slice (some ⟨B, 0, none⟩) (n + 1) (n + 1)) (n + 1) (carryRow (n + 1) h v j) ∧ B < w3.heap.size ∧ Below B w w3) (fun _ jj _ => n + 1 - (intOf jj).toNat)
            case atStart => exact ⟨0, by omega, rfl, by rw [carry_zero], by rw [carryRow_start]; exact hown, hsz, hbel⟩
            case round =>
              clear hown hbel hsz
              obtain ⟨j, hj, rfl, rfl, hown, hsz, hbel⟩ := hrel
              by_cases hjl : j < n + 1
              · have hj2 : (j : Int) < (n : Int) + 1 := by omega
                have hcell : wr.cell? ⟨B, j, none⟩ = some (.int .i64 ((h / 256 ^ j % 256 : Nat) : Int)) := by
                  rw [hown.cellAt j (by omega), carryRow_get _ _ _ _ hjl]
                have hfree : wr.frozen? ⟨B, j, none⟩ = false := hown.frozenAt j
                have HS2 := Lib.hid (carryRow_step (n + 1) h v j hjl)
                have HC := Lib.hid (carry_step h v j)
                have hcl := carry_le h v j hv32
                have hd : h / 256 ^ j % 256 < 256 := Nat.mod_lt _ (by omega)
                generalize h / 256 ^ j % 256 = d at *
                generalize carry h v j = r at *
                have hd3 : (d : Int) < 256 := by omega
                have hr3 : (r : Int) ≤ 32 := by omega
                go_wp2_with fail
                go_roundw
                case rel => exact ⟨j + 1, by omega, by go_num, by rw [← HC.out]; go_num, by rw [← HS2.out, show ((r : Int) + (d : Int) * 32) % 256 = (((r + d * 32) % 256 : Nat) : Int) from by omega]; exact (hown.stored j _).1, by simpa using hsz, hbel.setCell (Nat.le_refl _) _⟩
                case measure => simp [intOf]; omega
              · obtain rfl : j = n + 1 := by omega
                rw [carryRow_end] at hown
                have hce := carry_end h v (n + 1) HFIT.out
                by_cases hz : carry h v (n + 1) = 0
                · have HZ := Lib.hid (hce.1 hz)
                  rw [hz]
                  clear hce hz
                  go_wp2_with fail
                  go_roundw
                  case rel => exact ⟨k + 1, by omega, by go_num, by rw [HOT.out, HOK.out]; simp; have := HV.out; omega, by rw [HHV.out, HT.out]; exact HZ.out, by rw [HHV.out, HT.out]; exact hown, hsz, hbel⟩
                  case measure => simp [intOf]; omega
                · have HZ := Lib.hid (fun hh => hz (hce.2 hh))
                  have hz2 : (0 : Int) < (carry h v (n + 1) : Int) := by omega
                  clear hce hz
                  go_wp2_with fail
                  go_ret2
                  rw [HDB.out (by
                    rw [HHV.out, HT.out]
                    have h1 : ¬ h * 32 + v < 256 ^ (n + 1) := HZ.out
                    have h2 : 256 ^ n ≤ 256 ^ (n + 1) := Nat.pow_le_pow_right (by omega) (by omega)
                    exact Nat.le_trans h2 (Nat.le_of_not_lt h1))]
                  exact ⟨(fun p hp => by cases hp), (fun _ => rfl), hbel.mono (by have := HB.out; omega)⟩
    · obtain rfl : k = s.size := by omega
      have hV : hvN s.data.toList s.size = rv s.data.toList.reverse := by rw [← HL.out]; exact hvN_all _
      have hok2 : oks s.data.toList = true := by
        have := hok
        rw [List.take_of_length_le (by rw [HL.out]; exact Nat.le_refl _)] at this
        exact this
      rw [hV] at hown hfit
      have hdec : dec s.data.toList = if rv s.data.toList.reverse < 256 ^ n then some (byN n (rv s.data.toList.reverse)) else none := by
        unfold dec
        rw [HL.out, HN.out, HS.out, hok2]
        simp
      have HD := Lib.hid hdec
      have hcell : wr.cell? ⟨B, n, none⟩ = some (.int .i64 ((rv s.data.toList.reverse / 256 ^ n % 256 : Nat) : Int)) := by
        rw [hown.cellAt n (by omega), List.getElem?_map, byN_get _ _ _ (by omega)]
        simp only [Option.map_some, iv]
        rw [UInt8.toNat_ofNat', Nat.mod_mod_of_dvd _ (by decide)]
      clear hV hok hok2 hdec
      generalize rv s.data.toList.reverse = V at *
      by_cases hfit2 : V < 256 ^ n
      · have hzero : V / 256 ^ n % 256 = 0 := by rw [Nat.div_eq_of_lt hfit2]
        rw [hzero] at hcell
        rw [if_pos hfit2] at HD
        have hdig : ∀ j, j < n → wr.cell? ⟨B, j, none⟩ = some (.int .i64 ((V / 256 ^ j % 256 : Nat) : Int)) := by
          intro j hj
          rw [hown.cellAt j (by omega), List.getElem?_map, byN_get _ _ _ (by omega)]
          simp only [Option.map_some, iv]
          rw [UInt8.toNat_ofNat', Nat.mod_mod_of_dvd _ (by decide)]
        have HDIG := Lib.hid hdig
        clear hzero hfit hfit2 hdig hown
        go_wp2_with (at_make; refine wpList_make_full _ rfl _ _ 45 rfl B 5 i1 (.int .u8 0) 1 Tryz.underlying45 hi1 hy0 hy1 _ _ _ _ n rfl rfl ?p1 ?p2 ?p3 ?p4 ?p5 ?p6)
        case p1 => rfl
        case p2 => rfl
        case p3 => rw [hy2]; omega
        case p4 => unfold maxLen; omega
        case p5 => omega
        intro w2 hown0 hgrow0
        have hout : w2.ownsRow B 5 1 (.slice (some ⟨wr.heap.size, 0, none⟩) n n) n (outRow n V 0) := by
          have := hown0
          rw [toList_madeCells_one, cells_nought, ← outRow_start n V] at this
          exact this
        have hbel2 : Below B w w2 := hbel.grown hgrow0 (by omega) (by intro k hk; cases hk)
        have HDIG2 : Hid (∀ j, j < n → w2.cell? ⟨B, j, none⟩ = some (.int .i64 ((V / 256 ^ j % 256 : Nat) : Int))) :=
          Lib.hid fun j hj => hgrow0.cell (HDIG.out j hj) (by simp)
        clear hown0 hgrow0 hcell HDIG hbel
        generalize wr.heap.size = H at *
        go_wp2_with fail
        go_loopw [11] (fun ii w3 => ∃ j : Nat, j ≤ n ∧ ii = .int .i64 j ∧ (∀ q, q < n → w3.cell? ⟨B, q, none⟩ = some (.int .i64 ((V / 256 ^ q % 256 : Nat) : Int))) ∧ w3.ownsRow B 5 1 (.slice (some ⟨H, 0, none⟩) n n) n (outRow n V j) ∧ Below B w w3) (fun ii _ => n - (intOf ii).toNat)
        case atStart => exact ⟨0, by omega, rfl, HDIG2.out, hout, hbel2⟩
        case round =>
          clear hout hbel2 HDIG2
          obtain ⟨j, hj, rfl, hdg, hout, hbel⟩ := hrel
          have HDG := Lib.hid hdg
          clear hdg
          by_cases hjl : j < n
          · have hcell := HDG.out j hjl
            have hd : V / 256 ^ j % 256 < 256 := Nat.mod_lt _ (by omega)
            have HS2 := Lib.hid (outRow_step n V j hjl)
            obtain ⟨u, hu⟩ := outRow_get n V j hjl
            have hcell2 : wr.cell? ⟨H, j, none⟩ = some u := by rw [hout.cellAt j (by omega)]; exact hu
            have hfree : wr.frozen? ⟨H, j, none⟩ = false := hout.frozenAt j
            have HU := Lib.hid hu
            clear hu
            generalize V / 256 ^ j % 256 = d at *
            have hd3 : (d : Int) < 256 := by omega
            go_wp2_with fail
            go_roundw
            case rel => exact ⟨j + 1, by omega, by go_num, fun q hq => (by rw [World.cell?_setCell_other _ _ _ _ (by simp; try omega)]; exact HDG.out q hq), by rw [← HS2.out]; exact (hout.stored j _).1, hbel.setCell (Nat.le_of_lt hsz) _⟩
            case measure => simp [intOf]; omega
          · obtain rfl : j = n := by omega
            rw [outRow_end] at hout
            go_wp2_with fail
            go_ret2
            rw [HD.out]
            refine ⟨(fun p hp => ?_), (fun h => by cases h), hbel.mono (by have := HB.out; omega)⟩
            cases hp
            exact ⟨H, by rw [byN_length]; rfl, by rw [byN_length, HB.out]; exact hout⟩
      · have hp : 0 < 256 ^ n := Nat.pos_of_ne_zero (by simp)
        have h1 : 1 ≤ V / 256 ^ n := (Nat.le_div_iff_mul_le hp).2 (by omega)
        have h2 : V / 256 ^ n < 256 := by
          rw [Nat.div_lt_iff_lt_mul hp, Nat.mul_comm, ← Nat.pow_succ]; exact hfit
        have h3 : (0 : Int) < ((V / 256 ^ n % 256 : Nat) : Int) := by rw [Nat.mod_eq_of_lt h2]; omega
        rw [if_neg hfit2] at HD
        clear hp h1 h2 hfit2 hfit hown
        generalize V / 256 ^ n % 256 = d at *
        go_wp2_with fail
        go_ret2
        rw [HD.out]
        exact ⟨(fun p hp => by cases hp), (fun _ => rfl), hbel.mono (by have := HB.out; omega)⟩

theorem rdecode_any (s : ByteArray) (w : World) (hm : s.size ≤ 1000) :
    Calls Tryz.prog 101 #[.string s] w fun e w' => DecPost (dec s.data.toList) w e w' := by
  by_cases h : slen (dlen s.size) = s.size
  · exact rdecode_some s w hm h
  · exact rdecode_far s w (by omega) h

end Go.Proofs.YtokbakpbhpknfaaGreatDoor.Nam

namespace Go.Proofs.YtokbakpbhpknfaaGreatDoor.Nam
open Go.RowKit
set_option linter.unusedVariables false

set_option maxRecDepth 100000 in
theorem rparse_ret (w' : World) (g : Nat) (C : Array Value) (n : ByteArray) (k : Bool) (tmps : Array Value) (hg : w'.heap[g]? = some (.cells C 53 (0, 0))) (hc : C20 C) (hp : tmps.getD 2 undef = .pointer (some ⟨g, 0, none⟩)) (h3 : tmps.getD 3 undef = .string n) (h4 : tmps.getD 4 undef = .bool k) :
    (results Tryz.f80 tmps).run Tryz.prog w' = .ok (.tuple #[.agg C, .string n, .bool k]) w' := by
  rw [results_cell_tmp2 (fn := Tryz.f80) (p := 2) (u := 3) (v := 4) (ty := 53) Tryz.results80 tmps _ g 53 C (0, 0) _ hp hg Tryz.underlying53 rfl hc.info, h3, h4]

def RParsePost (o : Option (List UInt8 × List UInt8)) (w : World) (e : Ending) (w' : World) : Prop :=
  (∀ d n, o = some (d, n) → d.length = 20 ∧ e = .returned (.tuple #[.agg (d.map bv).toArray, .string ⟨n.toArray⟩, .bool true])) ∧
  (o = none → e = .returned (.tuple #[.agg (zU.map bv).toArray, .string ⟨#[]⟩, .bool false])) ∧ Below w.heap.size w w'

theorem dash_iff (l : List UInt8) (h : 34 ≤ l.length) : dash (l.drop 32) = (l.getD 32 0 == 45) := by
  have : decide (1 ≤ (l.drop 32).length) = true := by simp; omega
  simp only [dash, this, Bool.true_and]
  congr 1
  simp [List.getD]

/-- The two noughts at the beginning. -/
theorem zz_last (w : World) : ((w.alloc (.cells #[.int .u8 0, .int .u8 0, .int .u8 0, .int .u8 0, .int .u8 0, .int .u8 0, .int .u8 0, .int .u8 0, .int .u8 0, .int .u8 0, .int .u8 0, .int .u8 0, .int .u8 0, .int .u8 0, .int .u8 0, .int .u8 0, .int .u8 0, .int .u8 0, .int .u8 0, .int .u8 0] 53)).alloc (.cells #[.int .u8 0, .int .u8 0, .int .u8 0, .int .u8 0, .int .u8 0, .int .u8 0, .int .u8 0, .int .u8 0, .int .u8 0, .int .u8 0, .int .u8 0, .int .u8 0, .int .u8 0, .int .u8 0, .int .u8 0, .int .u8 0, .int .u8 0, .int .u8 0, .int .u8 0, .int .u8 0] 53)).heap[w.heap.size + 1]? = some (.cells (zU.map bv).toArray 53 (0, 0)) := by
  have h := heap_alloc_new (w.alloc (.cells #[.int .u8 0, .int .u8 0, .int .u8 0, .int .u8 0, .int .u8 0, .int .u8 0, .int .u8 0, .int .u8 0, .int .u8 0, .int .u8 0, .int .u8 0, .int .u8 0, .int .u8 0, .int .u8 0, .int .u8 0, .int .u8 0, .int .u8 0, .int .u8 0, .int .u8 0, .int .u8 0] 53)) (.cells #[.int .u8 0, .int .u8 0, .int .u8 0, .int .u8 0, .int .u8 0, .int .u8 0, .int .u8 0, .int .u8 0, .int .u8 0, .int .u8 0, .int .u8 0, .int .u8 0, .int .u8 0, .int .u8 0, .int .u8 0, .int .u8 0, .int .u8 0, .int .u8 0, .int .u8 0, .int .u8 0] 53)
  have e : (w.alloc (.cells #[.int .u8 0, .int .u8 0, .int .u8 0, .int .u8 0, .int .u8 0, .int .u8 0, .int .u8 0, .int .u8 0, .int .u8 0, .int .u8 0, .int .u8 0, .int .u8 0, .int .u8 0, .int .u8 0, .int .u8 0, .int .u8 0, .int .u8 0, .int .u8 0, .int .u8 0, .int .u8 0] 53)).heap.size = w.heap.size + 1 := by simp
  rw [e] at h
  exact h
theorem zz_first (w : World) : ((w.alloc (.cells #[.int .u8 0, .int .u8 0, .int .u8 0, .int .u8 0, .int .u8 0, .int .u8 0, .int .u8 0, .int .u8 0, .int .u8 0, .int .u8 0, .int .u8 0, .int .u8 0, .int .u8 0, .int .u8 0, .int .u8 0, .int .u8 0, .int .u8 0, .int .u8 0, .int .u8 0, .int .u8 0] 53)).alloc (.cells #[.int .u8 0, .int .u8 0, .int .u8 0, .int .u8 0, .int .u8 0, .int .u8 0, .int .u8 0, .int .u8 0, .int .u8 0, .int .u8 0, .int .u8 0, .int .u8 0, .int .u8 0, .int .u8 0, .int .u8 0, .int .u8 0, .int .u8 0, .int .u8 0, .int .u8 0, .int .u8 0] 53)).heap[w.heap.size]? = some (.cells (zU.map bv).toArray 53 (0, 0)) := by
  have h := heap_alloc_new w (.cells #[.int .u8 0, .int .u8 0, .int .u8 0, .int .u8 0, .int .u8 0, .int .u8 0, .int .u8 0, .int .u8 0, .int .u8 0, .int .u8 0, .int .u8 0, .int .u8 0, .int .u8 0, .int .u8 0, .int .u8 0, .int .u8 0, .int .u8 0, .int .u8 0, .int .u8 0, .int .u8 0] 53)
  exact (Go.RowKit.Below.heap_alloc _ _ _ (by simp)).trans h

theorem rpost_none {w w' : World} {e : Ending} (he : e = .returned (.tuple #[.agg (zU.map bv).toArray, .string ⟨#[]⟩, .bool false])) (hb : Below w.heap.size w w') : RParsePost none w e w' :=
  ⟨(fun d n h => by cases h), (fun _ => he), hb⟩

set_option maxRecDepth 100000 in
set_option maxHeartbeats 4000000 in
theorem rparse_early (s : ByteArray) (w : World) (h : decide ((s.size : Int) < 34) = true ∨ (decide ((s.size : Int) < 34) = false ∧ ∃ h34 : 34 ≤ s.size, s[32] ≠ 45)) :
    Calls Tryz.prog 80 #[.string s] w fun e w' => RParsePost none w e w' := by
  have i1 := Lib.hid (info_u20 zU rfl)
  have i2 := Lib.hid (one_bv zU)
  have X0 := Lib.hid (zz_first w)
  have X1 := Lib.hid (zz_last w)
  have b2 : Hid (Below w.heap.size w ((w.alloc (.cells #[.int .u8 0, .int .u8 0, .int .u8 0, .int .u8 0, .int .u8 0, .int .u8 0, .int .u8 0, .int .u8 0, .int .u8 0, .int .u8 0, .int .u8 0, .int .u8 0, .int .u8 0, .int .u8 0, .int .u8 0, .int .u8 0, .int .u8 0, .int .u8 0, .int .u8 0, .int .u8 0] 53)).alloc (.cells #[.int .u8 0, .int .u8 0, .int .u8 0, .int .u8 0, .int .u8 0, .int .u8 0, .int .u8 0, .int .u8 0, .int .u8 0, .int .u8 0, .int .u8 0, .int .u8 0, .int .u8 0, .int .u8 0, .int .u8 0, .int .u8 0, .int .u8 0, .int .u8 0, .int .u8 0, .int .u8 0] 53))) := Lib.hid (((Below.refl _ _).alloc (Nat.le_refl _) _).alloc (by simp) _)
  rcases h with h1 | ⟨h1, h34, h45⟩
  · go_enter Tryz.func80, Tryz.ntmps80
    go_wp2_with (first
      | (refine wpList_load_row rfl 53 _ rfl (w.heap.size + 1) rfl 53 (zU.map bv).toArray (0, 0) _ X1.out Tryz.underlying53 rfl i1.out ?_)
      | (refine wpList_store_row rfl 53 _ _ rfl w.heap.size (zU.map bv).toArray rfl rfl 53 _ X0.out i1.out rfl i2.out ?_))
    refine bodyPost_ret (rparse_ret _ w.heap.size _ ⟨#[]⟩ false _ (setRow_heap _ _ _ _ _ _ X0.out) (c20 zU rfl) rfl rfl rfl) rfl ?_
    exact rpost_none rfl (below_setRow b2.out (Nat.le_refl _) _)
  · have h2 : (32 : Int) < (s.size : Int) := by omega
    have h3 : ((s[32].toNat : Int) != 45) = true := by
      have : s[32].toNat ≠ 45 := fun h => h45 (UInt8.toNat_inj.1 h)
      rw [bne_iff_ne]; omega
    have h3' : ¬ (s[32].toNat : Int) = 45 := by simpa using h3
    clear h45
    go_enter Tryz.func80, Tryz.ntmps80
    go_wp2_with (first
      | (refine wpList_load_row rfl 53 _ rfl (w.heap.size + 1) rfl 53 (zU.map bv).toArray (0, 0) _ X1.out Tryz.underlying53 rfl i1.out ?_)
      | (refine wpList_store_row rfl 53 _ _ rfl w.heap.size (zU.map bv).toArray rfl rfl 53 _ X0.out i1.out rfl i2.out ?_))
    refine bodyPost_ret (rparse_ret _ w.heap.size _ ⟨#[]⟩ false _ (setRow_heap _ _ _ _ _ _ X0.out) (c20 zU rfl) rfl rfl rfl) rfl ?_
    exact rpost_none rfl (below_setRow b2.out (Nat.le_refl _) _)

theorem zU_get (m j : Nat) (h : j < (zU.drop m).length) : (zU.drop m)[j] = 0 := by simp only [zU, List.getElem_drop, List.getElem_replicate]

theorem copy_row (p : List UInt8) (k : Nat) (hp : p.length = 20) (hk : k < 20) : ((p.take k ++ zU.drop k).map bv).set k (bv (p.getD k 0)) = (p.take (k + 1) ++ zU.drop (k + 1)).map bv := by
  apply List.ext_getElem
  · simp [zU]; omega
  · intro i h1 h2
    simp only [List.getElem_set, List.getElem_map, List.getElem_append, List.length_take, hp]
    by_cases hik : i = k
    · subst hik
      simp [List.getD, hp, hk, show min (i + 1) 20 = i + 1 by omega]
    · by_cases hlt : i < k
      · simp [show ¬ k = i by omega, show i < min k 20 by omega, show i < min (k + 1) 20 by omega]
      · simp only [show ¬ k = i by omega, if_false, show ¬ i < min k 20 by omega, show ¬ i < min (k + 1) 20 by omega, dite_false, zU_get]

set_option maxRecDepth 100000 in
set_option maxHeartbeats 8000000 in
theorem rparse_late (s : ByteArray) (w : World) (hm : s.size ≤ 140737488355328) (h34 : 34 ≤ s.size) (h45 : s[32] = 45) :
    Calls Tryz.prog 80 #[.string s] w fun e w' => RParsePost (parseP s.data.toList) w e w' := by
  have hlen : s.data.toList.length = s.size := by simp
  have h1 : decide ((s.size : Int) < 34) = false := by simp; omega
  have h2 : (32 : Int) < (s.size : Int) := by omega
  have h2b : (33 : Int) ≤ (s.size : Int) := by omega
  have h2c : (32 : Int) ≤ (s.size : Int) := by omega
  have e1 : (s.extract 0 32).data.toList = s.data.toList.take 32 := by rw [ext_data]; simp
  have e2 : (s.extract 33 s.size).data.toList = s.data.toList.drop 33 := by
    rw [ext_data]; apply List.take_of_length_le; simp
  have e3 : (s.extract 0 32).size ≤ 1000 := by simp; omega
  have hpp : parseP s.data.toList = if isName (s.data.toList.drop 33) = true then (dec (s.data.toList.take 32)).map (·, s.data.toList.drop 33) else none := by
    unfold parseP
    have hd : dash (s.data.toList.drop 32) = true := by
      rw [dash_iff _ (by omega)]
      have := str_get s 32 (by omega)
      rw [h45] at this
      rw [← this]; rfl
    simp only [hlen, hd, true_and, show 32 ≤ s.size by omega]
  obtain ⟨O, hO⟩ : ∃ O, O = parseP s.data.toList := ⟨_, rfl⟩
  rw [← hO] at hpp ⊢
  have HL := Lib.hid hlen
  have E1 := Lib.hid e1
  have E2 := Lib.hid e2
  have E3 := Lib.hid e3
  have HP := Lib.hid hpp
  have i1 := Lib.hid (info_u20 zU rfl)
  have i2 := Lib.hid (one_bv zU)
  have x0 := zz_first w
  have x1 := zz_last w
  have b2 : Below w.heap.size w ((w.alloc (.cells #[.int .u8 0, .int .u8 0, .int .u8 0, .int .u8 0, .int .u8 0, .int .u8 0, .int .u8 0, .int .u8 0, .int .u8 0, .int .u8 0, .int .u8 0, .int .u8 0, .int .u8 0, .int .u8 0, .int .u8 0, .int .u8 0, .int .u8 0, .int .u8 0, .int .u8 0, .int .u8 0] 53)).alloc (.cells #[.int .u8 0, .int .u8 0, .int .u8 0, .int .u8 0, .int .u8 0, .int .u8 0, .int .u8 0, .int .u8 0, .int .u8 0, .int .u8 0, .int .u8 0, .int .u8 0, .int .u8 0, .int .u8 0, .int .u8 0, .int .u8 0, .int .u8 0, .int .u8 0, .int .u8 0, .int .u8 0] 53)) := ((Below.refl _ _).alloc (Nat.le_refl _) _).alloc (by simp) _
  obtain ⟨w1, hw1⟩ : ∃ w1, w1 = (w.alloc (.cells #[.int .u8 0, .int .u8 0, .int .u8 0, .int .u8 0, .int .u8 0, .int .u8 0, .int .u8 0, .int .u8 0, .int .u8 0, .int .u8 0, .int .u8 0, .int .u8 0, .int .u8 0, .int .u8 0, .int .u8 0, .int .u8 0, .int .u8 0, .int .u8 0, .int .u8 0, .int .u8 0] 53)).alloc (.cells #[.int .u8 0, .int .u8 0, .int .u8 0, .int .u8 0, .int .u8 0, .int .u8 0, .int .u8 0, .int .u8 0, .int .u8 0, .int .u8 0, .int .u8 0, .int .u8 0, .int .u8 0, .int .u8 0, .int .u8 0, .int .u8 0, .int .u8 0, .int .u8 0, .int .u8 0, .int .u8 0] 53) := ⟨_, rfl⟩
  have s1 : w1.heap.size = w.heap.size + 1 + 1 := by rw [hw1]; simp
  rw [← hw1] at x0 x1 b2
  have HW1 := Lib.hid hw1
  have X0 := Lib.hid x0
  have X1 := Lib.hid x1
  have B2 := Lib.hid b2
  clear hlen e1 e2 e3 hpp hO x0 x1 b2 hw1
  cases hn : isName (s.data.toList.drop 33)
  · have HN : Hid (O = none) := Lib.hid (by rw [HP.out, if_neg]; intro h; rw [hn] at h; cases h)
    have HI : Hid (isName (s.extract 33 s.size).data.toList = false) := Lib.hid (by rw [E2.out]; exact hn)
    clear hn
    go_enter Tryz.func80, Tryz.ntmps80
    go_wp2_with fail
    rw [← HW1.out]
    refine (rname_any (s.extract 33 s.size) _ (by simp; omega)).mono ?_
    rintro e w2 ⟨rfl, rfl⟩
    rw [HI.out]
    go_wp2_with (first
      | (refine wpList_load_row rfl 53 _ rfl (w.heap.size + 1) rfl 53 (zU.map bv).toArray (0, 0) _ X1.out Tryz.underlying53 rfl i1.out ?_)
      | (refine wpList_store_row rfl 53 _ _ rfl w.heap.size (zU.map bv).toArray rfl rfl 53 _ X0.out i1.out rfl i2.out ?_))
    refine bodyPost_ret (rparse_ret _ w.heap.size _ ⟨#[]⟩ false _ (setRow_heap _ _ _ _ _ _ X0.out) (c20 zU rfl) rfl rfl rfl) rfl ?_
    rw [HN.out]
    exact rpost_none rfl (below_setRow B2.out (Nat.le_refl _) _)
  · have HI : Hid (isName (s.extract 33 s.size).data.toList = true) := Lib.hid (by rw [E2.out]; exact hn)
    have HPN : Hid (O = (dec (s.data.toList.take 32)).map (·, s.data.toList.drop 33)) := Lib.hid (by rw [HP.out, if_pos hn])
    clear hn
    go_enter Tryz.func80, Tryz.ntmps80
    go_wp2_with fail
    rw [← HW1.out]
    refine (rname_any (s.extract 33 s.size) _ (by simp; omega)).mono ?_
    rintro e w2 ⟨rfl, rfl⟩
    rw [HI.out]
    go_wp2_with fail
    refine (rdecode_any (s.extract 0 32) _ E3.out).mono ?_
    rintro e w2 ⟨hs2, hn2, b3⟩
    rw [E1.out] at hs2 hn2
    have y0 : Has w2 w.heap.size (zU.map bv) 53 := (show Has w1 w.heap.size (zU.map bv) 53 from X0.out).below b3 (by omega)
    have y1 : Has w2 (w.heap.size + 1) (zU.map bv) 53 := (show Has w1 (w.heap.size + 1) (zU.map bv) 53 from X1.out).below b3 (by omega)
    have b4 : Below w.heap.size w w2 := B2.out.trans (b3.mono B2.out.size)
    have Y0 := Lib.hid (show w2.heap[w.heap.size]? = some (.cells (zU.map bv).toArray 53 (0, 0)) from y0)
    have Y1 := Lib.hid (show w2.heap[w.heap.size + 1]? = some (.cells (zU.map bv).toArray 53 (0, 0)) from y1)
    have B4 := Lib.hid b4
    clear y0 y1 b4
    rcases hd : dec (s.data.toList.take 32) with _ | p
    · obtain rfl := hn2 hd
      have HN : Hid (O = none) := Lib.hid (by rw [HPN.out, hd]; rfl)
      clear hs2 hn2 hd b3
      go_wp2_with (first
        | (refine wpList_load_row rfl 53 _ rfl (w.heap.size + 1) rfl 53 (zU.map bv).toArray (0, 0) _ Y1.out Tryz.underlying53 rfl i1.out ?_)
        | (refine wpList_store_row rfl 53 _ _ rfl w.heap.size (zU.map bv).toArray rfl rfl 53 _ Y0.out i1.out rfl i2.out ?_))
      refine bodyPost_ret (rparse_ret _ w.heap.size _ ⟨#[]⟩ false _ (setRow_heap _ _ _ _ _ _ Y0.out) (c20 zU rfl) rfl rfl rfl) rfl ?_
      rw [HN.out]
      exact rpost_none rfl (below_setRow B4.out (Nat.le_refl _) _)
    · obtain ⟨g, rfl, hq⟩ := hs2 p hd
      have hp20 := dec_20 hd (by rw [List.length_take, HL.out]; omega)
      have hown := owns_full hq
      have hgs : w1.heap.size ≤ g := hown.1
      have HG := Lib.hid hown.2
      have HP20 := Lib.hid hp20
      have HN : Hid (O = some (p, s.data.toList.drop 33)) := Lib.hid (by rw [HPN.out, hd]; rfl)
      have HPl : Hid ((zU.map bv) = ((p.take 0 ++ zU.drop 0).map bv)) := Lib.hid (by simp)
      rw [hp20]
      obtain ⟨P, hP⟩ : ∃ P, P = w.heap.size := ⟨_, rfl⟩
      rw [← hP] at Y0 Y1 B4 s1 ⊢
      have HPP := Lib.hid hP
      clear hs2 hn2 hd hq hown hp20 b3 hP X0 X1 B2 HW1
      go_wp2_with fail
      go_loopw [8] (fun ii wr => ∃ k : Nat, k ≤ 20 ∧ ii = .int .i64 k ∧ Has wr P (zU.map bv) 53 ∧ Has wr (P + 1) ((p.take k ++ zU.drop k).map bv) 53 ∧ Has wr g (p.map bv) 5 ∧ Below P w wr) (fun ii _ => 20 - (intOf ii).toNat)
      case atStart => exact ⟨0, Nat.zero_le _, rfl, Y0.out, by rw [← HPl.out]; exact Y1.out, HG.out, B4.out⟩
      case round =>
        clear Y0 Y1 B4 HG
        obtain ⟨k, hk, rfl, ha, hb, hg, hbel⟩ := hrel
        by_cases hlt : k < 20
        · have cg : wr.cell? ⟨g, k, none⟩ = some (.int .u8 ((p.getD k 0).toNat : Int)) := hg.cellAt (by rw [List.getElem?_map]; simp [List.getD, HP20.out, hlt, bv])
          have zf := hb.frozen k
          obtain ⟨old, hold⟩ : ∃ u, ((p.take k ++ zU.drop k).map bv)[k]? = some u := by
            refine ⟨_, List.getElem?_eq_getElem ?_⟩
            simp [zU, HP20.out]; omega
          have cb := hb.cellAt hold
          have HS := Lib.hid (copy_row p k HP20.out hlt)
          have HA := Lib.hid ha
          have HB := Lib.hid hb
          have HG := Lib.hid hg
          have HBB := Lib.hid hbel
          clear ha hb hg hbel hold
          have hk20 : (k : Int) < 20 := by omega
          go_wp2_with fail
          go_roundw
          case rel =>
            refine ⟨k + 1, by omega, by go_num, HA.out.setOther (a := ⟨P + 1, k, none⟩) (by show P ≠ P + 1; omega) _, ?_, HG.out.setOther (a := ⟨P + 1, k, none⟩) (by show g ≠ P + 1; omega) _, HBB.out.setCell (p := ⟨P + 1, k, none⟩) (by show P ≤ P + 1; omega) _⟩
            rw [← HS.out]
            exact HB.out.set _ _
          case measure => simp [intOf]; omega
        · obtain rfl : k = 20 := by omega
          have e20 : p.take 20 ++ zU.drop 20 = p := by rw [List.take_of_length_le (by rw [HP20.out]; exact Nat.le_refl _)]; simp [zU]
          rw [e20] at hb
          have hcp := c20 p HP20.out
          obtain ⟨L, hL⟩ : ∃ L, L = p.map bv := ⟨_, rfl⟩
          rw [← hL] at hb hcp
          have HLL := Lib.hid hL
          have i3 : (Tryz.prog.info? 53).map (·.size) = some L.length := by rw [hcp.info, List.size_toArray]
          have hu20 := Tryz.underlying53
          have i5 : (zU.map bv).toArray.size = L.toArray.size := by rw [hcp.size]; rfl
          have I1 := Lib.hid hcp.info
          have I5 := Lib.hid i5
          have I4 := Lib.hid hcp.one
          have HA := Lib.hid ha
          have HB := Lib.hid hb
          have HBB := Lib.hid hbel
          have HCP := Lib.hid hcp
          have hSB : ∀ W : World, W.heap[P + 1]? = some (.cells L.toArray 53 (0, 0)) → W.rangeAt (P + 1) 0 L := fun W h j v hv => by
            rw [Nat.zero_add, cell_of_row W (P + 1) j _ _ _ h]; simpa using hv
          have HSB := Lib.hid hSB
          clear ha hb hg hbel e20 hcp i5 hL hSB
          go_wp2_with fail
          refine wp_region_held_drew (S := fun w' => w'.rangeAt (P + 1) 0 L) (by kernel_rfl) (HSB.out _ HB.out) (fun hHeld => ?_)
          refine wpAnyH_take (i := 0) (oi := { dst := some 48, op := Op.load 53 (Operand.tmp 5), type := 53, pos := "ref.go:39", after := #[], guard := none }) rfl (by kernel_rfl) (by kernel_rfl) (by kernel_rfl) (fun _ _ _ h => h)
            (yieldsIf_load_mid (by rfl) 53 (.tmp 5) rfl (P + 1) 0 rfl L _ (fun _ h => h) hu20 rfl i3) hHeld ?_
          try simp only [Act.put, List.setIfInBounds_toArray, List.set_cons_zero, List.set_cons_succ]
          refine wpAnyH_take (i := 1) (oi := { dst := some 49, op := Op.move (Operand.tmp 0), type := 9, pos := "ref.go:39", after := #[], guard := none }) (v := .string s) rfl (by kernel_rfl) (by kernel_rfl) (by kernel_rfl) (fun _ _ _ h => h)
            (Or.inl ⟨by rfl, by intro w hSw; clear hSw; go_simp⟩) hHeld ?_
          try simp only [Act.put, List.setIfInBounds_toArray, List.set_cons_zero, List.set_cons_succ]
          refine wpAnyH_take (i := 2) (oi := { dst := some 50, op := Op.slice 9 (Operand.tmp 49) (some (Operand.const (Value.int IntKind.i64 33))) none none, type := 9, pos := "ref.go:39", after := #[{ on := 1, ground := Ground.data }], guard := none }) (v := .string (s.extract 33 s.size)) rfl (by kernel_rfl) (by kernel_rfl) (by kernel_rfl) (fun _ _ _ h => h)
            (Or.inl ⟨by rfl, by intro w hSw; clear hSw; go_simp⟩) hHeld ?_
          try simp only [Act.put, List.setIfInBounds_toArray, List.set_cons_zero, List.set_cons_succ]
          refine wpAnyH_ready (rs := [3]) (by kernel_rfl) (by simp) ?_
          refine AllReadyH.cons (o := { dst := none, op := Op.store 53 (Operand.tmp 2) (Operand.tmp 48), type := 0, pos := "ref.go:39", after := #[{ on := 0, ground := Ground.data }, { on := 0, ground := Ground.phase }, { on := 1, ground := Ground.textOnly Departure.lateStores }, { on := 2, ground := Ground.textOnly Departure.lateStoresUnsure }], guard := none }) rfl (fun K hK => ?_) AllReadyH.nil
          rw [if_pos (by rfl)]
          refine wp_store_row 53 _ _ rfl P L.toArray rfl rfl 53 _ HA.out I1.out I5.out I4.out ?_
          refine hK.out _ _ (HSB.out _ ((setRow_other _ _ _ _ (by omega)).trans HB.out)) (fun hHeld2 => ?_)
          clear hK K hHeld
          try simp only [Act.put]
          refine wpAnyH_take (i := 4) (oi := { dst := some 3, op := Op.assign (Operand.tmp 50), type := 9, pos := "ref.go:39", after := #[{ on := 2, ground := Ground.data }, { on := 3, ground := Ground.chain }, { on := 0, ground := Ground.phase }, { on := 1, ground := Ground.phase }, { on := 2, ground := Ground.phase }, { on := 3, ground := Ground.phase }], guard := none }) (v := .string (s.extract 33 s.size)) rfl (by kernel_rfl) (by kernel_rfl) (by kernel_rfl) (fun _ _ _ h => h)
            (Or.inl ⟨by rfl, by intro w hSw; clear hSw; go_simp⟩) hHeld2 ?_
          try simp only [Act.put, List.setIfInBounds_toArray, List.set_cons_zero, List.set_cons_succ]
          refine wpAnyH_take (i := 5) (oi := { dst := some 4, op := Op.assign (Operand.const (Value.bool true)), type := 4, pos := "ref.go:39", after := #[{ on := 4, ground := Ground.chain }, { on := 0, ground := Ground.phase }, { on := 1, ground := Ground.phase }, { on := 2, ground := Ground.phase }, { on := 3, ground := Ground.phase }, { on := 4, ground := Ground.phase }], guard := none }) (v := .bool true) rfl (by kernel_rfl) (by kernel_rfl) (by kernel_rfl) (fun _ _ _ h => h)
            (Or.inl ⟨by rfl, by intro w hSw; clear hSw; go_simp⟩) hHeld2 ?_
          try simp only [Act.put, List.setIfInBounds_toArray, List.set_cons_zero, List.set_cons_succ]
          refine wpAnyH_done (by kernel_rfl) ?_ _
          go_wp2_with fail
          refine bodyPost_ret (rparse_ret _ P L.toArray (s.extract 33 s.size) true _ (setRow_heap _ _ _ _ _ _ HA.out) HCP.out rfl rfl rfl) rfl ?_
          rw [HN.out]
          refine ⟨(fun d n h => ?_), (fun h => by cases h), ?_⟩
          · cases h
            refine ⟨HP20.out, ?_⟩
            have hx : s.extract 33 s.size = ⟨(s.data.toList.drop 33).toArray⟩ := bytes_ext (by rw [E2.out])
            rw [HLL.out, hx]
          · rw [← HPP.out]; exact below_setRow HBB.out.drew (Nat.le_refl _) _

theorem rparse_any (s : ByteArray) (w : World) (hm : s.size ≤ 140737488355328) :
    Calls Tryz.prog 80 #[.string s] w fun e w' => RParsePost (parseP s.data.toList) w e w' := by
  have hlen : s.data.toList.length = s.size := by simp
  by_cases h34 : s.size < 34
  · have hp : parseP s.data.toList = none := by
      unfold parseP
      rw [if_neg]
      rintro ⟨_, h2, h3⟩
      have := (name_small h3).1
      rw [List.length_drop] at this
      omega
    rw [hp]
    exact rparse_early s w (.inl (by simp; omega))
  · by_cases h45 : s[32] = 45
    · exact rparse_late s w hm (by omega) h45
    · have hp : parseP s.data.toList = none := by
        unfold parseP
        rw [if_neg]
        rintro ⟨_, h2, h3⟩
        rw [dash_iff _ (by omega)] at h2
        have := str_get s 32 (by omega)
        rw [this] at h45
        simp at h2
        apply h45
        simpa using h2
      rw [hp]
      exact rparse_early s w (.inr ⟨by simp; omega, by omega, h45⟩)

end Go.Proofs.YtokbakpbhpknfaaGreatDoor.Nam

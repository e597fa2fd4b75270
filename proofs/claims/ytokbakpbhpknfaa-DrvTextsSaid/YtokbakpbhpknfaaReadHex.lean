/-
  The contract of base.ReadHex: the bytes of some digits, or that there are none. Conditions: at most four million digits.
-/
import Derived.Test.YtokbakpbhpknfaaRowN
import Derived.Test.YtokbakpbhpknfaaMathN
import Derived.Test.YtokbakpbhpknfaaDecN
namespace Go.Proofs.Ytokbakpbhpknfaa.Nam
open Go.RowKit

theorem index_digit (c : UInt8) (w : World) :
    Calls Try.prog 45 #[.string ⟨#[48, 49, 50, 51, 52, 53, 54, 55, 56, 57, 97, 98, 99, 100, 101, 102]⟩, .int .u8 (c.toNat : Int)] w fun e w' => e = .returned (.int .i64 (dv c)) ∧ w = w' := by
  refine (index_any _ _ w).mono ?_
  rintro e w' ⟨rfl, hw⟩
  refine ⟨?_, hw⟩
  simp [dv, digits]

theorem wraps_i64 (n : Int) (h₀ : 0 ≤ n) (h₁ : n < 2 ^ 62) : IntKind.i64.wrap n = n := by rw [IntKind.wrap_i64]; omega

theorem i64_join4 (x y : Int) (x0 : 0 ≤ x) (x1 : x < 16) (y0 : 0 ≤ y) (y1 : y < 16) : bits .or .i64 (x * 16) y = x * 16 + y :=
  bits_join .i64 62 (by decide) wraps_i64 4 (x * 16) y (by omega) (by omega) (by omega) y0 (by omega) (by omega)

set_option maxRecDepth 100000 in
set_option maxHeartbeats 1000000 in
theorem readhex_odd (s : ByteArray) (w : World) (h : s.size % 2 = 1) (hm : s.size ≤ 140737488355328) :
    Calls Try.prog 33 #[.string s] w fun e w' => DecPost (unhex s.data.toList) w e w' := by
  have hn := unhex_odd s.data.toList (by simp; omega)
  rw [hn]
  have h2 : ((s.size : Int) % 2 != 0) = true := by
    have : (s.size : Int) % 2 = 1 := by omega
    rw [this]; rfl
  clear h hn
  go_enter Try.func33, Try.ntmps33
  go_wp2_with fail
  go_ret2
  exact ⟨(fun p hp => by cases hp), (fun _ => rfl), Below.refl _ _⟩

set_option maxRecDepth 100000 in
set_option maxHeartbeats 4000000 in
theorem readhex_even (s : ByteArray) (w : World) (h : s.size % 2 = 0) (hm : s.size ≤ 140737488355328) :
    Calls Try.prog 33 #[.string s] w fun e w' => DecPost (unhex s.data.toList) w e w' := by
  obtain ⟨i0, hi, hz0, hz1, hz2⟩ := info_parts info_u8
  have h2 : ((s.size : Int) % 2 != 0) = false := by
    have : (s.size : Int) % 2 = 0 := by omega
    rw [this]; rfl
  have hl : (prs s.data.toList).length = s.size / 2 := by rw [prs_length]; simp
  have hlen : s.data.toList.length = s.size := by simp
  have hev : s.size = 2 * (s.size / 2) := by omega
  obtain ⟨n, hn⟩ : ∃ n, n = s.size / 2 := ⟨_, rfl⟩
  rw [← hn] at hl hev
  have hdiv : (s.size : Int) / 2 = (n : Int) := by omega
  have HE := Lib.hid hev
  have HL := Lib.hid hl
  have HLEN := Lib.hid hlen
  have HDIV := Lib.hid hdiv
  have hn2 : n ≤ 70368744177664 := by omega
  have hse : (s.size : Int) = 2 * (n : Int) := by omega
  have HSE := Lib.hid hse
  clear h hl hlen hev hn hdiv hse
  go_enter Try.func33, Try.ntmps33
  go_wp2_with (at_make; rw [HDIV.out]; refine wpList_make_full _ rfl _ _ 38 rfl w.heap.size 5 i0 (.int .u8 0) 1 Try.underlying38 hi hz0 hz1 _ _ _ _ n rfl rfl ?m1 ?m2 ?m3 ?m4 ?m5 ?m6)
  case m1 => rfl
  case m2 => rfl
  case m3 => rw [hz2]; omega
  case m4 => unfold maxLen; omega
  case m5 => exact Nat.le_refl _
  intro w1 hown0 hgrow0
  have hown1 : w1.ownsRow w.heap.size 5 1 (.slice (some ⟨w.heap.size, 0, none⟩) n n) n (rowAt (prs s.data.toList) 0) := by
    have := hown0
    rw [toList_madeCells_one] at this
    rw [rowAt_start, HL.out]
    exact this
  have hbel1 : Below w.heap.size w w1 := (Below.refl _ _).grown hgrow0 (Nat.le_refl _) (by intro k hk; cases hk)
  clear hown0 hgrow0 hi hz0 hz1 hz2
  go_wp2_with fail
  go_loopw [18] (fun i wr => ∃ k : Nat, k ≤ n ∧ i = .int .i64 k ∧ okd (s.data.toList.take (2 * k)) = true ∧ wr.ownsRow w.heap.size 5 1 (.slice (some ⟨w.heap.size, 0, none⟩) n n) n (rowAt (prs s.data.toList) k) ∧ Below w.heap.size w wr) (fun i _ => n - (intOf i).toNat)
  case atStart => exact ⟨0, Nat.zero_le _, rfl, by simp [okd], hown1, hbel1⟩
  case round =>
    clear hown1 hbel1
    obtain ⟨k, hk, rfl, hok, hown, hbel⟩ := hrel
    by_cases hlt : k < n
    · have hA : 2 * k < s.size := by have := HE.out; omega
      have hB : 2 * k + 1 < s.size := by have := HE.out; omega
      have hga : (s[2 * k]'hA) = s.data.toList.getD (2 * k) 0 := by
        rw [List.getD_eq_getElem?_getD, List.getElem?_eq_getElem (by rw [HLEN.out]; exact hA)]
        rfl
      have hgb : (s[2 * k + 1]'hB) = s.data.toList.getD (2 * k + 1) 0 := by
        rw [List.getD_eq_getElem?_getD, List.getElem?_eq_getElem (by rw [HLEN.out]; exact hB)]
        rfl
      have hba := unhex_bad s.data.toList (2 * k) (by rw [HLEN.out]; exact hA)
      have hbb := unhex_bad s.data.toList (2 * k + 1) (by rw [HLEN.out]; exact hB)
      have hstep := rowAt_step (prs s.data.toList) k _ (prs_get s.data.toList k (by rw [HLEN.out]; exact hB))
      have htk : s.data.toList.take (2 * (k + 1)) = s.data.toList.take (2 * k) ++ [s.data.toList.getD (2 * k) 0, s.data.toList.getD (2 * k + 1) 0] := by
        rw [show 2 * (k + 1) = 2 * k + 1 + 1 from by omega, take_one _ 0 (2 * k + 1) (by rw [HLEN.out]; exact hB), take_one _ 0 (2 * k) (by rw [HLEN.out]; exact hA)]
        simp
      generalize s.data.toList.getD (2 * k) 0 = a at *
      generalize s.data.toList.getD (2 * k + 1) 0 = b at *
      have HGA := Lib.hid hga
      have HGB := Lib.hid hgb
      have HBA := Lib.hid hba
      have HBB := Lib.hid hbb
      have HST := Lib.hid hstep
      have HTK := Lib.hid htk
      have HOK := Lib.hid hok
      have hcA : ((2 : Int) * (k : Int)) < (s.size : Int) := by omega
      have hcB : ((2 : Int) * (k : Int) + 1) < (s.size : Int) := by omega
      have hkb : (k : Int) ≤ 70368744177664 := by omega
      clear hga hgb hba hbb hstep htk hok
      obtain ⟨u, hu⟩ := rowAt_get (prs s.data.toList) k (by rw [HL.out]; exact hlt)
      have hcell : wr.cell? ⟨w.heap.size, k, none⟩ = some u := by rw [hown.cellAt k (by omega)]; exact hu
      have hfree : wr.frozen? ⟨w.heap.size, k, none⟩ = false := hown.frozenAt k
      have HU := Lib.hid hu
      clear hu
      by_cases hna : dv a < 0
      · have hd : decide (dv a < 0) = true := by simpa using hna
        have HNA := Lib.hid hna
        clear hna
        go_wp2_with fail
        rw [HGA.out]
        refine (index_digit a _).mono ?_
        rintro e w' ⟨rfl, rfl⟩
        go_wp2_with fail
        rw [HGB.out]
        refine (index_digit b _).mono ?_
        rintro e w' ⟨rfl, rfl⟩
        go_wp2_with fail
        go_ret2
        rw [HBA.out HNA.out]
        exact ⟨(fun p hp => by cases hp), (fun _ => rfl), hbel⟩
      · obtain ⟨x, hx⟩ : ∃ x : Nat, dv a = (x : Int) := ⟨(dv a).toNat, by omega⟩
        have hx16 : (x : Int) < 16 := by have := dv_lt a; omega
        have HX := Lib.hid hx
        have HNA := Lib.hid hna
        have hdx : decide ((x : Int) < 0) = false := by simp
        clear hx hna
        by_cases hnb : dv b < 0
        · have hd : decide (dv b < 0) = true := by simpa using hnb
          have HNB := Lib.hid hnb
          clear hnb
          go_wp2_with fail
          rw [HGA.out]
          refine (index_digit a _).mono ?_
          rintro e w' ⟨rfl, rfl⟩
          rw [HX.out]
          go_wp2_with fail
          rw [HGB.out]
          refine (index_digit b _).mono ?_
          rintro e w' ⟨rfl, rfl⟩
          go_wp2_with fail
          go_ret2
          rw [HBB.out HNB.out]
          exact ⟨(fun p hp => by cases hp), (fun _ => rfl), hbel⟩
        · obtain ⟨y, hy⟩ : ∃ y : Nat, dv b = (y : Int) := ⟨(dv b).toNat, by omega⟩
          have hy16 : (y : Int) < 16 := by have := dv_lt b; omega
          have HY := Lib.hid hy
          have hdy : decide ((y : Int) < 0) = false := by simp
          have hx0 : (0 : Int) ≤ (x : Int) := by omega
          have hy0 : (0 : Int) ≤ (y : Int) := by omega
          have hor := i64_join4 (x : Int) (y : Int) hx0 hx16 hy0 hy16
          have htwo : bv (two a b) = .int .u8 ((x : Int) * 16 + (y : Int)) := by
            unfold bv two
            rw [UInt8.toNat_ofNat', HX.out, HY.out]
            congr 1
            omega
          have HTWO := Lib.hid htwo
          clear hy hnb htwo
          go_wp2_with fail
          rw [HGA.out]
          refine (index_digit a _).mono ?_
          rintro e w' ⟨rfl, rfl⟩
          rw [HX.out]
          go_wp2_with fail
          rw [HGB.out]
          refine (index_digit b _).mono ?_
          rintro e w' ⟨rfl, rfl⟩
          rw [HY.out]
          go_wp2_with fail
          go_roundw
          case rel => exact ⟨k + 1, by omega, by go_num, by rw [HTK.out]; unfold okd at *; rw [List.all_append, HOK.out]; simp; have := HX.out; have := HY.out; omega, by rw [← HST.out, HTWO.out]; exact (hown.stored k _).1, hbel.setCell (Nat.le_refl _) _⟩
          case measure => simp [intOf]; omega
    · obtain rfl : k = n := by omega
      have hun : unhex s.data.toList = some (prs s.data.toList) := by
        unfold unhex
        have h1 := hok
        rw [List.take_of_length_le (by rw [HLEN.out, HE.out]; exact Nat.le_refl _)] at h1
        rw [if_pos ⟨by rw [HLEN.out, HE.out]; omega, h1⟩]
      have HUN := Lib.hid hun
      have hrow : rowAt (prs s.data.toList) k = (prs s.data.toList).map bv := by
        have := rowAt_end (prs s.data.toList)
        rw [HL.out] at this
        exact this
      rw [hrow] at hown
      clear hok hun hrow
      go_wp2_with fail
      go_ret2
      rw [HUN.out]
      refine ⟨(fun p hp => ?_), (fun h => by cases h), hbel⟩
      cases hp
      exact ⟨w.heap.size, by rw [HL.out]; rfl, by rw [HL.out]; exact hown⟩

theorem readhex_any (s : ByteArray) (w : World) (hm : s.size ≤ 140737488355328) :
    Calls Try.prog 33 #[.string s] w fun e w' => DecPost (unhex s.data.toList) w e w' := by
  rcases Nat.mod_two_eq_zero_or_one s.size with h | h
  · exact readhex_even s w h hm
  · exact readhex_odd s w h hm

end Go.Proofs.Ytokbakpbhpknfaa.Nam

/-
  The contract of the reference's next: the string at a place that is a multiple of eight, or none. Conditions: at most 1000000 bytes.
-/
import Derived.Test.YthjihibocobndaaNTaken
import Derived.Test.YthjihibocobndaaTRSame
namespace Go.Proofs.Ythjihibocobndaa
open Go.RowKit
set_option linter.unusedVariables false

/-- The next string of what remains; none: there is none. -/
def nextO : Option (List UInt8) → List UInt8 × Option (List UInt8)
  | none => ([], none)
  | some r => match nextL r with
    | none => ([], none)
    | some (s, r') => (s, some r')
/-- Where what remains begins. -/
def posI (R : List UInt8) : Option (List UInt8) → Int
  | none => -1
  | some r => ((R.length - r.length : Nat) : Int)
/-- What remains begins at a multiple of eight. -/
def At (R : List UInt8) (o : Option (List UInt8)) : Prop := ∀ r, o = some r → ∃ j, j ≤ R.length ∧ j % 8 = 0 ∧ r = R.drop j

theorem nextO_some {r s r' : List UInt8} (h : nextL r = some (s, r')) : nextO (some r) = (s, some r') := by simp [nextO, h]
theorem nextO_none {r : List UInt8} (h : nextL r = none) : nextO (some r) = ([], none) := by simp [nextO, h]
theorem At.none {R : List UInt8} : At R none := fun _ h => by cases h
theorem At.go {R r s r' : List UInt8} (h : At R (some r)) (hn : nextL r = some (s, r')) : At R (some r') := by
  intro q hq
  cases hq
  obtain ⟨j, hj, h8, rfl⟩ := h r rfl
  have h1 := (next_some hn).1
  have hl := congrArg List.length h1
  rw [List.length_append, List.length_drop] at hl
  refine ⟨j + (strN s).length, by omega, by have := strN_eight s; omega, ?_⟩
  rw [← List.drop_drop, h1, List.drop_left]
theorem At.next {R : List UInt8} {o : Option (List UInt8)} (h : At R o) : At R (nextO o).2 := by
  cases o with
  | none => exact At.none
  | some r =>
    cases hn : nextL r with
    | none => rw [nextO_none hn]; exact At.none
    | some q => obtain ⟨s, r'⟩ := q; rw [nextO_some hn]; exact h.go hn
theorem posI_drop {R : List UInt8} {j : Nat} (h : j ≤ R.length) : posI R (some (R.drop j)) = (j : Int) := by
  show ((R.length - (R.drop j).length : Nat) : Int) = _
  rw [List.length_drop]; omega
theorem num8_drop (l : List UInt8) (i : Nat) : num8 (l.drop i) ≤ num8 l := by
  induction l generalizing i with
  | nil => simp [num8]
  | cons b l ih =>
    cases i with
    | zero => simp
    | succ i => rw [List.drop_succ_cons]; have := ih i; simp only [num8]; omega
theorem num8_step {l : List UInt8} {k : Nat} (h : k < l.length) : num8 (l.drop k) = num8 (l.drop (k + 1)) * 256 + (l.getD k 0).toNat := by
  rw [List.drop_eq_getElem_cons h, num8, List.getD_eq_getElem?_getD, List.getElem?_eq_getElem h]
  simp only [Option.getD_some]; omega

set_option maxRecDepth 100000 in
set_option maxHeartbeats 8000000 in
theorem rnext_any (a : Option Addr) (n cap : Nat) (R : List UInt8) (w : World) (hB : IsB w a n cap R) (h9 : R.length ≤ 1000000) (o : Option (List UInt8)) (ho : At R o) :
    Calls Try.prog 31 #[.slice a n cap, .int .i64 (posI R o)] w fun e w' => e = .returned (.tuple #[.string ⟨(nextO o).1.toArray⟩, .int .i64 (posI R (nextO o).2)]) ∧ Below w.heap.size w w' := by
  cases o with
  | none =>
    show Calls Try.prog 31 #[.slice a n cap, .int .i64 (-1)] w fun e w' => e = .returned (.tuple #[.string ⟨#[]⟩, .int .i64 (-1)]) ∧ Below w.heap.size w w'
    go_enter Try.func31, Try.ntmps31
    go_wp2_with fail
    go_ret2
    exact ⟨rfl, Below.refl _ _⟩
  | some r =>
    obtain ⟨j, hj, hj8, hr⟩ := ho r rfl
    have hlen := hB.length
    rw [hr, posI_drop hj, ← hr]
    have hrl : r.length = n - j := by rw [hr, List.length_drop]; omega
    have hj0 : ¬ (j : Int) < 0 := by omega
    by_cases h8 : n - j < 8
    · have hl8 : (n : Int) - (j : Int) < 8 := by omega
      have HG : Hid (nextO (some r) = ([], none)) := Lib.hid (nextO_none (by unfold nextL; rw [if_pos (by omega)]))
      clear hr hB hrl ho
      go_enter Try.func31, Try.ntmps31
      go_wp2_with fail
      go_ret2
      rw [HG.out]
      exact ⟨rfl, Below.refl _ _⟩
    have hl8 : ¬ (n : Int) - (j : Int) < 8 := by omega
    rcases hB.at_ with h | ⟨b, off, rfl, hlt, hc⟩
    · omega
    have hroom := hB.room
    unfold maxLen at hroom
    have hr1 := hroom.1
    have hr2 := hroom.2
    have HCELL : Hid (∀ i, j + i < n → w.cell? ⟨b, off + (j + i), none⟩ = some (.int .u8 ((r.getD i 0).toNat : Int))) := Lib.hid (fun i hi => by
      rw [hc (j + i) hi, hr, List.getD_eq_getElem?_getD, List.getD_eq_getElem?_getD, List.getElem?_drop])
    have HB := Lib.hid hB
    have HR := Lib.hid hr
    have HRL := Lib.hid hrl
    have hn9 : n ≤ 1000000 := by omega
    have HLEN := Lib.hid hlen
    clear hroom hB hr hrl hc ho h9 hlen
    have h8r : 8 ≤ r.length := by have := HRL.out; omega
    have HT8 : Hid ((r.take 8).length = 8) := Lib.hid (by rw [List.length_take]; omega)
    have HR8 := Lib.hid h8r
    clear h8r
    obtain ⟨l8, hl8d⟩ : ∃ l, l = r.take 8 := ⟨_, rfl⟩
    rw [← hl8d] at HT8
    have HL8 := Lib.hid hl8d
    clear hl8d
    have hz7 : num8 (l8.drop 8) = 0 := by rw [List.drop_of_length_le (by have := HT8.out; omega)]; rfl
    have HZ7 := Lib.hid hz7
    clear hz7
    go_enter Try.func31, Try.ntmps31
    go_wp2_with fail
    go_loop [6, 7] (fun nn ii => ∃ i : Nat, i ≤ 8 ∧ ii = .int .i64 ((i : Int) - 1) ∧ nn = .int .i64 ((num8 (l8.drop i) : Nat) : Int) ∧ num8 (l8.drop i) ≤ n) (fun _ ii => (intOf ii + 1).toNat)
    case atStart => exact ⟨8, Nat.le_refl _, rfl, by rw [HZ7.out]; rfl, by rw [HZ7.out]; exact Nat.zero_le _⟩
    case round =>
      obtain ⟨i, hi, rfl, rfl, hle⟩ := hrel
      cases i with
      | succ k =>
        rw [show ((k + 1 : Nat) : Int) - 1 = (k : Int) by omega]
        have hk0 : (0 : Int) ≤ (k : Int) := by omega
        have hjk : (j : Int) + (k : Int) < (n : Int) := by omega
        have hjk0 : (0 : Int) ≤ (j : Int) + (k : Int) := by omega
        have htn : ((j : Int) + (k : Int)).toNat = j + k := by omega
        obtain ⟨z, hzz⟩ : ∃ z, z = r.getD k 0 := ⟨_, rfl⟩
        have hci := HCELL.out k (by omega)
        rw [← hzz] at hci
        have hst : num8 (l8.drop k) = num8 (l8.drop (k + 1)) * 256 + z.toNat := by
          rw [num8_step (by have := HT8.out; omega), hzz]
          congr 2
          rw [HL8.out, List.getD_eq_getElem?_getD, List.getD_eq_getElem?_getD, List.getElem?_take_of_lt (by omega)]
        have HST := Lib.hid hst
        clear hst hzz
        obtain ⟨m, hm⟩ : ∃ m, m = num8 (l8.drop (k + 1)) := ⟨_, rfl⟩
        rw [← hm] at hle ⊢
        have HM := Lib.hid hm
        clear hm
        have hzlt := UInt8.toNat_lt z
        have hz1 : (0 : Int) ≤ (z.toNat : Int) := by omega
        have hz2 : (z.toNat : Int) < 256 := by omega
        by_cases hgt : n < m * 256 + z.toNat
        · have hgi : (n : Int) < (m : Int) * 256 + (z.toNat : Int) := by omega
          have HG : Hid (nextO (some r) = ([], none)) := Lib.hid (nextO_none (by
            have h1 := num8_drop l8 k
            rw [HST.out, ← HM.out, HL8.out] at h1
            have h2 := HRL.out
            unfold nextL
            rw [if_neg (by omega), if_pos (by rw [List.length_drop]; omega)]))
          go_wp2_with fail
          go_ret2
          rw [HG.out]
          exact ⟨rfl, Below.refl _ _⟩
        · have hgi : ¬ (n : Int) < (m : Int) * 256 + (z.toNat : Int) := by omega
          go_wp2_with fail
          go_round
          case rel => exact ⟨k, by omega, rfl, by rw [HST.out, ← HM.out]; go_num, by rw [HST.out, ← HM.out]; omega⟩
          case measure => simp [intOf]
      | zero =>
        rw [show ((0 : Nat) : Int) - 1 = -1 by omega]
        have hm1 : ¬ (0 : Int) ≤ -1 := by omega
        rw [List.drop_zero] at hle ⊢
        obtain ⟨N, hN⟩ : ∃ N, N = num8 l8 := ⟨_, rfl⟩
        rw [← hN] at hle ⊢
        have hdl : (r.drop 8).length = n - j - 8 := by have := HRL.out; rw [List.length_drop]; omega
        have HE : Hid (nextL r = if n - j - 8 < N then none else takenL N (r.drop 8)) := Lib.hid (by
          unfold nextL; rw [if_neg (by have := HR8.out; omega), hdl, ← HL8.out, ← hN])
        have HDL := Lib.hid hdl
        clear hN hdl
        by_cases hgt : n - j - 8 < N
        · have hgi : (n : Int) - (j : Int) - 8 < (N : Int) := by omega
          have HG : Hid (nextO (some r) = ([], none)) := Lib.hid (nextO_none (by rw [HE.out, if_pos hgt]))
          go_wp2_with fail
          go_ret2
          rw [HG.out]
          exact ⟨rfl, Below.refl _ _⟩
        have hgi : ¬ (n : Int) - (j : Int) - 8 < (N : Int) := by omega
        have HE2 : Hid (nextL r = takenL N (r.drop 8)) := Lib.hid (by rw [HE.out, if_neg hgt])
        have hp8 : padN N < 8 := by unfold padN; omega
        have HPAD : Hid (padN N = (8 - N % 8) % 8) := Lib.hid rfl
        go_wp2_with fail
        go_loop [8] (fun ee => ∃ i : Nat, i ≤ padN N ∧ ee = .int .i64 ((j + 8 + N + i : Nat) : Int) ∧ j + 8 + N + i ≤ n ∧ Hid (∀ q, q < i → ((r.drop 8).drop N).getD q 0 = 0)) (fun ee => (n : Int).toNat + 8 - (intOf ee).toNat)
        case atStart => exact ⟨0, Nat.zero_le _, by go_num, by omega, Lib.hid (fun q hq => by omega)⟩
        case round =>
          obtain ⟨i, hip, rfl, hle2, hz⟩ := hrel
          obtain ⟨E, hE⟩ : ∃ E, E = j + 8 + N + i := ⟨_, rfl⟩
          rw [← hE] at hle2 ⊢
          by_cases hlp : i < padN N
          · have htest : ((E : Int) % 8 != 0) = true := by
              rw [bne_iff_ne]
              have := HPAD.out
              omega
            by_cases hend : n ≤ E
            · have hei : (n : Int) ≤ (E : Int) := by omega
              have HG : Hid (nextO (some r) = ([], none)) := Lib.hid (nextO_none (by
                rw [HE2.out]; unfold takenL; rw [if_pos (by rw [HDL.out]; omega)]))
              clear hE
              go_wp2_with fail
              go_ret2
              rw [HG.out]
              exact ⟨rfl, Below.refl _ _⟩
            have hei : ¬ (n : Int) ≤ (E : Int) := by omega
            have hei2 : (E : Int) < (n : Int) := by omega
            obtain ⟨z, hzz⟩ : ∃ z, z = ((r.drop 8).drop N).getD i 0 := ⟨_, rfl⟩
            have hci := HCELL.out (8 + N + i) (by omega)
            rw [show j + (8 + N + i) = E by omega, show r.getD (8 + N + i) 0 = z by rw [hzz, List.getD_eq_getElem?_getD, List.getD_eq_getElem?_getD, List.getElem?_drop, List.getElem?_drop, Nat.add_assoc]] at hci
            have HZZ := Lib.hid hzz
            have HEE := Lib.hid hE
            clear hzz hE
            by_cases h00 : z = 0
            · rw [h00] at hci
              have HZ2 : Hid (∀ q, q < i + 1 → ((r.drop 8).drop N).getD q 0 = 0) := Lib.hid (fun q hq => by
                by_cases hqi : q = i
                · rw [hqi, ← HZZ.out]; exact h00
                · exact hz.out q (by omega))
              simp only [show ((0 : UInt8).toNat : Int) = 0 from rfl] at hci
              clear h00
              go_wp2_with fail
              go_round
              case rel => exact ⟨i + 1, by omega, by rw [HEE.out]; go_num, by have := HEE.out; omega, HZ2⟩
              case measure => simp [intOf]; omega
            · have hne0 : ¬ (z.toNat : Int) = 0 := fun e => h00 (UInt8.toNat_inj.mp (by have : (0 : UInt8).toNat = 0 := rfl; omega))
              have hne : ((z.toNat : Int) != 0) = true := by simpa using hne0
              have HG : Hid (nextO (some r) = ([], none)) := Lib.hid (nextO_none (by rw [HE2.out]; exact taken_bad hlp (by rw [← HZZ.out]; exact h00)))
              clear h00
              go_wp2_with fail
              go_ret2
              rw [HG.out]
              exact ⟨rfl, Below.refl _ _⟩
          · obtain rfl : i = padN N := by omega
            have htest : ((E : Int) % 8 != 0) = false := by
              rw [Bool.eq_false_iff]
              intro h
              rw [bne_iff_ne] at h
              have := HPAD.out
              omega
            have HG : Hid (nextL r = some ((r.drop 8).take N, (r.drop 8).drop (N + padN N))) := Lib.hid (by rw [HE2.out]; exact taken_good (by rw [HDL.out]; omega) hz.out)
            have HP : Hid (posI R (some ((r.drop 8).drop (N + padN N))) = (E : Int)) := Lib.hid (by
              rw [HR.out, List.drop_drop, List.drop_drop, posI_drop (by have := HLEN.out; omega)]; omega)
            have hs1 : (0 : Int) ≤ (j : Int) + 8 := by omega
            have hs2 : (j : Int) + 8 ≤ (j : Int) + 8 + (N : Int) := by omega
            have hs3 : (j : Int) + 8 + (N : Int) ≤ (cap : Int) := by omega
            have hs4 : ((j : Int) + 8).toNat = j + 8 := by omega
            have hs5 : ((j : Int) + 8 + (N : Int)).toNat = j + 8 + N := by omega
            have hs6 : j + 8 + N - (j + 8) = N := by omega
            have HCUT := Lib.hid ((HB.out.cut (j + 8) (by omega)).head N (by omega))
            have HS : Hid ((R.drop (j + 8)).take N = (r.drop 8).take N) := Lib.hid (by rw [HR.out, List.drop_drop])
            clear hz hE
            by_cases hcc : cap = j + 8
            · have hcut := HCUT.out
              rw [if_pos hcc] at hcut
              have hcv := convert_b hcut
              rw [HS.out] at hcv
              rw [show cap - (j + 8) = 0 by omega] at hcv
              clear hcut
              obtain rfl : N = 0 := by omega
              subst hcc
              go_wp2_with fail
              go_ret2
              rw [nextO_some HG.out]
              exact ⟨by rw [HP.out]; rfl, Below.refl _ _⟩
            · have hcut := HCUT.out
              rw [if_neg hcc] at hcut
              have hcv := convert_b hcut
              rw [HS.out] at hcv
              clear hcut
              go_wp2_with fail
              go_ret2
              rw [nextO_some HG.out]
              exact ⟨by rw [HP.out]; rfl, Below.refl _ _⟩

end Go.Proofs.Ythjihibocobndaa

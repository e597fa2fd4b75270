/-
  The contract of the reader's taken: the next n bytes. Conditions: there are as many.
-/
import Derived.Test.YthjihibocobndaaNRd
namespace Go.Proofs.Ythjihibocobndaa
open Go.RowKit
set_option linter.unusedVariables false

theorem Rd.below {rb : Nat} {w0 w : World} {R : List UInt8} (h : Rd rb w0 R w) : Below rb w0 w := by obtain ⟨a, len, cap, _, _, h, _⟩ := h; exact h

def bytesV (w0 : World) (x : List UInt8) (v : Value) (w' : World) : Prop := ∃ a n c, v = .slice a n c ∧ IsB w0 a n c x

theorem taken_bad {n i : Nat} {R : List UInt8} (hi : i < padN n) (hz : ¬ (R.drop n).getD i 0 = 0) : takenL n R = none := by
  unfold takenL
  split
  · rfl
  · rename_i hl
    rw [if_neg]
    intro h
    apply hz
    have h1 := congrArg (fun l : List UInt8 => l.getD i 0) h
    simp only [List.getD_eq_getElem?_getD, List.getElem?_take_of_lt hi, List.getElem?_replicate, if_pos hi, Option.getD_some] at h1
    rw [List.getD_eq_getElem?_getD]; exact h1
theorem taken_good {n : Nat} {R : List UInt8} (hl : n + padN n ≤ R.length) (hz : ∀ i, i < padN n → (R.drop n).getD i 0 = 0) : takenL n R = some (R.take n, R.drop (n + padN n)) := by
  unfold takenL
  rw [if_neg (by omega), if_pos]
  apply List.ext_getElem
  · rw [List.length_take, List.length_drop, List.length_replicate]; omega
  · intro i h1 h2
    rw [List.length_replicate] at h2
    have := hz i h2
    rw [List.getD_eq_getElem?_getD, List.getElem?_eq_getElem (by rw [List.length_drop]; omega)] at this
    rw [List.getElem_take, List.getElem_replicate]
    simpa using this

set_option maxRecDepth 100000 in
set_option maxHeartbeats 8000000 in
theorem taken_any (rb : Nat) (w0 : World) (b off len cap : Nat) (R : List UInt8) (w : World) (hx : Has w rb [.slice (some ⟨b, off, none⟩) len cap] 50) (hB : IsB w0 (some ⟨b, off, none⟩) len cap R) (hbel : Below rb w0 w) (h0 : w0.heap.size ≤ rb) (hR : R.length ≤ 1000000000) (n : Nat) (hn : n ≤ len) :
    Calls Try.prog 40 #[.pointer (some ⟨rb, 0, none⟩), .int .i64 (n : Int)] w (RP rb w0 w (takenL n R) (bytesV w0)) := by
  have hlen := hB.length
  have hroom := hB.room
  unfold maxLen at hroom
  have hr1 := hroom.1
  have hr2 := hroom.2
  have hlt := hx.lt
  have HX := Lib.hid hx
  have HB := Lib.hid hB
  have HBEL := Lib.hid hbel
  have HLEN := Lib.hid hlen
  have h9 : len ≤ 1000000000 := by omega
  clear hroom hx hB hbel hlen hR
  have hp8 : padN n < 8 := by unfold padN; omega
  have HCELL : Hid (∀ i, i < padN n → n + padN n ≤ len → w.cell? ⟨b, off + n + i, none⟩ = some (.int .u8 (((R.drop n).getD i 0).toNat : Int))) := Lib.hid (fun i hi hl => by
    rcases HB.out.at_ with h | ⟨b', off', he, hlt', hc⟩
    · omega
    · cases he
      rw [HBEL.out.cell (p := ⟨b, off + n + i, none⟩) (by show b < rb; omega), Nat.add_assoc, hc (n + i) (by omega), List.getD_eq_getElem?_getD, List.getD_eq_getElem?_getD, List.getElem?_drop])
  by_cases hend : n + padN n ≤ len
  · have hle : ¬ (len : Int) < (n : Int) + (padN n : Int) := by omega
    have hle1 : (n : Int) ≤ (n : Int) + (padN n : Int) := by omega
    have hle2 : (n : Int) + (padN n : Int) ≤ (cap : Int) := by omega
    have htn : ((n : Int) + (padN n : Int)).toNat = n + padN n := by omega
    have hsb : n + padN n - n = padN n := by omega
    have hle3 : (0 : Int) ≤ (n : Int) + (padN n : Int) := by omega
    have hle4 : (n : Int) + (padN n : Int) ≤ (len : Int) := by omega
    by_cases hcn : cap = n
    · obtain rfl : len = n := by omega
      subst hcn
      have hp0 : padN cap = 0 := by omega
      go_enter Try.func40, Try.ntmps40
      go_wp2_with fail
      refine (padding_any cap w (by omega)).mono ?_
      rintro e w1 ⟨rfl, rfl⟩
      have hc0 := HX.out.cellAt (i := 0) rfl
      go_wp2_with fail
      clear hc0
      go_loop [29] (fun ii => ∃ i : Nat, i ≤ padN cap ∧ ii = .int .i64 i ∧ Hid (∀ j, j < i → (R.drop cap).getD j 0 = 0)) (fun ii => padN cap - (intOf ii).toNat)
      case atStart => exact ⟨0, Nat.zero_le _, rfl, Lib.hid (fun j hj => by omega)⟩
      case round =>
        obtain ⟨i, hi, rfl, hz⟩ := hrel
        by_cases hlp : i < padN cap
        · omega
        · obtain rfl : i = padN cap := by omega
          have hc0 := HX.out.cellAt (i := 0) rfl
          have hf0 := HX.out.frozen 0
          have HG := Lib.hid (taken_good (by rw [HLEN.out]; omega) hz.out)
          clear hz
          go_wp2_with fail
          go_ret
          refine ⟨(But.refl _ _ _).setB 0 _, ?_⟩
          rw [HG.out]
          refine ⟨_, rfl, ⟨_, _, _, rfl, HB.out.head cap (by omega)⟩, _, _, _, HX.out.set 0 _, ?_, HBEL.out.setCell (p := ⟨rb, 0, none⟩) (Nat.le_refl _) _, h0, by rw [List.length_drop, HLEN.out]; omega⟩
          have := HB.out.cut (cap + padN cap) (by omega)
          simpa [hp0] using this
    by_cases hce : cap = n + padN n
    · subst hce
      obtain rfl : len = n + padN n := by omega
      have hsb2 : n + padN n - n = padN n := by omega
      go_enter Try.func40, Try.ntmps40
      go_wp2_with fail
      refine (padding_any n w (by omega)).mono ?_
      rintro e w1 ⟨rfl, rfl⟩
      have hc0 := HX.out.cellAt (i := 0) rfl
      go_wp2_with fail
      clear hc0
      go_loop [29] (fun ii => ∃ i : Nat, i ≤ padN n ∧ ii = .int .i64 i ∧ Hid (∀ j, j < i → (R.drop n).getD j 0 = 0)) (fun ii => padN n - (intOf ii).toNat)
      case atStart => exact ⟨0, Nat.zero_le _, rfl, Lib.hid (fun j hj => by omega)⟩
      case round =>
        obtain ⟨i, hi, rfl, hz⟩ := hrel
        by_cases hlp : i < padN n
        · have hpi : (i : Int) < (padN n : Int) := by omega
          obtain ⟨z, hzz⟩ : ∃ z, z = (R.drop n).getD i 0 := ⟨_, rfl⟩
          have hci := HCELL.out i hlp hend
          rw [← hzz] at hci
          have HZZ := Lib.hid hzz
          clear hzz
          by_cases h00 : z = 0
          · rw [h00] at hci
            have HZ2 : Hid (∀ j, j < i + 1 → (R.drop n).getD j 0 = 0) := Lib.hid (fun j hj => by
              by_cases hji : j = i
              · rw [hji, ← HZZ.out]; exact h00
              · exact hz.out j (by omega))
            simp only [show ((0 : UInt8).toNat : Int) = 0 from rfl] at hci
            clear h00
            go_wp2_with fail
            go_round
            case rel => exact ⟨i + 1, by omega, by go_num, HZ2⟩
            case measure => simp [intOf]; omega
          · have hne0 : ¬ (z.toNat : Int) = 0 := fun e => h00 (UInt8.toNat_inj.mp (by have : (0 : UInt8).toNat = 0 := rfl; omega))
            have hne : ((z.toNat : Int) != 0) = true := by simpa using hne0
            have HBAD := Lib.hid (taken_bad hlp (by rw [← HZZ.out]; exact h00))
            clear h00
            go_wp2_with fail
            refine (giveUp_any w).mono ?_
            rintro e w1 ⟨rfl, rfl⟩
            go_wp2_with fail
            exact ⟨rfl, But.refl _ _ _, by rw [HBAD.out]⟩
        · obtain rfl : i = padN n := by omega
          have hc0 := HX.out.cellAt (i := 0) rfl
          have hf0 := HX.out.frozen 0
          have HG := Lib.hid (taken_good (by rw [HLEN.out]; omega) hz.out)
          clear hz
          go_wp2_with fail
          go_ret
          refine ⟨(But.refl _ _ _).setB 0 _, ?_⟩
          rw [HG.out]
          refine ⟨_, rfl, ⟨_, _, _, rfl, HB.out.head n (by omega)⟩, _, _, _, HX.out.set 0 _, ?_, HBEL.out.setCell (p := ⟨rb, 0, none⟩) (Nat.le_refl _) _, h0, by rw [List.length_drop, HLEN.out]; omega⟩
          have := HB.out.cut (n + padN n) (by omega)
          simpa using this
    go_enter Try.func40, Try.ntmps40
    go_wp2_with fail
    refine (padding_any n w (by omega)).mono ?_
    rintro e w1 ⟨rfl, rfl⟩
    have hc0 := HX.out.cellAt (i := 0) rfl
    go_wp2_with fail
    clear hc0
    go_loop [29] (fun ii => ∃ i : Nat, i ≤ padN n ∧ ii = .int .i64 i ∧ Hid (∀ j, j < i → (R.drop n).getD j 0 = 0)) (fun ii => padN n - (intOf ii).toNat)
    case atStart => exact ⟨0, Nat.zero_le _, rfl, Lib.hid (fun j hj => by omega)⟩
    case round =>
      obtain ⟨i, hi, rfl, hz⟩ := hrel
      by_cases hlp : i < padN n
      · have hpi : (i : Int) < (padN n : Int) := by omega
        obtain ⟨z, hzz⟩ : ∃ z, z = (R.drop n).getD i 0 := ⟨_, rfl⟩
        have hci := HCELL.out i hlp hend
        rw [← hzz] at hci
        have HZZ := Lib.hid hzz
        clear hzz
        by_cases h00 : z = 0
        · rw [h00] at hci
          have HZ2 : Hid (∀ j, j < i + 1 → (R.drop n).getD j 0 = 0) := Lib.hid (fun j hj => by
            by_cases hji : j = i
            · rw [hji, ← HZZ.out]; exact h00
            · exact hz.out j (by omega))
          simp only [show ((0 : UInt8).toNat : Int) = 0 from rfl] at hci
          clear h00
          go_wp2_with fail
          go_round
          case rel => exact ⟨i + 1, by omega, by go_num, HZ2⟩
          case measure => simp [intOf]; omega
        · have hne0 : ¬ (z.toNat : Int) = 0 := fun e => h00 (UInt8.toNat_inj.mp (by have : (0 : UInt8).toNat = 0 := rfl; omega))
          have hne : ((z.toNat : Int) != 0) = true := by simpa using hne0
          have HBAD := Lib.hid (taken_bad hlp (by rw [← HZZ.out]; exact h00))
          clear h00
          go_wp2_with fail
          refine (giveUp_any w).mono ?_
          rintro e w1 ⟨rfl, rfl⟩
          go_wp2_with fail
          exact ⟨rfl, But.refl _ _ _, by rw [HBAD.out]⟩
      · obtain rfl : i = padN n := by omega
        have hc0 := HX.out.cellAt (i := 0) rfl
        have hf0 := HX.out.frozen 0
        have HG := Lib.hid (taken_good (by rw [HLEN.out]; omega) hz.out)
        clear hz
        go_wp2_with fail
        go_ret
        refine ⟨(But.refl _ _ _).setB 0 _, ?_⟩
        rw [HG.out]
        refine ⟨_, rfl, ⟨_, _, _, rfl, HB.out.head n (by omega)⟩, _, _, _, HX.out.set 0 _, ?_, HBEL.out.setCell (p := ⟨rb, 0, none⟩) (Nat.le_refl _) _, h0, by rw [List.length_drop, HLEN.out]; omega⟩
        have := HB.out.cut (n + padN n) (by omega)
        rw [if_neg hce] at this
        exact this
  · have hle : (len : Int) < (n : Int) + (padN n : Int) := by omega
    have HG : Hid (takenL n R = none) := Lib.hid (by unfold takenL; rw [if_pos (by rw [HLEN.out]; omega)])
    go_enter Try.func40, Try.ntmps40
    go_wp2_with fail
    refine (padding_any n w (by omega)).mono ?_
    rintro e w1 ⟨rfl, rfl⟩
    have hc0 := HX.out.cellAt (i := 0) rfl
    go_wp2_with fail
    refine (giveUp_any w).mono ?_
    rintro e w1 ⟨rfl, rfl⟩
    go_wp2_with fail
    exact ⟨rfl, But.refl _ _ _, by rw [HG.out]⟩

end Go.Proofs.Ythjihibocobndaa

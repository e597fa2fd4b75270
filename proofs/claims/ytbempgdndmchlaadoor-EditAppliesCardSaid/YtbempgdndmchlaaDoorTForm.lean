/-
  Do names rise; is a tree of the form, what is in it aside: the program's rising, target, formed. No conditions.
-/
import Derived.Test.YtbempgdndmchlaaDoorTree
namespace Go.Proofs.YtbempgdndmchlaaDoor
open Go.RowKit
set_option linter.unusedVariables false

/-- The first k names rise. -/
def risingTo (l : List ByteArray) (k : Nat) : Prop := ∀ i, i < k → tName (l.getD i ⟨#[]⟩).data.toList = true ∧ (1 ≤ i → leS (l.getD i ⟨#[]⟩) (l.getD (i - 1) ⟨#[]⟩) = false)

theorem risingTo_step {l : List ByteArray} {k : Nat} (h : risingTo l k) (h1 : tName (l.getD k ⟨#[]⟩).data.toList = true) (h2 : 1 ≤ k → leS (l.getD k ⟨#[]⟩) (l.getD (k - 1) ⟨#[]⟩) = false) : risingTo l (k + 1) := by
  intro i hi
  by_cases e : i = k
  · subst e; exact ⟨h1, h2⟩
  · exact h i (by omega)

set_option maxRecDepth 100000 in
set_option maxHeartbeats 8000000 in
theorem rising_any (a : Option Addr) (n cap : Nat) (l : List ByteArray) (w : World) (hl : IsS w a n cap l) :
    Calls Tryd.prog 62 #[.slice a n cap] w fun e w' => e = .returned (.bool (risingT l)) ∧ w = w' := by
  have HL := Lib.hid hl
  clear hl
  go_enter Tryd.func62, Tryd.ntmps62
  go_wp2_with fail
  go_loopw [7] (fun ii wr => ∃ k : Nat, k ≤ n ∧ ii = .int .i64 k ∧ risingTo l k ∧ w = wr) (fun ii _ => n - (intOf ii).toNat)
  case atStart => exact ⟨0, Nat.zero_le _, rfl, fun i hi => by omega, rfl⟩
  case round =>
    obtain ⟨k, hk, rfl, hok, rfl⟩ := hrel
    by_cases hlt : k < n
    · rcases HL.out.at_ with h0 | ⟨b, off, rfl, hb, hc⟩
      · omega
      have hck := hc k hlt
      have hkl : Hid (k < l.length) := Lib.hid (by rw [HL.out.length]; exact hlt)
      obtain ⟨s, hs⟩ : ∃ s, s = l.getD k ⟨#[]⟩ := ⟨_, rfl⟩
      rw [← hs] at hck
      have HS := Lib.hid hs
      have hki : (k : Int) < (n : Int) := by omega
      have HOK := Lib.hid hok
      clear hs hok
      cases hn : tName s.data.toList
      · have HN := Lib.hid hn
        have HR : Hid (risingT l = false) := Lib.hid (risingT_name hkl.out (by rw [← HS.out]; exact HN.out))
        clear hn hc
        go_wp2_with fail
        refine (name_any _ _).mono ?_
        rintro e w' ⟨rfl, rfl⟩
        rw [HN.out]
        go_wp2_with fail
        go_ret
        exact ⟨by rw [HR.out]; rfl, rfl⟩
      · have HN := Lib.hid hn
        clear hn
        rcases Nat.eq_zero_or_pos k with h0 | hpos
        · have hpi : ¬ (0 : Int) < (k : Int) := by omega
          have HST := Lib.hid (risingTo_step HOK.out (by rw [← HS.out]; exact HN.out) (fun h => by omega))
          clear hc h0
          go_wp2_with fail
          refine (name_any _ _).mono ?_
          rintro e w' ⟨rfl, rfl⟩
          rw [HN.out]
          go_wp2_with fail
          go_roundw
          case rel => exact ⟨k + 1, by omega, by go_num, HST.out, by trivial⟩
          case measure => simp [intOf]; omega
        · have hcp := hc (k - 1) (by omega)
          obtain ⟨p, hp⟩ : ∃ p, p = l.getD (k - 1) ⟨#[]⟩ := ⟨_, rfl⟩
          rw [← hp] at hcp
          have HP := Lib.hid hp
          obtain ⟨j, rfl⟩ : ∃ j, k = j + 1 := ⟨k - 1, by omega⟩
          have hroom := HL.out.room
          unfold maxLen at hroom
          have hwr : wrap64 (((j + 1 : Nat) : Int) - 1) = (j : Int) := by
            rw [show ((j + 1 : Nat) : Int) - 1 = (j : Int) by omega]
            unfold wrap64; omega
          rw [Nat.add_sub_cancel] at hcp
          have hpi : (0 : Int) < ((j + 1 : Nat) : Int) := by omega
          clear hc hp
          cases hle : leS s p
          · have hl1 : Op.bytesLess s.toList p.toList = false := by
              unfold leS at hle; rw [Bool.or_eq_false_iff] at hle; exact hle.1
            have hl2 : (s.toList == p.toList) = false := by
              unfold leS at hle; rw [Bool.or_eq_false_iff] at hle; exact hle.2
            have HST := Lib.hid (risingTo_step HOK.out (by rw [← HS.out]; exact HN.out) (fun _ => by rw [← HS.out, ← HP.out]; exact hle))
            clear hle
            go_wp2_with fail
            refine (name_any _ _).mono ?_
            rintro e w' ⟨rfl, rfl⟩
            rw [HN.out]
            go_wp2_with fail
            go_roundw
            case rel => exact ⟨j + 1 + 1, by omega, by go_num, HST.out, by trivial⟩
            case measure => simp [intOf]; omega
          · have HR : Hid (risingT l = false) := Lib.hid (risingT_less hkl.out (by omega) (by rw [← HS.out, ← HP.out]; exact hle))
            have hl1 : (Op.bytesLess s.toList p.toList || s.toList == p.toList) = true := hle
            cases hb1 : Op.bytesLess s.toList p.toList
            · have hb2 : (s.toList == p.toList) = true := by rw [hb1, Bool.false_or] at hl1; exact hl1
              clear hle hl1
              go_wp2_with fail
              refine (name_any _ _).mono ?_
              rintro e w' ⟨rfl, rfl⟩
              rw [HN.out]
              go_wp2_with fail
              go_ret
              exact ⟨by rw [HR.out]; rfl, rfl⟩
            · clear hle hl1
              go_wp2_with fail
              refine (name_any _ _).mono ?_
              rintro e w' ⟨rfl, rfl⟩
              rw [HN.out]
              go_wp2_with fail
              go_ret
              exact ⟨by rw [HR.out]; rfl, rfl⟩
    · obtain rfl : k = n := by omega
      have HR : Hid (risingT l = true) := Lib.hid (risingT_good (by rw [HL.out.length]; exact hok))
      clear hok
      go_wp2_with fail
      go_ret
      exact ⟨by rw [HR.out]; rfl, rfl⟩

end Go.Proofs.YtbempgdndmchlaaDoor

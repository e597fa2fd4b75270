/-
  The contract of the reference's ReadHex: the same bytes, or the same refusal. Conditions: at most 2^46 digits.
-/
import Derived.Test.YtokbakpbhpknfaaReadHex
import Derived.Deep.AppendLies
namespace Go.Proofs.Ytokbakpbhpknfaa.Nam
open Go.RowKit

/-- What two digits come to behind j of them. -/
def part (a b : UInt8) (j : Nat) : Int := if j = 0 then 0 else if j = 1 then dv a else dv a * 16 + dv b

/-- What is handed back for bytes that may be nil. -/
def RdPost (o : Option (List UInt8)) (w : World) (e : Ending) (w' : World) : Prop :=
  (∀ p, o = some p → ∃ a c, e = .returned (.tuple #[.slice a p.length c, .int .i64 0]) ∧ IsB w' a p.length c p) ∧
  (o = none → e = .returned (.tuple #[.slice none 0 0, .int .i64 3])) ∧ Below w.heap.size w w'

set_option maxRecDepth 100000 in
set_option maxHeartbeats 4000000 in
theorem rreadhex_any (s : ByteArray) (w : World) (hm : s.size ≤ 140737488355328) :
    Calls Try.prog 18 #[.string s] w fun e w' => RdPost (unhex s.data.toList) w e w' := by
  obtain ⟨i0, hi, hz0', hz1, hz2⟩ := info_parts info_u8
  have hl : (prs s.data.toList).length = s.size / 2 := by rw [prs_length]; simp
  have hlen : s.data.toList.length = s.size := by simp
  have HL := Lib.hid hl
  have HLEN := Lib.hid hlen
  clear hl hlen
  go_enter Try.func18, Try.ntmps18
  go_wp2_with fail
  go_loopw [4, 5] (fun v i wr => ∃ t : Nat, 2 * t ≤ s.size ∧ i = .int .i64 (2 * (t : Int)) ∧ okd (s.data.toList.take (2 * t)) = true ∧ wr.ownsRow w.heap.size 5 1 v t (((prs s.data.toList).take t).map bv) ∧ Below w.heap.size w wr) (fun _ i _ => (s.size - (intOf i).toNat))
  case atStart => exact ⟨0, by omega, rfl, by simp [okd], World.ownsRow_nil _ _ _ _, Below.refl _ _⟩
  case round =>
    obtain ⟨t, ht, rfl, hok, hown, hbel⟩ := hrel
    have hsz := hbel.size
    have htb : (t : Int) ≤ 70368744177664 := by omega
    by_cases hlt : 2 * t + 1 < s.size
    · have hA : 2 * t < s.size := by omega
      have hga : (s[2 * t]'hA) = s.data.toList.getD (2 * t) 0 := by
        rw [List.getD_eq_getElem?_getD, List.getElem?_eq_getElem (by rw [HLEN.out]; exact hA)]
        rfl
      have hgb : (s[2 * t + 1]'hlt) = s.data.toList.getD (2 * t + 1) 0 := by
        rw [List.getD_eq_getElem?_getD, List.getElem?_eq_getElem (by rw [HLEN.out]; exact hlt)]
        rfl
      have hba := unhex_bad s.data.toList (2 * t) (by rw [HLEN.out]; exact hA)
      have hbb := unhex_bad s.data.toList (2 * t + 1) (by rw [HLEN.out]; exact hlt)
      have hpg := prs_get s.data.toList t (by rw [HLEN.out]; exact hlt)
      have htk : s.data.toList.take (2 * (t + 1)) = s.data.toList.take (2 * t) ++ [s.data.toList.getD (2 * t) 0, s.data.toList.getD (2 * t + 1) 0] := by
        rw [show 2 * (t + 1) = 2 * t + 1 + 1 from by omega, take_one _ 0 (2 * t + 1) (by rw [HLEN.out]; exact hlt), take_one _ 0 (2 * t) (by rw [HLEN.out]; exact hA)]
        simp
      have hpt : (prs s.data.toList).take (t + 1) = (prs s.data.toList).take t ++ [two (s.data.toList.getD (2 * t) 0) (s.data.toList.getD (2 * t + 1) 0)] := by
        have hk : t < (prs s.data.toList).length := by rw [HL.out]; omega
        rw [List.take_succ_eq_append_getElem hk]
        rw [List.getElem?_eq_getElem hk] at hpg
        rw [Option.some.inj hpg]
      clear hpg
      generalize s.data.toList.getD (2 * t) 0 = a at *
      generalize s.data.toList.getD (2 * t + 1) 0 = b at *
      have HBA := Lib.hid hba
      have HBB := Lib.hid hbb
      have HTK := Lib.hid htk
      have HPT := Lib.hid hpt
      have HOK := Lib.hid hok
      have hcB : ((2 : Int) * (t : Int) + 1) < (s.size : Int) := by omega
      have hcA : ((2 : Int) * (t : Int)) < (s.size : Int) := by omega
      clear hba hbb htk hpt hok
      have OWN := Lib.hid hown
      have BEL := Lib.hid hbel
      clear hown hbel
      go_wp2_with fail
      go_loop [6, 7] (fun vv kk => ∃ j : Nat, j ≤ 2 ∧ kk = .int .i64 (2 * (t : Int) + (j : Int)) ∧ vv = .int .i64 (part a b j) ∧ (1 ≤ j → 0 ≤ dv a) ∧ (2 ≤ j → 0 ≤ dv b)) (fun _ kk => (2 * (t : Int) + 2 - intOf kk).toNat)
      case atStart => exact ⟨0, by omega, by simp, rfl, by omega, by omega⟩
      case round =>
        obtain ⟨j, hj, rfl, rfl, hj1, hj2⟩ := hrel
        have HJ1 := Lib.hid hj1
        have HJ2 := Lib.hid hj2
        clear hj1 hj2
        have hcase : j = 0 ∨ j = 1 ∨ j = 2 := by omega
        rcases hcase with rfl | rfl | rfl
        · have hp0 : part a b 0 = 0 := rfl
          rw [hp0]
          have hz : ((0 : Nat) : Int) = 0 := rfl
          rw [hz, Int.add_zero]
          clear hp0 hz
          rcases dv_cases a with ⟨c1, c2, c3⟩ | ⟨c1, c2, c3⟩ | ⟨c1, c2, c3⟩
          · have d1 : (48 : Int) ≤ (a.toNat : Int) := by omega
            have d2 : (a.toNat : Int) ≤ 57 := by omega
            have C3 := Lib.hid c3
            clear c1 c2 c3
            go_wp2_with fail
            go_round
            case rel => exact ⟨1, by omega, by go_num, by rw [show part a b 1 = dv a from rfl, C3.out], by intro _; rw [C3.out]; omega, by omega⟩
            case measure => simp [intOf]; omega
          · have d1 : (97 : Int) ≤ (a.toNat : Int) := by omega
            have d2 : (a.toNat : Int) ≤ 102 := by omega
            have C3 := Lib.hid c3
            clear c1 c2 c3
            go_wp2_with fail
            go_round
            case rel => exact ⟨1, by omega, by go_num, by rw [show part a b 1 = dv a from rfl, C3.out]; go_num, by intro _; rw [C3.out]; omega, by omega⟩
            case measure => simp [intOf]; omega
          · have d0 : (a.toNat : Int) < 256 := by have := a.toNat_lt; omega
            have d3 : (0 : Int) ≤ (a.toNat : Int) := by omega
            have C3 := Lib.hid c3
            have C4 := Lib.hid c1
            have C5 := Lib.hid c2
            by_cases e1 : (48 : Int) ≤ (a.toNat : Int)
            · have e2 : ¬ (a.toNat : Int) ≤ 57 := by omega
              by_cases e3 : (97 : Int) ≤ (a.toNat : Int)
              · have e4 : ¬ (a.toNat : Int) ≤ 102 := by omega
                clear c1 c2 c3
                go_wp2_with fail
                go_ret2
                rw [HBA.out (by rw [C3.out]; omega)]
                exact ⟨(fun p hp => by cases hp), (fun _ => rfl), BEL.out⟩
              · clear c1 c2 c3
                go_wp2_with fail
                go_ret2
                rw [HBA.out (by rw [C3.out]; omega)]
                exact ⟨(fun p hp => by cases hp), (fun _ => rfl), BEL.out⟩
            · have e3 : ¬ (97 : Int) ≤ (a.toNat : Int) := by omega
              clear c1 c2 c3
              go_wp2_with fail
              go_ret2
              rw [HBA.out (by rw [C3.out]; omega)]
              exact ⟨(fun p hp => by cases hp), (fun _ => rfl), BEL.out⟩
        · have hp1 : part a b 1 = dv a := rfl
          rw [hp1]
          have hz : ((1 : Nat) : Int) = 1 := rfl
          rw [hz]
          clear hp1 hz
          have da0 : 0 ≤ dv a := HJ1.out (by omega)
          have da1 := dv_lt a
          obtain ⟨x, hx⟩ : ∃ x, x = dv a := ⟨_, rfl⟩
          rw [← hx] at da0 da1 ⊢
          have HX := Lib.hid hx
          have HP2 : Hid (part a b 2 = x * 16 + dv b) := Lib.hid (by rw [hx]; rfl)
          clear hx
          rcases dv_cases b with ⟨c1, c2, c3⟩ | ⟨c1, c2, c3⟩ | ⟨c1, c2, c3⟩
          · have d1 : (48 : Int) ≤ (b.toNat : Int) := by omega
            have d2 : (b.toNat : Int) ≤ 57 := by omega
            have C3 := Lib.hid c3
            clear c1 c2 c3
            go_wp2_with fail
            go_round
            case rel => exact ⟨2, by omega, by go_num, by rw [HP2.out, C3.out]; go_num, fun _ => da0, by intro _; rw [C3.out]; omega⟩
            case measure => simp [intOf]; omega
          · have d1 : (97 : Int) ≤ (b.toNat : Int) := by omega
            have d2 : (b.toNat : Int) ≤ 102 := by omega
            have C3 := Lib.hid c3
            clear c1 c2 c3
            go_wp2_with fail
            go_round
            case rel => exact ⟨2, by omega, by go_num, by rw [HP2.out, C3.out]; go_num, fun _ => da0, by intro _; rw [C3.out]; omega⟩
            case measure => simp [intOf]; omega
          · skip
            have d0 : (b.toNat : Int) < 256 := by have := b.toNat_lt; omega
            have d3 : (0 : Int) ≤ (b.toNat : Int) := by omega
            have C3 := Lib.hid c3
            by_cases e1 : (48 : Int) ≤ (b.toNat : Int)
            · have e2 : ¬ (b.toNat : Int) ≤ 57 := by omega
              by_cases e3 : (97 : Int) ≤ (b.toNat : Int)
              · have e4 : ¬ (b.toNat : Int) ≤ 102 := by omega
                clear c1 c2 c3
                go_wp2_with fail
                go_ret2
                rw [HBB.out (by rw [C3.out]; omega)]
                exact ⟨(fun p hp => by cases hp), (fun _ => rfl), BEL.out⟩
              · clear c1 c2 c3
                go_wp2_with fail
                go_ret2
                rw [HBB.out (by rw [C3.out]; omega)]
                exact ⟨(fun p hp => by cases hp), (fun _ => rfl), BEL.out⟩
            · have e3 : ¬ (97 : Int) ≤ (b.toNat : Int) := by omega
              clear c1 c2 c3
              go_wp2_with fail
              go_ret2
              rw [HBB.out (by rw [C3.out]; omega)]
              exact ⟨(fun p hp => by cases hp), (fun _ => rfl), BEL.out⟩
        · have da0 : 0 ≤ dv a := HJ1.out (by omega)
          have da1 := dv_lt a
          have db0 : 0 ≤ dv b := HJ2.out (by omega)
          have db1 := dv_lt b
          rw [show part a b 2 = dv a * 16 + dv b from rfl]
          have htwo : bv (two a b) = .int .u8 (dv a * 16 + dv b) := by
            unfold bv two
            rw [UInt8.toNat_ofNat']
            congr 1
            omega
          have hokk : okd [a, b] = true := by simp [okd, da0, db0]
          obtain ⟨z, hz⟩ : ∃ z, z = dv a * 16 + dv b := ⟨_, rfl⟩
          have hz0 : 0 ≤ z := by omega
          have hz256 : z < 256 := by omega
          rw [← hz] at htwo ⊢
          have HTWO := Lib.hid htwo
          have HOKK := Lib.hid hokk
          clear htwo hokk da0 da1 db0 db1 hz hj
          go_wp2_with (at_builtin; go_must (refine wpList_append_lies _ rfl (.tmp 53) (.tmp 56) 38 rfl w.heap.size 5 i0 (.int .u8 0) 1 1 Try.underlying38 hi hz0' hz1 hz2 rfl (by omega) _ t (((prs s.data.toList).take t).map bv) rfl (OWN.out.alloc _) ⟨wr.heap.size, 0, none⟩ 1 1 [.int .u8 z] rfl rfl ?c1 ?c2 ?c3 ?c4 ?c5 ?c6 _ rfl ?c7))
          case c2 => rfl
          case c4 => unfold maxLen; omega
          case c5 => omega
          case c6 => omega
          intro g cap2 w2 hown2 hgrow2 _ _
          have hown3 : w2.ownsRow w.heap.size 5 1 (.slice (some ⟨g, 0, none⟩) (t + 1) cap2) (t + 1) (((prs s.data.toList).take (t + 1)).map bv) := by
            rw [HPT.out, List.map_append, List.map_singleton, HTWO.out]; simpa using hown2
          have hbel2 : Below w.heap.size w w2 := (BEL.out.alloc hsz _).grown hgrow2 (by simp; omega) (fun k hk => (OWN.out.lt k hk).1)
          clear hown2 hgrow2
          go_wp2
          go_roundw
          case rel => exact ⟨t + 1, by omega, by go_num, by rw [HTK.out]; unfold okd at *; rw [List.all_append, HOK.out]; exact HOKK.out, hown3, hbel2⟩
          case measure => simp [intOf]; omega
    · have hlt2 : ¬ ((2 : Int) * (t : Int) + 1) < (s.size : Int) := by omega
      have ht2 : t = s.size / 2 := by omega
      rcases Nat.mod_two_eq_zero_or_one s.size with hev | hodd
      · have hun : unhex s.data.toList = some (prs s.data.toList) := by
          unfold unhex
          have h1 := hok
          rw [List.take_of_length_le (by rw [HLEN.out]; omega)] at h1
          rw [if_pos ⟨by rw [HLEN.out]; exact hev, h1⟩]
        have HUN := Lib.hid hun
        have hrow : (prs s.data.toList).take t = prs s.data.toList := List.take_of_length_le (by rw [HL.out]; omega)
        have hm2 : ((s.size : Int) % 2 == 1) = false := by
          have : (s.size : Int) % 2 = 0 := by omega
          rw [this]; rfl
        rw [hrow] at hown
        obtain ⟨a, c, rfl, hI, _⟩ := isB_of_owns hown
        have HI := Lib.hid hI
        have HT2 : Hid (t = (prs s.data.toList).length) := Lib.hid (by rw [HL.out]; exact ht2)
        clear hok hun hrow hev hown hI ht2
        go_wp2_with fail
        go_ret2
        rw [HUN.out]
        refine ⟨(fun p hp => ?_), (fun h => by cases h), hbel⟩
        cases hp
        exact ⟨a, c, by rw [← HT2.out]; rfl, by rw [← HT2.out]; exact HI.out⟩
      · have hun := unhex_odd s.data.toList (by rw [HLEN.out]; omega)
        have HUN := Lib.hid hun
        have hm2 : ((s.size : Int) % 2 == 1) = true := by
          have : (s.size : Int) % 2 = 1 := by omega
          rw [this]; rfl
        clear hok hun hodd hown ht2
        go_wp2_with fail
        go_ret2
        rw [HUN.out]
        exact ⟨(fun p hp => by cases hp), (fun _ => rfl), hbel⟩

end Go.Proofs.Ytokbakpbhpknfaa.Nam

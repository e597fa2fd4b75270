/-
  Is a tree right, what is in it aside: the reference's own. Condition: the names are no longer than memory.
-/
import Derived.Deep.Cut
import Derived.Test.YtbempgdndmchlaaDoorTForm2
import Derived.Test.YtbempgdndmchlaaDoorTOpen
import Derived.Deep.QuietTactic
import Derived.BigQuiet
namespace Go.Proofs.YtbempgdndmchlaaDoor
open Go.RowKit
set_option linter.unusedVariables false

theorem below_drewN {B : Nat} {a w : World} (h : Below B a w) (n : Nat) : Below B a (w.drewN n) := ⟨h.os, h.tape, h.output, h.size, h.block⟩
theorem has_drewN {w : World} {b : Nat} {L : List Value} {t : TypeId} (h : Has w b L t) (n : Nat) : Has (w.drewN n) b L t := h
theorem IsS.drewN {w : World} {a : Option Addr} {len cap : Nat} {l : List ByteArray} (h : IsS w a len cap l) (n : Nat) : IsS (w.drewN n) a len cap l := h.later (below_drewN (Below.refl _ _) n)

theorem less_swap : ∀ p s : List UInt8, (!(Op.bytesLess p s)) = (Op.bytesLess s p || s == p)
  | [], [] => rfl
  | [], b :: s => rfl
  | a :: p, [] => rfl
  | a :: p, b :: s => by
    have ih := less_swap p s
    simp only [Op.bytesLess, List.cons_beq_cons]
    by_cases h1 : a < b
    · have h2 : ¬ b < a := by rw [UInt8.lt_iff_toNat_lt] at *; omega
      have h3 : (b == a) = false := by rw [beq_eq_false_iff_ne]; rintro rfl; exact h2 h1
      simp [h1, h2, h3]
    · by_cases h2 : b < a
      · have h3 : (b == a) = false := by rw [beq_eq_false_iff_ne]; rintro rfl; exact h1 h2
        have h4 : (a == b) = false := by rw [beq_eq_false_iff_ne]; rintro rfl; exact h1 h2
        simp [h1, h2, h3, h4]
      · have h3 : a = b := by rw [UInt8.lt_iff_toNat_lt] at *; exact UInt8.toNat_inj.1 (by omega)
        subst h3
        simpa [h1] using ih

set_option maxRecDepth 100000 in
set_option maxHeartbeats 20000000 in
theorem own_dir (x : Bool) (d : List UInt8) (ns : List ByteArray) (ks : List T) (w : World) (ad : Option Addr) (nd cd : Nat) (an : Option Addr) (nn cn : Nat) (ak : Option Addr) (nk ck : Nat)
    (ld : d.length = nd) (lk : ks.length = nk) (hS : IsS w an nn cn ns) (hsm : ∀ i, i < ns.length → (ns.getD i ⟨#[]⟩).size ≤ 140737488355328) :
    Calls Tryd.prog 50 #[.agg #[.int .u8 3, .bool x, .slice ad nd cd, .slice an nn cn, .slice ak nk ck]] w fun e w' => e = .returned (.bool (formedT (.mk 3 x d ns ks))) ∧ Below w.heap.size w w' := by
  have ln := hS.length
  rw [formedT_dir, empty_len, ld, ln, lk]
  have hnot : ∀ (x : Bool) (w : World), (Op.unary .not (.bool x)).run Tryd.prog w = .ok (.bool (!x)) w := fun _ _ => rfl
  have HS := Lib.hid hS
  have HSM := Lib.hid hsm
  clear hS ld lk ln hsm
  go_enter Tryd.func50, Tryd.ntmps50
  go_wp2_with fail
  obtain ⟨w1, hw1⟩ : ∃ w1, w1 = w.alloc (.cells #[.int .u8 3, .bool x, .slice ad nd cd, .slice an nn cn, .slice ak nk ck] 26) := ⟨_, rfl⟩
  have g1 : Has w1 w.heap.size [.int .u8 3, .bool x, .slice ad nd cd, .slice an nn cn, .slice ak nk ck] 26 := by rw [hw1]; exact Has.new w _ _
  have b1 : Below w.heap.size w w1 := by rw [hw1]; exact (Below.refl _ _).alloc (Nat.le_refl _) _
  rw [← hw1]
  have HS1 := Lib.hid (HS.out.later b1)
  have B1 := Lib.hid b1
  have G1 := Lib.hid g1
  clear hw1 b1 HS g1
  obtain ⟨g, hg⟩ : ∃ g, g = w.heap.size := ⟨_, rfl⟩
  rw [← hg] at G1 B1 ⊢
  have HGE := Lib.hid hg
  clear hg
  go_loopw [4] (fun ii wr => ∃ (k : Nat), k ≤ nn ∧ ii = .int .i64 k ∧ risingTo ns k ∧ Has wr g [.int .u8 3, .bool x, .slice ad nd cd, .slice an nn cn, .slice ak nk ck] 26 ∧ IsS wr an nn cn ns ∧ Below g w wr) (fun ii _ => nn - (intOf ii).toNat)
  case atStart => exact ⟨0, Nat.zero_le _, rfl, fun i hi => by omega, G1.out, HS1.out, B1.out⟩
  case round =>
    clear G1 HS1 B1
    obtain ⟨k, hk, rfl, hok, hg, hS, hbel⟩ := hrel
    have cg1 := hg.cellAt (i := 1) rfl
    have cg2 := hg.cellAt (i := 2) rfl
    have cg3 := hg.cellAt (i := 3) rfl
    have cg4 := hg.cellAt (i := 4) rfl
    have HG := Lib.hid hg
    have HL := Lib.hid hS
    have HBE := Lib.hid hbel
    clear hg hS hbel
    by_cases hlt : k < nn
    · rcases HL.out.at_ with h0 | ⟨b, off, rfl, hb, hc⟩
      · omega
      have hck := hc k hlt
      have hkl : Hid (k < ns.length) := Lib.hid (by rw [HL.out.length]; exact hlt)
      have hsz := Lib.hid (HSM.out k hkl.out)
      obtain ⟨s, hs⟩ : ∃ s, s = ns.getD k ⟨#[]⟩ := ⟨_, rfl⟩
      rw [← hs] at hck hsz
      have HS := Lib.hid hs
      have hki : (k : Int) < (nn : Int) := by omega
      have HOK := Lib.hid hok
      have HQ := Lib.hid (fun w => rname_any s w hsz.out)
      clear hs hok
      cases hn : tName s.data.toList
      · have HN := Lib.hid hn
        have HR : Hid (risingT ns = false) := Lib.hid (risingT_name hkl.out (by rw [← HS.out]; exact HN.out))
        have HQF : Hid (∀ w, Calls Tryd.prog 35 #[.string s] w fun e w' => e = .returned (.bool false) ∧ w = w') := Lib.hid (by rw [← HN.out]; exact HQ.out)
        clear hn hc HQ
        go_upto_region 15 with fail
        go_quiet ((go_at_call 35; exact Calls.quiet_of_same ((HQF.out _).mono (fun e w' h => ⟨h.1, h.2.symm⟩))))
        go_wp2_with fail
        go_ret
        exact ⟨by rw [HR.out, Bool.and_false]; rfl, by rw [← HGE.out]; exact below_drewN HBE.out _⟩
      · have HN := Lib.hid hn
        have HQF : Hid (∀ w, Calls Tryd.prog 35 #[.string s] w fun e w' => e = .returned (.bool true) ∧ w = w') := Lib.hid (by rw [← HN.out]; exact HQ.out)
        clear hn HQ
        rcases Nat.eq_zero_or_pos k with h0 | hpos
        · have hpi : ¬ (0 : Int) < (k : Int) := by omega
          have hp2 : ¬ 0 < k := by omega
          have HST := Lib.hid (risingTo_step HOK.out (by rw [← HS.out]; exact HN.out) (fun h => by omega))
          clear hc h0
          go_upto_region 15 with fail
          go_quiet ((go_at_call 35; exact Calls.quiet_of_same ((HQF.out _).mono (fun e w' h => ⟨h.1, h.2.symm⟩))))
          go_wp2_with fail
          go_roundw
          case rel => exact ⟨k + 1, by omega, by go_num, HST.out, has_drewN HG.out _, HL.out.drewN _, below_drewN HBE.out _⟩
          case measure => simp [intOf]; omega
        · have hcp := hc (k - 1) (by omega)
          obtain ⟨p, hp⟩ : ∃ p, p = ns.getD (k - 1) ⟨#[]⟩ := ⟨_, rfl⟩
          rw [← hp] at hcp
          have HP := Lib.hid hp
          obtain ⟨j, rfl⟩ : ∃ j, k = j + 1 := ⟨k - 1, by omega⟩
          have hroom := HL.out.room
          unfold maxLen at hroom
          have hwr : wrap64 (((j + 1 : Nat) : Int) - 1) = (j : Int) := by
            rw [show ((j + 1 : Nat) : Int) - 1 = (j : Int) by omega]
            unfold wrap64; omega
          rw [Nat.add_sub_cancel] at hcp
          have hpi : (0 : Int) < ((j + 1 : Nat) : Int) := by omega
          have hsw := Lib.hid (less_swap p.toList s.toList)
          clear hc hp
          cases hle : Op.bytesLess p.toList s.toList
          · have HR : Hid (risingT ns = false) := Lib.hid (risingT_less hkl.out (by omega) (by
              rw [← HS.out, Nat.add_sub_cancel, ← show p = ns.getD j ⟨#[]⟩ from HP.out]
              unfold leS
              rw [← hsw.out, hle]; rfl))
            go_upto_region 15 with fail
            go_quiet ((go_at_call 35; exact Calls.quiet_of_same ((HQF.out _).mono (fun e w' h => ⟨h.1, h.2.symm⟩))))
            go_wp2_with fail
            go_ret
            exact ⟨by rw [HR.out, Bool.and_false]; rfl, by rw [← HGE.out]; exact below_drewN HBE.out _⟩
          · have HST := Lib.hid (risingTo_step HOK.out (by rw [← HS.out]; exact HN.out) (fun _ => by
              rw [← HS.out, Nat.add_sub_cancel, ← show p = ns.getD j ⟨#[]⟩ from HP.out]
              unfold leS
              rw [← hsw.out, hle]; rfl))
            go_upto_region 15 with fail
            go_quiet ((go_at_call 35; exact Calls.quiet_of_same ((HQF.out _).mono (fun e w' h => ⟨h.1, h.2.symm⟩))))
            go_wp2_with fail
            go_roundw
            case rel => exact ⟨j + 1 + 1, by omega, by go_num, HST.out, has_drewN HG.out _, HL.out.drewN _, below_drewN HBE.out _⟩
            case measure => simp [intOf]; omega
    · obtain rfl : k = nn := by omega
      have HR : Hid (risingT ns = true) := Lib.hid (risingT_good (by rw [HL.out.length]; exact hok))
      clear hok
      cases x
      · by_cases hd : nd = 0
        · subst hd
          by_cases hnk : k = nk
          · subst hnk
            go_wp2_with fail
            go_ret
            exact ⟨by rw [HR.out]; simp, by rw [← HGE.out]; exact HBE.out⟩
          · have hne : ((k : Int) == (nk : Int)) = false := by rw [beq_eq_false_iff_ne]; omega
            have hne' : ¬ (k : Int) = (nk : Int) := by omega
            have hr : Hid (decide (k = nk) = false) := Lib.hid (decide_eq_false hnk)
            clear hnk
            go_wp2_with fail
            go_ret
            exact ⟨by rw [hr.out]; rfl, by rw [← HGE.out]; exact HBE.out⟩
        · have hne : ((nd : Int) == 0) = false := by rw [beq_eq_false_iff_ne]; omega
          have hne' : ¬ (nd : Int) = 0 := by omega
          have hr : Hid (decide (nd = 0) = false) := Lib.hid (decide_eq_false hd)
          clear hd
          go_wp2_with fail
          go_ret
          exact ⟨by rw [hr.out]; rfl, by rw [← HGE.out]; exact HBE.out⟩
      · go_wp2_with fail
        go_ret
        exact ⟨rfl, by rw [← HGE.out]; exact HBE.out⟩

end Go.Proofs.YtbempgdndmchlaaDoor

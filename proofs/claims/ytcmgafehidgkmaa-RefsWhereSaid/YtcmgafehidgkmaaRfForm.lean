/-
  Is a tree of the form: the reference's Form, and what it leans on. Conditions: the names are no longer than memory.
-/
import Derived.Deep.Cut
import Derived.Test.YtcmgafehidgkmaaRfTree
import Derived.Test.YtcmgafehidgkmaaTOpen
import Derived.Deep.QuietTactic
import Derived.BigQuiet
namespace Go.Proofs.Ytcmgafehidgkmaa
open Go.RowKit
set_option linter.unusedVariables false

/-- The first k names rise. -/
def risingTo (l : List ByteArray) (k : Nat) : Prop := ∀ i, i < k → tName (l.getD i ⟨#[]⟩).data.toList = true ∧ (1 ≤ i → leS (l.getD i ⟨#[]⟩) (l.getD (i - 1) ⟨#[]⟩) = false)

theorem risingTo_step {l : List ByteArray} {k : Nat} (h : risingTo l k) (h1 : tName (l.getD k ⟨#[]⟩).data.toList = true) (h2 : 1 ≤ k → leS (l.getD k ⟨#[]⟩) (l.getD (k - 1) ⟨#[]⟩) = false) : risingTo l (k + 1) := by
  intro i hi
  by_cases e : i = k
  · subst e; exact ⟨h1, h2⟩
  · exact h i (by omega)

def targetB (d : List UInt8) : Bool := decide (1 ≤ d.length) && decide (d.length ≤ 400) && !(d.contains 0)

set_option maxRecDepth 100000 in
set_option maxHeartbeats 8000000 in
theorem rname_any (s : ByteArray) (w : World) (hm : s.size ≤ 140737488355328) :
    Calls Try.prog 58 #[.string s] w fun e w' => e = .returned (.bool (tName s.data.toList)) ∧ w = w' := by
  have hlen : s.data.toList.length = s.size := by simp
  have HL := Lib.hid hlen
  clear hlen
  go_enter Try.func58, Try.ntmps58
  go_wp2_with fail
  go_loopw [3] (fun ii wr => ∃ k : Nat, k ≤ s.size ∧ ii = .int .i64 k ∧ clearTo s.data.toList k ∧ w = wr) (fun ii _ => s.size - (intOf ii).toNat)
  case atStart => exact ⟨0, Nat.zero_le _, rfl, ⟨by simp, by simp⟩, rfl⟩
  case round =>
    obtain ⟨k, hk, rfl, hok, rfl⟩ := hrel
    by_cases hlt : k < s.size
    · have hget := str_get s k hlt
      have hklt : k < s.data.toList.length := by rw [HL.out]; exact hlt
      have hki : (k : Int) < (s.size : Int) := by omega
      by_cases e47 : s.data.toList.getD k 0 = 47
      · have hres := Lib.hid (tName_slash (contains_at hklt e47))
        rw [e47] at hget
        clear hok e47 hklt
        go_wp2_with fail
        go_ret
        exact ⟨by rw [hres.out]; rfl, rfl⟩
      · by_cases e0 : s.data.toList.getD k 0 = 0
        · have hres := Lib.hid (tName_nul (contains_at hklt e0))
          rw [e0] at hget
          clear hok e0 e47 hklt
          go_wp2_with fail
          go_ret
          exact ⟨by rw [hres.out]; rfl, rfl⟩
        · have hstep := Lib.hid (clearTo_step hklt hok e47 e0)
          obtain ⟨c, hc⟩ : ∃ c, c = s.data.toList.getD k 0 := ⟨_, rfl⟩
          rw [← hc] at hget e47 e0
          have c47 : ((c.toNat : Int) == 47) = false := by
            have : c.toNat ≠ 47 := fun h => e47 (UInt8.toNat_inj.1 h)
            rw [beq_eq_false_iff_ne]; omega
          have c47' : ¬ (c.toNat : Int) = 47 := by simpa using c47
          have c0 : ((c.toNat : Int) == 0) = false := by
            have : c.toNat ≠ 0 := fun h => e0 (UInt8.toNat_inj.1 h)
            rw [beq_eq_false_iff_ne]; omega
          have c0' : ¬ (c.toNat : Int) = 0 := by simpa using c0
          clear hok e47 e0 hc hklt
          go_wp2_with fail
          go_roundw
          case rel => exact ⟨k + 1, by omega, by go_num, hstep.out, by trivial⟩
          case measure => simp [intOf]; omega
    · obtain rfl : k = s.size := by omega
      have h47 : s.data.toList.contains 47 = false := by
        have := hok.1
        rwa [List.take_of_length_le (by rw [HL.out]; exact Nat.le_refl _)] at this
      have h0 : s.data.toList.contains 0 = false := by
        have := hok.2
        rwa [List.take_of_length_le (by rw [HL.out]; exact Nat.le_refl _)] at this
      clear hok
      by_cases l1 : 1 ≤ s.size
      · have i1 : decide ((1 : Int) ≤ (s.size : Int)) = true := by simp; omega
        by_cases l80 : s.size ≤ 80
        · have i80 : decide ((s.size : Int) ≤ 80) = true := by simp; omega
          by_cases d1 : s = ⟨#[46]⟩
          · have hres : Hid (tName s.data.toList = false) := Lib.hid (by rw [d1]; decide)
            have n1 : (s.toList == [46]) = true := by rw [d1, ByteArray.toList_eq]; rfl
            clear h47 h0 d1
            go_wp2_with fail
            go_ret
            exact ⟨by rw [hres.out]; rfl, rfl⟩
          · have n1 : (s.toList == [46]) = false := by
              rw [beq_eq_false_iff_ne, ByteArray.toList_eq]; exact fun h => d1 (bytes_ext h)
            by_cases d2 : s = ⟨#[46, 46]⟩
            · have hres : Hid (tName s.data.toList = false) := Lib.hid (by rw [d2]; decide)
              have n2 : (s.toList == [46, 46]) = true := by rw [d2, ByteArray.toList_eq]; rfl
              clear h47 h0 d1 d2
              go_wp2_with fail
              go_ret
              exact ⟨by rw [hres.out]; rfl, rfl⟩
            · have n2 : (s.toList == [46, 46]) = false := by
                rw [beq_eq_false_iff_ne, ByteArray.toList_eq]; exact fun h => d2 (bytes_ext h)
              have hres := Lib.hid (tName_good (l := s.data.toList) (by rw [HL.out]; exact l1) (by rw [HL.out]; exact l80) (fun h => d1 (bytes_ext h)) (fun h => d2 (bytes_ext h)) h47 h0)
              clear h47 h0 d1 d2
              go_wp2_with fail
              go_ret
              exact ⟨by rw [hres.out]; rfl, rfl⟩
        · have i80 : decide ((s.size : Int) ≤ 80) = false := by simp; omega
          have hres := Lib.hid (tName_long (l := s.data.toList) (by rw [HL.out]; omega))
          clear h47 h0
          go_wp2_with fail
          go_ret
          exact ⟨by rw [hres.out]; rfl, rfl⟩
      · have i1 : decide ((1 : Int) ≤ (s.size : Int)) = false := by simp; omega
        have hres := Lib.hid (tName_empty (l := s.data.toList) (by rw [HL.out]; omega))
        clear h47 h0
        go_wp2_with fail
        go_ret
        exact ⟨by rw [hres.out]; rfl, rfl⟩

theorem formedT_dir (x : Bool) (d : List UInt8) (ns : List ByteArray) (ks : List T) : formedT (.mk 3 x d ns ks) = (!x && d.isEmpty && decide (ns.length = ks.length) && risingT ns) := by unfold formedT; dsimp only; rw [if_pos rfl]
theorem formedT_other {k : UInt8} (hk : k ≠ 3) (x : Bool) (d : List UInt8) (ns : List ByteArray) (ks : List T) : formedT (.mk k x d ns ks) = (ns.isEmpty && ks.isEmpty && (k == 1 || (k == 2 && !x && targetB d))) := by
  unfold formedT targetB; dsimp only; rw [if_neg hk]; simp only [Bool.and_assoc]

theorem empty_len {α : Type} (l : List α) : l.isEmpty = decide (l.length = 0) := by cases l <;> simp


theorem below_drewN {B : Nat} {a w : World} (h : Below B a w) (n : Nat) : Below B a (w.drewN n) := ⟨h.os, h.tape, h.output, h.size, h.block⟩
theorem has_drewN {w : World} {b : Nat} {L : List Value} {t : TypeId} (h : Has w b L t) (n : Nat) : Has (w.drewN n) b L t := h
theorem IsS.drewN {w : World} {a : Option Addr} {len cap : Nat} {l : List ByteArray} (h : IsS w a len cap l) (n : Nat) : IsS (w.drewN n) a len cap l := h.later (below_drewN (Below.refl _ _) n)

theorem less_swap : ∀ p s : List UInt8, (!(Op.bytesLess p s)) = (Op.bytesLess s p || s == p)
  | [], [] => rfl
  | [], b :: s => rfl
  | a :: p, [] => rfl
  | a :: p, b :: s => by
    have ih := less_swap p s
    simp only [Op.bytesLess, List.cons_beq_cons]
    by_cases h1 : a < b
    · have h2 : ¬ b < a := by rw [UInt8.lt_iff_toNat_lt] at *; omega
      have h3 : (b == a) = false := by rw [beq_eq_false_iff_ne]; rintro rfl; exact h2 h1
      simp [h1, h2, h3]
    · by_cases h2 : b < a
      · have h3 : (b == a) = false := by rw [beq_eq_false_iff_ne]; rintro rfl; exact h1 h2
        have h4 : (a == b) = false := by rw [beq_eq_false_iff_ne]; rintro rfl; exact h1 h2
        simp [h1, h2, h3, h4]
      · have h3 : a = b := by rw [UInt8.lt_iff_toNat_lt] at *; exact UInt8.toNat_inj.1 (by omega)
        subst h3
        simpa [h1] using ih

set_option maxRecDepth 100000 in
set_option maxHeartbeats 20000000 in
theorem own_dir (x : Bool) (d : List UInt8) (ns : List ByteArray) (ks : List T) (w : World) (ad : Option Addr) (nd cd : Nat) (an : Option Addr) (nn cn : Nat) (ak : Option Addr) (nk ck : Nat)
    (ld : d.length = nd) (lk : ks.length = nk) (hS : IsS w an nn cn ns) (hsm : ∀ i, i < ns.length → (ns.getD i ⟨#[]⟩).size ≤ 140737488355328) :
    Calls Try.prog 42 #[.agg #[.int .u8 3, .bool x, .slice ad nd cd, .slice an nn cn, .slice ak nk ck]] w fun e w' => e = .returned (.bool (formedT (.mk 3 x d ns ks))) ∧ Below w.heap.size w w' := by
  have ln := hS.length
  rw [formedT_dir, empty_len, ld, ln, lk]
  have hnot : ∀ (x : Bool) (w : World), (Op.unary .not (.bool x)).run Try.prog w = .ok (.bool (!x)) w := fun _ _ => rfl
  have HS := Lib.hid hS
  have HSM := Lib.hid hsm
  clear hS ld lk ln hsm
  go_enter Try.func42, Try.ntmps42
  go_wp2_with fail
  obtain ⟨w1, hw1⟩ : ∃ w1, w1 = w.alloc (.cells #[.int .u8 3, .bool x, .slice ad nd cd, .slice an nn cn, .slice ak nk ck] 30) := ⟨_, rfl⟩
  have g1 : Has w1 w.heap.size [.int .u8 3, .bool x, .slice ad nd cd, .slice an nn cn, .slice ak nk ck] 30 := by rw [hw1]; exact Has.new w _ _
  have b1 : Below w.heap.size w w1 := by rw [hw1]; exact (Below.refl _ _).alloc (Nat.le_refl _) _
  rw [← hw1]
  have HS1 := Lib.hid (HS.out.later b1)
  have B1 := Lib.hid b1
  have G1 := Lib.hid g1
  clear hw1 b1 HS g1
  obtain ⟨g, hg⟩ : ∃ g, g = w.heap.size := ⟨_, rfl⟩
  rw [← hg] at G1 B1 ⊢
  have HGE := Lib.hid hg
  clear hg
  go_loopw [4] (fun ii wr => ∃ (k : Nat), k ≤ nn ∧ ii = .int .i64 k ∧ risingTo ns k ∧ Has wr g [.int .u8 3, .bool x, .slice ad nd cd, .slice an nn cn, .slice ak nk ck] 30 ∧ IsS wr an nn cn ns ∧ Below g w wr) (fun ii _ => nn - (intOf ii).toNat)
  case atStart => exact ⟨0, Nat.zero_le _, rfl, fun i hi => by omega, G1.out, HS1.out, B1.out⟩
  case round =>
    clear G1 HS1 B1
    obtain ⟨k, hk, rfl, hok, hg, hS, hbel⟩ := hrel
    have cg1 := hg.cellAt (i := 1) rfl
    have cg2 := hg.cellAt (i := 2) rfl
    have cg3 := hg.cellAt (i := 3) rfl
    have cg4 := hg.cellAt (i := 4) rfl
    have HG := Lib.hid hg
    have HL := Lib.hid hS
    have HBE := Lib.hid hbel
    clear hg hS hbel
    by_cases hlt : k < nn
    · rcases HL.out.at_ with h0 | ⟨b, off, rfl, hb, hc⟩
      · omega
      have hck := hc k hlt
      have hkl : Hid (k < ns.length) := Lib.hid (by rw [HL.out.length]; exact hlt)
      have hsz := Lib.hid (HSM.out k hkl.out)
      obtain ⟨s, hs⟩ : ∃ s, s = ns.getD k ⟨#[]⟩ := ⟨_, rfl⟩
      rw [← hs] at hck hsz
      have HS := Lib.hid hs
      have hki : (k : Int) < (nn : Int) := by omega
      have HOK := Lib.hid hok
      have HQ := Lib.hid (fun w => rname_any s w hsz.out)
      clear hs hok
      cases hn : tName s.data.toList
      · have HN := Lib.hid hn
        have HR : Hid (risingT ns = false) := Lib.hid (risingT_name hkl.out (by rw [← HS.out]; exact HN.out))
        have HQF : Hid (∀ w, Calls Try.prog 58 #[.string s] w fun e w' => e = .returned (.bool false) ∧ w = w') := Lib.hid (by rw [← HN.out]; exact HQ.out)
        clear hn hc HQ
        go_upto_region 15 with fail
        go_quiet ((go_at_call 58; exact Calls.quiet_of_same ((HQF.out _).mono (fun e w' h => ⟨h.1, h.2.symm⟩))))
        go_wp2_with fail
        go_ret
        exact ⟨by rw [HR.out, Bool.and_false]; rfl, by rw [← HGE.out]; exact below_drewN HBE.out _⟩
      · have HN := Lib.hid hn
        have HQF : Hid (∀ w, Calls Try.prog 58 #[.string s] w fun e w' => e = .returned (.bool true) ∧ w = w') := Lib.hid (by rw [← HN.out]; exact HQ.out)
        clear hn HQ
        rcases Nat.eq_zero_or_pos k with h0 | hpos
        · have hpi : ¬ (0 : Int) < (k : Int) := by omega
          have hp2 : ¬ 0 < k := by omega
          have HST := Lib.hid (risingTo_step HOK.out (by rw [← HS.out]; exact HN.out) (fun h => by omega))
          clear hc h0
          go_upto_region 15 with fail
          go_quiet ((go_at_call 58; exact Calls.quiet_of_same ((HQF.out _).mono (fun e w' h => ⟨h.1, h.2.symm⟩))))
          go_wp2_with fail
          go_roundw
          case rel => exact ⟨k + 1, by omega, by go_num, HST.out, has_drewN HG.out _, HL.out.drewN _, below_drewN HBE.out _⟩
          case measure => simp [intOf]; omega
        · have hcp := hc (k - 1) (by omega)
          obtain ⟨p, hp⟩ : ∃ p, p = ns.getD (k - 1) ⟨#[]⟩ := ⟨_, rfl⟩
          rw [← hp] at hcp
          have HP := Lib.hid hp
          obtain ⟨j, rfl⟩ : ∃ j, k = j + 1 := ⟨k - 1, by omega⟩
          have hroom := HL.out.room
          unfold maxLen at hroom
          have hwr : wrap64 (((j + 1 : Nat) : Int) - 1) = (j : Int) := by
            rw [show ((j + 1 : Nat) : Int) - 1 = (j : Int) by omega]
            unfold wrap64; omega
          rw [Nat.add_sub_cancel] at hcp
          have hpi : (0 : Int) < ((j + 1 : Nat) : Int) := by omega
          have hsw := Lib.hid (less_swap p.toList s.toList)
          clear hc hp
          cases hle : Op.bytesLess p.toList s.toList
          · have HR : Hid (risingT ns = false) := Lib.hid (risingT_less hkl.out (by omega) (by
              rw [← HS.out, Nat.add_sub_cancel, ← show p = ns.getD j ⟨#[]⟩ from HP.out]
              unfold leS
              rw [← hsw.out, hle]; rfl))
            go_upto_region 15 with fail
            go_quiet ((go_at_call 58; exact Calls.quiet_of_same ((HQF.out _).mono (fun e w' h => ⟨h.1, h.2.symm⟩))))
            go_wp2_with fail
            go_ret
            exact ⟨by rw [HR.out, Bool.and_false]; rfl, by rw [← HGE.out]; exact below_drewN HBE.out _⟩
          · have HST := Lib.hid (risingTo_step HOK.out (by rw [← HS.out]; exact HN.out) (fun _ => by
              rw [← HS.out, Nat.add_sub_cancel, ← show p = ns.getD j ⟨#[]⟩ from HP.out]
              unfold leS
              rw [← hsw.out, hle]; rfl))
            go_upto_region 15 with fail
            go_quiet ((go_at_call 58; exact Calls.quiet_of_same ((HQF.out _).mono (fun e w' h => ⟨h.1, h.2.symm⟩))))
            go_wp2_with fail
            go_roundw
            case rel => exact ⟨j + 1 + 1, by omega, by go_num, HST.out, has_drewN HG.out _, HL.out.drewN _, below_drewN HBE.out _⟩
            case measure => simp [intOf]; omega
    · obtain rfl : k = nn := by omega
      have HR : Hid (risingT ns = true) := Lib.hid (risingT_good (by rw [HL.out.length]; exact hok))
      clear hok
      cases x
      · by_cases hd : nd = 0
        · subst hd
          by_cases hnk : k = nk
          · subst hnk
            go_wp2_with fail
            go_ret
            exact ⟨by rw [HR.out]; simp, by rw [← HGE.out]; exact HBE.out⟩
          · have hne : ((k : Int) == (nk : Int)) = false := by rw [beq_eq_false_iff_ne]; omega
            have hne' : ¬ (k : Int) = (nk : Int) := by omega
            have hr : Hid (decide (k = nk) = false) := Lib.hid (decide_eq_false hnk)
            clear hnk
            go_wp2_with fail
            go_ret
            exact ⟨by rw [hr.out]; rfl, by rw [← HGE.out]; exact HBE.out⟩
        · have hne : ((nd : Int) == 0) = false := by rw [beq_eq_false_iff_ne]; omega
          have hne' : ¬ (nd : Int) = 0 := by omega
          have hr : Hid (decide (nd = 0) = false) := Lib.hid (decide_eq_false hd)
          clear hd
          go_wp2_with fail
          go_ret
          exact ⟨by rw [hr.out]; rfl, by rw [← HGE.out]; exact HBE.out⟩
      · go_wp2_with fail
        go_ret
        exact ⟨rfl, by rw [← HGE.out]; exact HBE.out⟩


theorem sum_not {m n : Nat} (hm : m ≤ maxLen) (hn : n ≤ maxLen) (h : ¬ (m = 0 ∧ n = 0)) : wrap64 ((m : Int) + (n : Int)) ≠ 0 := by
  unfold maxLen at hm hn
  unfold wrap64
  omega

theorem both_not {m n : Nat} (h : ¬ (m = 0 ∧ n = 0)) : (decide (m = 0) && decide (n = 0)) = false := by
  rw [Bool.and_eq_false_iff]
  by_cases h0 : m = 0
  · exact .inr (decide_eq_false fun h1 => h ⟨h0, h1⟩)
  · exact .inl (decide_eq_false h0)

theorem clear_all {l : List UInt8} (h : ∀ i, i < l.length → l.getD i 0 ≠ 0) : l.contains 0 = false := by
  cases hc : l.contains 0 with
  | false => rfl
  | true =>
    have hm : (0 : UInt8) ∈ l := by simpa using hc
    obtain ⟨i, hi, he⟩ := List.getElem_of_mem hm
    exact absurd (by rw [List.getD_eq_getElem?_getD, List.getElem?_eq_getElem hi]; exact he) (h i hi)

set_option maxRecDepth 100000 in
set_option maxHeartbeats 20000000 in
theorem own_file (k : UInt8) (hk3 : k ≠ 3) (hk2 : k ≠ 2) (x : Bool) (d : List UInt8) (ns : List ByteArray) (ks : List T) (w : World) (ad : Option Addr) (nd cd : Nat) (an : Option Addr) (nn cn : Nat) (ak : Option Addr) (nk ck : Nat)
    (ln : ns.length = nn) (lk : ks.length = nk) (hn : nn ≤ maxLen) (hk : nk ≤ maxLen) :
    Calls Try.prog 42 #[.agg #[.int .u8 (k.toNat : Int), .bool x, .slice ad nd cd, .slice an nn cn, .slice ak nk ck]] w fun e w' => e = .returned (.bool (formedT (.mk k x d ns ks))) ∧ Below w.heap.size w w' := by
  rw [formedT_other hk3, empty_len, empty_len, ln, lk]
  have b1 : ∀ u : Array Value, Below w.heap.size w (w.alloc (.cells u 30)) := fun u => (Below.refl _ _).alloc (Nat.le_refl _) _
  have HB1 := Lib.hid b1
  have q2 : Hid ((k == 2) = false) := Lib.hid (by simpa using hk2)
  by_cases h1 : k = 1
  · subst h1
    by_cases hz : nn = 0 ∧ nk = 0
    · obtain ⟨rfl, rfl⟩ := hz
      clear b1 ln lk hn hk hk3 hk2
      go_enter Try.func42, Try.ntmps42
      go_wp2_with fail
      go_ret
      exact ⟨rfl, HB1.out _⟩
    · have hr := Lib.hid (both_not hz)
      have hs := sum_not hn hk hz
      obtain ⟨Z, hZ⟩ : ∃ Z, wrap64 ((nn : Int) + (nk : Int)) = Z := ⟨_, rfl⟩
      rw [hZ] at hs
      have z0 : (Z == 0) = false := by rw [beq_eq_false_iff_ne]; exact hs
      clear b1 ln lk hn hk hk3 hk2 hz
      go_enter Try.func42, Try.ntmps42
      go_wp2_with fail
      go_ret
      exact ⟨by rw [hr.out]; rfl, HB1.out _⟩
  · have q1 : Hid ((k == 1) = false) := Lib.hid (by simpa using h1)
    obtain ⟨z, hz⟩ : ∃ z : Int, z = (k.toNat : Int) := ⟨_, rfl⟩
    rw [← hz]
    have z3 : (z == 3) = false := by
      have : k.toNat ≠ 3 := fun h => hk3 (UInt8.toNat_inj.1 h)
      rw [beq_eq_false_iff_ne]; omega
    have z3' : ¬ z = 3 := by simpa using z3
    have z2 : (z == 2) = false := by
      have : k.toNat ≠ 2 := fun h => hk2 (UInt8.toNat_inj.1 h)
      rw [beq_eq_false_iff_ne]; omega
    have z2' : ¬ z = 2 := by simpa using z2
    have z1 : (z == 1) = false := by
      have : k.toNat ≠ 1 := fun h => h1 (UInt8.toNat_inj.1 h)
      rw [beq_eq_false_iff_ne]; omega
    have z1' : ¬ z = 1 := by simpa using z1
    clear b1 ln lk hn hk hk3 hk2 h1 hz
    go_enter Try.func42, Try.ntmps42
    go_wp2_with fail
    go_ret
    exact ⟨by rw [q1.out, q2.out]; simp, HB1.out _⟩

set_option maxRecDepth 100000 in
set_option maxHeartbeats 20000000 in
theorem own_link (x : Bool) (d : List UInt8) (ns : List ByteArray) (ks : List T) (w : World) (ad : Option Addr) (nd cd : Nat) (an : Option Addr) (nn cn : Nat) (ak : Option Addr) (nk ck : Nat)
    (hB : IsB w ad nd cd d) (ln : ns.length = nn) (lk : ks.length = nk) (hn : nn ≤ maxLen) (hk : nk ≤ maxLen) :
    Calls Try.prog 42 #[.agg #[.int .u8 2, .bool x, .slice ad nd cd, .slice an nn cn, .slice ak nk ck]] w fun e w' => e = .returned (.bool (formedT (.mk 2 x d ns ks))) ∧ Below w.heap.size w w' := by
  rw [formedT_other (by decide), empty_len, empty_len, ln, lk]
  have HS := Lib.hid hB
  have HSUM : Hid (¬ (nn = 0 ∧ nk = 0) → wrap64 ((nn : Int) + (nk : Int)) ≠ 0) := Lib.hid (fun h => sum_not hn hk h)
  clear hB ln lk hn hk
  go_enter Try.func42, Try.ntmps42
  go_wp2_with fail
  obtain ⟨w1, hw1⟩ : ∃ w1, w1 = w.alloc (.cells #[.int .u8 2, .bool x, .slice ad nd cd, .slice an nn cn, .slice ak nk ck] 30) := ⟨_, rfl⟩
  have g1 : Has w1 w.heap.size [.int .u8 2, .bool x, .slice ad nd cd, .slice an nn cn, .slice ak nk ck] 30 := by rw [hw1]; exact Has.new w _ _
  have b1 : Below w.heap.size w w1 := by rw [hw1]; exact (Below.refl _ _).alloc (Nat.le_refl _) _
  rw [← hw1]
  have HS1 := Lib.hid (HS.out.later b1)
  have B1 := Lib.hid b1
  have G1 := Lib.hid g1
  clear hw1 b1 HS g1
  obtain ⟨g, hg⟩ : ∃ g, g = w.heap.size := ⟨_, rfl⟩
  rw [← hg] at G1 B1 ⊢
  have HGE := Lib.hid hg
  clear hg
  go_loopw [3] (fun ii wr => ∃ (k : Nat), k ≤ nd ∧ ii = .int .i64 k ∧ (∀ i, i < k → d.getD i 0 ≠ 0) ∧ Has wr g [.int .u8 2, .bool x, .slice ad nd cd, .slice an nn cn, .slice ak nk ck] 30 ∧ IsB wr ad nd cd d ∧ Below g w wr) (fun ii _ => nd - (intOf ii).toNat)
  case atStart => exact ⟨0, Nat.zero_le _, rfl, fun i hi => by omega, G1.out, HS1.out, B1.out⟩
  case round =>
    clear G1 HS1 B1
    obtain ⟨k, hk, rfl, hok, hg, hS, hbel⟩ := hrel
    have cg1 := hg.cellAt (i := 1) rfl
    have cg2 := hg.cellAt (i := 2) rfl
    have cg3 := hg.cellAt (i := 3) rfl
    have cg4 := hg.cellAt (i := 4) rfl
    have HG := Lib.hid hg
    have HL := Lib.hid hS
    have HBE := Lib.hid hbel
    have HOK := Lib.hid hok
    clear hg hS hbel hok
    by_cases hlt : k < nd
    · rcases HL.out.at_ with h0 | ⟨b, off, rfl, hb, hc⟩
      · omega
      have hck := hc k hlt
      have hkl : Hid (k < d.length) := Lib.hid (by rw [HL.out.length]; exact hlt)
      have hki : (k : Int) < (nd : Int) := by omega
      have hroom := HL.out.room
      unfold maxLen at hroom
      have hni : (k : Int) + 1 ≤ 9223372036854775807 := by omega
      obtain ⟨z, hz⟩ : ∃ z : Int, z = ((d.getD k 0).toNat : Int) := ⟨_, rfl⟩
      rw [← hz] at hck
      by_cases h0 : d.getD k 0 = 0
      · have hz0 : z = 0 := by rw [hz, h0]; rfl
        subst hz0
        have HT : Hid (targetB d = false) := Lib.hid (by unfold targetB; rw [contains_at hkl.out h0]; simp)
        clear hz h0 hc
        go_wp2_with fail
        go_ret
        exact ⟨by rw [HT.out]; simp, by rw [← HGE.out]; exact HBE.out⟩
      · have hz0 : (z == 0) = false := by
          have : (d.getD k 0).toNat ≠ 0 := fun h => h0 (UInt8.toNat_inj.1 h)
          rw [beq_eq_false_iff_ne]; omega
        have hz0' : ¬ z = 0 := by simpa using hz0
        have HST : Hid (∀ i, i < k + 1 → d.getD i 0 ≠ 0) := Lib.hid (fun i hi => by
          by_cases e : i = k
          · subst e; exact h0
          · exact HOK.out i (by omega))
        clear hz h0 hc
        go_wp2_with fail
        go_roundw
        case rel => exact ⟨k + 1, by omega, by go_num, HST.out, HG.out, HL.out, HBE.out⟩
        case measure => simp [intOf]; omega
    · obtain rfl : k = nd := by omega
      have HC : Hid (d.contains 0 = false) := Lib.hid (clear_all (by rw [HL.out.length]; exact HOK.out))
      have HLD := Lib.hid HL.out.length
      cases x
      · by_cases hz : nn = 0 ∧ nk = 0
        · obtain ⟨rfl, rfl⟩ := hz
          by_cases h1 : 1 ≤ k
          · have i1 : (1 : Int) ≤ (k : Int) := by omega
            by_cases h4 : k ≤ 400
            · have i4 : (k : Int) ≤ 400 := by omega
              have HT : Hid (targetB d = true) := Lib.hid (by unfold targetB; rw [HLD.out, HC.out, decide_eq_true h1, decide_eq_true h4]; rfl)
              go_wp2_with fail
              go_ret
              exact ⟨by rw [HT.out]; simp, by rw [← HGE.out]; exact HBE.out⟩
            · have i4 : ¬ (k : Int) ≤ 400 := by omega
              have HT : Hid (targetB d = false) := Lib.hid (by unfold targetB; rw [HLD.out, decide_eq_false h4]; simp)
              clear h4
              go_wp2_with fail
              go_ret
              exact ⟨by rw [HT.out]; simp, by rw [← HGE.out]; exact HBE.out⟩
          · obtain rfl : k = 0 := by omega
            have HT : Hid (targetB d = false) := Lib.hid (by unfold targetB; rw [HLD.out]; rfl)
            clear h1
            go_wp2_with fail
            go_ret
            exact ⟨by rw [HT.out]; simp, by rw [← HGE.out]; exact HBE.out⟩
        · have hr := Lib.hid (both_not hz)
          have hs := HSUM.out hz
          obtain ⟨Z, hZ⟩ : ∃ Z, wrap64 ((nn : Int) + (nk : Int)) = Z := ⟨_, rfl⟩
          rw [hZ] at hs
          have z0 : (Z == 0) = false := by rw [beq_eq_false_iff_ne]; exact hs
          clear hz
          go_wp2_with fail
          go_ret
          exact ⟨by rw [hr.out]; rfl, by rw [← HGE.out]; exact HBE.out⟩
      · go_wp2_with fail
        go_ret
        exact ⟨by simp, by rw [← HGE.out]; exact HBE.out⟩

/-- The reference's own. -/
theorem own_any (n : Nat) (cs : List Value) (t : T) (w : World) (ht : IsT w n cs t) (hs : Small t) :
    Calls Try.prog 42 #[.agg cs.toArray] w fun e w' => e = .returned (.bool (formedT t)) ∧ Below w.heap.size w w' := by
  cases n with
  | zero => exact absurd ht (by simp [IsT])
  | succ n =>
  obtain ⟨k, x, d, ns, ks⟩ := t
  obtain ⟨ad, nd, cd, an, nn, cn, ak, nk, ck, rfl, hB, hS, hK⟩ := ht
  cases hs with
  | mk h1 h2 _ =>
  by_cases h3 : k = 3
  · subst h3
    exact own_dir x d ns ks w ad nd cd an nn cn ak nk ck hB.length hK.length hS h1
  · by_cases h4 : k = 2
    · subst h4
      exact own_link x d ns ks w ad nd cd an nn cn ak nk ck hB hS.length hK.length (Nat.le_trans hS.room.1 hS.room.2) (Nat.le_trans hK.room.1 hK.room.2)
    · exact own_file k h3 h4 x d ns ks w ad nd cd an nn cn ak nk ck hS.length hK.length (Nat.le_trans hS.room.1 hS.room.2) (Nat.le_trans hK.room.1 hK.room.2)


theorem takeL_step {ks : List T} {i D n b t' b' : Nat} (h : i < ks.length) (hp : takeL (ks.take i) D n b = some (t', b')) : takeL (ks.take (i + 1)) D n b = takeT (ks.getD i default) D t' b' := by
  rw [List.take_succ_eq_append_getElem h, takeL_append, hp, List.getD_eq_getElem?_getD, List.getElem?_eq_getElem h]
  exact takeL_one _ _ _ _
theorem takeL_none {ks : List T} {i D n b : Nat} (hn : takeL (ks.take i) D n b = none) : takeL ks D n b = none := by
  rw [← List.take_append_drop i ks, takeL_append, hn]; rfl

def cntV : Option (Nat × Nat) → Value
  | none => .tuple #[.int .i64 (-1), .int .i64 (-1)]
  | some q => .tuple #[.int .i64 (4096 - (q.1 : Int)), .int .i64 (65536 - (q.2 : Int))]

theorem cntV_none {r : Option (Nat × Nat)} (h : r = none) : cntV r = .tuple #[.int .i64 (-1), .int .i64 (-1)] := by rw [h]; rfl

theorem Small.kid {k : UInt8} {x : Bool} {d : List UInt8} {ns : List ByteArray} {ks : List T} (h : Small (.mk k x d ns ks)) (i : Nat) (hi : i < ks.length) : Small (ks.getD i default) := by
  cases h with
  | mk _ h2 _ => exact h2 i hi

set_option maxRecDepth 100000 in
set_option maxHeartbeats 20000000 in
theorem count_any : ∀ (n : Nat) (cs : List Value) (t : T) (w : World), IsT w n cs t → Small t → ∀ (dep tc bc : Nat) (N B : Int), N = 4096 - (tc : Int) → B = 65536 - (bc : Int) → tc ≤ 4096 → bc ≤ 65536 → dep ≤ 17 →
    Calls Try.prog 37 #[.agg cs.toArray, .int .i64 (dep : Int), .int .i64 N, .int .i64 B] w fun e w' => e = .returned (cntV (takeT t dep tc bc)) ∧ Below w.heap.size w w'
  | 0, _, _, _, ht => absurd ht (by simp [IsT])
  | n + 1, cs, .mk k x d ns ks, w, ht => by
    intro hsm dep tc bc N B hN hB0 htc hbc hdep
    have HT := Lib.hid ht
    have HSM := Lib.hid hsm
    have hI0 := Lib.hid (infoL (isT_five ht))
    obtain ⟨ad, nd, cd, an, nn, cn, ak, nk, ck, rfl, hB, hS, hK⟩ := ht
    have HK := Lib.hid hK
    have HLD := Lib.hid hB.length
    have hmost := hB.most
    have hN0 : 0 ≤ N := by omega
    have hN1 : N ≤ 4096 := by omega
    have hB1 : 0 ≤ B := by omega
    have hB2 : B ≤ 65536 := by omega
    have HNE := Lib.hid hN
    have HBE0 := Lib.hid hB0
    obtain ⟨V, hV⟩ : ∃ V, V = cntV (takeT (.mk k x d ns ks) dep tc bc) := ⟨_, rfl⟩
    rw [← hV]
    have HV := Lib.hid hV
    clear hB hS hK hN hB0 hsm hV
    go_enter Try.func37, Try.ntmps37
    go_upto_region 1 with fail
    obtain ⟨w1, hw1⟩ : ∃ w1, w1 = w.alloc (.cells #[.int .u8 (k.toNat : Int), .bool x, .slice ad nd cd, .slice an nn cn, .slice ak nk ck] 30) := ⟨_, rfl⟩
    have g1 : Has w1 w.heap.size [.int .u8 (k.toNat : Int), .bool x, .slice ad nd cd, .slice an nn cn, .slice ak nk ck] 30 := by rw [hw1]; exact Has.new w _ _
    have b1 : Below w.heap.size w w1 := by rw [hw1]; exact (Below.refl _ _).alloc (Nat.le_refl _) _
    have s1 : w1.heap.size = w.heap.size + 1 := by rw [hw1]; simp
    rw [← hw1]
    obtain ⟨g, hg⟩ : ∃ g, g = w.heap.size := ⟨_, rfl⟩
    rw [← hg] at g1 s1 b1 ⊢
    have HG := Lib.hid hg
    clear hg hw1
    have G1 := Lib.hid g1
    have B1 := Lib.hid b1
    have cg2 := g1.cellAt (i := 2) rfl
    have cg0 := g1.cellAt (i := 0) rfl
    have cg1 := g1.cellAt (i := 1) rfl
    have cg3 := g1.cellAt (i := 3) rfl
    have cg4 := g1.cellAt (i := 4) rfl
    clear g1 b1
    by_cases ht1 : tc + 1 ≤ 4096
    · have q1 : ¬ (N - 1 < 0) := by have := HNE.out; omega
      by_cases hb1 : bc + nd ≤ 65536
      · have q2 : ¬ (B - (nd : Int) < 0) := by have := HBE0.out; omega
        by_cases hd16 : dep ≤ 16
        · have q3 : ¬ (16 : Int) < (dep : Int) := by omega
          have KO := Lib.hid (own_any (n + 1) _ _ w1 (IsT.later (by rw [← HG.out]; exact B1.out) _ _ _ HT.out) HSM.out)
          go_wp2_with fail
          refine KO.out.mono ?_
          rintro e w2 ⟨rfl, b2⟩
          have G2 := Lib.hid (G1.out.below b2 (by omega))
          have B2 := Lib.hid (B1.out.trans (b2.mono (by omega)))
          have s2 := b2.size
          clear b2 KO cg0 cg1 cg2 cg3 cg4
          cases hf : formedT (.mk k x d ns ks)
          · have HR : Hid (takeT (.mk k x d ns ks) dep tc bc = none) := Lib.hid (by rw [takeT_mk, if_neg]; rintro ⟨h1, h2, h3, h4⟩; rw [hf] at h4; cases h4)
            clear hf
            go_wp2_with fail
            go_ret2
            exact ⟨by rw [HV.out, cntV_none HR.out]; rfl, by rw [← HG.out]; exact B2.out⟩
          · have HR : Hid (takeT (.mk k x d ns ks) dep tc bc = takeL ks (dep + 1) (tc + 1) (bc + nd)) := Lib.hid (by rw [takeT_mk, HLD.out, if_pos ⟨hd16, ht1, hb1, hf⟩])
            clear hf
            go_wp2_with fail
            have info5 : Hid ((Try.prog.info? 30).map (·.size) = some 5) := Lib.hid (by kernel_rfl)
            go_loopw [2, 3, 10] (fun vn vb vi wr => ∃ (i : Nat) (N' B' : Int), i ≤ nk ∧ vi = .int .i64 i ∧ vn = .int .i64 N' ∧ vb = .int .i64 B' ∧ N' ≤ 4096 ∧ -1 ≤ N' ∧
                ((∃ t' b' : Nat, takeL (ks.take i) (dep + 1) (tc + 1) (bc + nd) = some (t', b') ∧ N' = 4096 - (t' : Int) ∧ B' = 65536 - (b' : Int) ∧ t' ≤ 4096 ∧ b' ≤ 65536) ∨ (takeT (.mk k x d ns ks) dep tc bc = none ∧ N' = -1 ∧ B' = -1)) ∧
                Has wr g [.int .u8 (k.toNat : Int), .bool x, .slice ad nd cd, .slice an nn cn, .slice ak nk ck] 30 ∧ Below g w wr ∧ g + 1 ≤ wr.heap.size) (fun vn vb vi _ => nk - (intOf vi).toNat)
            case atStart => exact ⟨0, N - 1, B - (nd : Int), Nat.zero_le _, rfl, rfl, rfl, by omega, by omega, .inl ⟨tc + 1, bc + nd, by simp [takeL], by have := HNE.out; omega, by have := HBE0.out; omega, ht1, hb1⟩, G2.out, B2.out, by omega⟩
            case round =>
              clear G2 B2
              obtain ⟨i, N', B', hi, rfl, rfl, rfl, hNN, hNl, hst, hg, hbel, hsz⟩ := hrel
              have cg4 := hg.cellAt (i := 4) rfl
              have HG' := Lib.hid hg
              have HBE := Lib.hid hbel
              clear hg
              by_cases hlt : i < nk
              · rcases hst with ⟨t', b', hpre, hN', hB', ht', hb'⟩ | ⟨hno, rfl, rfl⟩
                · have hnn : 0 ≤ N' := by omega
                  have hbb : 0 ≤ B' := by omega
                  rcases HK.out.at_ with h0 | ⟨b, off, rfl, hb, hc⟩
                  · omega
                  obtain ⟨c0, c1, c2, c3, c4, hR, e0, e1, e2, e3, e4⟩ := hc i hlt
                  have hkl : i < ks.length := by rw [HK.out.length]; exact hlt
                  have HPRE := Lib.hid hpre
                  have HSTEP := Lib.hid (takeL_step hkl hpre)
                  have hbg : b < g := by rw [HG.out]; exact hb
                  have hrange : wr.rangeAt b (off + i * 5) [c0, c1, c2, c3, c4] := fun j v hv => by
                    rw [Nat.add_assoc]
                    match j, hv with
                    | 0, hv => cases hv; exact (hbel.cell (p := ⟨b, off + (i * 5 + 0), none⟩) hbg).trans e0
                    | 1, hv => cases hv; exact (hbel.cell (p := ⟨b, off + (i * 5 + 1), none⟩) hbg).trans e1
                    | 2, hv => cases hv; exact (hbel.cell (p := ⟨b, off + (i * 5 + 2), none⟩) hbg).trans e2
                    | 3, hv => cases hv; exact (hbel.cell (p := ⟨b, off + (i * 5 + 3), none⟩) hbg).trans e3
                    | 4, hv => cases hv; exact (hbel.cell (p := ⟨b, off + (i * 5 + 4), none⟩) hbg).trans e4
                    | j + 5, hv => simp at hv
                  have HRANGE := Lib.hid hrange
                  have hki : (i : Int) < (nk : Int) := by omega
                  have hroom := HK.out.room
                  unfold maxLen at hroom
                  have hni : (i : Int) + 1 ≤ 9223372036854775807 := by omega
                  obtain ⟨L, hL⟩ : ∃ L, L = [c0, c1, c2, c3, c4] := ⟨_, rfl⟩
                  rw [← hL] at HRANGE hR
                  have hll : Hid (L.length = 5) := Lib.hid (by rw [hL]; rfl)
                  have K5 := count_any n L (ks.getD i default) wr (IsT.later (by rw [← HG.out]; exact hbel) _ _ _ hR) (HSM.out.kid i hkl) (dep + 1) t' b' N' B' hN' hB' ht' hb' (by omega)
                  rw [show ((dep + 1 : Nat) : Int) = (dep : Int) + 1 from by omega] at K5
                  have HK5 := Lib.hid K5
                  have HLT := Lib.hid hlt
                  clear hbel hc hR e0 e1 e2 e3 e4 hrange hL K5 hpre hN' hB'
                  go_wp2_with (refine wpList_load_mid rfl 30 _ rfl b (off + i * 5) rfl L _ HRANGE.out Try.underlying30 rfl (by rw [info5.out, hll.out]) ?_)
                  refine HK5.out.mono ?_
                  rintro e w6 ⟨rfl, b6⟩
                  have B6 := Lib.hid b6
                  clear b6 HK5
                  cases hk : takeT (ks.getD i default) (dep + 1) t' b' with
                  | none =>
                    have HRR : Hid (takeT (.mk k x d ns ks) dep tc bc = none) := Lib.hid (by rw [HR.out]; exact takeL_none (i := i + 1) (by rw [HSTEP.out]; exact hk))
                    clear hk
                    rw [cntV_none rfl]
                    go_wp2_with fail
                    go_roundw
                    case rel => exact ⟨i + 1, -1, -1, by omega, by go_num, rfl, rfl, by omega, by omega, .inr ⟨HRR.out, rfl, rfl⟩, HG'.out.below B6.out (by omega), HBE.out.trans (B6.out.mono (by omega)), by have := B6.out.size; omega⟩
                    case measure =>
                      have := HLT.out
                      simp only [intOf]; omega
                  | some q =>
                    have hle := takeT_le _ _ _ _ _ hk
                    obtain ⟨N6, hN6⟩ : ∃ N6 : Int, N6 = 4096 - (q.1 : Int) := ⟨_, rfl⟩
                    obtain ⟨B6', hB6⟩ : ∃ B6' : Int, B6' = 65536 - (q.2 : Int) := ⟨_, rfl⟩
                    have hcv : cntV (some q) = .tuple #[.int .i64 N6, .int .i64 B6'] := by rw [hN6, hB6]; rfl
                    have HN : Hid (takeL (ks.take (i + 1)) (dep + 1) (tc + 1) (bc + nd) = some (q.1, q.2)) := Lib.hid (by rw [HSTEP.out, hk])
                    have H6 := Lib.hid hN6
                    have H7 := Lib.hid hB6
                    rw [hcv]
                    clear hk hcv hN6 hB6
                    go_wp2_with fail
                    go_roundw
                    case rel => exact ⟨i + 1, N6, B6', by omega, by go_num, rfl, rfl, by have := H6.out; omega, by have := H6.out; omega, .inl ⟨q.1, q.2, HN.out, H6.out, H7.out, hle.1, hle.2⟩, HG'.out.below B6.out (by omega), HBE.out.trans (B6.out.mono (by omega)), by have := B6.out.size; omega⟩
                    case measure =>
                      have := HLT.out
                      simp only [intOf]; omega
                · have HNO := Lib.hid hno
                  clear hno hbel
                  go_wp2_with fail
                  go_ret2
                  exact ⟨by rw [HV.out, cntV_none HNO.out]; rfl, by rw [← HG.out]; exact HBE.out⟩
              · obtain rfl : i = nk := by omega
                have HRR : Hid (V = .tuple #[.int .i64 N', .int .i64 B']) := Lib.hid (by
                  rcases hst with ⟨t', b', hpre, hN', hB', ht', hb'⟩ | ⟨hno, rfl, rfl⟩
                  · rw [List.take_of_length_le (by rw [HK.out.length]; exact Nat.le_refl _)] at hpre
                    rw [HV.out, HR.out, hpre, hN', hB']; rfl
                  · rw [HV.out, cntV_none hno])
                clear hst hbel
                go_wp2_with fail
                go_ret2
                exact ⟨by rw [HRR.out]; rfl, by rw [← HG.out]; exact HBE.out⟩
        · have q3 : (16 : Int) < (dep : Int) := by omega
          have HR : Hid (takeT (.mk k x d ns ks) dep tc bc = none) := Lib.hid (by rw [takeT_mk, if_neg]; rintro ⟨h1, h2, h3, h4⟩; omega)
          clear hd16
          go_wp2_with fail
          go_ret2
          exact ⟨by rw [HV.out, cntV_none HR.out]; rfl, by rw [← HG.out]; exact B1.out⟩
      · have q2 : B - (nd : Int) < 0 := by have := HBE0.out; omega
        have HR : Hid (takeT (.mk k x d ns ks) dep tc bc = none) := Lib.hid (by rw [takeT_mk, if_neg]; rintro ⟨h1, h2, h3, h4⟩; rw [HLD.out] at h3; omega)
        clear hb1
        go_wp2_with fail
        go_ret2
        exact ⟨by rw [HV.out, cntV_none HR.out]; rfl, by rw [← HG.out]; exact B1.out⟩
    · have q1 : N - 1 < 0 := by have := HNE.out; omega
      have HR : Hid (takeT (.mk k x d ns ks) dep tc bc = none) := Lib.hid (by rw [takeT_mk, if_neg]; rintro ⟨h1, h2, h3, h4⟩; omega)
      clear ht1
      go_wp2_with fail
      go_ret2
      exact ⟨by rw [HV.out, cntV_none HR.out]; rfl, by rw [← HG.out]; exact B1.out⟩


def rsizeV (t : T) : Value := match sizeT t with
  | none => .tuple #[.int .i64 0, .int .i64 0, .bool false]
  | some q => .tuple #[.int .i64 (q.1 : Int), .int .i64 (q.2 : Int), .bool true]

set_option maxRecDepth 100000 in
set_option maxHeartbeats 8000000 in
theorem rsize_any (n : Nat) (cs : List Value) (t : T) (w : World) (ht : IsT w n cs t) (hs : Small t) :
    Calls Try.prog 28 #[.agg cs.toArray] w fun e w' => e = .returned (rsizeV t) ∧ Below w.heap.size w w' := by
  have hI := Lib.hid (infoL (isT_five ht))
  have HT := Lib.hid ht
  have HSM := Lib.hid hs
  clear ht hs
  go_enter Try.func28, Try.ntmps28
  go_upto_region 1 with fail
  obtain ⟨w1, hw1⟩ : ∃ w1, w1 = w.alloc (.cells cs.toArray 30) := ⟨_, rfl⟩
  have g1 : Has w1 w.heap.size cs 30 := by rw [hw1]; exact Has.new w cs _
  have b1 : Below w.heap.size w w1 := by rw [hw1]; exact (Below.refl _ _).alloc (Nat.le_refl _) _
  rw [← hw1]
  have HK := Lib.hid (count_any n cs t w1 (IsT.later b1 _ _ _ HT.out) HSM.out 0 0 0 4096 65536 (by omega) (by omega) (by omega) (by omega) (by omega))
  have G1 := Lib.hid (show w1.heap[w.heap.size]? = some (.cells cs.toArray 30 (0, 0)) from g1)
  have B1 := Lib.hid b1
  clear hw1 g1 b1
  go_wp2_with (refine wpList_load_row rfl 30 _ rfl w.heap.size rfl 30 cs.toArray (0, 0) _ G1.out Try.underlying30 rfl hI.out ?_)
  refine HK.out.mono ?_
  rintro e w2 ⟨rfl, b2⟩
  have B2 := Lib.hid (B1.out.trans (b2.mono B1.out.size))
  have hk : sizeT t = takeT t 0 0 0 := rfl
  clear HK b2
  cases hs : takeT t 0 0 0 with
  | none =>
    have HV : Hid (rsizeV t = .tuple #[.int .i64 0, .int .i64 0, .bool false]) := Lib.hid (by unfold rsizeV; rw [hk, hs])
    rw [cntV_none rfl]
    clear hs hk
    go_wp2_with fail
    go_ret3
    exact ⟨by rw [HV.out]; rfl, B2.out⟩
  | some q =>
    have HV : Hid (rsizeV t = .tuple #[.int .i64 (q.1 : Int), .int .i64 (q.2 : Int), .bool true]) := Lib.hid (by unfold rsizeV; rw [hk, hs])
    have hle := takeT_le _ _ _ _ _ hs
    obtain ⟨m, hm⟩ : ∃ m : Nat, m = q.1 := ⟨_, rfl⟩
    obtain ⟨b, hb⟩ : ∃ b : Nat, b = q.2 := ⟨_, rfl⟩
    have hcv : cntV (some q) = .tuple #[.int .i64 (4096 - (m : Int)), .int .i64 (65536 - (b : Int))] := by rw [hm, hb]; rfl
    rw [hcv]
    rw [← hm, ← hb] at HV hle
    have n0 : ¬ (4096 - (m : Int) < 0) := by omega
    have n1 : ¬ (4096 < (m : Int)) := by omega
    clear hs hk hcv hm hb
    go_wp2_with fail
    go_ret3
    exact ⟨by rw [HV.out]; simp; try omega, B2.out⟩


set_option maxRecDepth 100000 in
set_option maxHeartbeats 8000000 in
theorem rform_any (n : Nat) (cs : List Value) (t : T) (w : World) (ht : IsT w n cs t) (hs : Small t) :
    Calls Try.prog 19 #[.agg cs.toArray] w fun e w' => e = .returned (.bool (sizeT t).isSome) ∧ Below w.heap.size w w' := by
  have hI := Lib.hid (infoL (isT_five ht))
  have HT := Lib.hid ht
  have HSM := Lib.hid hs
  clear ht hs
  go_enter Try.func19, Try.ntmps19
  go_upto_region 1 with fail
  obtain ⟨w1, hw1⟩ : ∃ w1, w1 = w.alloc (.cells cs.toArray 30) := ⟨_, rfl⟩
  have g1 : Has w1 w.heap.size cs 30 := by rw [hw1]; exact Has.new w cs _
  have b1 : Below w.heap.size w w1 := by rw [hw1]; exact (Below.refl _ _).alloc (Nat.le_refl _) _
  rw [← hw1]
  have HK := Lib.hid (rsize_any n cs t w1 (IsT.later b1 _ _ _ HT.out) HSM.out)
  have G1 := Lib.hid (show w1.heap[w.heap.size]? = some (.cells cs.toArray 30 (0, 0)) from g1)
  have B1 := Lib.hid b1
  clear hw1 g1 b1
  go_wp2_with (refine wpList_load_row rfl 30 _ rfl w.heap.size rfl 30 cs.toArray (0, 0) _ G1.out Try.underlying30 rfl hI.out ?_)
  refine HK.out.mono ?_
  rintro e w2 ⟨rfl, b2⟩
  have B2 := Lib.hid (B1.out.trans (b2.mono B1.out.size))
  clear HK b2
  cases hs : sizeT t with
  | none =>
    have HV : rsizeV t = .tuple #[.int .i64 0, .int .i64 0, .bool false] := by unfold rsizeV; rw [hs]
    rw [HV]
    have HSZ := Lib.hid hs
    clear HV hs
    go_wp2_with fail
    go_ret
    exact ⟨by rw [HSZ.out]; rfl, B2.out⟩
  | some q =>
    have HV : rsizeV t = .tuple #[.int .i64 (q.1 : Int), .int .i64 (q.2 : Int), .bool true] := by unfold rsizeV; rw [hs]
    rw [HV]
    have HSZ := Lib.hid hs
    clear HV hs
    go_wp2_with fail
    go_ret
    exact ⟨by rw [HSZ.out]; rfl, B2.out⟩


end Go.Proofs.Ytcmgafehidgkmaa

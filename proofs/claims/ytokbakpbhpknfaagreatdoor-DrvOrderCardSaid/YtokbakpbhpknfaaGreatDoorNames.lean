/-
  Which names there are, as a function of the bytes, and the two Names' contracts. No conditions.
-/
import Derived.Test.YtokbakpbhpknfaaGreatDoorDecN
namespace Go.Proofs.YtokbakpbhpknfaaGreatDoor.Nam
open Go.RowKit
set_option linter.unusedVariables false

/-- May a byte stand in a name? -/
def nmc (c : UInt8) : Bool := (decide (97 ≤ c.toNat) && decide (c.toNat ≤ 122)) || (decide (65 ≤ c.toNat) && decide (c.toNat ≤ 90)) || (decide (48 ≤ c.toNat) && decide (c.toNat ≤ 57)) || (c == 43 || c == 45 || c == 95 || c == 63 || c == 61 || c == 46)

def isName (l : List UInt8) : Bool := decide (1 ≤ l.length) && decide (l.length ≤ 40) && (l.getD 0 0 != 46) && l.all nmc

theorem nmc_marks (c : UInt8) : decide ((0 : Int) ≤ Go.Lib.indexByte [43, 45, 95, 63, 61, 46] c) = (c == 43 || c == 45 || c == 95 || c == 63 || c == 61 || c == 46) := by
  have h : ∀ n : Fin 256, decide ((0 : Int) ≤ Go.Lib.indexByte [43, 45, 95, 63, 61, 46] (UInt8.ofNat n.val)) = (UInt8.ofNat n.val == 43 || UInt8.ofNat n.val == 45 || UInt8.ofNat n.val == 95 || UInt8.ofNat n.val == 63 || UInt8.ofNat n.val == 61 || UInt8.ofNat n.val == 46) := by decide +kernel
  have := h ⟨c.toNat, c.toNat_lt⟩
  simpa using this

theorem toUInt8_toNat (c : UInt8) : ((c.toNat : Int)).toNat.toUInt8 = c := by simp

/-- The seven stretches of the bytes. -/
theorem stretch (n : Nat) : n < 48 ∨ (48 ≤ n ∧ n ≤ 57) ∨ (57 < n ∧ n < 65) ∨ (65 ≤ n ∧ n ≤ 90) ∨ (90 < n ∧ n < 97) ∨ (97 ≤ n ∧ n ≤ 122) ∨ 122 < n := by omega

theorem nmc_other (c : UInt8) (h1 : ¬ (97 ≤ c.toNat ∧ c.toNat ≤ 122)) (h2 : ¬ (65 ≤ c.toNat ∧ c.toNat ≤ 90)) (h3 : ¬ (48 ≤ c.toNat ∧ c.toNat ≤ 57)) : nmc c = decide ((0 : Int) ≤ Go.Lib.indexByte [43, 45, 95, 63, 61, 46] c) := by
  rw [nmc_marks]
  have e1 : (decide (97 ≤ c.toNat) && decide (c.toNat ≤ 122)) = false := by rw [← Bool.decide_and]; exact decide_eq_false h1
  have e2 : (decide (65 ≤ c.toNat) && decide (c.toNat ≤ 90)) = false := by rw [← Bool.decide_and]; exact decide_eq_false h2
  have e3 : (decide (48 ≤ c.toNat) && decide (c.toNat ≤ 57)) = false := by rw [← Bool.decide_and]; exact decide_eq_false h3
  simp only [nmc, e1, e2, e3, Bool.false_or]

theorem nmc_letter (c : UInt8) (h : (97 ≤ c.toNat ∧ c.toNat ≤ 122) ∨ (65 ≤ c.toNat ∧ c.toNat ≤ 90) ∨ (48 ≤ c.toNat ∧ c.toNat ≤ 57)) : nmc c = true := by
  unfold nmc
  rcases h with ⟨a, b⟩ | ⟨a, b⟩ | ⟨a, b⟩ <;> simp [a, b]

set_option maxRecDepth 100000 in
set_option maxHeartbeats 4000000 in
theorem inName_any (c : UInt8) (w : World) :
    Calls Tryz.prog 86 #[.int .u8 (c.toNat : Int)] w fun e w' => e = .returned (.bool (nmc c)) ∧ w = w' := by
  have hm := toUInt8_toNat c
  obtain ⟨z, hz⟩ : ∃ z : Int, z = (c.toNat : Int) := ⟨_, rfl⟩
  have HZ := Lib.hid hz
  have HM := Lib.hid hm
  have hother := nmc_other c
  have hlet := nmc_letter c
  rw [← hz]
  rcases stretch c.toNat with h | ⟨h, h'⟩ | ⟨h, h'⟩ | ⟨h, h'⟩ | ⟨h, h'⟩ | ⟨h, h'⟩ | h
  all_goals
    obtain ⟨r, hr⟩ : ∃ r, r = nmc c := ⟨_, rfl⟩
    rw [← hr] at hother hlet ⊢
    have HO := Lib.hid hother
    have HLT := Lib.hid hlet
    clear hother hlet hm hr
  · have q0 : decide ((97 : Int) ≤ z) = false := by simp; omega
    have q1 : decide ((65 : Int) ≤ z) = false := by simp; omega
    have q2 : decide ((48 : Int) ≤ z) = false := by simp; omega
    clear hz
    go_enter Tryz.func86, Tryz.ntmps86
    go_wp2_with (go_at_call 79; refine (index_any _ _ _).mono ?_; rintro e w' ⟨rfl, rfl⟩)
    go_ret
    refine ⟨?_, rfl⟩
    have e := HO.out (by omega) (by omega) (by omega)
    rw [e, HZ.out]
    simp
  · have q0 : decide ((97 : Int) ≤ z) = false := by simp; omega
    have q1 : decide ((65 : Int) ≤ z) = false := by simp; omega
    have q2 : decide ((48 : Int) ≤ z) = true := by simp; omega
    have q3 : decide (z ≤ (57 : Int)) = true := by simp; omega
    clear hz
    go_enter Tryz.func86, Tryz.ntmps86
    go_wp2_with fail
    go_ret
    refine ⟨?_, rfl⟩
    rw [HLT.out (by omega)]
    simp
  · have q0 : decide ((97 : Int) ≤ z) = false := by simp; omega
    have q1 : decide ((65 : Int) ≤ z) = false := by simp; omega
    have q2 : decide ((48 : Int) ≤ z) = true := by simp; omega
    have q3 : decide (z ≤ (57 : Int)) = false := by simp; omega
    clear hz
    go_enter Tryz.func86, Tryz.ntmps86
    go_wp2_with (go_at_call 79; refine (index_any _ _ _).mono ?_; rintro e w' ⟨rfl, rfl⟩)
    go_ret
    refine ⟨?_, rfl⟩
    have e := HO.out (by omega) (by omega) (by omega)
    rw [e, HZ.out]
    simp
  · have q0 : decide ((97 : Int) ≤ z) = false := by simp; omega
    have q1 : decide ((65 : Int) ≤ z) = true := by simp; omega
    have q2 : decide (z ≤ (90 : Int)) = true := by simp; omega
    have q8 : decide ((48 : Int) ≤ z) = true := by simp; omega
    have q9 : decide (z ≤ (57 : Int)) = false := by simp; omega
    clear hz
    go_enter Tryz.func86, Tryz.ntmps86
    go_wp2_with fail
    go_ret
    refine ⟨?_, rfl⟩
    rw [HLT.out (by omega)]
    simp
  · have q0 : decide ((97 : Int) ≤ z) = false := by simp; omega
    have q1 : decide ((65 : Int) ≤ z) = true := by simp; omega
    have q2 : decide (z ≤ (90 : Int)) = false := by simp; omega
    have q3 : decide ((48 : Int) ≤ z) = true := by simp; omega
    have q4 : decide (z ≤ (57 : Int)) = false := by simp; omega
    clear hz
    go_enter Tryz.func86, Tryz.ntmps86
    go_wp2_with (go_at_call 79; refine (index_any _ _ _).mono ?_; rintro e w' ⟨rfl, rfl⟩)
    go_ret
    refine ⟨?_, rfl⟩
    have e := HO.out (by omega) (by omega) (by omega)
    rw [e, HZ.out]
    simp
  · have q0 : decide ((97 : Int) ≤ z) = true := by simp; omega
    have q1 : decide (z ≤ (122 : Int)) = true := by simp; omega
    have q8 : decide ((48 : Int) ≤ z) = true := by simp; omega
    have q9 : decide (z ≤ (57 : Int)) = false := by simp; omega
    clear hz
    go_enter Tryz.func86, Tryz.ntmps86
    go_wp2_with fail
    go_ret
    refine ⟨?_, rfl⟩
    rw [HLT.out (by omega)]
    simp
  · have q0 : decide ((97 : Int) ≤ z) = true := by simp; omega
    have q1 : decide (z ≤ (122 : Int)) = false := by simp; omega
    have q2 : decide ((65 : Int) ≤ z) = true := by simp; omega
    have q3 : decide (z ≤ (90 : Int)) = false := by simp; omega
    have q4 : decide ((48 : Int) ≤ z) = true := by simp; omega
    have q5 : decide (z ≤ (57 : Int)) = false := by simp; omega
    clear hz
    go_enter Tryz.func86, Tryz.ntmps86
    go_wp2_with (go_at_call 79; refine (index_any _ _ _).mono ?_; rintro e w' ⟨rfl, rfl⟩)
    go_ret
    refine ⟨?_, rfl⟩
    have e := HO.out (by omega) (by omega) (by omega)
    rw [e, HZ.out]
    simp

theorem isName_short (l : List UInt8) (h : l.length = 0) : isName l = false := by simp [isName, h]
theorem isName_long (l : List UInt8) (h : 40 < l.length) : isName l = false := by
  have : decide (l.length ≤ 40) = false := by simp; omega
  simp [isName, this]
theorem isName_dot (l : List UInt8) (h : l.getD 0 0 = 46) : isName l = false := by
  have : (l.getD 0 0 != 46) = false := by rw [h]; rfl
  simp only [isName, this, Bool.and_false, Bool.false_and]
theorem isName_bad (l : List UInt8) (i : Nat) (h : i < l.length) (hb : nmc (l.getD i 0) = false) : isName l = false := by
  have : l.all nmc = false := by
    rw [List.all_eq_false]
    refine ⟨l.getD i 0, ?_, by rw [hb]; simp⟩
    rw [List.getD_eq_getElem?_getD, List.getElem?_eq_getElem h]
    exact List.getElem_mem h
  simp [isName, this]
theorem isName_good (l : List UInt8) (h1 : 1 ≤ l.length) (h2 : l.length ≤ 40) (h3 : l.getD 0 0 ≠ 46) (h4 : (l.take l.length).all nmc = true) : isName l = true := by
  rw [List.take_length] at h4
  simp only [isName, h4, Bool.and_true, bne_iff_ne, Bool.and_eq_true, decide_eq_true_eq]
  exact ⟨⟨h1, h2⟩, h3⟩
theorem all_take_succ (l : List UInt8) (i : Nat) (h : i < l.length) (ha : (l.take i).all nmc = true) (hb : nmc (l.getD i 0) = true) : (l.take (i + 1)).all nmc = true := by
  rw [take_one l 0 i h, List.all_append, ha, List.all_cons, hb]
  rfl

theorem str_get (s : ByteArray) (i : Nat) (h : i < s.size) : s[i] = s.data.toList.getD i 0 := by
  have hl : i < s.data.toList.length := by simpa using h
  rw [List.getD_eq_getElem?_getD, List.getElem?_eq_getElem hl]
  rfl

set_option maxRecDepth 100000 in
set_option maxHeartbeats 4000000 in
theorem name_any (s : ByteArray) (w : World) :
    Calls Tryz.prog 58 #[.string s] w fun e w' => e = .returned (.bool (isName s.data.toList)) ∧ w = w' := by
  have hlen : s.data.toList.length = s.size := by simp
  rcases Nat.eq_zero_or_pos s.size with h0 | h0
  · rw [isName_short _ (by rw [hlen]; exact h0)]
    have hs : s = ⟨#[]⟩ := by
      have : s.data.size = 0 := h0
      cases s; simp_all
    subst hs
    clear hlen h0
    go_enter Tryz.func58, Tryz.ntmps58
    go_wp2_with fail
    go_ret
    exact ⟨rfl, rfl⟩
  · have hne : s.toList.isEmpty = false := by
      rw [ByteArray.toList_eq]
      cases h : s.data.toList with
      | nil => rw [h] at hlen; simp at hlen; omega
      | cons a t => rfl
    by_cases h40 : 40 < s.size
    · rw [isName_long _ (by rw [hlen]; exact h40)]
      have h4 : decide ((40 : Int) < (s.size : Int)) = true := by simp; omega
      clear hlen
      go_enter Tryz.func58, Tryz.ntmps58
      go_wp2_with fail
      go_ret
      exact ⟨rfl, rfl⟩
    · have h4 : decide ((40 : Int) < (s.size : Int)) = false := by simp; omega
      have hg0 := str_get s 0 h0
      have HL := Lib.hid hlen
      by_cases hdot : s.data.toList.getD 0 0 = 46
      · rw [isName_dot _ hdot]
        rw [hdot] at hg0
        clear hlen
        go_enter Tryz.func58, Tryz.ntmps58
        go_wp2_with fail
        go_ret
        exact ⟨rfl, rfl⟩
      · have HD := Lib.hid hdot
        obtain ⟨c0, hc0⟩ : ∃ c, c = s.data.toList.getD 0 0 := ⟨_, rfl⟩
        rw [← hc0] at hg0 hdot
        have hd0 : ((c0.toNat : Int) == 46) = false := by
          have : c0.toNat ≠ 46 := fun h => hdot (UInt8.toNat_inj.1 h)
          rw [beq_eq_false_iff_ne]; omega
        have hd1 : ¬ (c0.toNat : Int) = 46 := by simpa using hd0
        clear hlen hc0 hdot
        go_enter Tryz.func58, Tryz.ntmps58
        go_wp2_with fail
        go_loopw [18] (fun ii wr => ∃ k : Nat, k ≤ s.size ∧ ii = .int .i64 k ∧ (s.data.toList.take k).all nmc = true ∧ w = wr) (fun ii _ => s.size - (intOf ii).toNat)
        case atStart => exact ⟨0, Nat.zero_le _, rfl, by simp, rfl⟩
        case round =>
          obtain ⟨k, hk, rfl, hall, rfl⟩ := hrel
          by_cases hlt : k < s.size
          · have hget := str_get s k hlt
            have hbad := isName_bad s.data.toList k (by rw [HL.out]; exact hlt)
            have hsucc := all_take_succ s.data.toList k (by rw [HL.out]; exact hlt) hall
            have hsmall : (k : Int) + 1 ≤ 41 := by omega
            obtain ⟨c, hc⟩ : ∃ c, c = s.data.toList.getD k 0 := ⟨_, rfl⟩
            rw [← hc] at hget hbad hsucc
            have HG := Lib.hid hget
            have HB := Lib.hid hbad
            have HS := Lib.hid hsucc
            clear hget hbad hsucc hc hall
            cases hn : nmc c
            · have HN := Lib.hid hn
              clear hn
              go_wp2_with fail
              rw [HG.out]
              refine (inName_any c _).mono ?_
              rintro e w' ⟨rfl, rfl⟩
              rw [HN.out]
              go_wp2_with fail
              go_ret
              exact ⟨by rw [HB.out HN.out]; rfl, rfl⟩
            · have HN := Lib.hid hn
              clear hn
              go_wp2_with fail
              rw [HG.out]
              refine (inName_any c _).mono ?_
              rintro e w' ⟨rfl, rfl⟩
              rw [HN.out]
              go_wp2_with fail
              go_roundw
              case rel => exact ⟨k + 1, by omega, by go_num, HS.out HN.out, by trivial⟩
              case measure => simp [intOf]; omega
          · obtain rfl : k = s.size := by omega
            have hres := isName_good s.data.toList (by rw [HL.out]; exact h0) (by rw [HL.out]; omega) HD.out (by rw [HL.out]; exact hall)
            have HR := Lib.hid hres
            clear hres hall
            go_wp2_with fail
            go_ret
            exact ⟨by rw [HR.out]; rfl, rfl⟩

theorem nmc_false (c : UInt8) (h1 : ¬ (97 ≤ c.toNat ∧ c.toNat ≤ 122)) (h2 : ¬ (65 ≤ c.toNat ∧ c.toNat ≤ 90)) (h3 : ¬ (48 ≤ c.toNat ∧ c.toNat ≤ 57)) (h4 : c.toNat ≠ 43 ∧ c.toNat ≠ 45 ∧ c.toNat ≠ 95 ∧ c.toNat ≠ 63 ∧ c.toNat ≠ 61 ∧ c.toNat ≠ 46) : nmc c = false := by
  have n : ∀ k : UInt8, c.toNat ≠ k.toNat → (c == k) = false := fun k h => by
    rw [beq_eq_false_iff_ne]; rintro rfl; exact h rfl
  have e1 : (decide (97 ≤ c.toNat) && decide (c.toNat ≤ 122)) = false := by rw [← Bool.decide_and]; exact decide_eq_false h1
  have e2 : (decide (65 ≤ c.toNat) && decide (c.toNat ≤ 90)) = false := by rw [← Bool.decide_and]; exact decide_eq_false h2
  have e3 : (decide (48 ≤ c.toNat) && decide (c.toNat ≤ 57)) = false := by rw [← Bool.decide_and]; exact decide_eq_false h3
  simp only [nmc, e1, e2, e3, n 43 h4.1, n 45 h4.2.1, n 95 h4.2.2.1, n 63 h4.2.2.2.1, n 61 h4.2.2.2.2.1, n 46 h4.2.2.2.2.2, Bool.or_false]

theorem nmc_mark (c : UInt8) (h : c.toNat = 43 ∨ c.toNat = 45 ∨ c.toNat = 95 ∨ c.toNat = 63 ∨ c.toNat = 61 ∨ c.toNat = 46) : nmc c = true := by
  have n : ∀ k : UInt8, c.toNat = k.toNat → c = k := fun k h => UInt8.toNat_inj.1 h
  rcases h with h | h | h | h | h | h
  · rw [n 43 h]; rfl
  · rw [n 45 h]; rfl
  · rw [n 95 h]; rfl
  · rw [n 63 h]; rfl
  · rw [n 61 h]; rfl
  · rw [n 46 h]; rfl

/-- All bytes but a dot at the beginning. -/
def okTo (l : List UInt8) (k : Nat) : Prop := (l.take k).all nmc = true ∧ (1 ≤ k → l.getD 0 0 ≠ 46)

theorem okTo_step (l : List UInt8) (k : Nat) (h : k < l.length) (ho : okTo l k) (hn : nmc (l.getD k 0) = true) (hd : k = 0 → l.getD k 0 ≠ 46) : okTo l (k + 1) := by
  refine ⟨all_take_succ l k h ho.1 hn, fun _ => ?_⟩
  rcases Nat.eq_zero_or_pos k with rfl | h0
  · exact hd rfl
  · exact ho.2 h0

theorem rname_end (l : List UInt8) (ho : okTo l l.length) : isName l = (decide (1 ≤ l.length) && decide (l.length ≤ 40)) := by
  obtain ⟨h1, h2⟩ := ho
  rw [List.take_length] at h1
  rcases Nat.eq_zero_or_pos l.length with h0 | h0
  · rw [isName_short l h0, h0]; rfl
  · have : (l.getD 0 0 != 46) = true := by simpa using h2 h0
    simp only [isName, h1, this, Bool.and_true]

set_option maxRecDepth 100000 in
set_option maxHeartbeats 20000000 in
theorem rname_any (s : ByteArray) (w : World) (hm : s.size ≤ 140737488355328) :
    Calls Tryz.prog 25 #[.string s] w fun e w' => e = .returned (.bool (isName s.data.toList)) ∧ w = w' := by
  have hlen : s.data.toList.length = s.size := by simp
  have HL := Lib.hid hlen
  clear hlen
  go_enter Tryz.func25, Tryz.ntmps25
  go_wp2_with fail
  go_loopw [3] (fun ii wr => ∃ k : Nat, k ≤ s.size ∧ ii = .int .i64 k ∧ okTo s.data.toList k ∧ w = wr) (fun ii _ => s.size - (intOf ii).toNat)
  case atStart => exact ⟨0, Nat.zero_le _, rfl, ⟨by simp, fun h => by omega⟩, rfl⟩
  case round =>
    obtain ⟨k, hk, rfl, hok, rfl⟩ := hrel
    by_cases hlt : k < s.size
    · have hget := str_get s k hlt
      have hbad := isName_bad s.data.toList k (by rw [HL.out]; exact hlt)
      have hstep := okTo_step s.data.toList k (by rw [HL.out]; exact hlt) hok
      have hdot : k = 0 → s.data.toList.getD k 0 = 46 → isName s.data.toList = false := fun h0 h => isName_dot _ (by rw [← h, h0])
      obtain ⟨c, hc⟩ : ∃ c, c = s.data.toList.getD k 0 := ⟨_, rfl⟩
      rw [← hc] at hget hbad hstep hdot
      have h46 : c.toNat ≠ 46 → c ≠ 46 := fun h h' => h (by rw [h']; rfl)
      have h46' : c.toNat = 46 → c = 46 := fun h => UInt8.toNat_inj.1 h
      have HG := Lib.hid hget
      have HB := Lib.hid hbad
      have HS := Lib.hid hstep
      have HDOT := Lib.hid hdot
      have HO := Lib.hid (nmc_false c)
      have HLT := Lib.hid (nmc_letter c)
      have HMK := Lib.hid (nmc_mark c)
      have H46 := Lib.hid h46
      have H46' := Lib.hid h46'
      have hnot : ∀ (x : Bool) (w : World), (Op.unary .not (.bool x)).run Tryz.prog w = .ok (.bool (!x)) w := fun _ _ => rfl
      have hc255 := c.toNat_lt
      have hzc : ((s[k]).toNat : Int) = (c.toNat : Int) := by rw [hget]
      obtain ⟨z, hz⟩ : ∃ z : Int, z = (c.toNat : Int) := ⟨_, rfl⟩
      rw [← hz] at hzc
      have HZ := Lib.hid hz
      clear hget hbad hstep hc hok hdot h46 h46'
      have hki : (k : Int) < (s.size : Int) := by omega
      rcases stretch c.toNat with h | ⟨h, h'⟩ | ⟨h, h'⟩ | ⟨h, h'⟩ | ⟨h, h'⟩ | ⟨h, h'⟩ | h
      · have q97 : decide ((97 : Int) ≤ z) = false := by simp; omega
        have q122 : decide (z ≤ (122 : Int)) = true := by simp; omega
        have q65 : decide ((65 : Int) ≤ z) = false := by simp; omega
        have q90 : decide (z ≤ (90 : Int)) = true := by simp; omega
        have q48 : decide ((48 : Int) ≤ z) = false := by simp; omega
        have q57 : decide (z ≤ (57 : Int)) = true := by simp; omega
        by_cases e43 : c.toNat = 43
        · have zz : z = (43 : Int) := by omega
          have GOOD : Hid (nmc c = true) := Lib.hid (HMK.out (by omega))
          have NOTD : Hid (c ≠ 46) := Lib.hid (H46.out (by omega))
          clear hz
          rw [zz] at hzc
          clear q97 q122 q65 q90 q48 q57 zz HZ
          go_wp2_with fail
          go_roundw
          case rel => exact ⟨k + 1, by omega, by go_num, HS.out GOOD.out (fun _ => NOTD.out), by trivial⟩
          case measure => simp [intOf]; omega
        · skip
          by_cases e45 : c.toNat = 45
          · have zz : z = (45 : Int) := by omega
            have GOOD : Hid (nmc c = true) := Lib.hid (HMK.out (by omega))
            have NOTD : Hid (c ≠ 46) := Lib.hid (H46.out (by omega))
            clear hz
            rw [zz] at hzc
            clear q97 q122 q65 q90 q48 q57 zz HZ
            go_wp2_with fail
            go_roundw
            case rel => exact ⟨k + 1, by omega, by go_num, HS.out GOOD.out (fun _ => NOTD.out), by trivial⟩
            case measure => simp [intOf]; omega
          · skip
            by_cases e46 : c.toNat = 46
            · have zz : z = (46 : Int) := by omega
              have GOOD : Hid (nmc c = true) := Lib.hid (HMK.out (by omega))
              have ISD : Hid (c = 46) := Lib.hid (H46'.out (by omega))
              clear hz
              rw [zz] at hzc
              clear q97 q122 q65 q90 q48 q57 zz HZ
              rcases Nat.eq_zero_or_pos k with h0 | h0
              · obtain ⟨R, hR⟩ : ∃ R, R = isName s.data.toList := ⟨_, rfl⟩
                have HR := Lib.hid hR
                clear hR
                subst h0
                go_wp2_with fail
                go_ret
                exact ⟨by rw [HDOT.out (by trivial) ISD.out]; rfl, rfl⟩
              · have k0 : ((k : Int) == 0) = false := by rw [beq_eq_false_iff_ne]; omega
                have k1 : ¬ (k : Int) = 0 := by omega
                have k2 : ¬ k = 0 := by omega
                go_wp2_with fail
                go_roundw
                case rel => exact ⟨k + 1, by omega, by go_num, HS.out GOOD.out (fun h => absurd h k2), by trivial⟩
                case measure => simp [intOf]; omega
            · skip
              have n43 : (z == (43 : Int)) = false := by rw [beq_eq_false_iff_ne]; omega
              have m43 : ¬ z = (43 : Int) := by omega
              have n45 : (z == (45 : Int)) = false := by rw [beq_eq_false_iff_ne]; omega
              have m45 : ¬ z = (45 : Int) := by omega
              have n95 : (z == (95 : Int)) = false := by rw [beq_eq_false_iff_ne]; omega
              have m95 : ¬ z = (95 : Int) := by omega
              have n63 : (z == (63 : Int)) = false := by rw [beq_eq_false_iff_ne]; omega
              have m63 : ¬ z = (63 : Int) := by omega
              have n61 : (z == (61 : Int)) = false := by rw [beq_eq_false_iff_ne]; omega
              have m61 : ¬ z = (61 : Int) := by omega
              have n46 : (z == (46 : Int)) = false := by rw [beq_eq_false_iff_ne]; omega
              have m46 : ¬ z = (46 : Int) := by omega
              have BAD : Hid (nmc c = false) := Lib.hid (HO.out (by omega) (by omega) (by omega) (by omega))
              clear hz
              go_wp2_with fail
              go_ret
              exact ⟨by rw [HB.out BAD.out]; rfl, rfl⟩
      · have q97 : decide ((97 : Int) ≤ z) = false := by simp; omega
        have q122 : decide (z ≤ (122 : Int)) = true := by simp; omega
        have q65 : decide ((65 : Int) ≤ z) = false := by simp; omega
        have q90 : decide (z ≤ (90 : Int)) = true := by simp; omega
        have q48 : decide ((48 : Int) ≤ z) = true := by simp; omega
        have q57 : decide (z ≤ (57 : Int)) = true := by simp; omega
        have n43 : (z == (43 : Int)) = false := by rw [beq_eq_false_iff_ne]; omega
        have m43 : ¬ z = (43 : Int) := by omega
        have n45 : (z == (45 : Int)) = false := by rw [beq_eq_false_iff_ne]; omega
        have m45 : ¬ z = (45 : Int) := by omega
        have n95 : (z == (95 : Int)) = false := by rw [beq_eq_false_iff_ne]; omega
        have m95 : ¬ z = (95 : Int) := by omega
        have n63 : (z == (63 : Int)) = false := by rw [beq_eq_false_iff_ne]; omega
        have m63 : ¬ z = (63 : Int) := by omega
        have n61 : (z == (61 : Int)) = false := by rw [beq_eq_false_iff_ne]; omega
        have m61 : ¬ z = (61 : Int) := by omega
        have n46 : (z == (46 : Int)) = false := by rw [beq_eq_false_iff_ne]; omega
        have m46 : ¬ z = (46 : Int) := by omega
        have GOOD : Hid (nmc c = true) := Lib.hid (HLT.out (by omega))
        have NOTD : Hid (c ≠ 46) := Lib.hid (H46.out (by omega))
        clear hz
        go_wp2_with fail
        go_roundw
        case rel => exact ⟨k + 1, by omega, by go_num, HS.out GOOD.out (fun _ => NOTD.out), by trivial⟩
        case measure => simp [intOf]; omega
      · have q97 : decide ((97 : Int) ≤ z) = false := by simp; omega
        have q122 : decide (z ≤ (122 : Int)) = true := by simp; omega
        have q65 : decide ((65 : Int) ≤ z) = false := by simp; omega
        have q90 : decide (z ≤ (90 : Int)) = true := by simp; omega
        have q48 : decide ((48 : Int) ≤ z) = true := by simp; omega
        have q57 : decide (z ≤ (57 : Int)) = false := by simp; omega
        by_cases e61 : c.toNat = 61
        · have zz : z = (61 : Int) := by omega
          have GOOD : Hid (nmc c = true) := Lib.hid (HMK.out (by omega))
          have NOTD : Hid (c ≠ 46) := Lib.hid (H46.out (by omega))
          clear hz
          rw [zz] at hzc
          clear q97 q122 q65 q90 q48 q57 zz HZ
          go_wp2_with fail
          go_roundw
          case rel => exact ⟨k + 1, by omega, by go_num, HS.out GOOD.out (fun _ => NOTD.out), by trivial⟩
          case measure => simp [intOf]; omega
        · skip
          by_cases e63 : c.toNat = 63
          · have zz : z = (63 : Int) := by omega
            have GOOD : Hid (nmc c = true) := Lib.hid (HMK.out (by omega))
            have NOTD : Hid (c ≠ 46) := Lib.hid (H46.out (by omega))
            clear hz
            rw [zz] at hzc
            clear q97 q122 q65 q90 q48 q57 zz HZ
            go_wp2_with fail
            go_roundw
            case rel => exact ⟨k + 1, by omega, by go_num, HS.out GOOD.out (fun _ => NOTD.out), by trivial⟩
            case measure => simp [intOf]; omega
          · skip
            have n43 : (z == (43 : Int)) = false := by rw [beq_eq_false_iff_ne]; omega
            have m43 : ¬ z = (43 : Int) := by omega
            have n45 : (z == (45 : Int)) = false := by rw [beq_eq_false_iff_ne]; omega
            have m45 : ¬ z = (45 : Int) := by omega
            have n95 : (z == (95 : Int)) = false := by rw [beq_eq_false_iff_ne]; omega
            have m95 : ¬ z = (95 : Int) := by omega
            have n63 : (z == (63 : Int)) = false := by rw [beq_eq_false_iff_ne]; omega
            have m63 : ¬ z = (63 : Int) := by omega
            have n61 : (z == (61 : Int)) = false := by rw [beq_eq_false_iff_ne]; omega
            have m61 : ¬ z = (61 : Int) := by omega
            have n46 : (z == (46 : Int)) = false := by rw [beq_eq_false_iff_ne]; omega
            have m46 : ¬ z = (46 : Int) := by omega
            have BAD : Hid (nmc c = false) := Lib.hid (HO.out (by omega) (by omega) (by omega) (by omega))
            clear hz
            go_wp2_with fail
            go_ret
            exact ⟨by rw [HB.out BAD.out]; rfl, rfl⟩
      · have q97 : decide ((97 : Int) ≤ z) = false := by simp; omega
        have q122 : decide (z ≤ (122 : Int)) = true := by simp; omega
        have q65 : decide ((65 : Int) ≤ z) = true := by simp; omega
        have q90 : decide (z ≤ (90 : Int)) = true := by simp; omega
        have q48 : decide ((48 : Int) ≤ z) = true := by simp; omega
        have q57 : decide (z ≤ (57 : Int)) = false := by simp; omega
        have n43 : (z == (43 : Int)) = false := by rw [beq_eq_false_iff_ne]; omega
        have m43 : ¬ z = (43 : Int) := by omega
        have n45 : (z == (45 : Int)) = false := by rw [beq_eq_false_iff_ne]; omega
        have m45 : ¬ z = (45 : Int) := by omega
        have n95 : (z == (95 : Int)) = false := by rw [beq_eq_false_iff_ne]; omega
        have m95 : ¬ z = (95 : Int) := by omega
        have n63 : (z == (63 : Int)) = false := by rw [beq_eq_false_iff_ne]; omega
        have m63 : ¬ z = (63 : Int) := by omega
        have n61 : (z == (61 : Int)) = false := by rw [beq_eq_false_iff_ne]; omega
        have m61 : ¬ z = (61 : Int) := by omega
        have n46 : (z == (46 : Int)) = false := by rw [beq_eq_false_iff_ne]; omega
        have m46 : ¬ z = (46 : Int) := by omega
        have GOOD : Hid (nmc c = true) := Lib.hid (HLT.out (by omega))
        have NOTD : Hid (c ≠ 46) := Lib.hid (H46.out (by omega))
        clear hz
        go_wp2_with fail
        go_roundw
        case rel => exact ⟨k + 1, by omega, by go_num, HS.out GOOD.out (fun _ => NOTD.out), by trivial⟩
        case measure => simp [intOf]; omega
      · have q97 : decide ((97 : Int) ≤ z) = false := by simp; omega
        have q122 : decide (z ≤ (122 : Int)) = true := by simp; omega
        have q65 : decide ((65 : Int) ≤ z) = true := by simp; omega
        have q90 : decide (z ≤ (90 : Int)) = false := by simp; omega
        have q48 : decide ((48 : Int) ≤ z) = true := by simp; omega
        have q57 : decide (z ≤ (57 : Int)) = false := by simp; omega
        by_cases e95 : c.toNat = 95
        · have zz : z = (95 : Int) := by omega
          have GOOD : Hid (nmc c = true) := Lib.hid (HMK.out (by omega))
          have NOTD : Hid (c ≠ 46) := Lib.hid (H46.out (by omega))
          clear hz
          rw [zz] at hzc
          clear q97 q122 q65 q90 q48 q57 zz HZ
          go_wp2_with fail
          go_roundw
          case rel => exact ⟨k + 1, by omega, by go_num, HS.out GOOD.out (fun _ => NOTD.out), by trivial⟩
          case measure => simp [intOf]; omega
        · skip
          have n43 : (z == (43 : Int)) = false := by rw [beq_eq_false_iff_ne]; omega
          have m43 : ¬ z = (43 : Int) := by omega
          have n45 : (z == (45 : Int)) = false := by rw [beq_eq_false_iff_ne]; omega
          have m45 : ¬ z = (45 : Int) := by omega
          have n95 : (z == (95 : Int)) = false := by rw [beq_eq_false_iff_ne]; omega
          have m95 : ¬ z = (95 : Int) := by omega
          have n63 : (z == (63 : Int)) = false := by rw [beq_eq_false_iff_ne]; omega
          have m63 : ¬ z = (63 : Int) := by omega
          have n61 : (z == (61 : Int)) = false := by rw [beq_eq_false_iff_ne]; omega
          have m61 : ¬ z = (61 : Int) := by omega
          have n46 : (z == (46 : Int)) = false := by rw [beq_eq_false_iff_ne]; omega
          have m46 : ¬ z = (46 : Int) := by omega
          have BAD : Hid (nmc c = false) := Lib.hid (HO.out (by omega) (by omega) (by omega) (by omega))
          clear hz
          go_wp2_with fail
          go_ret
          exact ⟨by rw [HB.out BAD.out]; rfl, rfl⟩
      · have q97 : decide ((97 : Int) ≤ z) = true := by simp; omega
        have q122 : decide (z ≤ (122 : Int)) = true := by simp; omega
        have q65 : decide ((65 : Int) ≤ z) = true := by simp; omega
        have q90 : decide (z ≤ (90 : Int)) = false := by simp; omega
        have q48 : decide ((48 : Int) ≤ z) = true := by simp; omega
        have q57 : decide (z ≤ (57 : Int)) = false := by simp; omega
        have n43 : (z == (43 : Int)) = false := by rw [beq_eq_false_iff_ne]; omega
        have m43 : ¬ z = (43 : Int) := by omega
        have n45 : (z == (45 : Int)) = false := by rw [beq_eq_false_iff_ne]; omega
        have m45 : ¬ z = (45 : Int) := by omega
        have n95 : (z == (95 : Int)) = false := by rw [beq_eq_false_iff_ne]; omega
        have m95 : ¬ z = (95 : Int) := by omega
        have n63 : (z == (63 : Int)) = false := by rw [beq_eq_false_iff_ne]; omega
        have m63 : ¬ z = (63 : Int) := by omega
        have n61 : (z == (61 : Int)) = false := by rw [beq_eq_false_iff_ne]; omega
        have m61 : ¬ z = (61 : Int) := by omega
        have n46 : (z == (46 : Int)) = false := by rw [beq_eq_false_iff_ne]; omega
        have m46 : ¬ z = (46 : Int) := by omega
        have GOOD : Hid (nmc c = true) := Lib.hid (HLT.out (by omega))
        have NOTD : Hid (c ≠ 46) := Lib.hid (H46.out (by omega))
        clear hz
        go_wp2_with fail
        go_roundw
        case rel => exact ⟨k + 1, by omega, by go_num, HS.out GOOD.out (fun _ => NOTD.out), by trivial⟩
        case measure => simp [intOf]; omega
      · have q97 : decide ((97 : Int) ≤ z) = true := by simp; omega
        have q122 : decide (z ≤ (122 : Int)) = false := by simp; omega
        have q65 : decide ((65 : Int) ≤ z) = true := by simp; omega
        have q90 : decide (z ≤ (90 : Int)) = false := by simp; omega
        have q48 : decide ((48 : Int) ≤ z) = true := by simp; omega
        have q57 : decide (z ≤ (57 : Int)) = false := by simp; omega
        have n43 : (z == (43 : Int)) = false := by rw [beq_eq_false_iff_ne]; omega
        have m43 : ¬ z = (43 : Int) := by omega
        have n45 : (z == (45 : Int)) = false := by rw [beq_eq_false_iff_ne]; omega
        have m45 : ¬ z = (45 : Int) := by omega
        have n95 : (z == (95 : Int)) = false := by rw [beq_eq_false_iff_ne]; omega
        have m95 : ¬ z = (95 : Int) := by omega
        have n63 : (z == (63 : Int)) = false := by rw [beq_eq_false_iff_ne]; omega
        have m63 : ¬ z = (63 : Int) := by omega
        have n61 : (z == (61 : Int)) = false := by rw [beq_eq_false_iff_ne]; omega
        have m61 : ¬ z = (61 : Int) := by omega
        have n46 : (z == (46 : Int)) = false := by rw [beq_eq_false_iff_ne]; omega
        have m46 : ¬ z = (46 : Int) := by omega
        have BAD : Hid (nmc c = false) := Lib.hid (HO.out (by omega) (by omega) (by omega) (by omega))
        clear hz
        go_wp2_with fail
        go_ret
        exact ⟨by rw [HB.out BAD.out]; rfl, rfl⟩
    · obtain rfl : k = s.size := by omega
      rw [← HL.out] at hok
      have hres := rname_end _ hok
      rw [HL.out] at hres
      have HR := Lib.hid hres
      clear hres hok
      by_cases h1 : 1 ≤ s.size
      · have i1 : decide ((1 : Int) ≤ (s.size : Int)) = true := by simp; omega
        have j1 : decide (1 ≤ s.size) = true := by simpa using h1
        by_cases h4 : s.size ≤ 40
        · have i4 : decide ((s.size : Int) ≤ 40) = true := by simp; omega
          have j4 : decide (s.size ≤ 40) = true := by simpa using h4
          have J1 := Lib.hid j1
          have J4 := Lib.hid j4
          clear j1 j4
          go_wp2_with fail
          go_ret
          exact ⟨by rw [HR.out, J1.out, J4.out]; rfl, rfl⟩
        · have i4 : decide ((s.size : Int) ≤ 40) = false := by simp; omega
          have j4 : decide (s.size ≤ 40) = false := by simpa using h4
          have J1 := Lib.hid j1
          have J4 := Lib.hid j4
          clear j1 j4
          go_wp2_with fail
          go_ret
          exact ⟨by rw [HR.out, J1.out, J4.out]; rfl, rfl⟩
      · have i1 : decide ((1 : Int) ≤ (s.size : Int)) = false := by simp; omega
        have j1 : decide (1 ≤ s.size) = false := by simpa using h1
        have J1 := Lib.hid j1
        clear j1
        go_wp2_with fail
        go_ret
        exact ⟨by rw [HR.out, J1.out]; rfl, rfl⟩

end Go.Proofs.YtokbakpbhpknfaaGreatDoor.Nam

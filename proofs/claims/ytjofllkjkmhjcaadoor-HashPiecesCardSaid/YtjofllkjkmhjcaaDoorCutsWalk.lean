/-
  The walk of the law HashCuts.
-/
import Derived.Test.YtjofllkjkmhjcaaDoorOf
import Derived.Test.YtjofllkjkmhjcaaDoorAwakeH
import Derived.IntWalk
namespace Go.Proofs.YtjofllkjkmhjcaaDoor
open Go.RowKit
set_option linter.unusedVariables false

theorem LaidW.later {w w' : World} (l : LaidW w) (hb : Below w.heap.size w w') : LaidW w' := l.below hb l.two

theorem isN_nil (w : World) : IsN w none 0 0 [] := ⟨rfl, .inl rfl, fun _ => ⟨rfl, rfl⟩, ⟨Nat.le_refl _, Nat.zero_le _⟩, fun _ h => by cases h⟩

theorem IsN.take {w : World} {a : Option Addr} {len cap : Nat} {l : List Nat} (h : IsN w a len cap l) (k : Nat) (hk : k ≤ len) : IsN w a k cap (l.take k) := by
  obtain ⟨h1, h2, h3, h4, h5⟩ := h
  refine ⟨by simp; omega, ?_, fun ha => ⟨by have := h3 ha; omega, (h3 ha).2⟩, ⟨by omega, h4.2⟩, fun x hx => h5 x (List.mem_of_mem_take hx)⟩
  rcases h2 with h0 | ⟨b, off, rfl, hlt, hby⟩
  · exact .inl (by omega)
  · exact .inr ⟨b, off, rfl, hlt, hby.take k⟩

theorem IsN.drop {w : World} {a : Option Addr} {len cap : Nat} {l : List Nat} (h : IsN w a len cap l) (k : Nat) (hk : k ≤ len) : IsN w (a.map (fun x => x.add k)) (len - k) (cap - k) (l.drop k) := by
  obtain ⟨h1, h2, h3, h4, h5⟩ := h
  refine ⟨by simp; omega, ?_, ?_, ⟨by omega, Nat.le_trans (Nat.sub_le _ _) h4.2⟩, fun x hx => h5 x (List.mem_of_mem_drop hx)⟩
  · rcases h2 with h0 | ⟨b, off, rfl, hlt, hby⟩
    · exact .inl (by omega)
    · exact .inr ⟨b, off + k, by rw [Option.map_some, Addr.add_mid], hlt, hby.drop k⟩
  · intro ha
    have ha' : a = none := by simpa using ha
    have := h3 ha'
    omega

theorem IsN.drop_at {w : World} {a : Option Addr} {len cap k : Nat} {l : List Nat} (h : IsN w a len cap l) (hc : cap = k) (hk : k ≤ len) : IsN w a (len - k) 0 (l.drop k) := by
  subst hc
  obtain ⟨h1, h2, h3, h4, h5⟩ := h
  exact ⟨by simp; omega, .inl (by omega), fun _ => ⟨by omega, rfl⟩, ⟨by omega, Nat.zero_le _⟩, fun x hx => h5 x (List.mem_of_mem_drop hx)⟩

theorem IsN.cap_at {w : World} {a : Option Addr} {len cap k : Nat} {l : List Nat} (h : IsN w a len cap l) (hc : cap = k) : IsN w a len k l := hc ▸ h

theorem IsN.drop_all {w : World} {a : Option Addr} {len k : Nat} {l : List Nat} (h : IsN w a len k l) (hk : k ≤ len) : IsN w a (len - k) 0 (l.drop k) := by
  obtain ⟨h1, h2, h3, h4, h5⟩ := h
  exact ⟨by simp; omega, .inl (by omega), fun _ => ⟨by omega, rfl⟩, ⟨by omega, Nat.zero_le _⟩, fun x hx => h5 x (List.mem_of_mem_drop hx)⟩

set_option maxRecDepth 100000 in
set_option maxHeartbeats 2000000 in
theorem cuts_far (w : World) (a : Option Addr) (n cap : Nat) (at_ : Int) (h : 20000 < n) (hl : LaidW w) :
    Calls Tryd.prog 5 #[.slice a n cap, .int .u16 at_] w fun e w' => e = .returned (.bool true) ∧ Below w.heap.size w w' := by
  have HL := Lib.hid hl
  have hn : (20000 : Int) < (n : Int) := by omega
  have hnot : ∀ (x : Bool) (w : World), (Op.unary .not (.bool x)).run Tryd.prog w = .ok (.bool (!x)) w := fun _ _ => rfl
  clear hl
  go_enter Tryd.func5, Tryd.ntmps5
  go_wp2_with fail
  refine (awake_any w HL.out).mono ?_
  rintro e w1 ⟨rfl, b1⟩
  have HL1 := Lib.hid (HL.out.later b1)
  go_wp2_with fail
  refine (awake_any w1 HL1.out).mono ?_
  rintro e w2 ⟨rfl, b2⟩
  go_wp2_with fail
  go_ret
  exact ⟨rfl, b1.trans (b2.mono b1.size)⟩

set_option maxRecDepth 100000 in
set_option maxHeartbeats 1000000 in
theorem cuts_near (w : World) (a : Option Addr) (n cap : Nat) (B : List Nat) (hB : IsN w a n cap B) (at_ : Int) (h : n ≤ 20000) (ha0 : 0 ≤ at_) (ha1 : at_ ≤ 65535) (hl : LaidW w) :
    Calls Tryd.prog 5 #[.slice a n cap, .int .u16 at_] w fun e w' => e = .returned (.bool true) ∧ Below w.heap.size w w' := by
  have HL := Lib.hid hl
  have HB := Lib.hid hB
  have hroom := hB.room
  unfold maxLen at hroom
  have hn : ¬ (20000 : Int) < (n : Int) := by omega
  have hnot : ∀ (x : Bool) (w : World), (Op.unary .not (.bool x)).run Tryd.prog w = .ok (.bool (!x)) w := fun _ _ => rfl
  obtain ⟨k, hk⟩ : ∃ k : Nat, at_ % ((n : Int) + 1) = (k : Int) := ⟨(at_ % ((n : Int) + 1)).toNat, by have := Int.emod_nonneg at_ (show (n : Int) + 1 ≠ 0 by omega); omega⟩
  have hkn : k ≤ n := by have := Int.emod_lt_of_pos at_ (show 0 < (n : Int) + 1 by omega); omega
  have hk0 : (0 : Int) ≤ (k : Int) := by omega
  have hk1 : (k : Int) ≤ (n : Int) := by omega
  have hk2 : (k : Int) ≤ (cap : Int) := by omega
  clear hl hB
  go_enter Tryd.func5, Tryd.ntmps5
  go_wp2_with fail
  refine (awake_any w HL.out).mono ?_
  rintro e w1 ⟨rfl, b1⟩
  have HL1 := Lib.hid (HL.out.later b1)
  have HK := Lib.hid hk
  go_wp2_with fail
  rw [hk]
  clear hk
  refine (new_any w1 HL1.out).mono ?_
  rintro e w2 ⟨rfl, hw2⟩
  have n2 : Has w2 w1.heap.size newRow 61 := by rw [hw2]; exact Has.new w1 _ _
  have b2 : Below w.heap.size w w2 := by rw [hw2]; exact b1.alloc b1.size _
  have s2 : w2.heap.size = w1.heap.size + 1 := by rw [hw2]; simp
  have hs1 := b1.size
  obtain ⟨g, hh⟩ : ∃ g, g = w1.heap.size := ⟨_, rfl⟩
  rw [← hh] at n2 s2 hs1 ⊢
  have hB2 := Lib.hid (HB.out.later b2)
  have HL2 := Lib.hid (HL.out.later b2)
  have h1 : 1 < g := by have := HL.out.two; omega
  have HH := Lib.hid hh
  clear hw2 hh b1 HL1
  go_wp2_with fail
  refine (write_n g a k cap newRow [] (B.take k) w2 n2 took_new (hB2.out.take k hkn) (fun h0 => (HB.out.take k hkn).old h0 hs1) (by simp; omega) HL2.out h1).mono ?_
  rintro e w3 ⟨rfl, L3, n3, t3, bb3⟩
  rw [List.nil_append] at t3
  have hs3 := bb3.size
  have bw3 : Below w.heap.size w w3 := b2.trans ((bb3.mono (by omega)).below (by omega))
  have HL3 := Lib.hid (HL.out.later bw3)
  have T3 := Lib.hid t3
  clear t3 bb3
  go_wp2_with fail
  refine (write_n g none 0 0 L3 (B.take k) [] w3 n3 T3.out (isN_nil _) (fun h0 => absurd rfl h0) (by simp; omega) HL3.out h1).mono ?_
  rintro e w4 ⟨rfl, L4, n4, t4, bb4⟩
  rw [List.append_nil] at t4
  have hs4 := bb4.size
  have bw4 : Below w.heap.size w w4 := bw3.trans ((bb4.mono (by omega)).below (by omega))
  have HL4 := Lib.hid (HL.out.later bw4)
  have T4 := Lib.hid t4
  clear t4 bb4
  have HG := guard_32
  have heq : ∀ W, (Op.equalIn 10000 24 (.agg ((dig B).map byv).toArray) (.agg ((dig B).map byv).toArray)).run Tryd.prog W = .ok true W := by
    intro W
    have := eql_32 W (dig B) (dig B) (dig_length B) (dig_length B)
    simpa using this
  have HEQ := Lib.hid heq
  clear heq
  go_wp2_with fail
  all_goals
    first
      | ((with_reducible refine (write_n g _ (n - k) _ L4 (B.take k) (B.drop k) w4 n4 T4.out ((HB.out.later bw4).drop k hkn) (fun h0 => ((HB.out.drop k hkn).old h0 hs1)) (by simp; omega) HL4.out h1).mono ?_))
      | ((with_reducible refine (write_n g _ (n - k) _ L4 (B.take k) (B.drop k) w4 n4 T4.out ((HB.out.later bw4).drop_at (by assumption) hkn) (fun h0 => absurd h0 (by omega)) (by simp; omega) HL4.out h1).mono ?_))
    rintro e w5 ⟨rfl, L5, n5, t5, bb5⟩
    rw [List.take_append_drop] at t5
    have hs5 := bb5.size
    have bw5 : Below w.heap.size w w5 := bw4.trans ((bb5.mono (by omega)).below (by omega))
    have HL5 := Lib.hid (HL.out.later bw5)
    have T5 := Lib.hid t5
    clear t5 bb5
    go_wp2_with fail
    refine (sum_took g L5 B w5 n5 T5.out HL5.out h1).mono ?_
    rintro e w6 ⟨rfl, n6, bb6⟩
    have hs6 := bb6.size
    have bw6 : Below w.heap.size w w6 := bw5.trans ((bb6.mono (by omega)).below (by omega))
    have HL6 := Lib.hid (HL.out.later bw6)
    clear bb6
    go_wp2_with fail
    first
      | ((with_reducible refine (of_n a n cap B w6 (HB.out.later bw6) (by omega) HL6.out).mono ?_))
      | ((with_reducible refine (of_n a n k B w6 ((HB.out.later bw6).cap_at (by assumption)) (by omega) HL6.out).mono ?_))
    rintro e w7 ⟨rfl, bb7⟩
    have heq := HEQ.out
    go_wp2_with fail
    go_ret
    exact ⟨rfl, bw6.trans (bb7.mono bw6.size)⟩

theorem walk_HashCuts (w : World) (a : Option Addr) (n cap : Nat) (B : List Nat) (hB : IsN w a n cap B) (hm : n ≤ 140737488355328) (at_ : Int) (hw : (Lit.int .u16 at_).wf = true) (hl : LaidW w) :
    Calls Tryd.prog 5 #[.slice a n cap, .int .u16 at_] w fun e w' => e = .returned (.bool true) ∧ Below w.heap.size w w' := by
  by_cases h : n ≤ 20000
  · simp only [Lit.wf, Bool.and_eq_true, decide_eq_true_eq] at hw
    have hmin : IntKind.u16.min = 0 := rfl
    have hmax : IntKind.u16.max = 65535 := rfl
    exact cuts_near w a n cap B hB at_ h (by omega) (by omega) hl
  · exact cuts_far w a n cap at_ (by omega) hl

end Go.Proofs.YtjofllkjkmhjcaaDoor

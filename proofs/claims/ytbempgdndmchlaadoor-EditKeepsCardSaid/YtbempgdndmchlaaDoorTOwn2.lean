/-
  Is a tree right, what is in it aside: the reference's own, of a file, a link, and what is neither. Condition: the names are no longer than memory.
-/
import Derived.Test.YtbempgdndmchlaaDoorTOwn
namespace Go.Proofs.YtbempgdndmchlaaDoor
open Go.RowKit
set_option linter.unusedVariables false

theorem sum_not {m n : Nat} (hm : m ≤ maxLen) (hn : n ≤ maxLen) (h : ¬ (m = 0 ∧ n = 0)) : wrap64 ((m : Int) + (n : Int)) ≠ 0 := by
  unfold maxLen at hm hn
  unfold wrap64
  omega

theorem both_not {m n : Nat} (h : ¬ (m = 0 ∧ n = 0)) : (decide (m = 0) && decide (n = 0)) = false := by
  rw [Bool.and_eq_false_iff]
  by_cases h0 : m = 0
  · exact .inr (decide_eq_false fun h1 => h ⟨h0, h1⟩)
  · exact .inl (decide_eq_false h0)

theorem clear_all {l : List UInt8} (h : ∀ i, i < l.length → l.getD i 0 ≠ 0) : l.contains 0 = false := by
  cases hc : l.contains 0 with
  | false => rfl
  | true =>
    have hm : (0 : UInt8) ∈ l := by simpa using hc
    obtain ⟨i, hi, he⟩ := List.getElem_of_mem hm
    exact absurd (by rw [List.getD_eq_getElem?_getD, List.getElem?_eq_getElem hi]; exact he) (h i hi)

set_option maxRecDepth 100000 in
set_option maxHeartbeats 20000000 in
theorem own_file (k : UInt8) (hk3 : k ≠ 3) (hk2 : k ≠ 2) (x : Bool) (d : List UInt8) (ns : List ByteArray) (ks : List T) (w : World) (ad : Option Addr) (nd cd : Nat) (an : Option Addr) (nn cn : Nat) (ak : Option Addr) (nk ck : Nat)
    (ln : ns.length = nn) (lk : ks.length = nk) (hn : nn ≤ maxLen) (hk : nk ≤ maxLen) :
    Calls Tryd.prog 50 #[.agg #[.int .u8 (k.toNat : Int), .bool x, .slice ad nd cd, .slice an nn cn, .slice ak nk ck]] w fun e w' => e = .returned (.bool (formedT (.mk k x d ns ks))) ∧ Below w.heap.size w w' := by
  rw [formedT_other hk3, empty_len, empty_len, ln, lk]
  have b1 : ∀ u : Array Value, Below w.heap.size w (w.alloc (.cells u 26)) := fun u => (Below.refl _ _).alloc (Nat.le_refl _) _
  have HB1 := Lib.hid b1
  have q2 : Hid ((k == 2) = false) := Lib.hid (by simpa using hk2)
  by_cases h1 : k = 1
  · subst h1
    by_cases hz : nn = 0 ∧ nk = 0
    · obtain ⟨rfl, rfl⟩ := hz
      clear b1 ln lk hn hk hk3 hk2
      go_enter Tryd.func50, Tryd.ntmps50
      go_wp2_with fail
      go_ret
      exact ⟨rfl, HB1.out _⟩
    · have hr := Lib.hid (both_not hz)
      have hs := sum_not hn hk hz
      obtain ⟨Z, hZ⟩ : ∃ Z, wrap64 ((nn : Int) + (nk : Int)) = Z := ⟨_, rfl⟩
      rw [hZ] at hs
      have z0 : (Z == 0) = false := by rw [beq_eq_false_iff_ne]; exact hs
      clear b1 ln lk hn hk hk3 hk2 hz
      go_enter Tryd.func50, Tryd.ntmps50
      go_wp2_with fail
      go_ret
      exact ⟨by rw [hr.out]; rfl, HB1.out _⟩
  · have q1 : Hid ((k == 1) = false) := Lib.hid (by simpa using h1)
    obtain ⟨z, hz⟩ : ∃ z : Int, z = (k.toNat : Int) := ⟨_, rfl⟩
    rw [← hz]
    have z3 : (z == 3) = false := by
      have : k.toNat ≠ 3 := fun h => hk3 (UInt8.toNat_inj.1 h)
      rw [beq_eq_false_iff_ne]; omega
    have z3' : ¬ z = 3 := by simpa using z3
    have z2 : (z == 2) = false := by
      have : k.toNat ≠ 2 := fun h => hk2 (UInt8.toNat_inj.1 h)
      rw [beq_eq_false_iff_ne]; omega
    have z2' : ¬ z = 2 := by simpa using z2
    have z1 : (z == 1) = false := by
      have : k.toNat ≠ 1 := fun h => h1 (UInt8.toNat_inj.1 h)
      rw [beq_eq_false_iff_ne]; omega
    have z1' : ¬ z = 1 := by simpa using z1
    clear b1 ln lk hn hk hk3 hk2 h1 hz
    go_enter Tryd.func50, Tryd.ntmps50
    go_wp2_with fail
    go_ret
    exact ⟨by rw [q1.out, q2.out]; simp, HB1.out _⟩

set_option maxRecDepth 100000 in
set_option maxHeartbeats 20000000 in
theorem own_link (x : Bool) (d : List UInt8) (ns : List ByteArray) (ks : List T) (w : World) (ad : Option Addr) (nd cd : Nat) (an : Option Addr) (nn cn : Nat) (ak : Option Addr) (nk ck : Nat)
    (hB : IsB w ad nd cd d) (ln : ns.length = nn) (lk : ks.length = nk) (hn : nn ≤ maxLen) (hk : nk ≤ maxLen) :
    Calls Tryd.prog 50 #[.agg #[.int .u8 2, .bool x, .slice ad nd cd, .slice an nn cn, .slice ak nk ck]] w fun e w' => e = .returned (.bool (formedT (.mk 2 x d ns ks))) ∧ Below w.heap.size w w' := by
  rw [formedT_other (by decide), empty_len, empty_len, ln, lk]
  have HS := Lib.hid hB
  have HSUM : Hid (¬ (nn = 0 ∧ nk = 0) → wrap64 ((nn : Int) + (nk : Int)) ≠ 0) := Lib.hid (fun h => sum_not hn hk h)
  clear hB ln lk hn hk
  go_enter Tryd.func50, Tryd.ntmps50
  go_wp2_with fail
  obtain ⟨w1, hw1⟩ : ∃ w1, w1 = w.alloc (.cells #[.int .u8 2, .bool x, .slice ad nd cd, .slice an nn cn, .slice ak nk ck] 26) := ⟨_, rfl⟩
  have g1 : Has w1 w.heap.size [.int .u8 2, .bool x, .slice ad nd cd, .slice an nn cn, .slice ak nk ck] 26 := by rw [hw1]; exact Has.new w _ _
  have b1 : Below w.heap.size w w1 := by rw [hw1]; exact (Below.refl _ _).alloc (Nat.le_refl _) _
  rw [← hw1]
  have HS1 := Lib.hid (HS.out.later b1)
  have B1 := Lib.hid b1
  have G1 := Lib.hid g1
  clear hw1 b1 HS g1
  obtain ⟨g, hg⟩ : ∃ g, g = w.heap.size := ⟨_, rfl⟩
  rw [← hg] at G1 B1 ⊢
  have HGE := Lib.hid hg
  clear hg
  go_loopw [3] (fun ii wr => ∃ (k : Nat), k ≤ nd ∧ ii = .int .i64 k ∧ (∀ i, i < k → d.getD i 0 ≠ 0) ∧ Has wr g [.int .u8 2, .bool x, .slice ad nd cd, .slice an nn cn, .slice ak nk ck] 26 ∧ IsB wr ad nd cd d ∧ Below g w wr) (fun ii _ => nd - (intOf ii).toNat)
  case atStart => exact ⟨0, Nat.zero_le _, rfl, fun i hi => by omega, G1.out, HS1.out, B1.out⟩
  case round =>
    clear G1 HS1 B1
    obtain ⟨k, hk, rfl, hok, hg, hS, hbel⟩ := hrel
    have cg1 := hg.cellAt (i := 1) rfl
    have cg2 := hg.cellAt (i := 2) rfl
    have cg3 := hg.cellAt (i := 3) rfl
    have cg4 := hg.cellAt (i := 4) rfl
    have HG := Lib.hid hg
    have HL := Lib.hid hS
    have HBE := Lib.hid hbel
    have HOK := Lib.hid hok
    clear hg hS hbel hok
    by_cases hlt : k < nd
    · rcases HL.out.at_ with h0 | ⟨b, off, rfl, hb, hc⟩
      · omega
      have hck := hc k hlt
      have hkl : Hid (k < d.length) := Lib.hid (by rw [HL.out.length]; exact hlt)
      have hki : (k : Int) < (nd : Int) := by omega
      have hroom := HL.out.room
      unfold maxLen at hroom
      have hni : (k : Int) + 1 ≤ 9223372036854775807 := by omega
      obtain ⟨z, hz⟩ : ∃ z : Int, z = ((d.getD k 0).toNat : Int) := ⟨_, rfl⟩
      rw [← hz] at hck
      by_cases h0 : d.getD k 0 = 0
      · have hz0 : z = 0 := by rw [hz, h0]; rfl
        subst hz0
        have HT : Hid (targetB d = false) := Lib.hid (by unfold targetB; rw [contains_at hkl.out h0]; simp)
        clear hz h0 hc
        go_wp2_with fail
        go_ret
        exact ⟨by rw [HT.out]; simp, by rw [← HGE.out]; exact HBE.out⟩
      · have hz0 : (z == 0) = false := by
          have : (d.getD k 0).toNat ≠ 0 := fun h => h0 (UInt8.toNat_inj.1 h)
          rw [beq_eq_false_iff_ne]; omega
        have hz0' : ¬ z = 0 := by simpa using hz0
        have HST : Hid (∀ i, i < k + 1 → d.getD i 0 ≠ 0) := Lib.hid (fun i hi => by
          by_cases e : i = k
          · subst e; exact h0
          · exact HOK.out i (by omega))
        clear hz h0 hc
        go_wp2_with fail
        go_roundw
        case rel => exact ⟨k + 1, by omega, by go_num, HST.out, HG.out, HL.out, HBE.out⟩
        case measure => simp [intOf]; omega
    · obtain rfl : k = nd := by omega
      have HC : Hid (d.contains 0 = false) := Lib.hid (clear_all (by rw [HL.out.length]; exact HOK.out))
      have HLD := Lib.hid HL.out.length
      cases x
      · by_cases hz : nn = 0 ∧ nk = 0
        · obtain ⟨rfl, rfl⟩ := hz
          by_cases h1 : 1 ≤ k
          · have i1 : (1 : Int) ≤ (k : Int) := by omega
            by_cases h4 : k ≤ 400
            · have i4 : (k : Int) ≤ 400 := by omega
              have HT : Hid (targetB d = true) := Lib.hid (by unfold targetB; rw [HLD.out, HC.out, decide_eq_true h1, decide_eq_true h4]; rfl)
              go_wp2_with fail
              go_ret
              exact ⟨by rw [HT.out]; simp, by rw [← HGE.out]; exact HBE.out⟩
            · have i4 : ¬ (k : Int) ≤ 400 := by omega
              have HT : Hid (targetB d = false) := Lib.hid (by unfold targetB; rw [HLD.out, decide_eq_false h4]; simp)
              clear h4
              go_wp2_with fail
              go_ret
              exact ⟨by rw [HT.out]; simp, by rw [← HGE.out]; exact HBE.out⟩
          · obtain rfl : k = 0 := by omega
            have HT : Hid (targetB d = false) := Lib.hid (by unfold targetB; rw [HLD.out]; rfl)
            clear h1
            go_wp2_with fail
            go_ret
            exact ⟨by rw [HT.out]; simp, by rw [← HGE.out]; exact HBE.out⟩
        · have hr := Lib.hid (both_not hz)
          have hs := HSUM.out hz
          obtain ⟨Z, hZ⟩ : ∃ Z, wrap64 ((nn : Int) + (nk : Int)) = Z := ⟨_, rfl⟩
          rw [hZ] at hs
          have z0 : (Z == 0) = false := by rw [beq_eq_false_iff_ne]; exact hs
          clear hz
          go_wp2_with fail
          go_ret
          exact ⟨by rw [hr.out]; rfl, by rw [← HGE.out]; exact HBE.out⟩
      · go_wp2_with fail
        go_ret
        exact ⟨by simp, by rw [← HGE.out]; exact HBE.out⟩

/-- The reference's own. -/
theorem own_any (n : Nat) (cs : List Value) (t : T) (w : World) (ht : IsT w n cs t) (hs : Small t) :
    Calls Tryd.prog 50 #[.agg cs.toArray] w fun e w' => e = .returned (.bool (formedT t)) ∧ Below w.heap.size w w' := by
  cases n with
  | zero => exact absurd ht (by simp [IsT])
  | succ n =>
  obtain ⟨k, x, d, ns, ks⟩ := t
  obtain ⟨ad, nd, cd, an, nn, cn, ak, nk, ck, rfl, hB, hS, hK⟩ := ht
  cases hs with
  | mk h1 h2 _ =>
  by_cases h3 : k = 3
  · subst h3
    exact own_dir x d ns ks w ad nd cd an nn cn ak nk ck hB.length hK.length hS h1
  · by_cases h4 : k = 2
    · subst h4
      exact own_link x d ns ks w ad nd cd an nn cn ak nk ck hB hS.length hK.length (Nat.le_trans hS.room.1 hS.room.2) (Nat.le_trans hK.room.1 hK.room.2)
    · exact own_file k h3 h4 x d ns ks w ad nd cd an nn cn ak nk ck hS.length hK.length (Nat.le_trans hS.room.1 hS.room.2) (Nat.le_trans hK.room.1 hK.room.2)

end Go.Proofs.YtbempgdndmchlaaDoor

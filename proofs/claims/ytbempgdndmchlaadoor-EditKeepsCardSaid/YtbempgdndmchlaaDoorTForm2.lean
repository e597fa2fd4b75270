/-
  Is a tree of the form, what is in it aside: the program's target and formed. No conditions.
-/
import Derived.Test.YtbempgdndmchlaaDoorTForm
import Derived.Test.YtbempgdndmchlaaDoorShelf
namespace Go.Proofs.YtbempgdndmchlaaDoor
open Go.RowKit
set_option linter.unusedVariables false

def targetB (d : List UInt8) : Bool := decide (1 ≤ d.length) && decide (d.length ≤ 400) && !(d.contains 0)

theorem bytesOf_map (d : List UInt8) : Lib.bytesOf (d.map fun b => (b.toNat : Int)) = d := by
  unfold Lib.bytesOf
  rw [List.map_map]
  conv => rhs; rw [← List.map_id d]
  refine List.map_congr_left fun b _ => ?_
  simp

set_option maxRecDepth 100000 in
set_option maxHeartbeats 4000000 in
theorem target_any (a : Option Addr) (n cap : Nat) (d : List UInt8) (w : World) (hd : IsB w a n cap d) :
    Calls Tryd.prog 63 #[.slice a n cap] w fun e w' => e = .returned (.bool (targetB d)) ∧ w = w' := by
  have hl := hd.length
  rcases hd.at_ with h0 | ⟨b, off, rfl, hb, hc⟩
  · subst h0
    have : targetB d = false := by unfold targetB; rw [hl]; rfl
    rw [this]
    clear hd hl this
    go_enter Tryd.func63, Tryd.ntmps63
    go_wp2_with fail
    go_ret
    exact ⟨rfl, rfl⟩
  · by_cases h1 : 1 ≤ n
    · have i1 : (0 : Int) < (n : Int) := by omega
      by_cases h4 : n ≤ 400
      · have i4 : (n : Int) ≤ 400 := by omega
        have K := Tryd.bytes_IndexByte b off n cap (d.map fun b => (b.toNat : Int)) 0 w (by simpa using hl) (fun i hi => by rw [hc i hi]; simp [List.getD, show i < d.length by omega])
        rw [bytesOf_map] at K
        have hneg := index_neg 0 d
        have ht : targetB d = !(d.contains 0) := by unfold targetB; rw [hl, decide_eq_true h1, decide_eq_true h4]; simp
        rw [ht]
        have HK := Lib.hid K
        have HNEG := Lib.hid hneg
        clear hd hl hc K ht hneg
        go_enter Tryd.func63, Tryd.ntmps63
        go_wp2_with fail
        refine HK.out.mono ?_
        rintro e w' ⟨rfl, rfl⟩
        go_wp2_with fail
        go_ret
        refine ⟨?_, rfl⟩
        rw [← HNEG.out]; rfl
      · have i4 : ¬ (n : Int) ≤ 400 := by omega
        have ht : targetB d = false := by unfold targetB; rw [hl, decide_eq_false h4]; simp
        rw [ht]
        clear hd hl hc ht
        go_enter Tryd.func63, Tryd.ntmps63
        go_wp2_with fail
        go_ret
        exact ⟨rfl, rfl⟩
    · obtain rfl : n = 0 := by omega
      have : targetB d = false := by unfold targetB; rw [hl]; rfl
      rw [this]
      clear hd hl this hc h1
      go_enter Tryd.func63, Tryd.ntmps63
      go_wp2_with fail
      go_ret
      exact ⟨rfl, rfl⟩

theorem formedT_dir (x : Bool) (d : List UInt8) (ns : List ByteArray) (ks : List T) : formedT (.mk 3 x d ns ks) = (!x && d.isEmpty && decide (ns.length = ks.length) && risingT ns) := by unfold formedT; dsimp only; rw [if_pos rfl]
theorem formedT_other {k : UInt8} (hk : k ≠ 3) (x : Bool) (d : List UInt8) (ns : List ByteArray) (ks : List T) : formedT (.mk k x d ns ks) = (ns.isEmpty && ks.isEmpty && (k == 1 || (k == 2 && !x && targetB d))) := by
  unfold formedT targetB; dsimp only; rw [if_neg hk]; simp only [Bool.and_assoc]

theorem empty_len {α : Type} (l : List α) : l.isEmpty = decide (l.length = 0) := by cases l <;> simp

set_option maxRecDepth 100000 in
set_option maxHeartbeats 20000000 in
theorem formed_any (n : Nat) (cs : List Value) (t : T) (w : World) (ht : IsT w n cs t) :
    Calls Tryd.prog 51 #[.agg cs.toArray] w fun e w' => e = .returned (.bool (formedT t)) ∧ Below w.heap.size w w' := by
  cases n with
  | zero => exact absurd ht (by simp [IsT])
  | succ n =>
  obtain ⟨k, x, d, ns, ks⟩ := t
  obtain ⟨ad, nd, cd, an, nn, cn, ak, nk, ck, rfl, hB, hS, hK⟩ := ht
  have b1 : ∀ u : Array Value, Below w.heap.size w (w.alloc (.cells u 26)) := fun u => (Below.refl _ _).alloc (Nat.le_refl _) _
  have HB1 := Lib.hid b1
  have hnot : ∀ (x : Bool) (w : World), (Op.unary .not (.bool x)).run Tryd.prog w = .ok (.bool (!x)) w := fun _ _ => rfl
  have ld := hB.length
  have ln := hS.length
  have lk := hK.length
  clear b1
  by_cases h3 : k = 3
  · subst h3
    rw [formedT_dir, empty_len, ld, ln, lk]
    have HS := Lib.hid hS
    clear hB hS hK ld ln lk
    cases x
    · by_cases hd : nd = 0
      · subst hd
        by_cases hnk : nn = nk
        · subst hnk
          go_enter Tryd.func51, Tryd.ntmps51
          go_wp2_with fail
          have K := rising_any an nn cn ns _ (HS.out.later (HB1.out #[.int .u8 3, .bool false, .slice ad 0 cd, .slice an nn cn, .slice ak nn ck]))
          refine K.mono ?_
          rintro e w' ⟨rfl, rfl⟩
          go_wp2_with fail
          go_ret
          refine ⟨?_, HB1.out _⟩
          simp
        · have hne : ((nn : Int) == (nk : Int)) = false := by rw [beq_eq_false_iff_ne]; omega
          have hne' : ¬ (nn : Int) = (nk : Int) := by omega
          have hr : Hid (decide (nn = nk) = false) := Lib.hid (decide_eq_false hnk)
          clear hnk
          go_enter Tryd.func51, Tryd.ntmps51
          go_wp2_with fail
          go_ret
          exact ⟨by rw [hr.out]; rfl, HB1.out _⟩
      · have hne : ((nd : Int) == 0) = false := by rw [beq_eq_false_iff_ne]; omega
        have hne' : ¬ (nd : Int) = 0 := by omega
        have hr : Hid (decide (nd = 0) = false) := Lib.hid (decide_eq_false hd)
        clear hd
        go_enter Tryd.func51, Tryd.ntmps51
        go_wp2_with fail
        go_ret
        exact ⟨by rw [hr.out]; rfl, HB1.out _⟩
    · go_enter Tryd.func51, Tryd.ntmps51
      go_wp2_with fail
      go_ret
      exact ⟨rfl, HB1.out _⟩
  · rw [formedT_other h3, empty_len, empty_len, ln, lk]
    obtain ⟨z, hz⟩ : ∃ z : Int, z = (k.toNat : Int) := ⟨_, rfl⟩
    rw [← hz]
    have z3 : (z == 3) = false := by
      have : k.toNat ≠ 3 := fun h => h3 (UInt8.toNat_inj.1 h)
      rw [beq_eq_false_iff_ne]; omega
    have z3' : ¬ z = 3 := by simpa using z3
    have HBB := Lib.hid hB
    clear hB hS hK ld ln lk h3
    by_cases hn : nn = 0
    · subst hn
      by_cases hk0 : nk = 0
      · subst hk0
        by_cases h1 : k = 1
        · subst h1
          have hz1 : z = 1 := hz
          subst hz1
          clear hz z3 z3'
          go_enter Tryd.func51, Tryd.ntmps51
          go_wp2_with fail
          go_ret
          exact ⟨rfl, HB1.out _⟩
        · have hk1 : Hid ((k == 1) = false) := Lib.hid (by simpa using h1)
          have z1 : (z == 1) = false := by
            have : k.toNat ≠ 1 := fun h => h1 (UInt8.toNat_inj.1 h)
            rw [beq_eq_false_iff_ne]; omega
          have z1' : ¬ z = 1 := by simpa using z1
          by_cases h2 : k = 2
          · subst h2
            have hz2 : z = 2 := hz
            subst hz2
            clear hz z3 z3' z1 z1' h1
            cases x
            · go_enter Tryd.func51, Tryd.ntmps51
              go_wp2_with fail
              have K := target_any ad nd cd d _ (HBB.out.later (HB1.out #[.int .u8 2, .bool false, .slice ad nd cd, .slice an 0 cn, .slice ak 0 ck]))
              refine K.mono ?_
              rintro e w' ⟨rfl, rfl⟩
              go_wp2_with fail
              go_ret
              exact ⟨by simp, HB1.out _⟩
            · go_enter Tryd.func51, Tryd.ntmps51
              go_wp2_with fail
              go_ret
              exact ⟨rfl, HB1.out _⟩
          · have hk2 : Hid ((k == 2) = false) := Lib.hid (by simpa using h2)
            have z2 : (z == 2) = false := by
              have : k.toNat ≠ 2 := fun h => h2 (UInt8.toNat_inj.1 h)
              rw [beq_eq_false_iff_ne]; omega
            have z2' : ¬ z = 2 := by simpa using z2
            clear hz h1 h2
            go_enter Tryd.func51, Tryd.ntmps51
            go_wp2_with fail
            go_ret
            exact ⟨by rw [hk1.out, hk2.out]; rfl, HB1.out _⟩
      · have hp : (0 : Int) < (nk : Int) := by omega
        have hr : Hid (decide (nk = 0) = false) := Lib.hid (decide_eq_false hk0)
        clear hz hk0
        go_enter Tryd.func51, Tryd.ntmps51
        go_wp2_with fail
        go_ret
        exact ⟨by rw [hr.out]; rfl, HB1.out _⟩
    · have hp : (0 : Int) < (nn : Int) := by omega
      have hr : Hid (decide (nn = 0) = false) := Lib.hid (decide_eq_false hn)
      clear hz hn
      go_enter Tryd.func51, Tryd.ntmps51
      go_wp2_with fail
      go_ret
      exact ⟨by rw [hr.out]; rfl, HB1.out _⟩

end Go.Proofs.YtbempgdndmchlaaDoor

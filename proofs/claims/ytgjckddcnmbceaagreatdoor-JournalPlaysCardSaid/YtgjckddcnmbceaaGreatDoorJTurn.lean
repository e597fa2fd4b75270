/-
  The law's turn: it writes over a row of bytes and leaves the rest alone. Conditions: the row.
-/
import Derived.Test.YtgjckddcnmbceaaGreatDoorJAwake
namespace Go.Proofs.YtgjckddcnmbceaaGreatDoor
open Go.RowKit
set_option linter.unusedVariables false

/-- A block that starts with n bytes. -/
def Byts (w : World) (g n : Nat) : Prop := ∃ X, Has w g X 5 ∧ n ≤ X.length ∧ ∀ i, i < n → ∃ c : UInt8, X[i]? = some (bv c)
set_option maxRecDepth 100000 in
set_option maxHeartbeats 2000000 in
theorem turn_row {w : World} {g n cap : Nat} (h : Byts w g n) (hn : n ≤ 1000000) (hc : n ≤ cap ∧ cap ≤ maxLen) : Calls Tryz.prog 24 #[.slice (some ⟨g, 0, none⟩) n cap] w fun e w' => e = .returned (.tuple #[]) ∧ But w.heap.size g w w' := by
  have HH := Lib.hid h
  have hcm : cap ≤ 9223372036854775807 := by have := hc.2; unfold maxLen at this; omega
  have hLc : n ≤ cap := hc.1
  clear h hc
  go_enter Tryz.func24, Tryz.ntmps24
  go_wp2_with fail
  go_loopw [2] (fun ii wr => ∃ j : Nat, j ≤ n ∧ ii = .int .i64 j ∧ Hid (Byts wr g n) ∧ Hid (But w.heap.size g w wr)) (fun ii _ => n - (intOf ii).toNat)
  case atStart => exact ⟨0, Nat.zero_le _, rfl, HH, Lib.hid (But.refl _ _ _)⟩
  case round =>
    obtain ⟨j, hj, rfl, hr, hb⟩ := hrel
    by_cases hlt : j < n
    · have hji : (j : Int) < (n : Int) := by omega
      obtain ⟨X, hX, hXn, hXb⟩ := hr.out
      obtain ⟨c, hcx⟩ := hXb j hlt
      have hc1 : wr.cell? ⟨g, j, none⟩ = some (.int .u8 (c.toNat : Int)) := hX.cellAt hcx
      have hfz := hX.frozen j
      have hxr : bits .xor .u8 (c.toNat : Int) 1 = ((c ^^^ 1).toNat : Int) := by
        have h := u8_xor_nat c.toNat 1 c.toNat_lt (by omega)
        rw [UInt8.toNat_xor]; exact h
      have HR : Hid (Byts (wr.setCell ⟨g, j, none⟩ (bv (c ^^^ 1))) g n) := Lib.hid ⟨_, hX.set j _, by rw [List.length_set]; exact hXn, fun i hi => by
        rw [List.getElem?_set]
        by_cases e : j = i
        · rw [if_pos e, if_pos (by omega)]; exact ⟨_, rfl⟩
        · rw [if_neg e]; exact hXb i hi⟩
      have HB : Hid (But w.heap.size g w (wr.setCell ⟨g, j, none⟩ (bv (c ^^^ 1)))) := Lib.hid (hb.out.setB j _)
      obtain ⟨D, hD⟩ : ∃ D : Int, D = ((c ^^^ 1).toNat : Int) := ⟨_, rfl⟩
      have hbv : bv (c ^^^ 1) = .int .u8 D := by rw [hD]; rfl
      rw [hbv] at HR HB
      rw [← hD] at hxr
      obtain ⟨C, hC⟩ : ∃ C : Int, C = (c.toNat : Int) := ⟨_, rfl⟩
      rw [← hC] at hc1 hxr
      clear hX hXn hXb hcx hD hbv hC hr hb
      go_wp2_with fail
      go_roundw
      case rel => exact ⟨j + 1, by omega, by go_num, HR, HB⟩
      case measure => simp [intOf]; omega
    · obtain rfl : j = n := by omega
      go_wp2_with fail
      go_end0
      exact ⟨rfl, hb.out⟩

set_option maxRecDepth 100000 in
set_option maxHeartbeats 2000000 in
theorem turn_nil (w : World) : Calls Tryz.prog 24 #[.slice none 0 0] w fun e w' => e = .returned (.tuple #[]) ∧ w = w' := by
  go_enter Tryz.func24, Tryz.ntmps24
  go_wp2_with fail
  go_loopw [2] (fun ii wr => ii = .int .i64 0 ∧ Hid (w = wr)) (fun ii _ => 0)
  case atStart => exact ⟨rfl, Lib.hid rfl⟩
  case round =>
    obtain ⟨rfl, hr⟩ := hrel
    go_wp2_with fail
    go_end0
    exact ⟨rfl, hr.out⟩

/-- A slice of n bytes from the head of a row between lo and M, or none. -/
def Apt (w : World) (lo M : Nat) (v : Value) (n : Nat) : Prop := (v = .slice none 0 0 ∧ n = 0) ∨ ∃ g c, v = .slice (some ⟨g, 0, none⟩) n c ∧ lo ≤ g ∧ g < M ∧ Byts w g n ∧ n ≤ c ∧ c ≤ maxLen
theorem apt_owned {w : World} {B' n : Nat} {v : Value} {l : List UInt8} (h : w.ownsRow B' 5 1 v n (l.map bv)) : Apt w B' w.heap.size v n := by
  rcases h.2 with ⟨rfl, h0⟩ | ⟨g, cap, cur, rfl, hb, hg, h1, h2, h3, h4⟩
  · exact .inl ⟨rfl, h0⟩
  · obtain ⟨CL⟩ := cur
    have hl : l.length = n := by have := h.1; rw [List.length_map] at this; omega
    have hX : Has w g CL 5 := hg
    have hk : ∀ i, i < n → ∃ c : UInt8, CL[i]? = some (bv c) := fun i hi => by
      have hcc := World.ownsRow.cellAt h i (by omega)
      rw [cell_of_row w g i _ _ _ hX] at hcc
      refine ⟨l[i]'(by omega), ?_⟩
      have h9 : l[i]? = some (l[i]'(by omega)) := List.getElem?_eq_getElem (by omega)
      simp [h9] at hcc
      exact hcc
    refine .inr ⟨g, cap, rfl, hb, (Array.getElem?_eq_some_iff.1 hg).1, ⟨CL, hg, ?_, hk⟩, h1, h2⟩
    by_cases h0 : n = 0
    · omega
    · obtain ⟨c, hc⟩ := hk (n - 1) (by omega)
      have := (List.getElem?_eq_some_iff.1 hc).1
      omega
theorem Apt.mono {w : World} {lo lo' M M' n : Nat} {v : Value} (h : Apt w lo M v n) (h1 : lo' ≤ lo) (h2 : M ≤ M') : Apt w lo' M' v n := by
  rcases h with h | ⟨g, c, e, a1, a2, r⟩
  · exact .inl h
  · exact .inr ⟨g, c, e, by omega, by omega, r⟩
theorem Apt.kp {w w' : World} {lo M n B : Nat} {v : Value} {ts : List TypeId} (h : Apt w lo M v n) (hk : Kp ts B w w') (ht : 5 ∉ ts) : Apt w' lo M v n := by
  rcases h with h | ⟨g, c, e, a1, a2, ⟨X, hX, r⟩, r2⟩
  · exact .inl h
  · exact .inr ⟨g, c, e, a1, a2, ⟨X, Has.kp hX hk ht, r⟩, r2⟩
theorem turn_apt {w : World} {lo M n : Nat} {v : Value} (h : Apt w lo M v n) (hn : n ≤ 1000000) (hlo : lo < M) : Calls Tryz.prog 24 #[v] w fun e w' => e = .returned (.tuple #[]) ∧ Kp [5] lo w w' ∧ ∃ g, g < M ∧ But w.heap.size g w w' := by
  rcases h with ⟨rfl, h0⟩ | ⟨g, c, rfl, a1, a2, hB, r⟩
  · refine (turn_nil w).mono ?_
    rintro e w' ⟨rfl, rfl⟩
    exact ⟨rfl, Kp.of_below (Below.refl _ _), lo, hlo, But.refl _ _ _⟩
  · refine (turn_row hB hn r).mono ?_
    rintro e w' ⟨rfl, hb⟩
    obtain ⟨X, hX, _⟩ := hB
    exact ⟨rfl, Kp.of_but hb a1 hX (by simp), g, a2, hb⟩
theorem owns_but {w w' : World} {Bo size n g : Nat} {e : TypeId} {v : Value} {xs : List Value} (h : w.ownsRow Bo e size v n xs) (hb : But w.heap.size g w w') (hg : g < Bo) : w'.ownsRow Bo e size v n xs := by
  refine ⟨h.1, ?_⟩
  rcases h.2 with h0 | ⟨g', cap, cur, hv, hb', hg', h1, h2, h3, h4⟩
  · exact .inl h0
  · exact .inr ⟨g', cap, cur, hv, hb', (hb.block g' (Array.getElem?_eq_some_iff.1 hg').1 (by omega)).trans hg', h1, h2, h3, h4⟩
/-- A journal behind a turn of another row. -/
theorem Jn.turned {w w' : World} {B Bo pd pj n k h m g : Nat} {L base : List UInt8} {recs : List (List UInt8)} (j : Jn w B Bo pd pj n k h m L base recs) (hk : Kp [5] B w w') (hb : But w.heap.size g w w') (hg : g < Bo) : Jn w' B Bo pd pj n k h m L base recs := by
  obtain ⟨h1, h2, ⟨bV, rV, h3, h4, ⟨vs, h5, h6⟩⟩, h7⟩ := j
  exact ⟨h1.kp hk (by decide) (by decide) (by decide), h2, ⟨bV, rV, Has.kp h3 hk (by decide), owns_but h4 hb hg, ⟨vs, owns_but h5 hb hg, fun i hi => owns_but (h6 i hi) hb hg⟩⟩, h7⟩
end Go.Proofs.YtgjckddcnmbceaaGreatDoor

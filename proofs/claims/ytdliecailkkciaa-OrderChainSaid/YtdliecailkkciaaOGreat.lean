/-
  The law's great: what it answers false for is small. Conditions: what memory bears.
-/
import Derived.Test.YtdliecailkkciaaOAwake
namespace Go.Proofs.Ytdliecailkkciaa
open Go.RowKit
set_option linter.unusedVariables false

theorem isSS_cell {w : World} {a : Option Addr} {n c : Nat} {ks : List (List ByteArray)} (h : IsSS w a n c ks) {i : Nat} (hi : i < n) : ∃ b off, a = some ⟨b, off, none⟩ ∧ b < w.heap.size ∧ ∃ ao cc, w.cell? ⟨b, off + i, none⟩ = some (.slice ao (ks.getD i []).length cc) ∧ IsS w ao (ks.getD i []).length cc (ks.getD i []) := by
  rcases h.at_ with h0 | ⟨b, off, rfl, hb, hc⟩
  · omega
  · obtain ⟨ao, m, cc, h1, h2⟩ := hc i hi
    obtain rfl : m = (ks.getD i []).length := h2.length.symm
    exact ⟨b, off, rfl, hb, ao, cc, h1, h2⟩
theorem ss_mem {ks : List (List ByteArray)} {i : Nat} (hi : i < ks.length) : ks.getD i [] ∈ ks := by
  rw [List.getD_eq_getElem?_getD, List.getElem?_eq_getElem hi]
  exact List.getElem_mem hi
theorem tot_le (ks : List (List ByteArray)) (b : Nat) : ∀ i, (∀ j, j < i → (ks.getD j []).length ≤ b) → tot ks i ≤ i * b
  | 0, _ => Nat.zero_le _
  | i + 1, h => by
    have h1 := tot_le ks b i (fun j hj => h j (by omega))
    have h2 := h i (by omega)
    unfold tot
    rw [Nat.add_mul, Nat.one_mul]
    omega
theorem tot_one {ks : List (List ByteArray)} {i j : Nat} (h : j < i) : (ks.getD j []).length ≤ tot ks i := by
  have h1 := tot_mono ks (i := j + 1) (j := i) h
  have h2 : tot ks (j + 1) = tot ks j + (ks.getD j []).length := rfl
  omega
theorem tot_rows {ks : List (List ByteArray)} {m Q : Nat} (hl : ks.length = m) (hrow : ∀ l ∈ ks, l.length ≤ Q) (i : Nat) (hi : i ≤ m) (hm : m ≤ 60) : tot ks i ≤ 60 * Q := by
  have h1 := tot_le ks Q i (fun j hj => hrow _ (ss_mem (by omega)))
  have h2 := Nat.mul_le_mul_right Q (show i ≤ 60 by omega)
  omega
def GrP (P : Prop) (u : Value) : Prop := u = .bool true ∨ (u = .bool false ∧ P)
set_option maxRecDepth 100000 in
set_option maxHeartbeats 8000000 in
theorem great_any (w : World) (an : Option Addr) (nn cn : Nat) (hn : nn ≤ 8796093022208) (ak : Option Addr) (m ck : Nat) (ks : List (List ByteArray)) (hK : IsSS w ak m ck ks) (hrow : ∀ l ∈ ks, l.length ≤ 8796093022208) :
    Calls Try.prog 8 #[.slice an nn cn, .slice ak m ck] w fun e w' => ∃ u, e = .returned u ∧ GrP (nn + tot ks m ≤ 60 ∧ m ≤ 60) u ∧ Below w.heap.size w w' := by
  have hl := hK.length
  have HT : Hid (∀ i, i ≤ m → m ≤ 60 → tot ks i ≤ 60 * 8796093022208) := Lib.hid (tot_rows hl hrow)
  have HK := Lib.hid hK
  have HM := Lib.hid hK.room
  have HL := Lib.hid hl
  clear hK hl hrow
  go_enter Try.func8, Try.ntmps8
  go_wp2_with fail
  go_loopg [5, 6] m (fun gk v5 v6 wr => ∃ (i : Nat) (z : Int), gk = m - i ∧ i ≤ m ∧ v6 = .int .i64 (i : Int) ∧ v5 = .int .i64 z ∧ Hid (m ≤ 60 → z = (nn : Int) + (tot ks i : Int)) ∧ Below w.heap.size w wr)
  case atStart => exact ⟨0, nn, rfl, Nat.zero_le _, rfl, rfl, Lib.hid (fun _ => by simp [tot]), Below.refl _ _⟩
  case round =>
    obtain ⟨i, z, rfl, hi, rfl, rfl, HZ, hb⟩ := hrel
    have HB := Lib.hid hb
    clear hb
    by_cases hlt : i < m
    · obtain ⟨b, off, rfl, hbl, ao, cc, hc, _⟩ := isSS_cell HK.out hlt
      have hci := (HB.out.cell (p := ⟨b, off + i, none⟩) hbl).trans hc
      have hki : (i : Int) < (m : Int) := by omega
      have hk0 : (0 : Int) ≤ (i : Int) := by omega
      have hnx : (i : Int) + 1 ≤ 9223372036854775807 := by have := HM.out.1; have := HM.out.2; unfold maxLen at this; omega
      have HLT := Lib.hid hlt
      obtain ⟨q, hq⟩ : ∃ q, q = (ks.getD i []).length := ⟨_, rfl⟩
      have HQ : Hid (tot ks (i + 1) = tot ks i + q) := Lib.hid (by rw [hq]; rfl)
      rw [← hq] at hci
      clear hbl hc hq hlt
      go_wp2_with fail
      go_roundg (m - (i + 1))
      case rel =>
        refine ⟨i + 1, _, rfl, HLT.out, by go_num, rfl, Lib.hid (fun hm => ?_), HB.out⟩
        have h1 := HZ.out hm
        have h2 := HT.out (i + 1) HLT.out hm
        have h3 := HQ.out
        rw [h1]
        rw [IntWalk.wrap64_in _ (by omega)]; omega
      case measure => have := HLT.out; omega
    · obtain rfl : i = m := by omega
      have hki : ¬ (i : Int) < (i : Int) := by omega
      have HM2 : Hid (i ≤ 60 → z = (nn : Int) + (tot ks i : Int)) := HZ
      by_cases h1 : 60 < z
      · go_wp2_with fail
        go_ret
        exact ⟨_, rfl, .inl rfl, HB.out⟩
      · by_cases h2 : 60 < i
        · have h3 : (60 : Int) < (i : Int) := by omega
          go_wp2_with fail
          go_ret
          exact ⟨_, rfl, .inl rfl, HB.out⟩
        · have h3 : ¬ (60 : Int) < (i : Int) := by omega
          have HZ2 : Hid (nn + tot ks i ≤ 60 ∧ i ≤ 60) := Lib.hid (by have := HM2.out (by omega); omega)
          go_wp2_with fail
          go_ret
          exact ⟨_, rfl, .inr ⟨rfl, HZ2.out⟩, HB.out⟩
end Go.Proofs.Ytdliecailkkciaa

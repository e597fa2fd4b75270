/-
  rising: some texts, sorted, each once. Conditions: bounds on their number.
-/
import Derived.Test.YtdliecailkkciaaRfSortR
import Derived.Test.YtdliecailkkciaaShelf
import Derived.Sort.OwnSorted
import Derived.Carry
namespace Go.Proofs.Ytdliecailkkciaa
open Go.RowKit
open Go.Sort (Holds)
set_option linter.unusedVariables false

theorem encStr_bts (b : Bts) : encStr b = .string ⟨b.toArray⟩ := rfl
theorem map_bts (l : List ByteArray) : (l.map btsOf).map encStr = l.map Value.string := by
  rw [List.map_map]
  refine List.map_congr_left fun x _ => ?_
  show Value.string ⟨(btsOf x).toArray⟩ = .string x
  unfold btsOf; rw [Array.toArray_toList]

theorem clone_any (a : Option Addr) (n cap : Nat) (l : List ByteArray) (w : World) (hS : IsS w a n cap l) (hn : n ≤ 100000) :
    Calls Try.prog 24 #[.slice a n cap] w fun e w' => ∃ v, e = .returned v ∧ w'.ownsRow w.heap.size 9 1 v n (l.map Value.string) ∧ Below w.heap.size w w' := by
  have hl := hS.length
  rcases a with _ | ⟨b, off, sp⟩
  · obtain ⟨rfl, rfl⟩ := hS.nil rfl
    have : l = [] := List.length_eq_zero_iff.1 hl
    subst this
    refine (Try.slices_Clone_string_nil 0 0 w).mono ?_
    rintro e w' ⟨rfl, rfl⟩
    exact ⟨_, rfl, World.ownsRow_nil _ _ _ _, Below.refl _ _⟩
  · by_cases h0 : n = 0
    · subst h0
      have : l = [] := List.length_eq_zero_iff.1 hl
      subst this
      refine (Try.slices_Clone_string_zero _ cap w).mono ?_
      rintro e w' ⟨v, rfl, h1, _, h2⟩
      exact ⟨_, rfl, h1, h2⟩
    · rcases hS.at_ with h | ⟨b', off', hb, _, hc⟩
      · exact absurd h h0
      injection hb with hb
      injection hb with h1 h2 h3
      subst h1; subst h2; subst h3
      refine (Try.slices_Clone_string b off n cap l w (by omega) (by omega) (fun j hj => by
        have := hc j (by omega)
        rw [this]; rfl)).mono ?_
      rintro e w' ⟨v, rfl, h1, _, h2⟩
      rw [List.take_of_length_le (by omega)] at h1
      exact ⟨_, rfl, h1, h2⟩

/-- Texts of their own, sorted in place. -/
theorem sort_any (B : Nat) (v : Value) (n : Nat) (l : List ByteArray) (w : World) (hO : w.ownsRow B 9 1 v n (l.map Value.string)) (hn : n ≤ 100000) :
    Calls Try.prog 30 #[v] w fun e w' => e = .returned (.tuple #[]) ∧ ∃ out : List ByteArray, out.map btsOf = ((l.map btsOf).mergeSort fun x y => decide (x ≤ y)) ∧ w'.ownsRow B 9 1 v n (out.map Value.string) ∧ w.grownBy w' v.ownBlock := by
  have hl : l.length = n := by simpa using hO.1
  rcases hO.2 with ⟨rfl, rfl⟩ | ⟨g, cap, cur, rfl, hb, hg, hnc, hcm, hcs, htake⟩
  · have : l = [] := List.length_eq_zero_iff.1 hl
    subst this
    refine (Try.slices_Sort_string_none none 0 w).mono ?_
    rintro e w' ⟨rfl, rfl⟩
    exact ⟨rfl, [], by simp, World.ownsRow_nil _ _ _ _, World.grownBy.refl _ _⟩
  · have hls : (l.map btsOf).length = n := by rw [List.length_map, hl]
    have hgl : g < w.heap.size := (Array.getElem?_eq_some_iff.1 hg).1
    have hH : Holds encStr w g 0 (l.map btsOf).toArray := holds_of_block hg (by rw [hls, map_bts, ← htake, Nat.mul_one])
    have hs := Try.slices_Sort_string g 0 cap (l.map btsOf) w hH hgl (by rw [hls]; omega)
    rw [hls] at hs
    refine hs.mono ?_
    rintro e w' ⟨rfl, m, os, rfl⟩
    obtain ⟨T, hT⟩ : ∃ T, T = ((l.map btsOf).mergeSort fun x y => decide (x ≤ y)) := ⟨_, rfl⟩
    rw [← hT]
    have hTl : T.length = (l.map btsOf).length := by rw [hT]; exact List.length_mergeSort _
    refine ⟨rfl, T.map (fun b => ⟨b.toArray⟩), ?_, ?_, grownBy_sorted _⟩
    · rw [List.map_map]
      have : (btsOf ∘ fun b : Bts => (⟨b.toArray⟩ : ByteArray)) = id := by funext b; rfl
      rw [this, List.map_id]
    · have h := ownsRow_sorted (n := m) (os := os) hTl hb hg (by rw [hls]; exact hnc) hcm hcs
      rw [hls] at h
      rw [List.map_map]
      exact h

/-! What Compact leaves of texts that don't sink. -/
theorem getI (l : List Bts) (i : Nat) (h : i < l.length) : l.toArray[i]! = l[i] := by
  rw [getElem!_pos _ _ (by simpa using h)]
  simp
theorem compact_go (zs : List Bts) (hs : NonDec zs) : ∀ m, m ≤ zs.length → Inc (Lib.compactUpTo zs.toArray m) ∧ ∀ x, x ∈ Lib.compactUpTo zs.toArray m ↔ x ∈ zs.take m
  | 0, _ => ⟨by simp [Lib.compactUpTo, Inc], fun x => by simp [Lib.compactUpTo]⟩
  | m + 1, hm => by
    obtain ⟨ih1, ih2⟩ := compact_go zs hs m (by omega)
    have hmlt : m < zs.length := by omega
    have hx : zs.toArray[m]! = zs[m] := getI zs m hmlt
    have hpw := List.pairwise_iff_getElem.1 hs
    rw [Lib.compactUpTo_succ, hx, List.take_succ_eq_append_getElem hmlt]
    by_cases hk : Lib.keeps zs.toArray m = true
    · rw [if_pos hk]
      refine ⟨List.pairwise_append.2 ⟨ih1, by simp, fun y hy z hz => ?_⟩, fun x => by simp only [List.mem_append, List.mem_singleton, ih2]⟩
      rw [List.mem_singleton] at hz
      subst hz
      obtain ⟨j, hj, rfl⟩ := List.getElem_of_mem ((ih2 y).1 hy)
      rw [List.length_take] at hj
      rw [List.getElem_take]
      rcases bt_not.1 (hpw j m (by omega) hmlt (by omega)) with e | e
      · exfalso
        have hm0 : 0 < m := by omega
        have h1 : zs[m - 1] = zs[m] := by
          rcases bt_not.1 (hpw (m - 1) m (by omega) hmlt (by omega)) with e2 | e2
          · exact e2
          · rcases Nat.lt_or_ge j (m - 1) with hj2 | hj2
            · exfalso
              have := hpw j (m - 1) (by omega) (by omega) hj2
              rw [e] at this
              exact this e2
            · have : j = m - 1 := by omega
              subst this
              exact e
        have := Lib.keeps_neg (d := zs.toArray) hm0 (by rw [hx, getI zs (m - 1) (by omega), h1])
        rw [this] at hk; cases hk
      · exact e
    · rw [if_neg hk, List.append_nil]
      refine ⟨ih1, fun x => ?_⟩
      rw [ih2, List.mem_append, List.mem_singleton]
      refine ⟨.inl, fun h => h.elim id (fun e => ?_)⟩
      subst e
      have hm0 : 0 < m := by
        rcases Nat.eq_zero_or_pos m with h0 | h0
        · subst h0; exact absurd (Lib.keeps_lt_one _ 0 (by omega)) hk
        · exact h0
      have h1 : zs.toArray[m]! = zs.toArray[m - 1]! := Decidable.byContradiction (fun h => hk (Lib.keeps_pos h))
      rw [hx, getI zs (m - 1) (by omega)] at h1
      rw [h1]
      exact List.mem_take_iff_getElem.2 ⟨m - 1, by omega, rfl⟩
theorem compact_sort {l s : List Bts} (hs : NonDec s) (hm : ∀ x, x ∈ s ↔ x ∈ l) : Lib.compact s = sortT l := by
  obtain ⟨h1, h2⟩ := compact_go s hs s.length (Nat.le_refl _)
  exact inc_ext h1 (sortT_inc l) (fun x => by
    show x ∈ Lib.compactUpTo s.toArray s.length ↔ _
    rw [h2, List.take_length, sortT_mem]
    exact hm x)
theorem owns_take {w : World} {B g n m cap : Nat} {e : TypeId} {xs : List Value} (h : w.ownsRow B e 1 (.slice (some ⟨g, 0, none⟩) n cap) n xs) (hm : m ≤ n) : w.ownsRow B e 1 (.slice (some ⟨g, 0, none⟩) m cap) m (xs.take m) := by
  obtain ⟨h1, h2⟩ := h
  refine ⟨by rw [List.length_take]; omega, ?_⟩
  rcases h2 with ⟨h3, _⟩ | ⟨g', cap', cur, h3, h4, h5, h6, h7, h8, h9⟩
  · cases h3
  · cases h3
    refine .inr ⟨g, cap, cur, rfl, h4, h5, by omega, h7, h8, ?_⟩
    rw [← h9, List.take_take]
    congr 1
    omega
theorem owns_lift {w w' : World} {B : Nat} (h : Below w.heap.size w w') (hB : B ≤ w.heap.size) {e : TypeId} {size n : Nat} {v : Value} {xs : List Value} (ho : w'.ownsRow w.heap.size e size v n xs) : w'.ownsRow B e size v n xs := owns_lower ho hB
/-- Texts of their own, each once: Compact. -/
theorem compact_any (B : Nat) (v : Value) (n : Nat) (l : List ByteArray) (w : World) (hO : w.ownsRow B 9 1 v n (l.map Value.string)) (hn : n ≤ 100000) :
    Calls Try.prog 31 #[v] w fun e w' => ∃ (v' : Value) (out : List ByteArray), e = .returned v' ∧ out.map btsOf = Lib.compact (l.map btsOf) ∧ out.length ≤ n ∧ w'.ownsRow B 9 1 v' out.length (out.map Value.string) ∧ w.grownBy w' v.ownBlock := by
  have hl : l.length = n := by simpa using hO.1
  rcases hO.2 with ⟨rfl, rfl⟩ | ⟨g, cap, cur, rfl, hb, hg, hnc, hcm, hcs, htake⟩
  · have : l = [] := List.length_eq_zero_iff.1 hl
    subst this
    refine (Try.slices_Compact_string_empty none 0 w).mono ?_
    rintro e w' ⟨rfl, rfl⟩
    exact ⟨_, [], rfl, by simp [Lib.compact, Lib.compactUpTo], Nat.zero_le _, World.ownsRow_nil _ _ _ _, World.grownBy.refl _ _⟩
  · have hls : (l.map btsOf).length = n := by rw [List.length_map, hl]
    have hH : Holds encStr w g 0 (l.map btsOf).toArray := holds_of_block hg (by rw [hls, map_bts, ← htake, Nat.mul_one])
    have hs := Try.slices_Compact_string g 0 cap (l.map btsOf) w hH (by rw [hls]; omega) (by rw [hls]; exact hnc)
    rw [hls] at hs
    refine hs.mono ?_
    rintro e w' ⟨rfl, q, rfl⟩
    obtain ⟨C, hC⟩ : ∃ C, C = Lib.compact (l.map btsOf) := ⟨_, rfl⟩
    have hCl : C.length ≤ n := by rw [hC, ← hls]; exact Lib.compact_length_le _
    rw [← hC]
    obtain ⟨T, hT⟩ : ∃ T, T = C ++ List.replicate (n - C.length) [] := ⟨_, rfl⟩
    rw [← hT]
    have hTl : T.length = (l.map btsOf).length := by rw [hT, hls]; simp; omega
    have hid : ∀ L : List Bts, (L.map (fun b => (⟨b.toArray⟩ : ByteArray))).map btsOf = L := fun L => by
      rw [List.map_map]
      have : (btsOf ∘ fun b : Bts => (⟨b.toArray⟩ : ByteArray)) = id := by funext b; rfl
      rw [this, List.map_id]
    have hg0 : (Go.Sort.putRow encStr (Go.Sort.ahead w q) g 0 T.toArray) = Go.Sort.grow (Go.Sort.putRow encStr (Go.Sort.ahead w q) g 0 T.toArray) #[] := (Go.Sort.grow_empty _).symm
    have h := ownsRow_sorted (n := q) (os := #[]) hTl hb hg (by rw [hls]; exact hnc) hcm hcs
    rw [hls, ← hg0] at h
    have h' := owns_take h hCl
    have hTC : (T.map encStr).take C.length = (C.map (fun b => (⟨b.toArray⟩ : ByteArray))).map Value.string := by
      rw [hT, List.map_append, List.take_left' (by simp), List.map_map]
      rfl
    rw [hTC] at h'
    refine ⟨_, C.map (fun b => ⟨b.toArray⟩), rfl, hid C, by rw [List.length_map]; exact hCl, by rw [List.length_map]; exact h', ?_⟩
    rw [hg0]
    exact grownBy_sorted _

set_option maxRecDepth 100000 in
set_option maxHeartbeats 4000000 in
theorem rising_any (a : Option Addr) (n cap : Nat) (l : List ByteArray) (w : World) (hS : IsS w a n cap l) (hn : n ≤ 100000) :
    Calls Try.prog 19 #[.slice a n cap] w fun e w' => ∃ (v : Value) (out : List ByteArray), e = .returned v ∧ out.map btsOf = sortT (l.map btsOf) ∧ out.length ≤ n ∧ w'.ownsRow w.heap.size 9 1 v out.length (out.map Value.string) ∧ Below w.heap.size w w' := by
  have HS := Lib.hid hS
  clear hS
  go_enter Try.func19, Try.ntmps19
  go_wp2_with fail
  refine (clone_any a n cap l w HS.out hn).mono ?_
  rintro e w1 ⟨v, rfl, h1, b1⟩
  have H1 := Lib.hid h1
  have B1 := Lib.hid b1
  clear h1 b1
  go_wp2_with fail
  refine (sort_any w.heap.size v n l w1 H1.out hn).mono ?_
  rintro e w2 ⟨rfl, out, ho, h2, g2⟩
  have H2 := Lib.hid h2
  have HO := Lib.hid ho
  have HV : Hid (∀ g, v.ownBlock = some g → w.heap.size ≤ g) := Lib.hid (fun g hg => (H1.out.lt g hg).1)
  have B2 : Hid (Below w.heap.size w w2) := Lib.hid (B1.out.grown g2 B1.out.size HV.out)
  clear h2 ho g2
  go_wp2_with fail
  refine (compact_any w.heap.size v n out w2 H2.out hn).mono ?_
  rintro e w3 ⟨v', out2, rfl, ho2, hl2, h3, g3⟩
  have H3 := Lib.hid h3
  have B3 : Hid (Below w.heap.size w w3) := Lib.hid (B2.out.grown g3 B2.out.size HV.out)
  have HO2 : Hid (out2.map btsOf = sortT (l.map btsOf)) := Lib.hid (by
    rw [ho2, HO.out]
    exact compact_sort (merge_nondec _) (fun x => merge_mem _ x))
  have HL2 := Lib.hid hl2
  clear h3 ho2 hl2 g3
  go_wp2_with fail
  go_ret
  exact ⟨v', out2, rfl, HO2.out, HL2.out, H3.out, B3.out⟩
end Go.Proofs.Ytdliecailkkciaa

/-
  slices.Sorted(maps.Keys(m)) of a set of texts. Conditions: bounds on their number.
-/
import Derived.Test.YtdliecailkkciaaOClosM
import Derived.Test.YtdliecailkkciaaIter
import Derived.Sort.KeysCollected
namespace Go.Proofs.Ytdliecailkkciaa
open Go.RowKit
set_option linter.unusedVariables false

theorem nondec_inc {l : List Bts} (h : NonDec l) (hn : l.Nodup) : Inc l := by
  refine List.pairwise_iff_getElem.2 (fun i j hi hj hij => ?_)
  have h1 := List.pairwise_iff_getElem.1 h i j hi hj hij
  have h2 := List.pairwise_iff_getElem.1 hn i j hi hj hij
  rcases bt_not.1 h1 with e | e
  · exact absurd e h2
  · exact e
theorem nodup_bts {l : List ByteArray} (h : l.Nodup) : (l.map btsOf).Nodup := List.pairwise_map.2 (h.imp (fun hne e => hne (bts_inj e)))
theorem merge_ris {ss : List Bts} {mt : List ByteArray} (hn : mt.Nodup) (hp : ss.Perm (mt.map btsOf)) : (ss.mergeSort fun x y => decide (x ≤ y)) = (risL mt).map btsOf := by
  rw [risL_bts]
  have hd : (ss.mergeSort fun x y => decide (x ≤ y)).Nodup := ((List.mergeSort_perm _ _).trans hp).nodup_iff.2 (nodup_bts hn)
  refine inc_ext (nondec_inc (merge_nondec _) hd) (sortT_inc _) (fun x => ?_)
  rw [merge_mem, sortT_mem, hp.mem_iff]
theorem keys_any (mb : Option Nat) (w : World) : Calls Try.prog 28 #[.map mb] w fun e w' => e = .returned (.func (.func 35) #[] #[.pointer (some ⟨w.heap.size, 0, none⟩)]) ∧ w' = w.alloc (.cells #[.map mb] 58) :=
  (callsIn_wide (n := 5)).1 (Try.maps_Keys_28 mb w)
theorem sorted_any (b n : Nat) (mt : List ByteArray) (w : World) (h : MapV w b n (setM mt)) (hn : n ≤ 100000) (hnd : mt.Nodup) :
    Calls Try.prog 27 #[.func (.func 35) #[] #[.pointer (some ⟨w.heap.size, 0, none⟩)]] (w.alloc (.cells #[.map (some b)] 58)) fun e w' => ∃ v, e = .returned v ∧ w'.ownsRow w.heap.size 9 1 v (risL mt).length ((risL mt).map Value.string) ∧ Below w.heap.size w w' := by
  obtain ⟨D, h1, h2⟩ := h
  have hsz := h1.size_le
  refine ((callsIn_wide (n := 5)).1 (Try.slices_Sorted_keys_27_28 b n D valR w h1 (by unfold maxLen; omega) (by omega))).mono ?_
  rintro e w' ⟨v, ss, rfl, hp, hrow, _, hb⟩
  have hperm : (mt.map btsOf).Perm (strKeys D) := by
    obtain ⟨es, hD, hpw, _⟩ := h1.entries lawS
    obtain ⟨es', hD', hko⟩ := h1.keysOf
    obtain rfl : es = es' := by rw [hD] at hD'; simpa using hD'
    subst hD
    refine perm_strKeys hpw (fun p hp => by obtain ⟨v, hv⟩ := hko p hp; obtain ⟨x, _, hx, _⟩ := Maps.keyOf_str Try.underlying9 hv; exact ⟨x, hx⟩) (nodup_bts hnd) (fun x => ?_)
    have h3 := (h2 (unb x)).1
    have hk : kS (unb x) = .string x := rfl
    rw [hk] at h3
    rw [h3]
    unfold setM
    by_cases hx : unb x ∈ mt
    · rw [if_pos hx]
      exact ⟨fun _ => rfl, fun _ => List.mem_map.2 ⟨_, hx, bts_unb x⟩⟩
    · rw [if_neg hx]
      exact ⟨fun h4 => by
        obtain ⟨y, hy, e⟩ := List.mem_map.1 h4
        exact absurd (by rw [← e, unb_bts]; exact hy) hx, fun h4 => by cases h4⟩
  have hm := merge_ris hnd (hp.trans hperm.symm)
  have hl : ss.length = (risL mt).length := by
    have := congrArg List.length hm
    rw [List.length_mergeSort, List.length_map] at this
    exact this
  rw [hm, map_bts, hl] at hrow
  refine ⟨v, rfl, owns_down hrow (by simp), ((Below.refl _ _).alloc (Nat.le_refl _) _).trans (hb.mono (by simp))⟩
end Go.Proofs.Ytdliecailkkciaa

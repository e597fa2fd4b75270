/-
  The law EditParts: edits that are done in two goes make what they make in one. Conditions: the tree and the edits may be read.
-/
import Derived.Test.YtnfhmndepfmmoaaDoorEAwake
import Derived.Test.YtnfhmndepfmmoaaDoorEGreat
import Derived.Test.YtnfhmndepfmmoaaDoorTRSame
import Derived.Test.YtnfhmndepfmmoaaDoorTOwnA
namespace Go.Proofs.YtnfhmndepfmmoaaDoor
open Go.RowKit
set_option linter.unusedVariables false

theorem info_edit : (Tryd.prog.info? 41).map (fun i => (i.zero, i.size, i.bytes)) = some (some (.agg #[.int .u8 0, .string ⟨#[]⟩, .string ⟨#[]⟩, .int .u8 0, .bool false, .slice none 0 0, .slice none 0 0, .slice none 0 0]), 8, 120) := by kernel_rfl
theorem info_edit_parts : ∃ i, Tryd.prog.info? 41 = some i ∧ i.zero = some (.agg #[.int .u8 0, .string ⟨#[]⟩, .string ⟨#[]⟩, .int .u8 0, .bool false, .slice none 0 0, .slice none 0 0, .slice none 0 0]) ∧ i.size = 8 ∧ i.bytes = 120 := by
  have h := info_edit
  cases hi : Tryd.prog.info? 41 with
  | none => rw [hi] at h; cases h
  | some i =>
    rw [hi] at h
    simp only [Option.map_some, Option.some.injEq, Prod.mk.injEq] at h
    exact ⟨i, rfl, h.1, h.2.1, h.2.2⟩

theorem getD_app {l k : List EdD} {i : Nat} : (l ++ k).getD i default = if i < l.length then l.getD i default else k.getD (i - l.length) default := by
  simp only [List.getD_eq_getElem?_getD]
  by_cases h : i < l.length
  · rw [if_pos h, List.getElem?_append_left h]
  · rw [if_neg h, List.getElem?_append_right (by omega)]

theorem b_trans {w w1 W : World} (h : Below w.heap.size w w1) (h' : Below w1.heap.size w1 W) : Below w.heap.size w W := h.trans (h'.mono h.size)
theorem isT_le {w : World} {n m : Nat} {cs : List Value} {t : T} (h : IsT w n cs t) (hm : n ≤ m) : IsT w m cs t := by
  obtain ⟨k, rfl⟩ : ∃ k, m = n + k := ⟨m - n, by omega⟩
  induction k with
  | zero => exact h
  | succ k ih => exact isT_up _ _ _ (ih (by omega))
theorem isX_le {w : World} {n m : Nat} {cs : List Value} {x : EdD} (h : IsX w n cs x) (hm : n ≤ m) : IsX w m cs x := by
  obtain ⟨ct, h1, h2⟩ := h
  exact ⟨ct, h1, isT_le h2 hm⟩
theorem run_small {t : T} {l : List EdD} (h : (runE t l).1 = 0) : Small (runE t l).2.1 ∧ (sizeT (runE t l).2.1).isSome = true := by
  rcases hs : (sizeT t).isSome with _ | _
  · rw [run_bad hs] at h; cases h
  · rw [run_good hs] at h ⊢
    have hx := foldE_ok l (exact_of hs) h
    exact ⟨hx.1.small.1, hx.size⟩

/-- Two goes are one. -/
theorem run_parts (t : T) (l k : List EdD) : ((runE t l).1 ≠ 0 → (runE t (l ++ k)).1 = (runE t l).1) ∧ ((runE t l).1 = 0 → runE t (l ++ k) = runE (runE t l).2.1 k ∨ ((runE t (l ++ k)).1 = (runE (runE t l).2.1 k).1 ∧ (runE t (l ++ k)).2.1 = (runE (runE t l).2.1 k).2.1)) := by
  rcases hs : (sizeT t).isSome with _ | _
  · rw [run_bad hs, run_bad hs]
    exact ⟨fun _ => rfl, fun h => by cases h⟩
  · rw [run_good hs, run_good hs, foldE_append]
    refine ⟨fun h => by rw [if_pos h], fun h => .inl ?_⟩
    have hx := foldE_ok l (exact_of hs) h
    rw [if_neg (by simp [h]), run_good hx.size, ← hx.2.1, ← hx.2.2]

set_option maxRecDepth 100000 in
set_option maxHeartbeats 20000000 in
theorem walk_EditParts (w : World) (n : Nat) (cs : List Value) (t : T) (ht : IsT w n cs t) (_ : Small t) (m1 : Nat) (a1 : Option Addr) (n1 c1 : Nat) (l1 : List EdD) (h1 : IsXs w m1 a1 n1 c1 l1) (_ : ∀ i, i < l1.length → Small (l1.getD i default).tree) (hb1 : n1 * 120 ≤ 140737488355328)
    (m2 : Nat) (a2 : Option Addr) (n2 c2 : Nat) (l2 : List EdD) (h2 : IsXs w m2 a2 n2 c2 l2) (_ : ∀ i, i < l2.length → Small (l2.getD i default).tree) (hb2 : n2 * 120 ≤ 140737488355328) (hm : MaxW w) (hmx : 0 < w.heap.size) :
    Calls Tryd.prog 4 #[.agg cs.toArray, .slice a1 n1 c1, .slice a2 n2 c2] w fun e w' => e = .returned (.bool true) ∧ Below w.heap.size w w' := by
  obtain ⟨w1, hw1⟩ : ∃ w1, w1 = w.alloc (.cells cs.toArray 26) := ⟨_, rfl⟩
  have b1 : Below w.heap.size w w1 := by rw [hw1]; exact (Below.refl _ _).alloc (Nat.le_refl _) _
  have g1 : Has w1 w.heap.size cs 26 := by rw [hw1]; exact Has.new w cs _
  have hI := Lib.hid (infoL (isT_five ht))
  have HGR := Lib.hid (great_any n cs t w1 (IsT.later b1 _ _ _ ht) 500 (by omega) (by omega))
  have HG1 := Lib.hid (fun (W : World) (hW : Below w.heap.size w W) => greatX_any (h1.later hW) 200 (by omega) (by omega))
  have HG2 := Lib.hid (fun (W : World) (hW : Below w.heap.size w W) => greatX_any (h2.later hW) 200 (by omega) (by omega))
  have HAW := Lib.hid (fun (W : World) (hW : Below w.heap.size w W) => awake_any W (hm.below hW hmx) (Nat.lt_of_lt_of_le hmx hW.size))
  have HT := Lib.hid ht
  have H1 := Lib.hid h1
  have H2 := Lib.hid h2
  have HM := Lib.hid hm
  have HMX := Lib.hid hmx
  have HW1 := Lib.hid hw1
  have B1 := Lib.hid b1
  have G1 := Lib.hid g1
  have G1r : Hid (w1.heap[w.heap.size]? = some (.cells cs.toArray 26 (0, 0))) := Lib.hid g1
  have HN : Hid (n1 * 120 ≤ 140737488355328 ∧ n2 * 120 ≤ 140737488355328) := Lib.hid ⟨hb1, hb2⟩
  have hws : IntKind.i64.wrap ((n1 : Int) + (n2 : Int)) = (n1 : Int) + (n2 : Int) := by rw [IntKind.wrap_i64]; omega
  clear ht h1 h2 hm hmx hw1 b1 g1 hb1 hb2
  go_enter Tryd.func4, Tryd.ntmps4
  go_upto_region 1 with fail
  rw [← HW1.out]
  go_wp2_with (refine wpList_load_row rfl 26 _ rfl w.heap.size rfl 26 cs.toArray (0, 0) _ G1r.out Tryd.underlying26 rfl hI.out ?_)
  refine HGR.out.mono ?_
  rintro e w2 ⟨⟨g, rfl⟩, hb2⟩
  have B2 := Lib.hid hb2
  clear hb2
  -- the way out where something is too great
  have OUT : Hid (∀ (W : World), Below w.heap.size w W → Calls Tryd.prog 10 #[] W fun e w' => e = .returned (.bool true) ∧ Below w.heap.size w w') := Lib.hid (fun W hW => (HAW.out W hW).mono (fun e w' h => ⟨h.1, hW.trans (h.2.mono hW.size)⟩))
  rcases Bool.eq_false_or_eq_true g with rfl | rfl
  · go_wp2_with fail
    refine (OUT.out w2 (b_trans B1.out B2.out)).mono ?_
    rintro e w3 ⟨rfl, hb3⟩
    have B3 := Lib.hid hb3
    clear hb3
    go_wp2_with fail
    go_ret
    exact ⟨rfl, B3.out⟩
  by_cases hgt : 20 < n1 + n2
  · have hgi : (20 : Int) < (n1 : Int) + (n2 : Int) := by omega
    clear hgt
    go_wp2_with fail
    refine (OUT.out w2 (b_trans B1.out B2.out)).mono ?_
    rintro e w3 ⟨rfl, hb3⟩
    have B3 := Lib.hid hb3
    clear hb3
    go_wp2_with fail
    go_ret
    exact ⟨rfl, B3.out⟩
  have hgi : ¬ (20 : Int) < (n1 : Int) + (n2 : Int) := by omega
  have HGT := Lib.hid hgt
  clear hgt
  go_wp2_with fail
  refine (HG1.out w2 (b_trans B1.out B2.out)).mono ?_
  rintro e w3 ⟨⟨g, rfl⟩, hb3⟩
  have B3 := Lib.hid (B2.out.trans (hb3.mono B2.out.size))
  clear hb3
  rcases Bool.eq_false_or_eq_true g with rfl | rfl
  · go_wp2_with fail
    refine (OUT.out w3 (b_trans B1.out B3.out)).mono ?_
    rintro e w4 ⟨rfl, hb4⟩
    have B4 := Lib.hid hb4
    clear hb4
    go_wp2_with fail
    go_ret
    exact ⟨rfl, B4.out⟩
  go_wp2_with fail
  refine (HG2.out w3 (b_trans B1.out B3.out)).mono ?_
  rintro e w4 ⟨⟨g, rfl⟩, hb4⟩
  have B4 := Lib.hid (B3.out.trans (hb4.mono B3.out.size))
  clear hb4
  rcases Bool.eq_false_or_eq_true g with rfl | rfl
  · go_wp2_with fail
    refine (OUT.out w4 (b_trans B1.out B4.out)).mono ?_
    rintro e w5 ⟨rfl, hb5⟩
    have B5 := Lib.hid hb5
    clear hb5
    go_wp2_with fail
    go_ret
    exact ⟨rfl, B5.out⟩
  go_wp2_with fail
  refine (HAW.out w4 (b_trans B1.out B4.out)).mono ?_
  rintro e w5 ⟨rfl, hb5⟩
  have BM5 := Lib.hid (B4.out.trans (hb5.mono B4.out.size))
  have hb5 := b_trans B1.out BM5.out
  have B5 := Lib.hid hb5
  -- the two lists, one behind the other
  obtain ⟨i0, hi0, hz0, hz1, hz2⟩ := info_edit_parts
  obtain ⟨L1, hL1, hF1, hS1, hO1⟩ := srcX (H1.out.later hb5)
  have HI0 := Lib.hid hi0
  have HZ0 := Lib.hid hz0
  have HZ1 := Lib.hid hz1
  have HZ2 := Lib.hid hz2
  have HL1 := Lib.hid hL1
  have HF1 := Lib.hid hF1
  have HS1 := Lib.hid hS1
  have HO1 := Lib.hid hO1
  have HNL := Lib.hid H1.out.nil
  have HM1 : Hid (n1 ≤ maxLen ∧ n1 + n2 ≤ maxLen) := Lib.hid (by have := HGT.out; unfold maxLen; omega)
  clear hb5 hi0 hz0 hz1 hz2 hL1 hF1 hS1 hO1 hgi
  go_upto_region 6 with fail
  go_upto_region 7 with (at_builtin; refine wpList_append_src rfl _ _ 27 rfl w5.heap.size 41 i0 _ 8 120 Tryd.underlying27 HI0.out HZ0.out HZ1.out HZ2.out rfl (by omega) (.slice none 0 0) 0 [] rfl (World.ownsRow_nil _ _ _ _) a1 n1 c1 L1 rfl HL1.out HNL.out HS1.out HO1.out (by have := HM1.out; omega) (by have := HN.out; omega) (Nat.le_refl _) ?_)
  intro v6 w6 hown6 hgr6
  have B56 := Lib.hid ((Below.refl w5.heap.size w5).grown hgr6 (Nat.le_refl _) (fun q hq => by cases hq))
  have HOW6 := Lib.hid hown6
  obtain ⟨L2, hL2, hF2, hS2, hO2⟩ := srcX (H2.out.later B5.out)
  have HL2 := Lib.hid hL2
  have HF2 := Lib.hid hF2
  have HS2 : Hid (∀ ad, a2 = some ad → ∀ j u, L2[j]? = some u → w6.cell? (ad.add j) = some u) := Lib.hid (fun ad ha j u hu => (B56.out.cell (p := ad.add j) (World.block_lt_of_cell? w5 _ (hS2 ad ha j u hu))).trans (hS2 ad ha j u hu))
  have HO2 := Lib.hid hO2
  have HNL2 := Lib.hid H2.out.nil
  have HV6 : Hid (∀ q, v6.ownBlock = some q → w5.heap.size ≤ q) := Lib.hid (fun q hq => by
    rcases hown6.2 with ⟨rfl, _⟩ | ⟨g, cap, cur, rfl, hg, _⟩
    · cases hq
    · cases hq; exact hg)
  clear hown6 hgr6 hL2 hF2 hS2 hO2
  go_upto_region 7 with fail
  go_upto_region 8 with (at_builtin; refine wpList_append_src rfl _ _ 27 rfl w5.heap.size 41 i0 _ 8 120 Tryd.underlying27 HI0.out HZ0.out HZ1.out HZ2.out rfl (by omega) v6 n1 L1 rfl (by have := HOW6.out; simpa using this) a2 n2 c2 L2 rfl HL2.out HNL2.out HS2.out HO2.out (HM1.out.2) (by have := HN.out; have := HGT.out; omega) B56.out.size ?_)
  intro v7 w7 hown7 hgr7
  have B57 := Lib.hid (B56.out.grown hgr7 B56.out.size HV6.out)
  have BW7 := Lib.hid (B5.out.trans (B57.out.mono B5.out.size))
  obtain ⟨a7, c7, rfl, hx7⟩ := isXs_owned (m := max m1 m2) (l := l1 ++ l2) hown7 (by rw [List.length_append, H1.out.length, H2.out.length]) (fun i hi => by
    rw [getD_app, H1.out.length]
    by_cases h : i < n1
    · rw [if_pos h, eight_left HL1.out h]
      exact isX_le ((HF1.out i h).later B57.out) (Nat.le_max_left _ _)
    · rw [if_neg h, eight_right HL1.out (by omega)]
      exact isX_le ((HF2.out (i - n1) (by omega)).later B57.out) (Nat.le_max_right _ _))
  have HX7 := Lib.hid hx7
  have B17 : Hid (Below w1.heap.size w1 w7) := Lib.hid (BM5.out.trans (B57.out.mono BM5.out.size))
  have G7r : Hid (w7.heap[w.heap.size]? = some (.cells cs.toArray 26 (0, 0))) := Lib.hid ((B17.out.block w.heap.size (Array.getElem?_eq_some_iff.1 G1r.out).1).trans G1r.out)
  clear hown7 hgr7 hx7 HOW6 HS2 HO2 HS1 HO1 HF1 HF2
  go_upto_region 8 with fail
  have HAP8 := Lib.hid (applyA_any n cs t w7 (IsT.later BW7.out _ _ _ HT.out) (max m1 m2) a7 (n1 + n2) c7 (l1 ++ l2) HX7.out (HM.out.below BW7.out HMX.out) (Nat.lt_of_lt_of_le HMX.out BW7.out.size))
  go_wp2_with (refine wpList_load_row rfl 26 _ rfl w.heap.size rfl 26 cs.toArray (0, 0) _ G7r.out Tryd.underlying26 rfl hI.out ?_)
  refine HAP8.out.mono ?_
  rintro e w8a ⟨out8, rfl, ho5, ho1, hb, hok, hbad⟩
  obtain ⟨D8, hD⟩ : ∃ D, D = (runE t (l1 ++ l2)).1 := ⟨_, rfl⟩
  rw [← hD] at hok hbad ⊢
  have HD8 := Lib.hid hD
  obtain ⟨w8, hw⟩ : ∃ W, W = (w8a.alloc (.cells #[.int .u8 0, .bool false, .slice none 0 0, .slice none 0 0, .slice none 0 0] 26)).setRow w8a.heap.size out8.toArray := ⟨_, rfl⟩
  have hbs : Below w8a.heap.size w8a w8 := by rw [hw]; exact below_setRow ((Below.refl _ _).alloc (Nat.le_refl _) _) (Nat.le_refl _) _
  have BA8 := Lib.hid (hb.trans (hbs.mono hb.size))
  have BW8 := Lib.hid ((BW7.out).trans (BA8.out.mono (BW7.out).size))
  have V8 : Hid (w8.heap[w8a.heap.size]? = some (.cells out8.toArray 26 (0, 0))) := Lib.hid (by rw [hw]; exact setRow_heap _ _ _ _ _ _ (heap_alloc_new w8a _))
  have HI8 := Lib.hid (infoL ho5)
  have HOK8 : Hid (D8 = 0 → IsT w8 (sizeN (runE t (l1 ++ l2)).2.1) out8 (runE t (l1 ++ l2)).2.1) := Lib.hid (fun h0 => by
    obtain ⟨S, hmt⟩ := hok h0
    exact (hmt.later hbs).isT _ (Nat.le_refl _) (run_small (by rw [← hD]; exact h0)).1)
  have HBAD8 := Lib.hid hbad
  have HO1 := Lib.hid ho1
  have HOS : Hid ((#[.int .u8 0, .bool false, .slice none 0 0, .slice none 0 0, .slice none 0 0] : Array Value).size = out8.toArray.size) := Lib.hid (by simp [ho5])
  have HW := Lib.hid hw
  clear hD ho5 ho1 hb hok hbad hw hbs HAP8
  go_upto_region 9 with (refine wpList_store_row rfl 26 _ _ rfl w8a.heap.size out8.toArray rfl rfl 26 _ (heap_alloc_new w8a _) HI8.out HOS.out HO1.out ?_)
  rw [← HW.out]
  clear HW HO1 HOS
  have G8r : Hid (w8.heap[w.heap.size]? = some (.cells cs.toArray 26 (0, 0))) := Lib.hid ((BA8.out.block w.heap.size (Array.getElem?_eq_some_iff.1 G7r.out).1).trans G7r.out)
  have HAP10 := Lib.hid (applyA_any n cs t w8 (IsT.later BW8.out _ _ _ HT.out) m1 a1 n1 c1 l1 (H1.out.later BW8.out) (HM.out.below BW8.out HMX.out) (Nat.lt_of_lt_of_le HMX.out BW8.out.size))
  go_wp2_with (refine wpList_load_row rfl 26 _ rfl w.heap.size rfl 26 cs.toArray (0, 0) _ G8r.out Tryd.underlying26 rfl hI.out ?_)
  refine HAP10.out.mono ?_
  rintro e w10a ⟨out10, rfl, ho5, ho1, hb, hok, hbad⟩
  obtain ⟨D10, hD⟩ : ∃ D, D = (runE t l1).1 := ⟨_, rfl⟩
  rw [← hD] at hok hbad ⊢
  have HD10 := Lib.hid hD
  obtain ⟨w10, hw⟩ : ∃ W, W = (w10a.alloc (.cells #[.int .u8 0, .bool false, .slice none 0 0, .slice none 0 0, .slice none 0 0] 26)).setRow w10a.heap.size out10.toArray := ⟨_, rfl⟩
  have hbs : Below w10a.heap.size w10a w10 := by rw [hw]; exact below_setRow ((Below.refl _ _).alloc (Nat.le_refl _) _) (Nat.le_refl _) _
  have BA10 := Lib.hid (hb.trans (hbs.mono hb.size))
  have BW10 := Lib.hid ((BW8.out).trans (BA10.out.mono (BW8.out).size))
  have V10 : Hid (w10.heap[w10a.heap.size]? = some (.cells out10.toArray 26 (0, 0))) := Lib.hid (by rw [hw]; exact setRow_heap _ _ _ _ _ _ (heap_alloc_new w10a _))
  have HI10 := Lib.hid (infoL ho5)
  have HOK10 : Hid (D10 = 0 → IsT w10 (sizeN (runE t l1).2.1) out10 (runE t l1).2.1) := Lib.hid (fun h0 => by
    obtain ⟨S, hmt⟩ := hok h0
    exact (hmt.later hbs).isT _ (Nat.le_refl _) (run_small (by rw [← hD]; exact h0)).1)
  have HBAD10 := Lib.hid hbad
  have HO1 := Lib.hid ho1
  have HOS : Hid ((#[.int .u8 0, .bool false, .slice none 0 0, .slice none 0 0, .slice none 0 0] : Array Value).size = out10.toArray.size) := Lib.hid (by simp [ho5])
  have HW := Lib.hid hw
  clear hD ho5 ho1 hb hok hbad hw hbs HAP10
  go_upto_region 10 with (refine wpList_store_row rfl 26 _ _ rfl w10a.heap.size out10.toArray rfl rfl 26 _ (heap_alloc_new w10a _) HI10.out HOS.out HO1.out ?_)
  rw [← HW.out]
  clear HW HO1 HOS
  have V8b : Hid (w10.heap[w8a.heap.size]? = some (.cells out8.toArray 26 (0, 0))) := Lib.hid ((BA10.out.block _ (Array.getElem?_eq_some_iff.1 V8.out).1).trans V8.out)
  obtain ⟨hp1, hp2⟩ := run_parts t l1 l2
  rw [← HD10.out, ← HD8.out] at hp1
  have HP1 := Lib.hid hp1
  rw [← HD10.out] at hp2
  have HP2 := Lib.hid hp2
  clear hp1 hp2
  by_cases h0 : D10 = 0
  · have hsm := run_small (t := t) (l := l1) (by rw [← HD10.out]; exact h0)
    have HS10 := Lib.hid hsm
    have HT10 := Lib.hid (HOK10.out h0)
    have HP2' := Lib.hid (HP2.out h0)
    subst h0
    clear hsm
    have HAP12 := Lib.hid (applyA_any _ out10 (runE t l1).2.1 w10 HT10.out m2 a2 n2 c2 l2 (H2.out.later BW10.out) (HM.out.below BW10.out HMX.out) (Nat.lt_of_lt_of_le HMX.out BW10.out.size))
    go_wp2_with (refine wpList_load_row rfl 26 _ rfl w10a.heap.size rfl 26 out10.toArray (0, 0) _ V10.out Tryd.underlying26 rfl HI10.out ?_)
    refine HAP12.out.mono ?_
    rintro e w12a ⟨out12, rfl, ho5, ho1, hb, hok, hbad⟩
    obtain ⟨D12, hD⟩ : ∃ D, D = (runE (runE t l1).2.1 l2).1 := ⟨_, rfl⟩
    rw [← hD] at hok hbad ⊢
    have HD12 := Lib.hid hD
    obtain ⟨w12, hw⟩ : ∃ W, W = (w12a.alloc (.cells #[.int .u8 0, .bool false, .slice none 0 0, .slice none 0 0, .slice none 0 0] 26)).setRow w12a.heap.size out12.toArray := ⟨_, rfl⟩
    have hbs : Below w12a.heap.size w12a w12 := by rw [hw]; exact below_setRow ((Below.refl _ _).alloc (Nat.le_refl _) _) (Nat.le_refl _) _
    have BA12 := Lib.hid (hb.trans (hbs.mono hb.size))
    have BW12 := Lib.hid ((BW10.out).trans (BA12.out.mono (BW10.out).size))
    have V12 : Hid (w12.heap[w12a.heap.size]? = some (.cells out12.toArray 26 (0, 0))) := Lib.hid (by rw [hw]; exact setRow_heap _ _ _ _ _ _ (heap_alloc_new w12a _))
    have HI12 := Lib.hid (infoL ho5)
    have HOK12 : Hid (D12 = 0 → IsT w12 (sizeN (runE (runE t l1).2.1 l2).2.1) out12 (runE (runE t l1).2.1 l2).2.1) := Lib.hid (fun h0 => by
      obtain ⟨S, hmt⟩ := hok h0
      exact (hmt.later hbs).isT _ (Nat.le_refl _) (run_small (by rw [← hD]; exact h0)).1)
    have HBAD12 := Lib.hid hbad
    have HO1 := Lib.hid ho1
    have HOS : Hid ((#[.int .u8 0, .bool false, .slice none 0 0, .slice none 0 0, .slice none 0 0] : Array Value).size = out12.toArray.size) := Lib.hid (by simp [ho5])
    have HW := Lib.hid hw
    clear hD ho5 ho1 hb hok hbad hw hbs HAP12
    go_upto_region 13 with (refine wpList_store_row rfl 26 _ _ rfl w12a.heap.size out12.toArray rfl rfl 26 _ (heap_alloc_new w12a _) HI12.out HOS.out HO1.out ?_)
    rw [← HW.out]
    clear HW HO1 HOS
    have V8c : Hid (w12.heap[w8a.heap.size]? = some (.cells out8.toArray 26 (0, 0))) := Lib.hid ((BA12.out.block _ (Array.getElem?_eq_some_iff.1 V8b.out).1).trans V8b.out)
    have he : D8 = D12 ∧ (runE t (l1 ++ l2)).2.1 = (runE (runE t l1).2.1 l2).2.1 := by
      rw [HD8.out, HD12.out]
      rcases HP2'.out with h | h
      · rw [h]; exact ⟨rfl, rfl⟩
      · exact h
    obtain ⟨hD, hT2⟩ := he
    have HB812 := Lib.hid (BA10.out.trans (BA12.out.mono BA10.out.size))
    have hall : ∃ x N1 N3, IsT w12 N1 out8 x ∧ IsT w12 N3 out12 x := by
      by_cases hz : D12 = 0
      · refine ⟨(runE t (l1 ++ l2)).2.1, _, sizeN (runE (runE t l1).2.1 l2).2.1, IsT.later HB812.out _ _ _ (HOK8.out (by rw [hD]; exact hz)), ?_⟩
        rw [hT2]
        exact HOK12.out hz
      · rw [HBAD8.out (by rw [hD]; exact hz), HBAD12.out hz]
        exact ⟨zeroT, 1, 1, isT_zero w12, isT_zero w12⟩
    obtain ⟨xx, N1, N3, q1, q3⟩ := hall
    have HSM := Lib.hid (rsame_any N1 out8 xx N3 out12 xx w12 q1 q3)
    subst hD
    clear hT2 q1 q3
    go_wp2_with (first
      | refine ld_rowG (by rfl) 26 _ rfl w8a.heap.size rfl 26 out8.toArray (0, 0) _ V8c.out Tryd.underlying26 rfl HI8.out ?_
      | refine ld_rowG (by rfl) 26 _ rfl w12a.heap.size rfl 26 out12.toArray (0, 0) _ V12.out Tryd.underlying26 rfl HI12.out ?_)
    refine HSM.out.mono ?_
    rintro e w13 ⟨⟨r, rfl, hr⟩, hb13⟩
    have B13 := Lib.hid (BW12.out.trans (hb13.mono BW12.out.size))
    have hrt : r = true := hr.2 rfl
    subst hrt
    clear hr hb13
    go_wp2_with fail
    go_ret
    exact ⟨rfl, B13.out⟩
  · have h0i : ¬ ((D10 : Int) = 0) := by omega
    have hD : D8 = D10 := HP1.out h0
    have hz : out8 = zK := HBAD8.out (by rw [hD]; exact h0)
    subst hz
    subst hD
    have HSM := Lib.hid (rsame_any 1 zK zeroT 1 zK zeroT w10 (isT_zero w10) (isT_zero w10))
    clear h0
    go_wp2_with (refine ld_rowG (by rfl) 26 _ rfl w8a.heap.size rfl 26 zK.toArray (0, 0) _ V8b.out Tryd.underlying26 rfl HI8.out ?_)
    refine HSM.out.mono ?_
    rintro e w13 ⟨⟨r, rfl, hr⟩, hb13⟩
    have B13 := Lib.hid (BW10.out.trans (hb13.mono BW10.out.size))
    have hrt : r = true := hr.2 rfl
    subst hrt
    clear hr hb13
    go_wp2_with fail
    go_ret
    exact ⟨rfl, B13.out⟩

end Go.Proofs.YtnfhmndepfmmoaaDoor

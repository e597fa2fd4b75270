/-
  The contract of the search's making. Conditions: bounds on the number of paths.
-/
import Derived.Test.YtcmgafehidgkmaaRfMet
import Derived.Test.YtcmgafehidgkmaaIs
import Derived.Test.YtcmgafehidgkmaaShelf
import Derived.Sort.OwnSorted
import Derived.Carry
namespace Go.Proofs.Ytcmgafehidgkmaa
open Go.RowKit
open Go.Sort (Holds)
set_option linter.unusedVariables false

theorem encStr_bts (b : Bts) : encStr b = .string ⟨b.toArray⟩ := rfl
theorem map_bts (l : List ByteArray) : (l.map btsOf).map encStr = l.map Value.string := by
  rw [List.map_map]
  refine List.map_congr_left fun x _ => ?_
  show Value.string ⟨(btsOf x).toArray⟩ = .string x
  unfold btsOf; rw [Array.toArray_toList]

theorem clone_any (a : Option Addr) (n cap : Nat) (l : List ByteArray) (w : World) (hS : IsS w a n cap l) (hn : n ≤ 100000) :
    Calls Try.prog 29 #[.slice a n cap] w fun e w' => ∃ v, e = .returned v ∧ w'.ownsRow w.heap.size 9 1 v n (l.map Value.string) ∧ Below w.heap.size w w' := by
  have hl := hS.length
  rcases a with _ | ⟨b, off, sp⟩
  · obtain ⟨rfl, rfl⟩ := hS.nil rfl
    have : l = [] := List.length_eq_zero_iff.1 hl
    subst this
    refine (Try.slices_Clone_string_nil 0 0 w).mono ?_
    rintro e w' ⟨rfl, rfl⟩
    exact ⟨_, rfl, World.ownsRow_nil _ _ _ _, Below.refl _ _⟩
  · by_cases h0 : n = 0
    · subst h0
      have : l = [] := List.length_eq_zero_iff.1 hl
      subst this
      refine (Try.slices_Clone_string_zero _ cap w).mono ?_
      rintro e w' ⟨v, rfl, h1, _, h2⟩
      exact ⟨_, rfl, h1, h2⟩
    · rcases hS.at_ with h | ⟨b', off', hb, _, hc⟩
      · exact absurd h h0
      injection hb with hb
      injection hb with h1 h2 h3
      subst h1; subst h2; subst h3
      refine (Try.slices_Clone_string b off n cap l w (by omega) (by omega) (fun j hj => by
        have := hc j (by omega)
        rw [this]; rfl)).mono ?_
      rintro e w' ⟨v, rfl, h1, _, h2⟩
      rw [List.take_of_length_le (by omega)] at h1
      exact ⟨_, rfl, h1, h2⟩

/-- Texts of their own, sorted in place. -/
theorem sort_any (B : Nat) (v : Value) (n : Nat) (l : List ByteArray) (w : World) (hO : w.ownsRow B 9 1 v n (l.map Value.string)) (hn : n ≤ 100000) :
    Calls Try.prog 30 #[v] w fun e w' => e = .returned (.tuple #[]) ∧ ∃ out : List ByteArray, out.map btsOf = ((l.map btsOf).mergeSort fun x y => decide (x ≤ y)) ∧ w'.ownsRow B 9 1 v n (out.map Value.string) ∧ w.grownBy w' v.ownBlock := by
  have hl : l.length = n := by simpa using hO.1
  rcases hO.2 with ⟨rfl, rfl⟩ | ⟨g, cap, cur, rfl, hb, hg, hnc, hcm, hcs, htake⟩
  · have : l = [] := List.length_eq_zero_iff.1 hl
    subst this
    refine (Try.slices_Sort_string_none none 0 w).mono ?_
    rintro e w' ⟨rfl, rfl⟩
    exact ⟨rfl, [], by simp, World.ownsRow_nil _ _ _ _, World.grownBy.refl _ _⟩
  · have hls : (l.map btsOf).length = n := by rw [List.length_map, hl]
    have hgl : g < w.heap.size := (Array.getElem?_eq_some_iff.1 hg).1
    have hH : Holds encStr w g 0 (l.map btsOf).toArray := holds_of_block hg (by rw [hls, map_bts, ← htake, Nat.mul_one])
    have hs := Try.slices_Sort_string g 0 cap (l.map btsOf) w hH hgl (by rw [hls]; omega)
    rw [hls] at hs
    refine hs.mono ?_
    rintro e w' ⟨rfl, m, os, rfl⟩
    obtain ⟨T, hT⟩ : ∃ T, T = ((l.map btsOf).mergeSort fun x y => decide (x ≤ y)) := ⟨_, rfl⟩
    rw [← hT]
    have hTl : T.length = (l.map btsOf).length := by rw [hT]; exact List.length_mergeSort _
    refine ⟨rfl, T.map (fun b => ⟨b.toArray⟩), ?_, ?_, grownBy_sorted _⟩
    · rw [List.map_map]
      have : (btsOf ∘ fun b : Bts => (⟨b.toArray⟩ : ByteArray)) = id := by funext b; rfl
      rw [this, List.map_id]
    · have h := ownsRow_sorted (n := m) (os := os) hTl hb hg (by rw [hls]; exact hnc) hcm hcs
      rw [hls] at h
      rw [List.map_map]
      exact h

/-- What the search gathers of some paths. -/
def stepG (q : List ByteArray × List Bool) (x : ByteArray) : List ByteArray × List Bool := if (Nam.parseP x.data.toList).isSome = true then addT q.1 q.2 x else q
def gath (l : List ByteArray) : List ByteArray × List Bool := l.foldl stepG ([], [])

def gathN (out : List ByteArray) (i : Nat) : List ByteArray × List Bool := (out.take i).foldl stepG ([], [])
theorem gathN_succ {out : List ByteArray} {i : Nat} (h : i < out.length) : gathN out (i + 1) = stepG (gathN out i) (out.getD i ⟨#[]⟩) := by
  unfold gathN
  rw [List.take_succ_eq_append_getElem h, List.foldl_append, List.getD_eq_getElem?_getD, List.getElem?_eq_getElem h]; rfl
theorem gathN_all (out : List ByteArray) : gathN out out.length = gath out := by unfold gathN gath; rw [List.take_length]
theorem addT_len (ss : List ByteArray) (ms : List Bool) (x : ByteArray) : (addT ss ms x).1.length ≤ ss.length + 1 := by
  unfold addT; split <;> simp
theorem stepG_len (q : List ByteArray × List Bool) (x : ByteArray) : (stepG q x).1.length ≤ q.1.length + 1 := by
  unfold stepG; split
  · exact addT_len _ _ _
  · omega
theorem parse_len {l : List UInt8} (h : (Nam.parseP l).isSome = true) : 32 ≤ l.length := by
  unfold Nam.parseP at h
  split at h
  · rename_i h2; exact h2.1
  · cases h
theorem SrM.start : SrM (List.replicate 256 false) (.map []) [] where
  long := fun x hx => by simp at hx
  has := fun K _ => by simp [Go.Maps.has]
  at_ := fun i hi => by simp at hi
  sign := fun b => by
    have h : (List.replicate 256 false).getD b.toNat false = false := by
      rw [List.getD_eq_getElem?_getD, List.getElem?_replicate]; split <;> rfl
    rw [h]
    constructor
    · intro h2; cases h2
    · rintro ⟨x, hx, _⟩; cases hx

theorem zero_search (m : Nat) : Try.zeroCells58.setIfInBounds 1 (.map (some m)) = (Value.slice none 0 0 :: .map (some m) :: (List.replicate 256 false).map Value.bool).toArray := by kernel_rfl

set_option maxRecDepth 100000 in
set_option maxHeartbeats 8000000 in
theorem new_any (a : Option Addr) (n cap : Nat) (l : List ByteArray) (w : World) (hS : IsS w a n cap l) (hn : n ≤ 1000) :
    Calls Try.prog 20 #[.slice a n cap] w fun e w' => ∃ (s : Nat) (v : Value) (mb : Nat) (sg : List Bool) (D : DataW Unit) (out : List ByteArray), e = .returned (.pointer (some ⟨s, 0, none⟩)) ∧ out.map btsOf = ((l.map btsOf).mergeSort fun x y => decide (x ≤ y)) ∧ Sr w' w.heap.size s v mb sg D (gath out).1 (gath out).2 ∧ SrM sg D (gath out).1 ∧ (gath out).1.length ≤ n ∧ Below w.heap.size w w' := by
  have hmm := @run_makeMap Try.prog
  go_enter Try.func20, Try.ntmps20
  go_wp2_with fail
  obtain ⟨w1, hw1⟩ : ∃ w1, w1 = (w.alloc (.map #[] 0)).alloc (.cells (Try.zeroCells58.setIfInBounds 1 (.map (some w.heap.size))) 58) := ⟨_, rfl⟩
  rw [← hw1]
  have hs1 : (w.alloc (.map #[] 0)).heap.size = w.heap.size + 1 := by simp
  have hS1 : Sr w1 w.heap.size (w.heap.size + 1) (.slice none 0 0) w.heap.size (List.replicate 256 false) (.map []) [] [] := by
    rw [hw1]
    refine ⟨?_, by simp, World.ownsRow_nil _ _ _ _, rfl, (World.ownsMap_made w _ _ _).alloc _, by omega, Nat.le_refl _⟩
    have h := heap_alloc_new (w.alloc (.map #[] 0)) (.cells (Try.zeroCells58.setIfInBounds 1 (.map (some w.heap.size))) 58)
    rw [hs1] at h
    unfold Has
    rw [h, zero_search]
  have hb1 : Below w.heap.size w w1 := by rw [hw1]; exact ((Below.refl _ _).alloc (Nat.le_refl _) _).alloc (by omega) _
  have hz1 : w1.heap.size = w.heap.size + 2 := by rw [hw1]; simp
  obtain ⟨B, hB⟩ : ∃ B, B = w.heap.size := ⟨_, rfl⟩
  have HIS := Lib.hid (hS.later hb1)
  have HZ1 := Lib.hid hz1
  rw [← hB] at hS1 hb1
  rw [← hB]
  have HB := Lib.hid hB
  have HS1 := Lib.hid hS1
  have HB1 := Lib.hid hb1
  clear hw1 hs1 hS1 hb1 hS hz1 hB
  refine (clone_any a n cap l w1 HIS.out (by omega)).mono ?_
  rintro e w2 ⟨v2, rfl, ho2, hb2⟩
  have HO2 := Lib.hid ho2
  have HB2 := Lib.hid hb2
  clear ho2 hb2
  go_wp2_with fail
  refine (sort_any w1.heap.size v2 n l w2 HO2.out (by omega)).mono ?_
  rintro e w3 ⟨rfl, out, hout, ho3, hg3⟩
  have hb3 : Below w1.heap.size w1 w3 := HB2.out.trans ⟨hg3.os, hg3.tape, hg3.output, hg3.size, fun k hk => hg3.block k (Nat.lt_of_lt_of_le hk HB2.out.size) (fun e => by
    have := (HO2.out.lt k e.symm).1
    omega)⟩
  have HS3 := Lib.hid (HS1.out.below hb3)
  have HB3 : Hid (Below B w w3) := Lib.hid (HB1.out.trans (hb3.mono (by rw [HB.out]; exact HB1.out.size)))
  have HBZ := Lib.hid hb3.size
  have hol : out.length = n := by simpa using ho3.1
  have HO3 := Lib.hid ho3
  have HOUT := Lib.hid hout
  have HOL := Lib.hid hol
  obtain ⟨lv, lc, rfl⟩ := row_form2 ho3
  clear hout ho3 hg3 hb3 hol HO2 HB2 HS1 HB1
  go_wp2_with fail
  go_loopg [16] (n + 1) (fun gk v16 wr => ∃ (i : Nat) (v : Value) (sg : List Bool) (D : DataW Unit), gk = n + 1 - i ∧ i ≤ n ∧ v16 = .int .i64 i ∧ Sr wr B (B + 1) v B sg D (gathN out i).1 (gathN out i).2 ∧ SrM sg D (gathN out i).1 ∧ (gathN out i).1.length ≤ i ∧ Below B w wr ∧ w3.heap.size ≤ wr.heap.size ∧ (∀ k, k < w3.heap.size → k ≠ B + 1 → k ≠ B → wr.heap[k]? = w3.heap[k]?) ∧ ∀ g, v.ownBlock = some g → w3.heap.size ≤ g)
  case atStart => exact ⟨0, _, _, _, rfl, Nat.zero_le _, rfl, HS3.out, SrM.start, Nat.zero_le _, HB3.out, Nat.le_refl _, fun _ _ _ _ => rfl, fun g hg => by simp [Value.ownBlock] at hg⟩
  case round =>
    obtain ⟨i, v, sg, D, rfl, hin, rfl, hsr, hsm, hgl, hbr, hzr, hkr, hfr⟩ := hrel
    have HSR := Lib.hid hsr
    have HSM := Lib.hid hsm
    have HGL := Lib.hid hgl
    have HBR := Lib.hid hbr
    have HZR := Lib.hid hzr
    have HKR := Lib.hid hkr
    have HFR := Lib.hid hfr
    clear hsr hsm hgl hbr hzr hkr hfr
    by_cases hlt : i < n
    · have hii : (i : Int) < (n : Int) := by omega
      obtain ⟨g, gc, hg, hgb, hgl⟩ := HO3.out.form (by omega)
      have hlv : lv = some ⟨g, 0, none⟩ := by injection hg
      have hlc : lc = gc := by injection hg
      subst hlv
      subst hlc
      obtain ⟨x, hx⟩ : ∃ x, x = out.getD i ⟨#[]⟩ := ⟨_, rfl⟩
      have hB1 : B + 2 ≤ g := by have := HZ1.out; have := HB.out; omega
      have c1 : wr.cell? ⟨g, i, none⟩ = some (.string x) := by
        have h1 : wr.cell? ⟨g, i, none⟩ = w3.cell? ⟨g, i, none⟩ := World.cell?_of_block (a := ⟨g, i, none⟩) (HKR.out g hgl (by omega) (by omega))
        rw [h1, HO3.out.cellAt i (by omega), hx]
        have : i < out.length := by rw [HOL.out]; exact hlt
        simp [this]
      have hgs : gathN out (i + 1) = stepG (gathN out i) x := by rw [hx]; exact gathN_succ (by rw [HOL.out]; exact hlt)
      have HGS := Lib.hid hgs
      have hsl := HGL.out
      clear hgs hx hg
      go_wp2_with fail
      refine (Nam.is_any x wr).mono ?_
      rintro e w4 ⟨rfl, hb4⟩
      have HB4 := Lib.hid hb4
      clear hb4 c1
      cases hp : (Nam.parseP x.data.toList).isSome with
      | false =>
        have HG' : Hid (gathN out (i + 1) = gathN out i) := Lib.hid (by rw [HGS.out, stepG, if_neg (by rw [hp]; decide)])
        clear hp
        go_wp2_with fail
        go_roundg (n + 1 - (i + 1))
        case rel => exact ⟨i + 1, v, sg, D, rfl, by omega, by go_num, by rw [HG'.out]; exact HSR.out.below HB4.out, by rw [HG'.out]; exact HSM.out, by rw [HG'.out]; omega, HBR.out.trans (HB4.out.mono (by have := HBR.out.size; have := HB.out; omega)), Nat.le_trans HZR.out HB4.out.size, fun k h1 h2 h3 => (HB4.out.block k (Nat.lt_of_lt_of_le h1 HZR.out)).trans (HKR.out k h1 h2 h3), HFR.out⟩
        case measure => omega
      | true =>
        have HG' : Hid (gathN out (i + 1) = addT (gathN out i).1 (gathN out i).2 x) := Lib.hid (by rw [HGS.out, stepG, if_pos hp])
        have h32 : 32 ≤ x.size := by have := parse_len hp; simpa using this
        have HS4 := Lib.hid (HSR.out.below HB4.out)
        clear hp
        go_wp2_with fail
        refine (add_any B (B + 1) v B sg D _ _ w4 HS4.out HSM.out x h32 (by have := HB4.out.size; have := HBR.out.size; have := HB.out; omega) (by omega)).mono ?_
        rintro e w5 ⟨rfl, ho5, v5, sg5, D5, hs5, hm5, hf5⟩
        have HO5 := Lib.hid ho5
        have HS5 := Lib.hid hs5
        have HM5 := Lib.hid hm5
        have HF5 := Lib.hid hf5
        have hln := addT_len (gathN out i).1 (gathN out i).2 x
        clear ho5 hs5 hm5 hf5
        go_wp2_with fail
        go_roundg (n + 1 - (i + 1))
        case rel => exact ⟨i + 1, v5, sg5, D5, rfl, by omega, by go_num, by rw [HG'.out]; exact HS5.out, by rw [HG'.out]; exact HM5.out, by rw [HG'.out]; omega,
          ⟨HO5.out.os.trans (HB4.out.os.trans HBR.out.os), HO5.out.tape.trans (HB4.out.tape.trans HBR.out.tape), HO5.out.output.trans (HB4.out.output.trans HBR.out.output), Nat.le_trans HBR.out.size (Nat.le_trans HB4.out.size HO5.out.size), fun k hk => (HO5.out.block k (by have := HBR.out.size; have := HB4.out.size; have := HB.out; omega) (by omega) (by omega) (fun e => by
            have h1 := HFR.out k e.symm
            have := HBZ.out; have := HZ1.out; have := HB.out; omega)).trans ((HB4.out.block k (by have := HBR.out.size; have := HB.out; omega)).trans (HBR.out.block k hk))⟩,
          Nat.le_trans HZR.out (Nat.le_trans HB4.out.size HO5.out.size),
          fun k h1 h2 h3 => (HO5.out.block k (by have := HZR.out; have := HB4.out.size; omega) h2 h3 (fun e => by have := HFR.out k e.symm; omega)).trans ((HB4.out.block k (Nat.lt_of_lt_of_le h1 HZR.out)).trans (HKR.out k h1 h2 h3)),
          fun g2 hg2 => by
            rcases HF5.out g2 hg2 with h | h
            · exact HFR.out g2 h
            · have := HZR.out; have := HB4.out.size; omega⟩
        case measure => omega
    · obtain rfl : i = n := by omega
      have hii : ¬ (i : Int) < (i : Int) := by omega
      have hga : gathN out i = gath out := by rw [← HOL.out]; exact gathN_all out
      have HGA := Lib.hid hga
      clear hga
      go_wp2_with fail
      go_ret
      have hBe := HB.out
      subst hBe
      exact ⟨_, rfl, v, _, sg, D, out, HOUT.out, by rw [← HGA.out]; exact HSR.out, by rw [← HGA.out]; exact HSM.out, by rw [← HGA.out]; exact HGL.out, HBR.out⟩

end Go.Proofs.Ytcmgafehidgkmaa

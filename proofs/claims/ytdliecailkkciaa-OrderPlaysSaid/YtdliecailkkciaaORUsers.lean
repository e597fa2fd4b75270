/-
  The reference's Users. Conditions: as many needs as names; a bound on their number.
-/
import Derived.Test.YtdliecailkkciaaORIn
namespace Go.Proofs.Ytdliecailkkciaa
open Go.RowKit
set_option linter.unusedVariables false

/-- Who of the first i is told. -/
noncomputable def usF (G : List ByteArray) (ns : List ByteArray) (ks : List (List ByteArray)) (x : ByteArray) : Nat → List ByteArray
  | 0 => []
  | i + 1 => if needB ns ks (G.getD i ⟨#[]⟩) x = true ∧ G.getD i ⟨#[]⟩ ≠ x then usF G ns ks x i ++ [G.getD i ⟨#[]⟩] else usF G ns ks x i
theorem usF_sub (G : List ByteArray) (ns : List ByteArray) (ks : List (List ByteArray)) (x : ByteArray) : ∀ i, i ≤ G.length → (usF G ns ks x i).Sublist (G.take i)
  | 0, _ => by simp [usF]
  | i + 1, h => by
    have ih := usF_sub G ns ks x i (by omega)
    rw [take_next (l := G) (j := i) (by omega)]
    unfold usF
    split
    · exact ih.append (List.Sublist.refl _)
    · exact ih.trans (List.sublist_append_left _ _)
theorem usF_mem (G : List ByteArray) (ns : List ByteArray) (ks : List (List ByteArray)) (x : ByteArray) : ∀ i, i ≤ G.length → ∀ s, s ∈ usF G ns ks x i ↔ s ∈ G.take i ∧ Need ns ks s x ∧ s ≠ x
  | 0, _, s => by simp [usF]
  | i + 1, h, s => by
    have ih := usF_mem G ns ks x i (by omega) s
    rw [take_next (l := G) (j := i) (by omega), List.mem_append, List.mem_singleton]
    unfold usF
    by_cases hc : needB ns ks (G.getD i ⟨#[]⟩) x = true ∧ G.getD i ⟨#[]⟩ ≠ x
    · rw [if_pos hc, List.mem_append, List.mem_singleton, ih]
      rw [needB_iff] at hc
      constructor
      · rintro (⟨h1, h2⟩ | rfl)
        · exact ⟨.inl h1, h2⟩
        · exact ⟨.inr rfl, hc⟩
      · rintro ⟨h1 | rfl, h2⟩
        · exact .inl ⟨h1, h2⟩
        · exact .inr rfl
    · rw [if_neg hc, ih]
      rw [needB_iff] at hc
      constructor
      · rintro ⟨h1, h2⟩; exact ⟨.inl h1, h2⟩
      · rintro ⟨h1 | rfl, h2⟩
        · exact ⟨h1, h2⟩
        · exact absurd h2 hc
theorem usF_len (G : List ByteArray) (ns : List ByteArray) (ks : List (List ByteArray)) (x : ByteArray) : ∀ i, (usF G ns ks x i).length ≤ i
  | 0 => Nat.le_refl _
  | i + 1 => by
    have := usF_len G ns ks x i
    unfold usF
    split
    · rw [List.length_append]; simp only [List.length_singleton]; omega
    · omega
set_option maxRecDepth 100000 in
set_option maxHeartbeats 8000000 in
theorem rusers_any (w : World) (a : Option Addr) (n c : Nat) (ns : List ByteArray) (hS : IsS w a n c ns) (ak : Option Addr) (ck : Nat) (ks : List (List ByteArray)) (hK : IsSS w ak n ck ks) (hn : n ≤ 1000) (x : ByteArray) :
    Calls Try.prog 18 #[.slice a n c, .slice ak n ck, .string x] w fun e w' => ∃ (v : Value) (l : List ByteArray), e = .returned v ∧ l.Pairwise (fun x y => btsOf x < btsOf y) ∧ (∀ s, s ∈ l ↔ Need ns ks s x ∧ s ≠ x) ∧ w'.ownsRow w.heap.size 9 1 v l.length (l.map Value.string) ∧ Below w.heap.size w w' := by
  obtain ⟨i0, hi0, hz0, hz1, hz2⟩ := info_parts info_str
  have HI := Lib.hid hi0
  have HZ0 := Lib.hid hz0
  have HZ1 := Lib.hid hz1
  have HZ2 := Lib.hid hz2
  have HS := Lib.hid hS
  have HK := Lib.hid hK
  have HN := Lib.hid hn
  clear hi0 hz0 hz1 hz2 hS hK hn
  go_enter Try.func18, Try.ntmps18
  go_wp2_with fail
  refine (rsort_any a n c ns w HS.out HN.out).mono ?_
  rintro e w1 ⟨v, G, rfl, hout, how, hl, hb⟩
  have hG : G = risL ns := risL_of hout
  have HG := Lib.hid hG
  obtain ⟨ga, gc, rfl, hgs⟩ := owns_isS how
  have HGS := Lib.hid hgs
  have B1 := Lib.hid hb
  have HGL : Hid (G.length ≤ 1000) := Lib.hid (by have := HN.out; omega)
  have HSZ := Lib.hid hb.size
  clear hG hout how hgs hl hb
  go_wp2_with fail
  go_loopg [8, 9] G.length (fun gk v8 v9 wr => ∃ i : Nat, gk = G.length - i ∧ i ≤ G.length ∧ v9 = .int .i64 (i : Int) ∧ wr.ownsRow w1.heap.size 9 1 v8 (usF G ns ks x i).length ((usF G ns ks x i).map Value.string) ∧ Below w1.heap.size w1 wr)
  case atStart => exact ⟨0, rfl, Nat.zero_le _, rfl, World.ownsRow_nil _ _ _ _, Below.refl _ _⟩
  case round =>
    obtain ⟨i, rfl, hi, rfl, how, hb⟩ := hrel
    have HO := Lib.hid how
    have HB := Lib.hid hb
    have HGR := Lib.hid (HGS.out.later hb)
    have HBW : Hid (Below w.heap.size w wr) := Lib.hid (B1.out.trans (hb.mono HSZ.out))
    clear how hb
    by_cases hlt : i < G.length
    · obtain ⟨b, off, rfl, hbl, hc⟩ := HGR.out.cell hlt
      have hki : (i : Int) < (G.length : Int) := by omega
      have hk0 : (0 : Int) ≤ (i : Int) := by omega
      have hni : (i : Int) + 1 ≤ 9223372036854775807 := by have := HGL.out; omega
      have HLT := Lib.hid hlt
      obtain ⟨s, hs⟩ : ∃ s, s = G.getD i ⟨#[]⟩ := ⟨_, rfl⟩
      rw [← hs] at hc
      have HU : Hid (usF G ns ks x (i + 1) = if needB ns ks s x = true ∧ s ≠ x then usF G ns ks x i ++ [s] else usF G ns ks x i) := Lib.hid (by rw [hs]; rfl)
      have HUL : Hid ((usF G ns ks x i).length ≤ 1000) := Lib.hid (by have := usF_len G ns ks x i; have := HGL.out; omega)
      clear hbl hs hlt
      by_cases hxs : s = x
      · have he : (s.toList == x.toList) = true := by rw [hxs]; simp
        have HU2 : Hid (usF G ns ks x (i + 1) = usF G ns ks x i) := Lib.hid (by rw [HU.out, if_neg (fun h => h.2 hxs)])
        clear hxs HU
        go_wp2_with fail
        go_roundg (G.length - (i + 1))
        case rel => exact ⟨i + 1, rfl, HLT.out, by go_num, by rw [HU2.out]; exact HO.out, HB.out⟩
        case measure => have := HLT.out; omega
      · have he : (s.toList == x.toList) = false := by rw [Lib.bytes_beq_false_iff]; exact hxs
        have HXS := Lib.hid hxs
        clear hxs
        go_wp2_with fail
        refine (needs_any wr a n c ns (HS.out.later HBW.out) ak ck ks (HK.out.later HBW.out) s x).mono ?_
        rintro e w2 ⟨rfl, hw2⟩
        obtain rfl : wr = w2 := hw2.symm
        by_cases hnd : Need ns ks s x
        · rw [needB_yes hnd]
          have HU2 : Hid (usF G ns ks x (i + 1) = usF G ns ks x i ++ [s]) := Lib.hid (by rw [HU.out, if_pos ⟨needB_yes hnd, HXS.out⟩])
          clear hnd HU
          go_wp2_with (at_builtin; go_must (refine wpList_append_lies _ rfl (.tmp 34) (.tmp 39) 22 rfl w1.heap.size 9 i0 (.string ByteArray.empty) 1 16 Try.underlying22 HI.out HZ0.out HZ1.out HZ2.out rfl (by omega) _ (usF G ns ks x i).length ((usF G ns ks x i).map Value.string) rfl (HO.out.alloc _) ⟨wr.heap.size, 0, none⟩ 1 1 [.string s] rfl rfl ?a1 ?a2 ?a3 ?a4 ?a5 ?a6 _ rfl ?a7))
          try (case a1 => (intro j u hj; rw [Addr.add_mid]; exact (Has.new wr [.string s] _).cellAt (by rw [Nat.zero_add]; exact hj)))
          try (case a2 => first | rfl | (intro u hu; simp only [List.mem_cons, List.not_mem_nil, or_false] at hu; rcases hu with rfl; rfl))
          try (case a3 => omega)
          try (case a4 => (have := HUL.out; unfold maxLen; omega))
          try (case a5 => (have := HUL.out; omega))
          try (case a6 => (have := HB.out.size; simp; omega))
          intro g1 cap1 w3 hown hgrow hat hlt2
          have HB3 : Hid (Below w1.heap.size w1 w3) := Lib.hid (below_grown (HB.out.alloc HB.out.size _) (by have := HB.out.size; simp; omega) (HO.out.alloc _) hgrow)
          have HO3 : Hid (w3.ownsRow w1.heap.size 9 1 (.slice (some ⟨g1, 0, none⟩) ((usF G ns ks x i).length + 1) cap1) (usF G ns ks x (i + 1)).length ((usF G ns ks x (i + 1)).map Value.string)) := Lib.hid (by rw [HU2.out, List.length_append, List.map_append]; exact hown)
          clear hown hgrow hat hlt2
          go_wp2_with fail
          go_roundg (G.length - (i + 1))
          case rel => exact ⟨i + 1, rfl, HLT.out, by go_num, HO3.out, HB3.out⟩
          case measure => have := HLT.out; omega
        · rw [needB_no hnd]
          have HU2 : Hid (usF G ns ks x (i + 1) = usF G ns ks x i) := Lib.hid (by rw [HU.out, if_neg (fun h => hnd ((needB_iff _ _ _ _).1 h.1))])
          clear hnd HU
          go_wp2_with fail
          go_roundg (G.length - (i + 1))
          case rel => exact ⟨i + 1, rfl, HLT.out, by go_num, by rw [HU2.out]; exact HO.out, HB.out⟩
          case measure => have := HLT.out; omega
    · obtain rfl : i = G.length := by omega
      have hki : ¬ (G.length : Int) < (G.length : Int) := by omega
      go_wp2_with fail
      go_ret
      refine ⟨_, rfl, _, ?_, fun s => ?_, owns_down HO.out HSZ.out, HBW.out⟩
      · have := usF_sub G ns ks x G.length (Nat.le_refl _)
        rw [List.take_length] at this
        refine List.Pairwise.sublist this ?_
        rw [HG.out]; exact risL_inc ns
      · rw [usF_mem G ns ks x _ (Nat.le_refl _), List.take_length, HG.out, risL_mem]
        exact ⟨fun h => h.2, fun h => ⟨h.1.mem, h⟩⟩
end Go.Proofs.Ytdliecailkkciaa

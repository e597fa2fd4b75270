/-
  Users. Conditions: bounds on the graph.
-/
import Derived.Test.YtdliecailkkciaaOSearch
import Derived.Deep.DeepMust
namespace Go.Proofs.Ytdliecailkkciaa
open Go.RowKit
set_option linter.unusedVariables false

/-- Who of the first i names needs x, itself aside. -/
def usr (G : List ByteArray) (N : ByteArray → Option (List ByteArray)) (x : ByteArray) : Nat → List ByteArray
  | 0 => []
  | i + 1 => if (fnd (getN N (G.getD i ⟨#[]⟩)) x = true ∧ G.getD i ⟨#[]⟩ ≠ x) then usr G N x i ++ [G.getD i ⟨#[]⟩] else usr G N x i
theorem usr_len (G : List ByteArray) (N : ByteArray → Option (List ByteArray)) (x : ByteArray) : ∀ i, (usr G N x i).length ≤ i
  | 0 => Nat.le_refl _
  | i + 1 => by
    have := usr_len G N x i
    unfold usr
    split
    · rw [List.length_append]; simp only [List.length_singleton]; omega
    · omega
set_option maxRecDepth 100000 in
set_option maxHeartbeats 8000000 in
theorem users_any (w : World) (gb : Nat) (G : List ByteArray) (N : ByteArray → Option (List ByteArray)) (x : ByteArray) (h : Gr w gb G N) (hG : G.length ≤ 1000) (hL : ∀ s, (getN N s).length ≤ 1000000) (hsz : ∀ s ∈ G, s.size ≤ maxLen) :
    Calls Try.prog 17 #[.pointer (some ⟨gb, 0, none⟩), .string x] w fun e w' => ∃ v, e = .returned v ∧ w'.ownsRow w.heap.size 9 1 v (usr G N x G.length).length ((usr G N x G.length).map Value.string) ∧ Below w.heap.size w w' := by
  obtain ⟨i0, hi0, hz0, hz1, hz2⟩ := info_parts info_str
  have HI := Lib.hid hi0
  have HZ0 := Lib.hid hz0
  have HZ1 := Lib.hid hz1
  have HZ2 := Lib.hid hz2
  obtain ⟨ga, gn, gc, mb, km, M, h1, h2, h3, h4, h5⟩ := h.ex
  obtain rfl : gn = G.length := h2.length.symm
  have H1 := Lib.hid h1
  have H2 := Lib.hid h2
  have H3 := Lib.hid h3
  have H4 := Lib.hid h4
  have H5 := Lib.hid h5
  have HG := Lib.hid hG
  have HLN := Lib.hid hL
  have HSZ := Lib.hid hsz
  have c0 := h1.cellAt (i := 0) rfl
  clear h h1 h2 h3 h4 h5 hG hL hsz hi0 hz0 hz1 hz2
  go_enter Try.func17, Try.ntmps17
  go_wp2_with fail
  clear c0
  go_loopw [5, 17] (fun lv ii wr => ∃ i : Nat, i ≤ G.length ∧ ii = .int .i64 i ∧ Below w.heap.size w wr ∧ wr.ownsRow w.heap.size 9 1 lv (usr G N x i).length ((usr G N x i).map Value.string)) (fun _ ii _ => G.length - (intOf ii).toNat)
  case atStart => exact ⟨0, Nat.zero_le _, rfl, Below.refl _ _, World.ownsRow_nil _ _ _ _⟩
  case round =>
    obtain ⟨i, hi, rfl, hlow, hown⟩ := hrel
    have HB := Lib.hid hlow
    have HO := Lib.hid hown
    obtain ⟨la, lc, rfl, _⟩ := owns_isS hown
    clear hlow hown
    by_cases hlt : i < G.length
    · obtain ⟨b, off, rfl, hb, hc⟩ := H2.out.cell hlt
      have hci := (HB.out.cell (p := ⟨b, off + i, none⟩) hb).trans hc
      obtain ⟨s, hs⟩ : ∃ s, s = G.getD i ⟨#[]⟩ := ⟨_, rfl⟩
      rw [← hs] at hci
      have HSS : Hid (s.size ≤ maxLen) := Lib.hid (by rw [hs]; exact HSZ.out _ (getD_mem2 hlt))
      have HU : Hid (usr G N x (i + 1) = if (fnd (getN N s) x = true ∧ s ≠ x) then usr G N x i ++ [s] else usr G N x i) := Lib.hid (by rw [hs]; rfl)
      have HLT := Lib.hid hlt
      have hki : (i : Int) < (G.length : Int) := by omega
      have hk0 : (0 : Int) ≤ (i : Int) := by omega
      have hni : (i : Int) + 1 ≤ 9223372036854775807 := by have := HG.out; omega
      have hgb1 : wr.cell? ⟨gb, 1, none⟩ = some (.map (some mb)) := (H1.out.below HB.out H1.out.lt).cellAt (i := 1) rfl
      obtain ⟨na, nc, hnv, hns⟩ : ∃ na nc, getV M s = .slice na (getN N s).length nc ∧ IsS w na (getN N s).length nc (getN N s) := by
        have h4 := H4.out s
        have h5 := H5.out s
        unfold getV getN
        cases hn : N s with
        | none =>
          rw [hn] at h4
          cases hm : M s with
          | none => exact ⟨none, 0, rfl, isS_nil w⟩
          | some u => rw [hm] at h4; cases h4
        | some l =>
          obtain ⟨a', n', c', h6, h7⟩ := h5 l hn
          rw [h6]
          obtain rfl : n' = l.length := h7.length.symm
          exact ⟨a', c', rfl, h7⟩
      have hlk : (Instr.lookup 45 (.map (some mb)) (.string s) false).run Try.prog wr = .ok (.slice na (getN N s).length nc) wr := by
        rw [← hnv]
        exact (H3.out.below HB.out H3.out.lt).get Try.underlying45 (zeroS wr) HSS.out
      have HNS := Lib.hid (hns.later HB.out)
      clear hb hc hs hnv hns hlt
      go_wp2_with fail
      refine (search_any HNS.out (HLN.out s)).mono ?_
      rintro e w2 ⟨rfl, hb2⟩
      have HB2 := Lib.hid (HB.out.trans (hb2.mono HB.out.size))
      have HO2 := Lib.hid (owns_stay HO.out (fun g hg => hb2.block g (HO.out.lt g hg).2))
      clear hb2 hlk hgb1 hci
      have hfd : decide (Lib.bsGo (fun t => Op.bytesLess ((getN N s).getD t ⟨#[]⟩).toList x.toList) (getN N s).length 0 (getN N s).length < (getN N s).length ∧ (getN N s).getD (Lib.bsGo (fun t => Op.bytesLess ((getN N s).getD t ⟨#[]⟩).toList x.toList) (getN N s).length 0 (getN N s).length) ⟨#[]⟩ = x) = fnd (getN N s) x := rfl
      rw [hfd]
      obtain ⟨pp, hpp⟩ : ∃ pp : Int, pp = ((Lib.bsGo (fun t => Op.bytesLess ((getN N s).getD t ⟨#[]⟩).toList x.toList) (getN N s).length 0 (getN N s).length : Nat) : Int) := ⟨_, rfl⟩
      rw [← hpp]
      clear hfd hpp
      cases hf : fnd (getN N s) x with
      | false =>
        have HU2 : Hid (usr G N x (i + 1) = usr G N x i) := Lib.hid (by rw [HU.out, if_neg (by rw [hf]; simp)])
        clear hf HU
        go_wp2_with fail
        go_roundw
        case rel => exact ⟨i + 1, HLT.out, by go_num, HB2.out, by rw [HU2.out]; exact HO2.out⟩
        case measure => have := HLT.out; simp [intOf]; omega
      | true =>
        by_cases hsx : s = x
        · have he : (s.toList == x.toList) = true := by rw [hsx]; simp
          have HU2 : Hid (usr G N x (i + 1) = usr G N x i) := Lib.hid (by rw [HU.out, if_neg (by rw [hsx]; simp)])
          clear hf HU hsx
          go_wp2_with fail
          go_roundw
          case rel => exact ⟨i + 1, HLT.out, by go_num, HB2.out, by rw [HU2.out]; exact HO2.out⟩
          case measure => have := HLT.out; simp [intOf]; omega
        · have he : (s.toList == x.toList) = false := by rw [Lib.bytes_beq_false_iff]; exact hsx
          have HU2 : Hid (usr G N x (i + 1) = usr G N x i ++ [s]) := Lib.hid (by rw [HU.out, if_pos ⟨hf, hsx⟩])
          have HUL : Hid ((usr G N x i).length ≤ 1000) := Lib.hid (by have := usr_len G N x i; have := HG.out; omega)
          clear hf HU hsx
          go_wp2_with (at_builtin; go_must (refine wpList_append_lies _ rfl (.tmp 38) (.tmp 40) 22 rfl w.heap.size 9 i0 (.string ByteArray.empty) 1 16 Try.underlying22 HI.out HZ0.out HZ1.out HZ2.out rfl (by omega) _ (usr G N x i).length ((usr G N x i).map Value.string) rfl (HO2.out.alloc _) ⟨w2.heap.size, 0, none⟩ 1 1 [.string s] rfl rfl ?a1 ?a2 ?a3 ?a4 ?a5 ?a6 _ rfl ?a7))
          try (case a1 => (intro j u hj; rw [Addr.add_mid]; exact (Has.new w2 [.string s] _).cellAt (by rw [Nat.zero_add]; exact hj)))
          try (case a2 => first | rfl | (intro u hu; simp only [List.mem_cons, List.not_mem_nil, or_false] at hu; rcases hu with rfl; rfl))
          try (case a3 => omega)
          try (case a4 => (have := HUL.out; unfold maxLen; omega))
          try (case a5 => (have := HUL.out; omega))
          try (case a6 => (have := HB2.out.size; simp; omega))
          intro g1 cap1 w3 hown hgrow hat hlt2
          have HB3 : Hid (Below w.heap.size w w3) := Lib.hid ((HB2.out.alloc HB2.out.size _).grown hgrow (by have := HB2.out.size; simp; omega) (fun k hk => (HO2.out.lt k hk).1))
          have HO3 : Hid (w3.ownsRow w.heap.size 9 1 (.slice (some ⟨g1, 0, none⟩) ((usr G N x i).length + 1) cap1) (usr G N x (i + 1)).length ((usr G N x (i + 1)).map Value.string)) := Lib.hid (by rw [HU2.out, List.length_append, List.map_append]; exact hown)
          clear hown hgrow hat hlt2
          go_wp2_with fail
          go_roundw
          case rel => exact ⟨i + 1, HLT.out, by go_num, HB3.out, HO3.out⟩
          case measure => have := HLT.out; simp [intOf]; omega
    · obtain rfl : i = G.length := by omega
      have hki : ¬ (G.length : Int) < (G.length : Int) := by omega
      go_wp2_with fail
      go_ret
      exact ⟨_, rfl, HO.out, HB.out⟩
end Go.Proofs.Ytdliecailkkciaa

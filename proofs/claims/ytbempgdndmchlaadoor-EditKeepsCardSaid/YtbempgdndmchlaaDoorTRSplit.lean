/-
  The names of a path: the reference's Split. Condition: none.
-/
import Derived.Test.YtbempgdndmchlaaDoorTSplit
import Derived.Deep.AppendLies
namespace Go.Proofs.YtbempgdndmchlaaDoor
open Go.RowKit
set_option linter.unusedVariables false

/-- One byte more: the pieces that are done, the one under way. -/
def stepP (r : List (List UInt8) × List UInt8) (c : UInt8) : List (List UInt8) × List UInt8 := if c = 47 then (r.1 ++ [r.2], []) else (r.1, r.2 ++ [c])
def runP (p : List UInt8) : List (List UInt8) × List UInt8 := p.foldl stepP ([], [])

theorem pieces_ne : ∀ p : List UInt8, pieces p ≠ []
  | [] => by simp [pieces]
  | c :: t => by
    unfold pieces
    split
    · simp
    · cases h : pieces t <;> simp

theorem foldl_pieces : ∀ (p : List UInt8) (D : List (List UInt8)) (w : List UInt8), (p.foldl stepP (D, w)).1 ++ [(p.foldl stepP (D, w)).2] = D ++ (match pieces p with | [] => [w] | h :: t => (w ++ h) :: t)
  | [], D, w => by simp [pieces]
  | c :: t, D, w => by
    rw [List.foldl_cons]
    by_cases hc : c = 47
    · have e : stepP (D, w) c = (D ++ [w], []) := by unfold stepP; rw [if_pos hc]
      rw [e, foldl_pieces t]
      have ep : pieces (c :: t) = [] :: pieces t := by rw [pieces, if_pos hc]
      rw [ep]
      cases h : pieces t with
      | nil => exact absurd h (pieces_ne t)
      | cons a b => simp
    · have e : stepP (D, w) c = (D, w ++ [c]) := by unfold stepP; rw [if_neg hc]
      rw [e, foldl_pieces t]
      cases h : pieces t with
      | nil => exact absurd h (pieces_ne t)
      | cons a b =>
        have ep : pieces (c :: t) = (c :: a) :: b := by rw [pieces, if_neg hc, h]
        rw [ep]
        simp

theorem runP_pieces (p : List UInt8) : pieces p = (runP p).1 ++ [(runP p).2] := by
  unfold runP
  rw [foldl_pieces]
  cases h : pieces p with
  | nil => exact absurd h (pieces_ne p)
  | cons a b => simp

theorem runP_step (l : List UInt8) (k : Nat) (h : k < l.length) : runP (l.take (k + 1)) = stepP (runP (l.take k)) (l.getD k 0) := by
  unfold runP
  rw [List.take_succ_eq_append_getElem h, List.foldl_append, List.getD_eq_getElem?_getD, List.getElem?_eq_getElem h]
  rfl

theorem foldl_grows : ∀ (p : List UInt8) (r : List (List UInt8) × List UInt8) (x : List UInt8), x ∈ r.1 → x ∈ (p.foldl stepP r).1
  | [], _, _, h => h
  | c :: t, r, x, h => by
    rw [List.foldl_cons]
    apply foldl_grows t
    unfold stepP
    split
    · simp [h]
    · exact h

/-- What is done stays. -/
theorem mem_pieces {l : List UInt8} {k : Nat} {x : List UInt8} (h : x ∈ (runP (l.take k)).1) : x ∈ pieces l := by
  rw [runP_pieces]
  have e : runP l = (l.drop k).foldl stepP (runP (l.take k)) := by
    unfold runP
    rw [← List.foldl_append, List.take_append_drop]
  rw [e]
  simp [foldl_grows _ _ _ h]

theorem splitT_no {s : List UInt8} {x : List UInt8} (h1 : s.length ≤ 400) (h2 : s ≠ []) (hx : x ∈ pieces s) (h : tName x = false) : splitT s = ([], 4) := by
  unfold splitT
  rw [if_neg (by omega), if_neg h2, if_neg]
  rw [List.all_eq_true]
  intro hall
  have := hall x hx
  rw [h] at this
  cases this

theorem splitT_yes {s : List UInt8} {l : List ByteArray} (h1 : s.length ≤ 400) (h2 : s ≠ []) (hl : l.map (·.data.toList) = pieces s) (h : ∀ x ∈ l, tName x.data.toList = true) : splitT s = (pieces s, 0) := by
  unfold splitT
  rw [if_neg (by omega), if_neg h2, if_pos]
  rw [← hl, all_pieces, List.all_eq_true]
  exact h

theorem info_str : (Tryd.prog.info? 9).map (fun i => (i.zero, i.size, i.bytes)) = some (some (.string ByteArray.empty), 1, 16) := by kernel_rfl

theorem info_str_parts : ∃ i, Tryd.prog.info? 9 = some i ∧ i.zero = some (.string ByteArray.empty) ∧ i.size = 1 ∧ i.bytes = 16 := by
  have h := info_str
  cases hi : Tryd.prog.info? 9 with
  | none => rw [hi] at h; cases h
  | some i =>
    rw [hi] at h
    simp only [Option.map_some, Option.some.injEq, Prod.mk.injEq] at h
    exact ⟨i, rfl, h.1, h.2.1, h.2.2⟩

/-- A row of texts of the call's own, read. -/
theorem isS_of_owns {w : World} {base n : Nat} {v : Value} {l : List ByteArray} (h : w.ownsRow base 9 1 v n (l.map Value.string)) : ∃ a cap, v = .slice a n cap ∧ IsS w a n cap l ∧ ∀ x, a = some x → base ≤ x.block := by
  have hl : l.length = n := by simpa using h.1
  rcases h.2 with ⟨rfl, rfl⟩ | ⟨g, cap, cur, rfl, hb, hg, hnc, hcm, hcs, htake⟩
  · exact ⟨none, 0, rfl, ⟨hl, .inl rfl, fun _ => ⟨rfl, rfl⟩, Nat.le_refl _, Nat.zero_le _⟩, fun x hx => by cases hx⟩
  · refine ⟨_, cap, rfl, ⟨hl, .inr ⟨g, 0, rfl, (Array.getElem?_eq_some_iff.1 hg).1, fun i hi => ?_⟩, (fun h => by cases h), hnc, hcm⟩, fun x hx => by cases hx; exact hb⟩
    have h2 : w.ownsRow base 9 1 (.slice (some ⟨g, 0, none⟩) n cap) n (l.map Value.string) := h
    rw [Nat.zero_add, h2.cellAt i (by omega)]
    simp [List.getD, show i < l.length by omega]

set_option maxRecDepth 100000 in
set_option maxHeartbeats 8000000 in
theorem rsplit_any (s : ByteArray) (w : World) :
    Calls Tryd.prog 22 #[.string s] w fun e w' => SplitPost .i64 (splitT s.data.toList) w e w' := by
  have hlen : s.data.toList.length = s.size := by simp
  obtain ⟨i0, hi, hz0, hz1, hz2⟩ := info_str_parts
  by_cases h : 400 < s.size
  · have h4 : decide ((400 : Int) < (s.size : Int)) = true := by simp; omega
    have hsp : splitT s.data.toList = ([], 2) := by unfold splitT; rw [if_pos (by rw [hlen]; exact h)]
    rw [hsp]
    clear hlen hsp hi hz0 hz1 hz2
    go_enter Tryd.func22, Tryd.ntmps22
    go_wp2_with fail
    go_ret2
    exact splitPost_nil rfl (Below.refl _ _)
  have h4 : decide ((400 : Int) < (s.size : Int)) = false := by simp; omega
  by_cases h0 : s.size = 0
  · have hnil : s.data.toList = [] := List.eq_nil_of_length_eq_zero (by rw [hlen]; exact h0)
    have hs : s = ⟨#[]⟩ := bytes_ext (by rw [hnil])
    subst hs
    clear hlen h0 hnil h hi hz0 hz1 hz2
    go_enter Tryd.func22, Tryd.ntmps22
    go_wp2_with fail
    go_ret2
    exact splitPost_nil rfl (Below.refl _ _)
  have n0 : s.toList.isEmpty = false := by
    rw [ByteArray.toList_eq]
    cases h : s.data.toList with
    | nil => rw [h] at hlen; simp at hlen; omega
    | cons a t => rfl
  have hne : s.data.toList ≠ [] := fun e => by rw [e] at hlen; simp at hlen; omega
  obtain ⟨SP, hSP⟩ : ∃ SP, SP = splitT s.data.toList := ⟨_, rfl⟩
  rw [← hSP]
  have HSP := Lib.hid hSP
  have HNE := Lib.hid hne
  have HLEN := Lib.hid hlen
  have hle : s.size ≤ 400 := by omega
  have HLE := Lib.hid hle
  have H400 : Hid (s.data.toList.length ≤ 400) := Lib.hid (by rw [hlen]; exact hle)
  clear hlen hne hSP h
  go_enter Tryd.func22, Tryd.ntmps22
  go_wp2_with fail
  go_loopw [4, 5, 6] (fun v4 v5 v6 wr => ∃ (k : Nat) (L : List ByteArray) (word : ByteArray), k ≤ s.size + 1 ∧ v6 = .int .i64 k ∧ v5 = .string word ∧ wr.ownsRow w.heap.size 9 1 v4 L.length (L.map Value.string) ∧ Below w.heap.size w wr ∧ (∀ x ∈ L, tName x.data.toList = true) ∧ L.length ≤ k ∧ word.size ≤ k ∧
    ((k ≤ s.size ∧ runP (s.data.toList.take k) = (L.map (·.data.toList), word.data.toList)) ∨ (k = s.size + 1 ∧ L.map (·.data.toList) = pieces s.data.toList))) (fun _ _ v6 _ => s.size + 1 - (intOf v6).toNat)
  case atStart => exact ⟨0, [], ⟨#[]⟩, Nat.zero_le _, rfl, rfl, World.ownsRow_nil _ _ _ _, Below.refl _ _, (fun x hx => by cases hx), Nat.zero_le _, Nat.zero_le _, .inl ⟨Nat.zero_le _, rfl⟩⟩
  case round =>
    obtain ⟨k, L, word, hk, rfl, rfl, hown, hbel, hall, hL, hW, hst⟩ := hrel
    rcases hst with ⟨hks, hrun⟩ | ⟨rfl, hpc⟩
    · have hki : (k : Int) ≤ (s.size : Int) := by omega
      have HOWN := Lib.hid hown
      have HBEL := Lib.hid hbel
      have HALL := Lib.hid hall
      have HRUN := Lib.hid hrun
      by_cases hdo : k < s.size ∧ s.data.toList.getD k 0 ≠ 47
      · obtain ⟨hlt, hc47⟩ := hdo
        have hget := str_get s k hlt
        have hkl : k < s.data.toList.length := by rw [HLEN.out]; exact hlt
        have hstep := runP_step s.data.toList k hkl
        obtain ⟨c, hc⟩ : ∃ c, c = s.data.toList.getD k 0 := ⟨_, rfl⟩
        rw [← hc] at hget hc47 hstep
        have hstep2 : runP (s.data.toList.take (k + 1)) = (L.map (·.data.toList), word.data.toList ++ [c]) := by
          rw [hstep, hrun]; unfold stepP; rw [if_neg hc47]
        have hext : (word ++ s.extract k (k + 1)).data.toList = word.data.toList ++ [c] := by
          rw [ByteArray.data_append, Array.toList_append, ByteArray.data_extract, Array.toList_extract, List.extract_eq_take_drop, hc]
          congr 1
          rw [List.getD_eq_getElem?_getD, List.getElem?_eq_getElem hkl]
          simp [List.take_one, List.head?_drop, List.getElem?_eq_getElem hkl]
        have HST : Hid (runP (s.data.toList.take (k + 1)) = (L.map (·.data.toList), (word ++ s.extract k (k + 1)).data.toList)) := Lib.hid (by rw [hext]; exact hstep2)
        have c47 : ((c.toNat : Int) == 47) = false := by
          have : c.toNat ≠ 47 := fun h => hc47 (UInt8.toNat_inj.1 h)
          rw [beq_eq_false_iff_ne]; omega
        have c47' : ¬ (c.toNat : Int) = 47 := by simpa using c47
        have hsz : (s.extract k (k + 1)).size = 1 := by rw [ByteArray.size_extract]; omega
        have hcat : ¬ 9223372036854775807 < word.size + 1 := by omega
        have hlti : (k : Int) < (s.size : Int) := by omega
        have hlti2 : (k : Int) + 1 ≤ (s.size : Int) := by omega
        have HSZ := Lib.hid hsz
        clear hown hbel hall hrun hc hc47 hstep hstep2 hext hkl hi hz0 hz1 hz2
        go_wp2_with fail
        go_roundw
        case rel => exact ⟨k + 1, L, _, by omega, by go_num, rfl, HOWN.out, HBEL.out, HALL.out, by omega, by rw [ByteArray.size_append, HSZ.out]; omega, .inl ⟨by omega, HST.out⟩⟩
        case measure => simp [intOf]; omega
      · by_cases hlt : k < s.size
        · have hc47 : s.data.toList.getD k 0 = 47 := by
            by_cases e : s.data.toList.getD k 0 = 47
            · exact e
            · exact absurd ⟨hlt, e⟩ hdo
          have hget := str_get s k hlt
          have hkl : k < s.data.toList.length := by rw [HLEN.out]; exact hlt
          have hstep := runP_step s.data.toList k hkl
          rw [hc47] at hget hstep
          have hstep2 : runP (s.data.toList.take (k + 1)) = (L.map (·.data.toList) ++ [word.data.toList], []) := by
            rw [hstep, hrun]; unfold stepP; rw [if_pos rfl]
          have hlti : (k : Int) < (s.size : Int) := by omega
          have HNO : Hid (tName word.data.toList = false → splitT s.data.toList = ([], 4)) := Lib.hid (fun h => splitT_no H400.out HNE.out (mem_pieces (k := k + 1) (by rw [hstep2]; simp)) h)
          have HNEXT : Hid ((k + 1 ≤ s.size ∧ runP (s.data.toList.take (k + 1)) = ((L ++ [word]).map (·.data.toList), (⟨#[]⟩ : ByteArray).data.toList)) ∨ (k + 1 = s.size + 1 ∧ (L ++ [word]).map (·.data.toList) = pieces s.data.toList)) := Lib.hid (.inl ⟨by omega, by rw [hstep2, List.map_append]; rfl⟩)
          clear hown hbel hall hrun hc47 hstep hstep2 hkl hdo
          cases hn : tName word.data.toList
          · have HN := Lib.hid hn
            have HR := Lib.hid (HNO.out hn)
            clear hn hi hz0 hz1 hz2
            go_wp2_with fail
            refine (rname_any _ _ (by omega)).mono ?_
            rintro e w' ⟨rfl, rfl⟩
            rw [HN.out]
            go_wp2_with fail
            go_ret2
            rw [HSP.out, HR.out]
            exact splitPost_nil rfl HBEL.out
          · have HN := Lib.hid hn
            have hown2 := HOWN.out
            have hbs := HBEL.out.size
            clear hn
            go_wp2_with fail
            refine (rname_any _ _ (by omega)).mono ?_
            rintro e w' ⟨rfl, rfl⟩
            rw [HN.out]
            go_wp2_with (at_builtin; go_must (refine wpList_append_lies _ rfl (.tmp 38) (.tmp 40) 23 rfl w.heap.size 9 i0 (.string ByteArray.empty) 1 16 Tryd.underlying23 hi hz0 hz1 hz2 rfl (by omega) _ L.length (L.map Value.string) rfl (hown2.alloc _) ⟨wr.heap.size, 0, none⟩ 1 1 [.string word] rfl rfl ?c1 ?c2 ?c3 ?c4 ?c5 ?c6 _ rfl ?c7))
            case c1 =>
              intro j u hj
              match j, hj with
              | 0, hj => simp at hj; subst hj; simp [Addr.add]
            case c2 => intro u hu; simp at hu; subst hu; rfl
            case c3 => omega
            case c4 => unfold maxLen; omega
            case c5 => omega
            case c6 => simp; omega
            intro g cap2 w2 hown3 hgrow2 hlo2 hhi2
            have HO3 : Hid (w2.ownsRow w.heap.size 9 1 (.slice (some ⟨g, 0, none⟩) (L.length + 1) cap2) (L ++ [word]).length ((L ++ [word]).map Value.string)) := Lib.hid (by simpa using hown3)
            have HB3 : Hid (Below w.heap.size w w2) := Lib.hid ((HBEL.out.alloc hbs _).grown hgrow2 (by simp; omega) (fun k hk => (hown2.lt k hk).1))
            clear hown3 hgrow2 hown2
            go_wp2_with fail
            go_roundw
            case rel =>
              refine ⟨k + 1, L ++ [word], ⟨#[]⟩, by omega, by go_num, rfl, HO3.out, HB3.out, ?_, by simp; omega, Nat.zero_le _, HNEXT.out⟩
              intro x hx
              rcases List.mem_append.1 hx with h | h
              · exact HALL.out x h
              · simp at h; subst h; exact HN.out
            case measure => simp [intOf]; omega
        · obtain rfl : k = s.size := by omega
          have hfull : s.data.toList.take s.size = s.data.toList := List.take_of_length_le (by rw [HLEN.out]; exact Nat.le_refl _)
          rw [hfull] at hrun
          have hpc : pieces s.data.toList = L.map (·.data.toList) ++ [word.data.toList] := by rw [runP_pieces, hrun]
          have hlti : ¬ (s.size : Int) < (s.size : Int) := by omega
          have HNO : Hid (tName word.data.toList = false → splitT s.data.toList = ([], 4)) := Lib.hid (fun h => splitT_no H400.out HNE.out (by rw [hpc]; simp) h)
          have HNEXT : Hid ((s.size + 1 ≤ s.size ∧ runP (s.data.toList.take (s.size + 1)) = ((L ++ [word]).map (·.data.toList), (⟨#[]⟩ : ByteArray).data.toList)) ∨ (s.size + 1 = s.size + 1 ∧ (L ++ [word]).map (·.data.toList) = pieces s.data.toList)) := Lib.hid (.inr ⟨rfl, by rw [hpc, List.map_append]; rfl⟩)
          clear hown hbel hall hrun hpc hfull hdo
          cases hn : tName word.data.toList
          · have HN := Lib.hid hn
            have HR := Lib.hid (HNO.out hn)
            clear hn hi hz0 hz1 hz2
            go_wp2_with fail
            refine (rname_any _ _ (by omega)).mono ?_
            rintro e w' ⟨rfl, rfl⟩
            rw [HN.out]
            go_wp2_with fail
            go_ret2
            rw [HSP.out, HR.out]
            exact splitPost_nil rfl HBEL.out
          · have HN := Lib.hid hn
            have hown2 := HOWN.out
            have hbs := HBEL.out.size
            clear hn
            go_wp2_with fail
            refine (rname_any _ _ (by omega)).mono ?_
            rintro e w' ⟨rfl, rfl⟩
            rw [HN.out]
            go_wp2_with (at_builtin; go_must (refine wpList_append_lies _ rfl (.tmp 38) (.tmp 40) 23 rfl w.heap.size 9 i0 (.string ByteArray.empty) 1 16 Tryd.underlying23 hi hz0 hz1 hz2 rfl (by omega) _ L.length (L.map Value.string) rfl (hown2.alloc _) ⟨wr.heap.size, 0, none⟩ 1 1 [.string word] rfl rfl ?e1 ?e2 ?e3 ?e4 ?e5 ?e6 _ rfl ?e7))
            case e1 =>
              intro j u hj
              match j, hj with
              | 0, hj => simp at hj; subst hj; simp [Addr.add]
            case e2 => intro u hu; simp at hu; subst hu; rfl
            case e3 => omega
            case e4 => unfold maxLen; omega
            case e5 => omega
            case e6 => simp; omega
            intro g cap2 w2 hown3 hgrow2 hlo2 hhi2
            have HO3 : Hid (w2.ownsRow w.heap.size 9 1 (.slice (some ⟨g, 0, none⟩) (L.length + 1) cap2) (L ++ [word]).length ((L ++ [word]).map Value.string)) := Lib.hid (by simpa using hown3)
            have HB3 : Hid (Below w.heap.size w w2) := Lib.hid ((HBEL.out.alloc hbs _).grown hgrow2 (by simp; omega) (fun k hk => (hown2.lt k hk).1))
            clear hown3 hgrow2 hown2
            go_wp2_with fail
            go_roundw
            case rel =>
              refine ⟨s.size + 1, L ++ [word], ⟨#[]⟩, by omega, by go_num, rfl, HO3.out, HB3.out, ?_, by simp; omega, Nat.zero_le _, HNEXT.out.elim (fun h => .inl h) (fun h => .inr ⟨rfl, h.2⟩)⟩
              intro x hx
              rcases List.mem_append.1 hx with h | h
              · exact HALL.out x h
              · simp at h; subst h; exact HN.out
            case measure => simp [intOf] <;> omega
    · obtain ⟨a, cap, rfl, hI, hge⟩ := isS_of_owns hown
      have HGE := Lib.hid hge
      clear hge
      have hki : ¬ ((s.size + 1 : Nat) : Int) ≤ (s.size : Int) := by omega
      have HR := Lib.hid (splitT_yes H400.out HNE.out hpc hall)
      have HI := Lib.hid hI
      have HPC := Lib.hid hpc
      have HBEL := Lib.hid hbel
      clear hown hall hI hpc hbel hi hz0 hz1 hz2
      go_wp2_with fail
      go_ret2
      rw [HSP.out, HR.out]
      exact ⟨⟨_, _, _, L, HI.out, HPC.out, rfl, HGE.out⟩, HBEL.out⟩

end Go.Proofs.YtbempgdndmchlaaDoor

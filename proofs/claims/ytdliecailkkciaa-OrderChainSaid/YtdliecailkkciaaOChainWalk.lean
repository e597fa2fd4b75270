/-
  The walk of the law OrderChain. No conditions.
-/
import Derived.Test.YtdliecailkkciaaOChainM
import Derived.Test.YtdliecailkkciaaOHas
import Derived.Laws.IdiomStrings
namespace Go.Proofs.Ytdliecailkkciaa
open Go.RowKit
set_option linter.unusedVariables false

theorem conv2 (W : World) (q s : Nat) (hq : 97 + q < 256) (hs : 97 + s < 256) : (convert 43 9 (.slice (some ⟨W.heap.size, 0, none⟩) 2 2)).run Try.prog (W.alloc (Obj.cells #[.int .u8 (97 + (q : Int)), .int .u8 (97 + (s : Int))] 5)) = .ok (.string ⟨#[UInt8.ofNat (97 + q), UInt8.ofNat (97 + s)]⟩) (W.alloc (Obj.cells #[.int .u8 (97 + (q : Int)), .int .u8 (97 + (s : Int))] 5)) := by
  have hh := Has.new W [Value.int .u8 (97 + (q : Int)), .int .u8 (97 + (s : Int))] 5
  refine run_convert_bytes_back _ _ _ 5 ⟨W.heap.size, 0, none⟩ 2 [UInt8.ofNat (97 + q), UInt8.ofNat (97 + s)] Try.underlying43 Try.underlying5 Try.underlying9 (fun j hj => ?_)
  match j, hj with
  | 0, _ =>
    have h := hh.cellAt (i := 0) rfl
    rw [Addr.add_lit]
    refine h.trans ?_
    congr 2
    show 97 + (q : Int) = ((UInt8.ofNat (97 + q)).toNat : Int)
    rw [UInt8.toNat_ofNat']; omega
  | 1, _ =>
    have h := hh.cellAt (i := 1) rfl
    rw [Addr.add_lit]
    refine h.trans ?_
    congr 2
    show 97 + (s : Int) = ((UInt8.ofNat (97 + s)).toNat : Int)
    rw [UInt8.toNat_ofNat']; omega
  | n + 2, hj => exact absurd hj (by simp)
set_option maxRecDepth 100000 in
set_option maxHeartbeats 8000000 in
theorem walk_OrderChain (w : World) (z : UInt8) (ring : Bool) :
    Calls Try.prog 6 #[.int .u8 (z.toNat : Int), .bool ring] w fun e w' => e = .returned (.bool true) ∧ Below w.heap.size w w' := by
  obtain ⟨i0, hi0, hz0, hz1, hz2⟩ := info_parts info_str
  obtain ⟨i1, hj0, hy0, hy1, hy2⟩ := info_parts info_strs
  have HI := Lib.hid hi0
  have HZ0 := Lib.hid hz0
  have HZ1 := Lib.hid hz1
  have HZ2 := Lib.hid hz2
  have HJ := Lib.hid hj0
  have HY0 := Lib.hid hy0
  have HY1 := Lib.hid hy1
  have HY2 := Lib.hid hy2
  obtain ⟨b, hb⟩ : ∃ b : Nat, b = z.toNat := ⟨_, rfl⟩
  have hbb : (b : Int) ≤ 255 := by have := z.toNat_lt; omega
  rw [← hb]
  obtain ⟨r, k, hr, hk, hk2, hk41⟩ : ∃ r k : Nat, Int.tmod (b : Int) 40 = (r : Int) ∧ (2 : Int) + (r : Int) = (k : Int) ∧ 2 ≤ k ∧ k ≤ 41 := by
    refine ⟨b % 40, 2 + b % 40, ?_, by omega, by omega, by omega⟩
    exact (Int.ofNat_tmod b 40).symm
  have HK2 := Lib.hid hk2
  have HK41 := Lib.hid hk41
  clear hi0 hz0 hz1 hz2 hj0 hy0 hy1 hy2 hb
  go_enter Try.func6, Try.ntmps6
  go_wp2_with fail
  refine (awake_any w).mono ?_
  rintro e w1 ⟨rfl, b1⟩
  have B1 := Lib.hid b1
  clear b1
  go_wp2_with fail
  go_loopg [6, 8] k (fun gk v6 v8 wr => ∃ i : Nat, gk = k - i ∧ i ≤ k ∧ v8 = .int .i64 (i : Int) ∧ wr.ownsRow w.heap.size 9 1 v6 i ((nmL i).map Value.string) ∧ Below w.heap.size w wr)
  case atStart => exact ⟨0, rfl, Nat.zero_le _, rfl, World.ownsRow_nil _ _ _ _, B1.out⟩
  case round =>
    obtain ⟨i, rfl, hi, rfl, how, hb⟩ := hrel
    have HO := Lib.hid how
    have HB := Lib.hid hb
    clear how hb
    have hk41' : (k : Int) ≤ 41 := by have := HK41.out; omega
    by_cases hlt : i < k
    · have hki : (i : Int) < (k : Int) := by omega
      have HLT := Lib.hid hlt
      obtain ⟨q, hq⟩ : ∃ q : Nat, q = i / 26 := ⟨_, rfl⟩
      obtain ⟨s, hs⟩ : ∃ s : Nat, s = i % 26 := ⟨_, rfl⟩
      have e1 : Int.tdiv (i : Int) 26 = (q : Int) := by rw [hq]; exact (Int.ofNat_tdiv i 26).symm
      have e2 : Int.tmod (i : Int) 26 = (s : Int) := by rw [hs]; exact (Int.ofNat_tmod i 26).symm
      have hq1 : (q : Int) ≤ 1 := by omega
      have hs1 : (s : Int) ≤ 25 := by omega
      have HNM : Hid (nmB i = ⟨#[UInt8.ofNat (97 + q), UInt8.ofNat (97 + s)]⟩) := Lib.hid (by rw [hq, hs]; rfl)
      have hcv := conv2 wr q s (by omega) (by omega)
      rw [← HNM.out] at hcv
      have HSC : Hid (nmL (i + 1) = nmL i ++ [nmB i]) := Lib.hid (nmL_succ i)
      clear hq hs hlt
      obtain ⟨nm, hnm⟩ : ∃ nm, nm = nmB i := ⟨_, rfl⟩
      rw [← hnm] at hcv HSC
      have A1 : Hid (Below w.heap.size w (wr.alloc (Obj.cells #[.int .u8 (97 + (q : Int)), .int .u8 (97 + (s : Int))] 5))) := Lib.hid (HB.out.alloc HB.out.size _)
      have HSN : Hid (Has ((wr.alloc (Obj.cells #[.int .u8 (97 + (q : Int)), .int .u8 (97 + (s : Int))] 5)).alloc (.cells #[.string nm] 9)) (wr.heap.size + 1) [.string nm] 9) := Lib.hid (by
        have h := Has.new (wr.alloc (Obj.cells #[.int .u8 (97 + (q : Int)), .int .u8 (97 + (s : Int))] 5)) [Value.string nm] 9
        have e : (wr.alloc (Obj.cells #[.int .u8 (97 + (q : Int)), .int .u8 (97 + (s : Int))] 5)).heap.size = wr.heap.size + 1 := by simp
        rw [e] at h
        exact h)
      clear hnm HNM
      go_wp2_with (at_builtin; go_must (refine wpList_append_lies _ rfl (.tmp 29) (.tmp 40) 22 rfl w.heap.size 9 i0 (.string ByteArray.empty) 1 16 Try.underlying22 HI.out HZ0.out HZ1.out HZ2.out rfl (by omega) _ i ((nmL i).map Value.string) rfl ((HO.out.alloc _).alloc _) ⟨wr.heap.size + 1, 0, none⟩ 1 1 [.string nm] rfl rfl ?a1 ?a2 ?a3 ?a4 ?a5 ?a6 _ rfl ?a7))
      case a1 => (intro j u hj; rw [Addr.add_mid]; exact HSN.out.cellAt (by rw [Nat.zero_add]; exact hj))
      try (case a2 => first | rfl | (intro u hu; simp only [List.mem_cons, List.not_mem_nil, or_false] at hu; rcases hu with rfl; rfl))
      try (case a3 => omega)
      try (case a4 => (have := HK41.out; have := HLT.out; unfold maxLen; omega))
      try (case a5 => (have := HK41.out; have := HLT.out; omega))
      try (case a6 => (have := HB.out.size; simp; omega))
      intro g1 cap1 w3 hown hgrow hat hlt2
      have HB3 : Hid (Below w.heap.size w w3) := Lib.hid (below_grown (A1.out.alloc (by have := HB.out.size; simp; omega) _) (by have := HB.out.size; simp; omega) ((HO.out.alloc _).alloc _) hgrow)
      have HO3 : Hid (w3.ownsRow w.heap.size 9 1 (.slice (some ⟨g1, 0, none⟩) (i + 1) cap1) (i + 1) ((nmL (i + 1)).map Value.string)) := Lib.hid (by rw [HSC.out, List.map_append]; exact hown)
      clear hown hgrow hat hlt2 hcv
      go_wp2_with fail
      go_roundg (k - (i + 1))
      case rel => exact ⟨i + 1, rfl, HLT.out, by go_num, HO3.out, HB3.out⟩
      case measure => have := HLT.out; omega
    · obtain rfl : k = i := by omega
      have hki : ¬ (k : Int) < (k : Int) := by omega
      obtain ⟨na, nc, rfl, hns⟩ := owns_isS (l := nmL k) (by exact HO.out)
      have L0 : Hid (LN w wr (.slice na k nc) nilV [] (nmL k) (nmK k ring 0)) := Lib.hid ⟨HB.out, by rw [nmL_len]; exact HO.out, World.ownsRow_nil _ _ _ _, rfl, (fun j hj => by cases hj), (fun j hj => by cases hj)⟩
      clear hns HO HB hlt hi
      go_wp2_with fail
      go_loopg [7, 9] k (fun gk v7 v9 wr => ∃ (i : Nat) (vs : List Value), gk = k - i ∧ i ≤ k ∧ v9 = .int .i64 (i : Int) ∧ LN w wr (.slice na k nc) v7 vs (nmL k) (nmK k ring i))
      case atStart => exact ⟨0, [], rfl, Nat.zero_le _, rfl, L0.out⟩
      case round =>
        clear L0 hki
        obtain ⟨i, vs, rfl, hi, rfl, hl⟩ := hrel
        have HL := Lib.hid hl
        have HM : Hid (IsS wr na k nc (nmL k)) := Lib.hid (by
          obtain ⟨a', c', e, hs⟩ := owns_isS hl.m
          rw [nmL_len] at e hs
          injection e with e1 e2 e3
          subst e1 e3
          exact hs)
        clear hl
        by_cases hlt : i < k
        · have hki : (i : Int) < (k : Int) := by omega
          have hk0 : (0 : Int) ≤ (i : Int) := by omega
          have HLT := Lib.hid hlt
          by_cases hlt2 : i + 1 < k
          · have hki2 : (i : Int) + 1 < (k : Int) := by omega
            have hk02 : (0 : Int) ≤ (i : Int) + 1 := by omega
            have hcs : ((i : Int) + 1).toNat = i + 1 := by omega
            have hxc := (HM.out.cell (i := i + 1) (by omega))
            obtain ⟨bn, on, hna, _, hc⟩ := hxc
            rw [nmL_get (by omega)] at hc
            subst hna
            obtain ⟨x, hx⟩ : ∃ x, x = nmB (i + 1) := ⟨_, rfl⟩
            rw [← hx] at hc
            have HNK : Hid (nmK k ring (i + 1) = nmK k ring i ++ [[x]]) := Lib.hid (by rw [nmK_succ]; unfold nkB; rw [if_pos hlt2, hx])
            have HV : Hid ((wr.alloc (Obj.cells #[.string x] 9)).ownsRow w.heap.size 9 1 (.slice (some ⟨wr.heap.size, 0, none⟩) 1 1) 1 [.string x]) := Lib.hid (World.ownsRow_lit wr #[.string x] 1 HL.out.low.size (by unfold maxLen; omega) rfl)
            have LA : Hid (LN w (wr.alloc (Obj.cells #[.string x] 9)) (.slice (some ⟨bn, on, none⟩) k nc) u7 vs (nmL k) (nmK k ring i)) := Lib.hid (HL.out.later ((Below.refl _ _).alloc (Nat.le_refl _) _))
            obtain ⟨wA, hwA⟩ : ∃ wA, wA = wr.alloc (Obj.cells #[.string x] 9) := ⟨_, rfl⟩
            have HAP : Hid (Value.ownBlock (.slice (some ⟨wr.heap.size, 0, none⟩) 1 1) = none ∨ Value.ownBlock (.slice (some ⟨wr.heap.size, 0, none⟩) 1 1) ≠ Value.ownBlock (.slice (some ⟨bn, on, none⟩) k nc)) := Lib.hid (.inr (fun e => by
              have h1 := (HL.out.m.lt bn rfl).2
              have e2 : wr.heap.size = bn := by simpa [Value.ownBlock] using e
              omega))
            have HWZ : Hid (wA.heap.size = wr.heap.size + 1) := Lib.hid (by rw [hwA]; simp)
            have HSN : Hid (Has ((wr.alloc (Obj.cells #[.string x] 9)).alloc (.cells #[.slice (some ⟨wr.heap.size, 0, none⟩) 1 1] 22)) (wr.heap.size + 1) [.slice (some ⟨wr.heap.size, 0, none⟩) 1 1] 22) := Lib.hid (by
              have h := Has.new (wr.alloc (Obj.cells #[.string x] 9)) [Value.slice (some ⟨wr.heap.size, 0, none⟩) 1 1] 22
              have e : (wr.alloc (Obj.cells #[.string x] 9)).heap.size = wr.heap.size + 1 := by simp
              rw [e] at h
              exact h)
            have HVL : Hid (vs.length = i) := Lib.hid (by rw [HL.out.len, nmK_len])
            clear hx hwA HWZ
            go_wp2_with (at_builtin; go_must (refine wpList_append_lies _ rfl (.tmp 55) (.tmp 62) 23 rfl w.heap.size 22 i1 (.slice none 0 0) 1 24 Try.underlying23 HJ.out HY0.out HY1.out HY2.out rfl (by omega) _ vs.length vs rfl (LA.out.k.alloc _) ⟨wr.heap.size + 1, 0, none⟩ 1 1 [.slice (some ⟨wr.heap.size, 0, none⟩) 1 1] rfl rfl ?b1 ?b2 ?b3 ?b4 ?b5 ?b6 _ rfl ?b7))
            try (case b1 => (intro j u hj; rw [Addr.add_mid]; exact HSN.out.cellAt (by rw [Nat.zero_add]; exact hj)))
            try (case b2 => first | rfl | (intro u hu; simp only [List.mem_cons, List.not_mem_nil, or_false] at hu; rcases hu with rfl; rfl))
            try (case b3 => omega)
            try (case b4 => (have := HVL.out; unfold maxLen; omega))
            try (case b5 => (have := HVL.out; omega))
            try (case b6 => (have := HL.out.low.size; simp; omega))
            intro g5 cap5 wd how hgr hat hlt5
            have LD : Hid (LN w wd (.slice (some ⟨bn, on, none⟩) k nc) (.slice (some ⟨g5, 0, none⟩) (vs.length + 1) cap5) (vs ++ [.slice (some ⟨wr.heap.size, 0, none⟩) 1 1]) (nmL k) (nmK k ring (i + 1))) := Lib.hid (by
              rw [HNK.out]
              exact (LA.out.later ((Below.refl _ _).alloc (Nat.le_refl _) _)).kgrow (l := [x]) (HV.out.alloc _) HAP.out hgr (by rw [List.length_append]; exact how))
            clear how hgr hat hlt5
            go_wp2_with fail
            go_roundg (k - (i + 1))
            case rel => exact ⟨i + 1, _, rfl, HLT.out, by go_num, LD.out⟩
            case measure => have := HLT.out; omega
          · have hki2 : ¬ (i : Int) + 1 < (k : Int) := by omega
            cases ring with
            | true =>
              have hk1 : (0 : Int) < (k : Int) := by omega
              have hxc := (HM.out.cell (i := 0) (by omega))
              obtain ⟨bn, on, hna, _, hc⟩ := hxc
              rw [nmL_get (by omega)] at hc
              subst hna
              rw [Nat.add_zero] at hc
              obtain ⟨x, hx⟩ : ∃ x, x = nmB (0) := ⟨_, rfl⟩
              rw [← hx] at hc
              have HNK : Hid (nmK k true (i + 1) = nmK k true i ++ [[x]]) := Lib.hid (by rw [nmK_succ]; unfold nkB; rw [if_neg hlt2, if_pos rfl, hx])
              have HV : Hid ((wr.alloc (Obj.cells #[.string x] 9)).ownsRow w.heap.size 9 1 (.slice (some ⟨wr.heap.size, 0, none⟩) 1 1) 1 [.string x]) := Lib.hid (World.ownsRow_lit wr #[.string x] 1 HL.out.low.size (by unfold maxLen; omega) rfl)
              have LA : Hid (LN w (wr.alloc (Obj.cells #[.string x] 9)) (.slice (some ⟨bn, on, none⟩) k nc) u7 vs (nmL k) (nmK k true i)) := Lib.hid (HL.out.later ((Below.refl _ _).alloc (Nat.le_refl _) _))
              obtain ⟨wA, hwA⟩ : ∃ wA, wA = wr.alloc (Obj.cells #[.string x] 9) := ⟨_, rfl⟩
              have HAP : Hid (Value.ownBlock (.slice (some ⟨wr.heap.size, 0, none⟩) 1 1) = none ∨ Value.ownBlock (.slice (some ⟨wr.heap.size, 0, none⟩) 1 1) ≠ Value.ownBlock (.slice (some ⟨bn, on, none⟩) k nc)) := Lib.hid (.inr (fun e => by
                have h1 := (HL.out.m.lt bn rfl).2
                have e2 : wr.heap.size = bn := by simpa [Value.ownBlock] using e
                omega))
              have HWZ : Hid (wA.heap.size = wr.heap.size + 1) := Lib.hid (by rw [hwA]; simp)
              have HSN : Hid (Has ((wr.alloc (Obj.cells #[.string x] 9)).alloc (.cells #[.slice (some ⟨wr.heap.size, 0, none⟩) 1 1] 22)) (wr.heap.size + 1) [.slice (some ⟨wr.heap.size, 0, none⟩) 1 1] 22) := Lib.hid (by
                have h := Has.new (wr.alloc (Obj.cells #[.string x] 9)) [Value.slice (some ⟨wr.heap.size, 0, none⟩) 1 1] 22
                have e : (wr.alloc (Obj.cells #[.string x] 9)).heap.size = wr.heap.size + 1 := by simp
                rw [e] at h
                exact h)
              have HVL : Hid (vs.length = i) := Lib.hid (by rw [HL.out.len, nmK_len])
              clear hx hwA HWZ
              go_wp2_with (at_builtin; go_must (refine wpList_append_lies _ rfl (.tmp 66) (.tmp 71) 23 rfl w.heap.size 22 i1 (.slice none 0 0) 1 24 Try.underlying23 HJ.out HY0.out HY1.out HY2.out rfl (by omega) _ vs.length vs rfl (LA.out.k.alloc _) ⟨wr.heap.size + 1, 0, none⟩ 1 1 [.slice (some ⟨wr.heap.size, 0, none⟩) 1 1] rfl rfl ?c1 ?c2 ?c3 ?c4 ?c5 ?c6 _ rfl ?c7))
              try (case c1 => (intro j u hj; rw [Addr.add_mid]; exact HSN.out.cellAt (by rw [Nat.zero_add]; exact hj)))
              try (case c2 => first | rfl | (intro u hu; simp only [List.mem_cons, List.not_mem_nil, or_false] at hu; rcases hu with rfl; rfl))
              try (case c3 => omega)
              try (case c4 => (have := HVL.out; unfold maxLen; omega))
              try (case c5 => (have := HVL.out; omega))
              try (case c6 => (have := HL.out.low.size; simp; omega))
              intro g5 cap5 wd how hgr hat hlt5
              have LD : Hid (LN w wd (.slice (some ⟨bn, on, none⟩) k nc) (.slice (some ⟨g5, 0, none⟩) (vs.length + 1) cap5) (vs ++ [.slice (some ⟨wr.heap.size, 0, none⟩) 1 1]) (nmL k) (nmK k true (i + 1))) := Lib.hid (by
                rw [HNK.out]
                exact (LA.out.later ((Below.refl _ _).alloc (Nat.le_refl _) _)).kgrow (l := [x]) (HV.out.alloc _) HAP.out hgr (by rw [List.length_append]; exact how))
              clear how hgr hat hlt5
              go_wp2_with fail
              go_roundg (k - (i + 1))
              case rel => exact ⟨i + 1, _, rfl, HLT.out, by go_num, LD.out⟩
              case measure => have := HLT.out; omega
            | false =>
              have HNK : Hid (nmK k false (i + 1) = nmK k false i ++ [[]]) := Lib.hid (by rw [nmK_succ]; unfold nkB; rw [if_neg hlt2, if_neg (by simp)])
              have HVL : Hid (vs.length = i) := Lib.hid (by rw [HL.out.len, nmK_len])
              have HSN : Hid (Has (wr.alloc (.cells #[.slice none 0 0] 22)) wr.heap.size [.slice none 0 0] 22) := Lib.hid (Has.new wr [Value.slice none 0 0] 22)
              clear hlt2
              go_wp2_with (at_builtin; go_must (refine wpList_append_lies _ rfl (.tmp 47) (.tmp 48) 23 rfl w.heap.size 22 i1 (.slice none 0 0) 1 24 Try.underlying23 HJ.out HY0.out HY1.out HY2.out rfl (by omega) _ vs.length vs rfl (HL.out.k.alloc _) ⟨wr.heap.size, 0, none⟩ 1 1 [.slice none 0 0] rfl rfl ?e1 ?e2 ?e3 ?e4 ?e5 ?e6 _ rfl ?e7))
              try (case e1 => (intro j u hj; rw [Addr.add_mid]; exact HSN.out.cellAt (by rw [Nat.zero_add]; exact hj)))
              try (case e2 => first | rfl | (intro u hu; simp only [List.mem_cons, List.not_mem_nil, or_false] at hu; rcases hu with rfl; rfl))
              try (case e3 => omega)
              try (case e4 => (have := HVL.out; unfold maxLen; omega))
              try (case e5 => (have := HVL.out; omega))
              try (case e6 => (have := HL.out.low.size; simp; omega))
              intro g5 cap5 wd how hgr hat hlt5
              have LD : Hid (LN w wd (.slice na k nc) (.slice (some ⟨g5, 0, none⟩) (vs.length + 1) cap5) (vs ++ [.slice none 0 0]) (nmL k) (nmK k false (i + 1))) := Lib.hid (by
                rw [HNK.out]
                exact (HL.out.later ((Below.refl _ _).alloc (Nat.le_refl _) _)).kgrow (l := []) (World.ownsRow_nil _ _ _ _) (.inl rfl) hgr (by rw [List.length_append]; exact how))
              clear how hgr hat hlt5
              go_wp2_with fail
              go_roundg (k - (i + 1))
              case rel => exact ⟨i + 1, _, rfl, HLT.out, by go_num, LD.out⟩
              case measure => have := HLT.out; omega
        · obtain rfl : k = i := by omega
          have hki : ¬ (k : Int) < (k : Int) := by omega
          obtain ⟨ka, kc, rfl, hkss⟩ := HL.out.isSS
          rw [nmK_len] at hkss ⊢
          have HKS := Lib.hid hkss
          have BL := Lib.hid HL.out.low
          have HT := Lib.hid (nm_told HK41.out ring)
          clear hkss HL hlt hi
          go_wp2_with fail
          refine (new_law HT.out HM.out HKS.out).mono ?_
          rintro e wa ⟨gb, rfl, hg, hb, _⟩
          have GA := Lib.hid hg
          have MA := Lib.hid (HM.out.later hb)
          have BA : Hid (Below w.heap.size w wa) := Lib.hid (BL.out.trans (hb.mono BL.out.size))
          clear hg hb HM HKS BL
          go_wp2_with fail
          refine (sort_law HT.out GA.out).mono ?_
          rintro e wb ⟨hb, hr⟩
          have GB := Lib.hid (GA.out.later hb)
          have MB := Lib.hid (MA.out.later hb)
          have BB : Hid (Below w.heap.size w wb) := Lib.hid (BA.out.trans (hb.mono BA.out.size))
          clear MA GA
          cases ring with
          | true =>
            rw [ring_topo HK2.out HK41.out] at hr
            rcases hr with ⟨hall, _⟩ | ⟨_, rfl⟩
            · exact absurd hall (ring_all HK2.out)
            clear hb
            have h1k : (1 : Int) ≤ (k : Int) := by have := HK2.out; omega
            obtain ⟨bn, on, hna, hbn, hc⟩ := MB.out.cell (i := 0) (by have := HK2.out; omega)
            rw [nmL_get (by have := HK2.out; omega)] at hc
            subst hna
            have H1 : Hid (IsS wb (some ⟨bn, on, none⟩) 1 nc [nmB 0]) := Lib.hid ⟨rfl, .inr ⟨bn, on, rfl, hbn, fun i hi => by
              obtain rfl : i = 0 := by omega
              exact hc⟩, (fun e => by cases e), ⟨by have := MB.out.room; have := HK2.out; omega, MB.out.room.2⟩⟩
            have hnc : (k : Int) ≤ (nc : Int) := by have := MB.out.room; omega
            have h1c : (1 : Int) ≤ (nc : Int) := by omega
            clear hbn hc
            go_wp2_with fail
            refine (closure_law HT.out GB.out H1.out (by omega) (fun s hs => HT.out.size s (nmL_mem.2 ⟨0, by have := HK2.out; omega, List.mem_singleton.1 hs⟩))).mono ?_
            rintro e wc ⟨v, mt, rfl, hmt, how, hb⟩
            obtain ⟨va, vc, rfl, _⟩ := owns_isS how
            rw [ring_rch HK2.out HK41.out hmt]
            have BC : Hid (Below w.heap.size w wc) := Lib.hid (BB.out.trans (hb.mono BB.out.size))
            clear hmt how hb
            go_wp2_with fail
            go_ret
            exact ⟨rfl, BC.out⟩
          | false =>
            rw [chain_topo HK2.out HK41.out] at hr
            rcases hr with ⟨_, v, rfl, how⟩ | ⟨hno, _⟩
            case inr => exact absurd (chain_all HK41.out) hno
            rw [revL_len] at how
            obtain ⟨ra, rc, rfl, hrs⟩ := owns_isS how
            have RB := Lib.hid hrs
            clear hb how hrs
            go_wp2_with fail
            go_loopg [14] k (fun gk v14 wr => ∃ i : Nat, gk = k - i ∧ i ≤ k ∧ v14 = .int .i64 (i : Int) ∧ Below wb.heap.size wb wr)
            case atStart => exact ⟨0, rfl, Nat.zero_le _, rfl, Below.refl _ _⟩
            case round =>
              obtain ⟨i, rfl, hi, rfl, hb⟩ := hrel
              have HBW := Lib.hid hb
              clear hb
              by_cases hlt : i < k
              · have hki : (i : Int) < (k : Int) := by omega
                have hk0 : (0 : Int) ≤ (i : Int) := by omega
                have HLT := Lib.hid hlt
                obtain ⟨b1, o1, hra, hb1, hc1⟩ := RB.out.cell hlt
                obtain ⟨b2, o2, hna, hb2, hc2⟩ := MB.out.cell (i := k - 1 - i) (by omega)
                rw [revL_get hlt] at hc1
                rw [nmL_get (by omega)] at hc2
                subst hra hna
                obtain ⟨x, hx⟩ : ∃ x, x = nmB (k - 1 - i) := ⟨_, rfl⟩
                obtain ⟨j, hj⟩ : ∃ j, j = k - 1 - i := ⟨_, rfl⟩
                rw [← hj] at hc1 hc2 hx
                rw [← hx] at hc1 hc2
                have c1 := (HBW.out.cell (p := ⟨b1, o1 + i, none⟩) hb1).trans hc1
                have c2 := (HBW.out.cell (p := ⟨b2, o2 + j, none⟩) hb2).trans hc2
                have ej : (k : Int) - 1 - (i : Int) = (j : Int) := by omega
                have ek1 : (0 : Int) ≤ (k : Int) - 1 := by omega
                have hj0 : (0 : Int) ≤ (j : Int) := by omega
                have hjk : (j : Int) < (k : Int) := by omega
                clear hb1 hc1 hb2 hc2 hx hj hlt
                go_wp2_with fail
                go_quiet (fail)
                go_wp2_with fail
                go_roundg (k - (i + 1))
                case rel => exact ⟨i + 1, rfl, HLT.out, by go_num, below_rf HBW.out _⟩
                case measure => have := HLT.out; omega
              · obtain rfl : k = i := by omega
                have hki : ¬ (k : Int) < (k : Int) := by omega
                go_wp2_with (first | (go_at_call 10; refine (sort_nil _).mono ?_; rintro e wq ⟨rfl, rfl⟩) | (go_at_call 13; refine (names_nil _).mono ?_; rintro e wq ⟨rfl, rfl⟩) | (go_at_call 15; refine (closure_nil _ _).mono ?_; rintro e wq ⟨rfl, rfl⟩) | (go_at_call 17; refine (users_nil _ _).mono ?_; rintro e wq ⟨rfl, rfl⟩))
                go_ret
                exact ⟨rfl, BB.out.trans (HBW.out.mono BB.out.size)⟩
end Go.Proofs.Ytdliecailkkciaa

/-
  The walk of the law TreePaths: it returns true. Conditions: a global's kind; names, lists and texts are no longer than memory.
-/
import Derived.Test.YtmgfgldabjgmmaaDoorTPathMath
import Derived.Deep.LoopGhost
import Derived.Deep.DeepCutAuto
import Derived.Deep.RegionHeld3
namespace Go.Proofs.YtmgfgldabjgmmaaDoor
open Go.RowKit
set_option linter.unusedVariables false

/-- What is known at the head of the loop over the paths. -/
def TPI (w : World) (cs : List Value) (a : Option Addr) (Lp c : Nat) (PT : List ByteArray) (wr : World) : Prop := IsS wr a Lp c PT ∧ Has wr w.heap.size cs 26 ∧ Below w.heap.size w wr ∧ (∀ x, a = some x → x.block < wr.heap.size)

theorem TPI.later {w wr w' : World} {cs : List Value} {a : Option Addr} {Lp c : Nat} {PT : List ByteArray} (h : TPI w cs a Lp c PT wr) (hb : Below wr.heap.size wr w') : TPI w cs a Lp c PT w' :=
  ⟨h.1.later hb, h.2.1.below hb h.2.1.lt, h.2.2.1.trans (hb.mono h.2.2.1.size), fun x hx => Nat.lt_of_lt_of_le (h.2.2.2 x hx) hb.size⟩

/-- Behind an At whose tree nobody wants. -/
def Behind (c : Int) (w : World) (v1 v2 : Value) (wx : World) : Prop := v2 = .int .i64 c ∧ Below w.heap.size w wx

set_option maxRecDepth 100000 in
set_option maxHeartbeats 40000000 in
theorem walk_TreePaths (w : World) (n : Nat) (cs : List Value) (t : T) (ht : IsT w n cs t) (hs : Small t) (nm : ByteArray) (hnm : nm.size ≤ 140737488355328) (hm : MaxW w) :
    Calls Tryd.prog 9 #[.agg cs.toArray, .string nm] w fun e w' => e = .returned (.bool true) ∧ Below w.heap.size w w' := by
  have hmx : 0 < w.heap.size := by
    obtain ⟨m, h⟩ := hm
    exact World.block_lt_of_cell? w _ h
  have hI := Lib.hid (infoL (isT_five ht))
  have HT := Lib.hid ht
  have HSM := Lib.hid hs
  have HM := Lib.hid hm
  obtain ⟨c0, c1, c2, c3, c4, rfl⟩ := five_list (isT_five ht)
  clear ht hs hm
  go_enter Tryd.func9, Tryd.ntmps9
  go_upto_region 1 with fail
  obtain ⟨w1, hw1⟩ : ∃ w1, w1 = w.alloc (.cells #[c0, c1, c2, c3, c4] 26) := ⟨_, rfl⟩
  have g1 : Has w1 w.heap.size [c0, c1, c2, c3, c4] 26 := by rw [hw1]; exact Has.new w _ _
  have b1 : Below w.heap.size w w1 := by rw [hw1]; exact (Below.refl _ _).alloc (Nat.le_refl _) _
  have s1 : w1.heap.size = w.heap.size + 1 := by rw [hw1]; simp
  rw [← hw1]
  have H1 := Lib.hid g1
  have B1 := Lib.hid b1
  clear hw1 g1 b1
  go_wp2_with (refine wpList_load_rowG (by rfl) 26 _ rfl w.heap.size rfl 26 #[c0, c1, c2, c3, c4] (0, 0) _ H1.out Tryd.underlying26 rfl hI.out ?_)
  refine (great_any n [c0, c1, c2, c3, c4] t w1 (IsT.later B1.out _ _ _ HT.out) 200 (by omega) (by omega)).mono ?_
  rintro e w2 ⟨⟨gr, rfl⟩, b2⟩
  have H2 := Lib.hid (H1.out.below b2 (by omega))
  have B2 := Lib.hid (B1.out.trans (b2.mono (by omega)))
  have s2 := b2.size
  have HM2 := Lib.hid (HM.out.below B2.out hmx)
  clear b2 H1 B1
  cases gr
  · go_wp2_with fail
    refine (awake_any w2 HM2.out (by omega)).mono ?_
    rintro e w3 ⟨rfl, b3⟩
    have H3 := Lib.hid (H2.out.below b3 (by omega))
    have B3 := Lib.hid (B2.out.trans (b3.mono (by omega)))
    have s3 := b3.size
    have HM3 := Lib.hid (HM.out.below B3.out hmx)
    clear b3 H2 B2 HM2
    go_wp2_with (refine wpList_load_rowG (by rfl) 26 _ rfl w.heap.size rfl 26 #[c0, c1, c2, c3, c4] (0, 0) _ H3.out Tryd.underlying26 rfl hI.out ?_)
    refine (rform_any n [c0, c1, c2, c3, c4] t w3 (IsT.later B3.out _ _ _ HT.out) HSM.out).mono ?_
    rintro e w4 ⟨rfl, b4⟩
    have H4 := Lib.hid (H3.out.below b4 (by omega))
    have B4 := Lib.hid (B3.out.trans (b4.mono (by omega)))
    have s4 := b4.size
    have HM4 := Lib.hid (HM.out.below B4.out hmx)
    clear b4 H3 B3 HM3
    cases hz : sizeT t with
    | none =>
      rw [show (none : Option (Nat × Nat)).isSome = false from rfl]
      clear hz
      go_wp2_with fail
      refine (awake_any w4 HM4.out (by omega)).mono ?_
      rintro e w4z ⟨rfl, bz⟩
      have BE := Lib.hid (B4.out.trans (bz.mono (by omega)))
      clear bz
      go_wp2_with fail
      go_ret
      exact ⟨rfl, BE.out⟩
    | some q =>
      rw [show (some q).isSome = true from rfl]
      have HZ := Lib.hid hz
      have HN := Lib.hid (size_most hz).2
      have HGOOD := Lib.hid (Good.of hz)
      clear hz
      by_cases hn6 : (60 : Int) < (nm.size : Int)
      · skip
        go_wp2_with fail
        refine (awake_any w4 HM4.out (by omega)).mono ?_
        rintro e w4z ⟨rfl, bz⟩
        have BE := Lib.hid (B4.out.trans (bz.mono (by omega)))
        clear bz
        go_wp2_with fail
        go_ret
        exact ⟨rfl, BE.out⟩
      · go_wp2_with (refine wpList_load_rowG (by rfl) 26 _ rfl w.heap.size rfl 26 #[c0, c1, c2, c3, c4] (0, 0) _ H4.out Tryd.underlying26 rfl hI.out ?_)
        refine (paths_any n [c0, c1, c2, c3, c4] t w4 (IsT.later B4.out _ _ _ HT.out) q HZ.out).mono ?_
        rintro e w5 ⟨v5, rfl, o5, b5⟩
        obtain ⟨PT, hPT⟩ : ∃ PT, PT = pathsT t ⟨#[]⟩ := ⟨_, rfl⟩
        have HPT := Lib.hid hPT
        rw [← hPT] at o5
        obtain ⟨Lp, hLp⟩ : ∃ Lp, Lp = PT.length := ⟨_, rfl⟩
        have HLP := Lib.hid hLp
        rw [← hLp] at o5
        obtain ⟨a5, c5, rfl, i5, l5⟩ := isS_of_owns o5
        have hl1 := (HGOOD.out.paths ⟨#[]⟩)
        rw [← hPT, ← hLp] at hl1
        have hl4 : Lp ≤ 4095 := by omega
        have H5 := Lib.hid (H4.out.below b5 (by omega))
        have B5 := Lib.hid (B4.out.trans (b5.mono (by omega)))
        have I5 : Hid (TPI w [c0, c1, c2, c3, c4] a5 Lp c5 PT w5) := Lib.hid ⟨i5, H5.out, B5.out, fun x hx => by subst hx; exact (o5.lt x.block rfl).2⟩
        have HND : Hid (∀ m j, m < Lp → j < Lp → PT.getD m ⟨#[]⟩ = PT.getD j ⟨#[]⟩ → m = j) := Lib.hid (fun m j hm hj he => by
          have hnd := paths_nodup t HGOOD.out
          rw [← HPT.out] at hnd
          rw [List.getD_eq_getElem?_getD, List.getD_eq_getElem?_getD, List.getElem?_eq_getElem (by omega), List.getElem?_eq_getElem (by omega)] at he
          have he' : PT[m]'(by omega) = PT[j]'(by omega) := by simpa using he
          rcases Nat.lt_trichotomy m j with h | h | h
          · exact absurd he' (List.pairwise_iff_getElem.1 hnd m j (by omega) (by omega) h)
          · exact h
          · exact absurd he'.symm (List.pairwise_iff_getElem.1 hnd j m (by omega) (by omega) h))
        clear o5 i5 b5 l5 hPT hLp hl1 H4 B4 HM4 H5 B5
        go_wp2_with fail
        go_loopg [6] Lp (fun k ii wr => ∃ j : Nat, j ≤ Lp ∧ k = Lp - j ∧ ii = .int .i64 j ∧ TPI w [c0, c1, c2, c3, c4] a5 Lp c5 PT wr)
        case atStart => exact ⟨0, Nat.zero_le _, rfl, rfl, I5.out⟩
        case round =>
          clear I5
          obtain ⟨j, hj, hgk, rfl, hI5⟩ := hrel
          have HTP := Lib.hid hI5
          have HGK := Lib.hid hgk
          by_cases hlt : j < Lp
          · rcases hI5.1.at_ with h0 | ⟨ba, oa, rfl, _, hca⟩
            · omega
            have hjl : j < PT.length := by rw [← HLP.out]; exact hlt
            obtain ⟨p, hp⟩ : ∃ p, p = PT.getD j ⟨#[]⟩ := ⟨_, rfl⟩
            have hcp : wr.cell? ⟨ba, oa + j, none⟩ = some (.string p) := by rw [hp]; exact hca j hlt
            have hmem : p ∈ pathsT t ⟨#[]⟩ := by
              rw [← HPT.out, hp, List.getD_eq_getElem?_getD, List.getElem?_eq_getElem hjl]; exact List.getElem_mem _
            have HMEM := Lib.hid hmem
            have HPJ := Lib.hid hp
            have HLT := Lib.hid hlt
            have HCP := Lib.hid hcp
            have hki : (j : Int) < (Lp : Int) := by omega
            have hnj : (j : Int) + 1 ≤ 9223372036854775807 := by omega
            have hroom := hI5.1.room
            unfold maxLen at hroom
            have hba : ba < wr.heap.size := hI5.2.2.2 _ rfl
            have hbe := hI5.2.2.1.size
            clear hca hp hmem hgk hI5
            by_cases hbig : (300 : Int) < (p.size : Int)
            · go_wp2_with fail
              go_ret
              exact ⟨rfl, HTP.out.2.2.1⟩
            · have hp300 : p.size ≤ 300 := by omega
              have hcode : codeR (atT p.data.toList t) = 0 := by
                have hne : p.data.toList ≠ [] := by
                  have h := (path_leads (sizeN t) t (Nat.le_refl _) HGOOD.out p.data.toList).1 (by rw [mkB_data]; exact HMEM.out)
                  intro e
                  rw [e] at h
                  exact absurd h.1 (by decide)
                exact (told_iff HGOOD.out p hne (by simp; omega)).1 HMEM.out
              have HCODE := Lib.hid hcode
              have cx0 := HTP.out.2.1.cellAt (i := 0) rfl
              have cx1 := HTP.out.2.1.cellAt (i := 1) rfl
              have cx2 := HTP.out.2.1.cellAt (i := 2) rfl
              have cx3 := HTP.out.2.1.cellAt (i := 3) rfl
              have cx4 := HTP.out.2.1.cellAt (i := 4) rfl
              have z1 : ¬ ba = wr.heap.size := by omega
              have z2 : wr.heap.size ≠ ba := by omega
              have z3 : ¬ w.heap.size = wr.heap.size := by have := HTP.out.2.1.lt; omega
              have z4 : wr.heap.size ≠ w.heap.size := by omega
              obtain ⟨CS, hCS⟩ : ∃ CS : List Value, CS = [c0, c1, c2, c3, c4] := ⟨_, rfl⟩
              have hL5 : Hid ((Tryd.prog.info? 26).map (·.size) = some CS.length) := Lib.hid (by rw [info5, hCS]; rfl)
              have HXC : Hid (Has wr w.heap.size CS 26) := Lib.hid (by rw [hCS]; exact HTP.out.2.1)
              have KAT : Hid (∀ W, Below wr.heap.size wr W → Calls Tryd.prog 20 #[.agg CS.toArray, .string p] W fun en w' => ∃ n' cs', en = .returned (.tuple #[.agg cs'.toArray, .int .i64 0]) ∧ IsT w' n' cs' (resT (atT p.data.toList t)) ∧ Below W.heap.size W w') := Lib.hid (fun W hW => by
                have hB := HTP.out.2.2.1.trans (hW.mono hbe)
                have h := at_uni n [c0, c1, c2, c3, c4] t p W (IsT.later hB _ _ _ HT.out) HSM.out (by have := HN.out; omega) (HM.out.below hB hmx) (Nat.lt_of_lt_of_le hmx hB.size)
                rw [← hCS] at h
                refine h.mono fun en w' hh => ?_
                obtain ⟨n', cs', he, hi, hb⟩ := hh
                rw [HCODE.out] at he
                exact ⟨n', cs', he, hi, hb⟩)
              have hu26 := Tryd.underlying26
              have HCS := Lib.hid hCS
              clear hcode hCS cx0 cx1 cx2 cx3 cx4
              go_upto_region 9 with fail
              go_cut [7, 8] (fun s7 s8 wx => Behind 0 wr s7 s8 wx)
              case first =>
                refine wp_region_held_drew (S := fun W => Has W w.heap.size CS 26 ∧ W.cell? ⟨ba, oa + j, none⟩ = some (.string p)) (by kernel_rfl) ⟨HXC.out.drew, HCP.out⟩ (fun hHeld => ?_)
                refine wpAnyH_take (i := 0) (oi := { dst := some 45, op := Op.load 26 (Operand.tmp 2), type := 26, pos := "more.go:19", after := #[], guard := none }) rfl (by kernel_rfl) (by kernel_rfl) (by kernel_rfl) (fun _ _ _ h => h)
                  (yieldsIf_load_mid (by rfl) 26 (.tmp 2) rfl w.heap.size (0) rfl CS _ (fun _ h => rangeAt_has h.1) hu26 rfl hL5.out) hHeld ?_
                try simp only [Act.put, List.setIfInBounds_toArray, List.set_cons_zero, List.set_cons_succ]
                refine wpAnyH_take (i := 1) (oi := { dst := some 46, op := Op.move (Operand.tmp 5), type := 23, pos := "more.go:19", after := #[], guard := none }) (v := .slice (some ⟨ba, oa, none⟩) Lp c5) rfl (by kernel_rfl) (by kernel_rfl) (by kernel_rfl) (fun _ _ _ h => h)
                  (Or.inl ⟨by rfl, by intro w hSw; have hSc := hSw.2; clear hSw; go_simp⟩) hHeld ?_
                try simp only [Act.put, List.setIfInBounds_toArray, List.set_cons_zero, List.set_cons_succ]
                refine wpAnyH_take (i := 2) (oi := { dst := some 47, op := Op.move (Operand.tmp 6), type := 3, pos := "more.go:19", after := #[], guard := none }) (v := .int .i64 (j : Int)) rfl (by kernel_rfl) (by kernel_rfl) (by kernel_rfl) (fun _ _ _ h => h)
                  (Or.inl ⟨by rfl, by intro w hSw; have hSc := hSw.2; clear hSw; go_simp⟩) hHeld ?_
                try simp only [Act.put, List.setIfInBounds_toArray, List.set_cons_zero, List.set_cons_succ]
                refine wpAnyH_take (i := 3) (oi := { dst := some 48, op := Op.indexAddr 23 (Operand.tmp 46) (Operand.tmp 47), type := 0, pos := "more.go:19", after := #[{ on := 1, ground := Ground.data }, { on := 2, ground := Ground.data }], guard := none }) (v := .pointer (some ⟨ba, oa + j, none⟩)) rfl (by kernel_rfl) (by kernel_rfl) (by kernel_rfl) (fun _ _ _ h => h)
                  (Or.inl ⟨by rfl, by intro w hSw; have hSc := hSw.2; clear hSw; go_simp⟩) hHeld ?_
                try simp only [Act.put, List.setIfInBounds_toArray, List.set_cons_zero, List.set_cons_succ]
                refine wpAnyH_take (i := 4) (oi := { dst := some 49, op := Op.load 9 (Operand.tmp 48), type := 9, pos := "more.go:19", after := #[{ on := 3, ground := Ground.data }], guard := none }) (v := .string p) rfl (by kernel_rfl) (by kernel_rfl) (by kernel_rfl) (fun _ _ _ h => h)
                  (Or.inl ⟨by rfl, by intro w hSw; have hSc := hSw.2; clear hSw; go_simp⟩) hHeld ?_
                try simp only [Act.put, List.setIfInBounds_toArray, List.set_cons_zero, List.set_cons_succ]
                refine wpAnyH_ready (rs := [5, 9]) (by kernel_rfl) (by simp) ?_
                refine AllReadyH.cons (o := { dst := some 50, op := Op.call { callee := Callee.value (Operand.func 20), args := #[Operand.tmp 45, Operand.tmp 49], argTypes := #[26, 9] }, type := 41, pos := "more.go:19", after := #[{ on := 0, ground := Ground.data }, { on := 4, ground := Ground.data }], guard := none }) rfl (fun K hK => ?_) (AllReadyH.cons (o := { dst := some 7, op := Op.alloc 26, type := 0, pos := "more.go:19", after := #[], guard := none }) rfl (fun K hK => ?_) AllReadyH.nil)
                · go_simp
                  refine (KAT.out wr.drew (below_drewT (Below.refl _ _))).mono ?_
                  rintro en w4 ⟨n4, x4, rfl, t4, b4⟩
                  go_wp2_with fail
                  have k4 : Below wr.heap.size wr w4 := ⟨b4.os.trans rfl, b4.tape.trans rfl, b4.output, b4.size, b4.block⟩
                  have x4c : Has w4 w.heap.size CS 26 := HXC.out.below k4 HXC.out.lt
                  have y4c : w4.cell? ⟨ba, oa + j, none⟩ = some (.string p) := (k4.cell (p := ⟨ba, oa + j, none⟩) hba).trans HCP.out
                  refine hK.out _ _ ⟨x4c, y4c⟩ (fun hHeld2 => ?_)
                  clear hK K hHeld
                  try simp only [Act.put, List.setIfInBounds_toArray, List.set_cons_zero, List.set_cons_succ]
                  refine wpAnyH_take (i := 6) (oi := { dst := some 44, op := Op.move (Operand.tmp 50), type := 41, pos := "more.go:19", after := #[{ on := 5, ground := Ground.data }], guard := none }) (v := .tuple #[.agg x4.toArray, .int .i64 0]) rfl (by kernel_rfl) (by kernel_rfl) (by kernel_rfl) (fun _ _ _ h => h)
                    (Or.inl ⟨by rfl, by intro w hSw;  clear hSw; go_simp⟩) hHeld2 ?_
                  try simp only [Act.put, List.setIfInBounds_toArray, List.set_cons_zero, List.set_cons_succ]
                  refine wpAnyH_take (i := 7) (oi := { dst := some 51, op := Op.extract (Operand.tmp 44) 0, type := 26, pos := "more.go:19", after := #[{ on := 6, ground := Ground.data }], guard := none }) (v := .agg x4.toArray) rfl (by kernel_rfl) (by kernel_rfl) (by kernel_rfl) (fun _ _ _ h => h)
                    (Or.inl ⟨by rfl, by intro w hSw;  clear hSw; go_simp⟩) hHeld2 ?_
                  try simp only [Act.put, List.setIfInBounds_toArray, List.set_cons_zero, List.set_cons_succ]
                  refine wpAnyH_take (i := 8) (oi := { dst := some 52, op := Op.extract (Operand.tmp 44) 1, type := 29, pos := "more.go:19", after := #[{ on := 6, ground := Ground.data }, { on := 10, ground := Ground.gcOnly Departure.lateStores }], guard := none }) (v := .int .i64 0) rfl (by kernel_rfl) (by kernel_rfl) (by kernel_rfl) (fun _ _ _ h => h)
                    (Or.inl ⟨by rfl, by intro w hSw;  clear hSw; go_simp⟩) hHeld2 ?_
                  try simp only [Act.put, List.setIfInBounds_toArray, List.set_cons_zero, List.set_cons_succ]
                  refine wpAnyH_ready (rs := [9]) (by kernel_rfl) (by simp) ?_
                  refine AllReadyH.cons (o := { dst := some 7, op := Op.alloc 26, type := 0, pos := "more.go:19", after := #[], guard := none }) rfl (fun K hK => ?_) AllReadyH.nil
                  go_simp
                  obtain ⟨w5, hw5⟩ : ∃ w5, w5 = w4.alloc (.cells #[.int .u8 0, .bool false, .slice none 0 0, .slice none 0 0, .slice none 0 0] 26) := ⟨_, rfl⟩
                  rw [← hw5]
                  have z5 : Has w5 w4.heap.size zT 26 := by rw [hw5]; exact Has.new w4 zT _
                  have k5 : Below wr.heap.size wr w5 := by rw [hw5]; exact k4.alloc k4.size _
                  have x5c : Has w5 w.heap.size CS 26 := by rw [hw5]; exact x4c.alloc _
                  have y5c : w5.cell? ⟨ba, oa + j, none⟩ = some (.string p) := (k5.cell (p := ⟨ba, oa + j, none⟩) hba).trans HCP.out
                  clear hw5
                  refine hK.out _ _ ⟨x5c, y5c⟩ (fun hHeld3 => ?_)
                  clear hK K hHeld2
                  try simp only [Act.put, List.setIfInBounds_toArray, List.set_cons_zero, List.set_cons_succ]
                  refine wpAnyH_ready (rs := [10]) (by kernel_rfl) (by simp) ?_
                  refine AllReadyH.cons (o := { dst := none, op := Op.store 26 (Operand.tmp 7) (Operand.tmp 51), type := 0, pos := "more.go:19", after := #[{ on := 9, ground := Ground.data }, { on := 7, ground := Ground.data }, { on := 5, ground := Ground.chain }, { on := 0, ground := Ground.phase }, { on := 1, ground := Ground.phase }, { on := 2, ground := Ground.phase }, { on := 3, ground := Ground.phase }, { on := 4, ground := Ground.phase }, { on := 5, ground := Ground.phase }, { on := 6, ground := Ground.phase }, { on := 7, ground := Ground.phase }, { on := 8, ground := Ground.textOnly Departure.lateStores }, { on := 9, ground := Ground.phase }], guard := none }) rfl (fun K hK => ?_) AllReadyH.nil
                  have s4 := k4.size
                  rw [if_pos (by rfl)]
                  refine wp_store_row 26 _ _ rfl w4.heap.size x4.toArray rfl rfl 26 _ z5 (infoL (isT_five t4)) (by simp [isT_five t4, zT]) (isT_one t4) ?_
                  have k6 : Below wr.heap.size wr (w5.setRow w4.heap.size x4.toArray) := below_setRow k5 (by omega) _
                  have x6c : Has (w5.setRow w4.heap.size x4.toArray) w.heap.size CS 26 := HXC.out.below k6 HXC.out.lt
                  have y6c : (w5.setRow w4.heap.size x4.toArray).cell? ⟨ba, oa + j, none⟩ = some (.string p) := (k6.cell (p := ⟨ba, oa + j, none⟩) hba).trans HCP.out
                  refine hK.out _ _ ⟨x6c, y6c⟩ (fun hHeld4 => ?_)
                  clear hK K hHeld3
                  try simp only [Act.put]
                  refine wpAnyH_take (i := 11) (oi := { dst := some 8, op := Op.assign (Operand.tmp 52), type := 29, pos := "more.go:19", after := #[{ on := 8, ground := Ground.data }, { on := 10, ground := Ground.chain }, { on := 0, ground := Ground.phase }, { on := 1, ground := Ground.phase }, { on := 2, ground := Ground.phase }, { on := 3, ground := Ground.phase }, { on := 4, ground := Ground.phase }, { on := 5, ground := Ground.phase }, { on := 6, ground := Ground.phase }, { on := 7, ground := Ground.phase }, { on := 8, ground := Ground.phase }, { on := 9, ground := Ground.phase }, { on := 10, ground := Ground.phase }], guard := none }) (v := .int .i64 0) rfl (by kernel_rfl) (by kernel_rfl) (by kernel_rfl) (fun _ _ _ h => h)
                    (Or.inl ⟨by rfl, by intro w hSw;  clear hSw; go_simp⟩) hHeld4 ?_
                  try simp only [Act.put, List.setIfInBounds_toArray, List.set_cons_zero, List.set_cons_succ]
                  refine wpAnyH_done (by kernel_rfl) ?_ _
                  have HK6 := Lib.hid k6
                  clear hHeld4 k6 x6c y6c
                  go_wp2_with fail
                  go_meet
                  exact ⟨rfl, HK6.out⟩
                · go_simp
                  obtain ⟨w3, hw3⟩ : ∃ w3, w3 = (wr.alloc (.cells #[.int .u8 0, .bool false, .slice none 0 0, .slice none 0 0, .slice none 0 0] 26)).drew := ⟨_, rfl⟩
                  rw [← hw3]
                  have z3' : Has w3 wr.heap.size zT 26 := by rw [hw3]; exact (Has.new wr zT _).drew
                  have k3 : Below wr.heap.size wr w3 := by rw [hw3]; exact ((Below.refl _ _).alloc (Nat.le_refl _) _).drew
                  have s3 : w3.heap.size = wr.heap.size + 1 := by rw [hw3]; simp
                  have x3c : Has w3 w.heap.size CS 26 := HXC.out.below k3 HXC.out.lt
                  have y3c : w3.cell? ⟨ba, oa + j, none⟩ = some (.string p) := (k3.cell (p := ⟨ba, oa + j, none⟩) hba).trans HCP.out
                  clear hw3
                  refine hK.out _ _ ⟨x3c, y3c⟩ (fun hHeld2 => ?_)
                  clear hK K hHeld
                  try simp only [Act.put, List.setIfInBounds_toArray, List.set_cons_zero, List.set_cons_succ]
                  refine wpAnyH_ready (rs := [5]) (by kernel_rfl) (by simp) ?_
                  refine AllReadyH.cons (o := { dst := some 50, op := Op.call { callee := Callee.value (Operand.func 20), args := #[Operand.tmp 45, Operand.tmp 49], argTypes := #[26, 9] }, type := 41, pos := "more.go:19", after := #[{ on := 0, ground := Ground.data }, { on := 4, ground := Ground.data }], guard := none }) rfl (fun K hK => ?_) AllReadyH.nil
                  go_simp
                  refine (KAT.out w3 k3).mono ?_
                  rintro en w5 ⟨n4, x4, rfl, t4, b4⟩
                  go_wp2_with fail
                  have k5 : Below wr.heap.size wr w5 := k3.trans (b4.mono (by omega))
                  have z5 : Has w5 wr.heap.size zT 26 := z3'.below b4 (by omega)
                  have x5c : Has w5 w.heap.size CS 26 := HXC.out.below k5 HXC.out.lt
                  have y5c : w5.cell? ⟨ba, oa + j, none⟩ = some (.string p) := (k5.cell (p := ⟨ba, oa + j, none⟩) hba).trans HCP.out
                  refine hK.out _ _ ⟨x5c, y5c⟩ (fun hHeld3 => ?_)
                  clear hK K hHeld2
                  try simp only [Act.put, List.setIfInBounds_toArray, List.set_cons_zero, List.set_cons_succ]
                  refine wpAnyH_take (i := 6) (oi := { dst := some 44, op := Op.move (Operand.tmp 50), type := 41, pos := "more.go:19", after := #[{ on := 5, ground := Ground.data }], guard := none }) (v := .tuple #[.agg x4.toArray, .int .i64 0]) rfl (by kernel_rfl) (by kernel_rfl) (by kernel_rfl) (fun _ _ _ h => h)
                    (Or.inl ⟨by rfl, by intro w hSw;  clear hSw; go_simp⟩) hHeld3 ?_
                  try simp only [Act.put, List.setIfInBounds_toArray, List.set_cons_zero, List.set_cons_succ]
                  refine wpAnyH_take (i := 7) (oi := { dst := some 51, op := Op.extract (Operand.tmp 44) 0, type := 26, pos := "more.go:19", after := #[{ on := 6, ground := Ground.data }], guard := none }) (v := .agg x4.toArray) rfl (by kernel_rfl) (by kernel_rfl) (by kernel_rfl) (fun _ _ _ h => h)
                    (Or.inl ⟨by rfl, by intro w hSw;  clear hSw; go_simp⟩) hHeld3 ?_
                  try simp only [Act.put, List.setIfInBounds_toArray, List.set_cons_zero, List.set_cons_succ]
                  refine wpAnyH_take (i := 8) (oi := { dst := some 52, op := Op.extract (Operand.tmp 44) 1, type := 29, pos := "more.go:19", after := #[{ on := 6, ground := Ground.data }, { on := 10, ground := Ground.gcOnly Departure.lateStores }], guard := none }) (v := .int .i64 0) rfl (by kernel_rfl) (by kernel_rfl) (by kernel_rfl) (fun _ _ _ h => h)
                    (Or.inl ⟨by rfl, by intro w hSw;  clear hSw; go_simp⟩) hHeld3 ?_
                  try simp only [Act.put, List.setIfInBounds_toArray, List.set_cons_zero, List.set_cons_succ]
                  refine wpAnyH_ready (rs := [10]) (by kernel_rfl) (by simp) ?_
                  refine AllReadyH.cons (o := { dst := none, op := Op.store 26 (Operand.tmp 7) (Operand.tmp 51), type := 0, pos := "more.go:19", after := #[{ on := 9, ground := Ground.data }, { on := 7, ground := Ground.data }, { on := 5, ground := Ground.chain }, { on := 0, ground := Ground.phase }, { on := 1, ground := Ground.phase }, { on := 2, ground := Ground.phase }, { on := 3, ground := Ground.phase }, { on := 4, ground := Ground.phase }, { on := 5, ground := Ground.phase }, { on := 6, ground := Ground.phase }, { on := 7, ground := Ground.phase }, { on := 8, ground := Ground.textOnly Departure.lateStores }, { on := 9, ground := Ground.phase }], guard := none }) rfl (fun K hK => ?_) AllReadyH.nil
                  rw [if_pos (by rfl)]
                  refine wp_store_row 26 _ _ rfl wr.heap.size x4.toArray rfl rfl 26 _ z5 (infoL (isT_five t4)) (by simp [isT_five t4, zT]) (isT_one t4) ?_
                  have k6 : Below wr.heap.size wr (w5.setRow wr.heap.size x4.toArray) := below_setRow k5 (by omega) _
                  have x6c : Has (w5.setRow wr.heap.size x4.toArray) w.heap.size CS 26 := HXC.out.below k6 HXC.out.lt
                  have y6c : (w5.setRow wr.heap.size x4.toArray).cell? ⟨ba, oa + j, none⟩ = some (.string p) := (k6.cell (p := ⟨ba, oa + j, none⟩) hba).trans HCP.out
                  refine hK.out _ _ ⟨x6c, y6c⟩ (fun hHeld4 => ?_)
                  clear hK K hHeld3
                  try simp only [Act.put]
                  refine wpAnyH_take (i := 11) (oi := { dst := some 8, op := Op.assign (Operand.tmp 52), type := 29, pos := "more.go:19", after := #[{ on := 8, ground := Ground.data }, { on := 10, ground := Ground.chain }, { on := 0, ground := Ground.phase }, { on := 1, ground := Ground.phase }, { on := 2, ground := Ground.phase }, { on := 3, ground := Ground.phase }, { on := 4, ground := Ground.phase }, { on := 5, ground := Ground.phase }, { on := 6, ground := Ground.phase }, { on := 7, ground := Ground.phase }, { on := 8, ground := Ground.phase }, { on := 9, ground := Ground.phase }, { on := 10, ground := Ground.phase }], guard := none }) (v := .int .i64 0) rfl (by kernel_rfl) (by kernel_rfl) (by kernel_rfl) (fun _ _ _ h => h)
                    (Or.inl ⟨by rfl, by intro w hSw;  clear hSw; go_simp⟩) hHeld4 ?_
                  try simp only [Act.put, List.setIfInBounds_toArray, List.set_cons_zero, List.set_cons_succ]
                  refine wpAnyH_done (by kernel_rfl) ?_ _
                  have HK6 := Lib.hid k6
                  clear hHeld4 k6 x6c y6c
                  go_wp2_with fail
                  go_meet
                  exact ⟨rfl, HK6.out⟩
              case rest =>
                obtain ⟨rfl, hb9⟩ := hcut
                obtain ⟨w9, hw9⟩ : ∃ w9 : World, w9 = wc := ⟨_, rfl⟩
                subst hw9
                have HTQ := Lib.hid (HTP.out.later hb9)
                have HXD := Lib.hid (HXC.out.below hb9 HXC.out.lt)
                have HCQ := Lib.hid ((hb9.cell (p := ⟨ba, oa + j, none⟩) hba).trans HCP.out)
                have hbc : ba < w9.heap.size := Nat.lt_of_lt_of_le hba hb9.size
                have hbe9 := HTQ.out.2.2.1.size
                obtain ⟨cc, hcc⟩ : ∃ cc, cc = codeR (atT (p ++ ⟨#[47]⟩ ++ nm).data.toList t) := ⟨_, rfl⟩
                have HC2 := Lib.hid hcc
                have KAU : Hid (∀ W, Below w9.heap.size w9 W → Calls Tryd.prog 20 #[.agg CS.toArray, .string (p ++ ⟨#[47]⟩ ++ nm)] W fun en w' => ∃ n' cs', en = .returned (.tuple #[.agg cs'.toArray, .int .i64 cc]) ∧ IsT w' n' cs' (resT (atT (p ++ ⟨#[47]⟩ ++ nm).data.toList t)) ∧ Below W.heap.size W w') := Lib.hid (fun W hW => by
                  have hB := HTQ.out.2.2.1.trans (hW.mono hbe9)
                  have h := at_uni n CS t (p ++ ⟨#[47]⟩ ++ nm) W (IsT.later hB _ _ _ (by rw [HCS.out]; exact HT.out)) HSM.out (by have := HN.out; omega) (HM.out.below hB hmx) (Nat.lt_of_lt_of_le hmx hB.size)
                  refine h.mono fun en w' hh => ?_
                  obtain ⟨n', cs', he, hi, hb⟩ := hh
                  rw [← HC2.out] at he
                  exact ⟨n', cs', he, hi, hb⟩)
                have hnm6 : nm.size ≤ 60 := by omega
                have hcat1 : ¬ 9223372036854775807 < p.size + 1 := by omega
                have hcat2 : ¬ 9223372036854775807 < p.size + 1 + nm.size := by omega
                have hcat3 : ¬ 9223372036854775807 < (p ++ ⟨#[47]⟩).size + nm.size := by
                  have : (p ++ ⟨#[47]⟩ : ByteArray).size = p.size + 1 := ByteArray.size_append
                  omega
                clear hb9 hcc KAT
                go_wp2_with fail
                go_cut [9, 10] (fun s9 s10 wx => Behind cc w9 s9 s10 wx)
                case first =>
                  have hu26 := Tryd.underlying26
                  refine wp_region_held_drew (S := fun W => Has W w.heap.size CS 26 ∧ W.cell? ⟨ba, oa + j, none⟩ = some (.string p)) (by kernel_rfl) ⟨HXD.out.drew, HCQ.out⟩ (fun hHeld => ?_)
                  refine wpAnyH_take (i := 0) (oi := { dst := some 54, op := Op.load 26 (Operand.tmp 2), type := 26, pos := "more.go:20", after := #[], guard := none }) rfl (by kernel_rfl) (by kernel_rfl) (by kernel_rfl) (fun _ _ _ h => h)
                    (yieldsIf_load_mid (by rfl) 26 (.tmp 2) rfl w.heap.size (0) rfl CS _ (fun _ h => rangeAt_has h.1) hu26 rfl hL5.out) hHeld ?_
                  try simp only [Act.put, List.setIfInBounds_toArray, List.set_cons_zero, List.set_cons_succ]
                  refine wpAnyH_take (i := 1) (oi := { dst := some 55, op := Op.move (Operand.tmp 5), type := 23, pos := "more.go:20", after := #[], guard := none }) (v := .slice (some ⟨ba, oa, none⟩) Lp c5) rfl (by kernel_rfl) (by kernel_rfl) (by kernel_rfl) (fun _ _ _ h => h)
                    (Or.inl ⟨by rfl, by intro w hSw; have hSc := hSw.2; clear hSw; go_simp⟩) hHeld ?_
                  try simp only [Act.put, List.setIfInBounds_toArray, List.set_cons_zero, List.set_cons_succ]
                  refine wpAnyH_take (i := 2) (oi := { dst := some 56, op := Op.move (Operand.tmp 6), type := 3, pos := "more.go:20", after := #[], guard := none }) (v := .int .i64 (j : Int)) rfl (by kernel_rfl) (by kernel_rfl) (by kernel_rfl) (fun _ _ _ h => h)
                    (Or.inl ⟨by rfl, by intro w hSw; have hSc := hSw.2; clear hSw; go_simp⟩) hHeld ?_
                  try simp only [Act.put, List.setIfInBounds_toArray, List.set_cons_zero, List.set_cons_succ]
                  refine wpAnyH_take (i := 3) (oi := { dst := some 57, op := Op.indexAddr 23 (Operand.tmp 55) (Operand.tmp 56), type := 0, pos := "more.go:20", after := #[{ on := 1, ground := Ground.data }, { on := 2, ground := Ground.data }], guard := none }) (v := .pointer (some ⟨ba, oa + j, none⟩)) rfl (by kernel_rfl) (by kernel_rfl) (by kernel_rfl) (fun _ _ _ h => h)
                    (Or.inl ⟨by rfl, by intro w hSw; have hSc := hSw.2; clear hSw; go_simp⟩) hHeld ?_
                  try simp only [Act.put, List.setIfInBounds_toArray, List.set_cons_zero, List.set_cons_succ]
                  refine wpAnyH_take (i := 4) (oi := { dst := some 58, op := Op.load 9 (Operand.tmp 57), type := 9, pos := "more.go:20", after := #[{ on := 3, ground := Ground.data }], guard := none }) (v := .string p) rfl (by kernel_rfl) (by kernel_rfl) (by kernel_rfl) (fun _ _ _ h => h)
                    (Or.inl ⟨by rfl, by intro w hSw; have hSc := hSw.2; clear hSw; go_simp⟩) hHeld ?_
                  try simp only [Act.put, List.setIfInBounds_toArray, List.set_cons_zero, List.set_cons_succ]
                  refine wpAnyH_take (i := 5) (oi := { dst := some 59, op := Op.binOp BinOp.add 9 (Operand.tmp 58) (Operand.const (Value.string { data := #[47] })) 9, type := 9, pos := "more.go:20", after := #[{ on := 4, ground := Ground.data }], guard := none }) (v := .string (p ++ ⟨#[47]⟩)) rfl (by kernel_rfl) (by kernel_rfl) (by kernel_rfl) (fun _ _ _ h => h)
                    (Or.inl ⟨by rfl, by intro w hSw; have hSc := hSw.2; clear hSw; go_simp⟩) hHeld ?_
                  try simp only [Act.put, List.setIfInBounds_toArray, List.set_cons_zero, List.set_cons_succ]
                  refine wpAnyH_take (i := 6) (oi := { dst := some 60, op := Op.move (Operand.tmp 1), type := 9, pos := "more.go:20", after := #[], guard := none }) (v := .string nm) rfl (by kernel_rfl) (by kernel_rfl) (by kernel_rfl) (fun _ _ _ h => h)
                    (Or.inl ⟨by rfl, by intro w hSw; have hSc := hSw.2; clear hSw; go_simp⟩) hHeld ?_
                  try simp only [Act.put, List.setIfInBounds_toArray, List.set_cons_zero, List.set_cons_succ]
                  refine wpAnyH_take (i := 7) (oi := { dst := some 61, op := Op.binOp BinOp.add 9 (Operand.tmp 59) (Operand.tmp 60) 9, type := 9, pos := "more.go:20", after := #[{ on := 5, ground := Ground.data }, { on := 6, ground := Ground.data }], guard := none }) (v := .string (p ++ ⟨#[47]⟩ ++ nm)) rfl (by kernel_rfl) (by kernel_rfl) (by kernel_rfl) (fun _ _ _ h => h)
                    (Or.inl ⟨by rfl, by intro w hSw; have hSc := hSw.2; clear hSw; go_simp⟩) hHeld ?_
                  try simp only [Act.put, List.setIfInBounds_toArray, List.set_cons_zero, List.set_cons_succ]
                  refine wpAnyH_ready (rs := [8, 12]) (by kernel_rfl) (by simp) ?_
                  refine AllReadyH.cons (o := { dst := some 62, op := Op.call { callee := Callee.value (Operand.func 20), args := #[Operand.tmp 54, Operand.tmp 61], argTypes := #[26, 9] }, type := 41, pos := "more.go:20", after := #[{ on := 0, ground := Ground.data }, { on := 7, ground := Ground.data }], guard := none }) rfl (fun K hK => ?_) (AllReadyH.cons (o := { dst := some 9, op := Op.alloc 26, type := 0, pos := "more.go:20", after := #[], guard := none }) rfl (fun K hK => ?_) AllReadyH.nil)
                  · go_simp
                    refine (KAU.out w9.drew (below_drewT (Below.refl _ _))).mono ?_
                    rintro en w4 ⟨n4, x4, rfl, t4, b4⟩
                    go_wp2_with fail
                    have k4 : Below w9.heap.size w9 w4 := ⟨b4.os.trans rfl, b4.tape.trans rfl, b4.output, b4.size, b4.block⟩
                    have x4c : Has w4 w.heap.size CS 26 := HXD.out.below k4 HXD.out.lt
                    have y4c : w4.cell? ⟨ba, oa + j, none⟩ = some (.string p) := (k4.cell (p := ⟨ba, oa + j, none⟩) hbc).trans HCQ.out
                    refine hK.out _ _ ⟨x4c, y4c⟩ (fun hHeld2 => ?_)
                    clear hK K hHeld
                    try simp only [Act.put, List.setIfInBounds_toArray, List.set_cons_zero, List.set_cons_succ]
                    refine wpAnyH_take (i := 9) (oi := { dst := some 53, op := Op.move (Operand.tmp 62), type := 41, pos := "more.go:20", after := #[{ on := 8, ground := Ground.data }], guard := none }) (v := .tuple #[.agg x4.toArray, .int .i64 cc]) rfl (by kernel_rfl) (by kernel_rfl) (by kernel_rfl) (fun _ _ _ h => h)
                      (Or.inl ⟨by rfl, by intro w hSw;  clear hSw; go_simp⟩) hHeld2 ?_
                    try simp only [Act.put, List.setIfInBounds_toArray, List.set_cons_zero, List.set_cons_succ]
                    refine wpAnyH_take (i := 10) (oi := { dst := some 63, op := Op.extract (Operand.tmp 53) 0, type := 26, pos := "more.go:20", after := #[{ on := 9, ground := Ground.data }], guard := none }) (v := .agg x4.toArray) rfl (by kernel_rfl) (by kernel_rfl) (by kernel_rfl) (fun _ _ _ h => h)
                      (Or.inl ⟨by rfl, by intro w hSw;  clear hSw; go_simp⟩) hHeld2 ?_
                    try simp only [Act.put, List.setIfInBounds_toArray, List.set_cons_zero, List.set_cons_succ]
                    refine wpAnyH_take (i := 11) (oi := { dst := some 64, op := Op.extract (Operand.tmp 53) 1, type := 29, pos := "more.go:20", after := #[{ on := 9, ground := Ground.data }, { on := 13, ground := Ground.gcOnly Departure.lateStores }], guard := none }) (v := .int .i64 cc) rfl (by kernel_rfl) (by kernel_rfl) (by kernel_rfl) (fun _ _ _ h => h)
                      (Or.inl ⟨by rfl, by intro w hSw;  clear hSw; go_simp⟩) hHeld2 ?_
                    try simp only [Act.put, List.setIfInBounds_toArray, List.set_cons_zero, List.set_cons_succ]
                    refine wpAnyH_ready (rs := [12]) (by kernel_rfl) (by simp) ?_
                    refine AllReadyH.cons (o := { dst := some 9, op := Op.alloc 26, type := 0, pos := "more.go:20", after := #[], guard := none }) rfl (fun K hK => ?_) AllReadyH.nil
                    go_simp
                    obtain ⟨w5, hw5⟩ : ∃ w5, w5 = w4.alloc (.cells #[.int .u8 0, .bool false, .slice none 0 0, .slice none 0 0, .slice none 0 0] 26) := ⟨_, rfl⟩
                    rw [← hw5]
                    have z5 : Has w5 w4.heap.size zT 26 := by rw [hw5]; exact Has.new w4 zT _
                    have k5 : Below w9.heap.size w9 w5 := by rw [hw5]; exact k4.alloc k4.size _
                    have x5c : Has w5 w.heap.size CS 26 := by rw [hw5]; exact x4c.alloc _
                    have y5c : w5.cell? ⟨ba, oa + j, none⟩ = some (.string p) := (k5.cell (p := ⟨ba, oa + j, none⟩) hbc).trans HCQ.out
                    clear hw5
                    refine hK.out _ _ ⟨x5c, y5c⟩ (fun hHeld3 => ?_)
                    clear hK K hHeld2
                    try simp only [Act.put, List.setIfInBounds_toArray, List.set_cons_zero, List.set_cons_succ]
                    refine wpAnyH_ready (rs := [13]) (by kernel_rfl) (by simp) ?_
                    refine AllReadyH.cons (o := { dst := none, op := Op.store 26 (Operand.tmp 9) (Operand.tmp 63), type := 0, pos := "more.go:20", after := #[{ on := 12, ground := Ground.data }, { on := 10, ground := Ground.data }, { on := 8, ground := Ground.chain }, { on := 0, ground := Ground.phase }, { on := 1, ground := Ground.phase }, { on := 2, ground := Ground.phase }, { on := 3, ground := Ground.phase }, { on := 4, ground := Ground.phase }, { on := 5, ground := Ground.phase }, { on := 6, ground := Ground.phase }, { on := 7, ground := Ground.phase }, { on := 8, ground := Ground.phase }, { on := 9, ground := Ground.phase }, { on := 10, ground := Ground.phase }, { on := 11, ground := Ground.textOnly Departure.lateStores }, { on := 12, ground := Ground.phase }], guard := none }) rfl (fun K hK => ?_) AllReadyH.nil
                    have s4 := k4.size
                    rw [if_pos (by rfl)]
                    refine wp_store_row 26 _ _ rfl w4.heap.size x4.toArray rfl rfl 26 _ z5 (infoL (isT_five t4)) (by simp [isT_five t4, zT]) (isT_one t4) ?_
                    have k6 : Below w9.heap.size w9 (w5.setRow w4.heap.size x4.toArray) := below_setRow k5 (by omega) _
                    have x6c : Has (w5.setRow w4.heap.size x4.toArray) w.heap.size CS 26 := HXD.out.below k6 HXD.out.lt
                    have y6c : (w5.setRow w4.heap.size x4.toArray).cell? ⟨ba, oa + j, none⟩ = some (.string p) := (k6.cell (p := ⟨ba, oa + j, none⟩) hbc).trans HCQ.out
                    refine hK.out _ _ ⟨x6c, y6c⟩ (fun hHeld4 => ?_)
                    clear hK K hHeld3
                    try simp only [Act.put]
                    refine wpAnyH_take (i := 14) (oi := { dst := some 10, op := Op.assign (Operand.tmp 64), type := 29, pos := "more.go:20", after := #[{ on := 11, ground := Ground.data }, { on := 13, ground := Ground.chain }, { on := 0, ground := Ground.phase }, { on := 1, ground := Ground.phase }, { on := 2, ground := Ground.phase }, { on := 3, ground := Ground.phase }, { on := 4, ground := Ground.phase }, { on := 5, ground := Ground.phase }, { on := 6, ground := Ground.phase }, { on := 7, ground := Ground.phase }, { on := 8, ground := Ground.phase }, { on := 9, ground := Ground.phase }, { on := 10, ground := Ground.phase }, { on := 11, ground := Ground.phase }, { on := 12, ground := Ground.phase }, { on := 13, ground := Ground.phase }], guard := none }) (v := .int .i64 cc) rfl (by kernel_rfl) (by kernel_rfl) (by kernel_rfl) (fun _ _ _ h => h)
                      (Or.inl ⟨by rfl, by intro w hSw;  clear hSw; go_simp⟩) hHeld4 ?_
                    try simp only [Act.put, List.setIfInBounds_toArray, List.set_cons_zero, List.set_cons_succ]
                    refine wpAnyH_done (by kernel_rfl) ?_ _
                    have HK6 := Lib.hid k6
                    clear hHeld4 k6 x6c y6c
                    go_wp2_with fail
                    go_meet
                    exact ⟨rfl, HK6.out⟩
                  · go_simp
                    obtain ⟨w3, hw3⟩ : ∃ w3, w3 = (w9.alloc (.cells #[.int .u8 0, .bool false, .slice none 0 0, .slice none 0 0, .slice none 0 0] 26)).drew := ⟨_, rfl⟩
                    rw [← hw3]
                    have z3' : Has w3 w9.heap.size zT 26 := by rw [hw3]; exact (Has.new w9 zT _).drew
                    have k3 : Below w9.heap.size w9 w3 := by rw [hw3]; exact ((Below.refl _ _).alloc (Nat.le_refl _) _).drew
                    have s3 : w3.heap.size = w9.heap.size + 1 := by rw [hw3]; simp
                    have x3c : Has w3 w.heap.size CS 26 := HXD.out.below k3 HXD.out.lt
                    have y3c : w3.cell? ⟨ba, oa + j, none⟩ = some (.string p) := (k3.cell (p := ⟨ba, oa + j, none⟩) hbc).trans HCQ.out
                    clear hw3
                    refine hK.out _ _ ⟨x3c, y3c⟩ (fun hHeld2 => ?_)
                    clear hK K hHeld
                    try simp only [Act.put, List.setIfInBounds_toArray, List.set_cons_zero, List.set_cons_succ]
                    refine wpAnyH_ready (rs := [8]) (by kernel_rfl) (by simp) ?_
                    refine AllReadyH.cons (o := { dst := some 62, op := Op.call { callee := Callee.value (Operand.func 20), args := #[Operand.tmp 54, Operand.tmp 61], argTypes := #[26, 9] }, type := 41, pos := "more.go:20", after := #[{ on := 0, ground := Ground.data }, { on := 7, ground := Ground.data }], guard := none }) rfl (fun K hK => ?_) AllReadyH.nil
                    go_simp
                    refine (KAU.out w3 k3).mono ?_
                    rintro en w5 ⟨n4, x4, rfl, t4, b4⟩
                    go_wp2_with fail
                    have k5 : Below w9.heap.size w9 w5 := k3.trans (b4.mono (by omega))
                    have z5 : Has w5 w9.heap.size zT 26 := z3'.below b4 (by omega)
                    have x5c : Has w5 w.heap.size CS 26 := HXD.out.below k5 HXD.out.lt
                    have y5c : w5.cell? ⟨ba, oa + j, none⟩ = some (.string p) := (k5.cell (p := ⟨ba, oa + j, none⟩) hbc).trans HCQ.out
                    refine hK.out _ _ ⟨x5c, y5c⟩ (fun hHeld3 => ?_)
                    clear hK K hHeld2
                    try simp only [Act.put, List.setIfInBounds_toArray, List.set_cons_zero, List.set_cons_succ]
                    refine wpAnyH_take (i := 9) (oi := { dst := some 53, op := Op.move (Operand.tmp 62), type := 41, pos := "more.go:20", after := #[{ on := 8, ground := Ground.data }], guard := none }) (v := .tuple #[.agg x4.toArray, .int .i64 cc]) rfl (by kernel_rfl) (by kernel_rfl) (by kernel_rfl) (fun _ _ _ h => h)
                      (Or.inl ⟨by rfl, by intro w hSw;  clear hSw; go_simp⟩) hHeld3 ?_
                    try simp only [Act.put, List.setIfInBounds_toArray, List.set_cons_zero, List.set_cons_succ]
                    refine wpAnyH_take (i := 10) (oi := { dst := some 63, op := Op.extract (Operand.tmp 53) 0, type := 26, pos := "more.go:20", after := #[{ on := 9, ground := Ground.data }], guard := none }) (v := .agg x4.toArray) rfl (by kernel_rfl) (by kernel_rfl) (by kernel_rfl) (fun _ _ _ h => h)
                      (Or.inl ⟨by rfl, by intro w hSw;  clear hSw; go_simp⟩) hHeld3 ?_
                    try simp only [Act.put, List.setIfInBounds_toArray, List.set_cons_zero, List.set_cons_succ]
                    refine wpAnyH_take (i := 11) (oi := { dst := some 64, op := Op.extract (Operand.tmp 53) 1, type := 29, pos := "more.go:20", after := #[{ on := 9, ground := Ground.data }, { on := 13, ground := Ground.gcOnly Departure.lateStores }], guard := none }) (v := .int .i64 cc) rfl (by kernel_rfl) (by kernel_rfl) (by kernel_rfl) (fun _ _ _ h => h)
                      (Or.inl ⟨by rfl, by intro w hSw;  clear hSw; go_simp⟩) hHeld3 ?_
                    try simp only [Act.put, List.setIfInBounds_toArray, List.set_cons_zero, List.set_cons_succ]
                    refine wpAnyH_ready (rs := [13]) (by kernel_rfl) (by simp) ?_
                    refine AllReadyH.cons (o := { dst := none, op := Op.store 26 (Operand.tmp 9) (Operand.tmp 63), type := 0, pos := "more.go:20", after := #[{ on := 12, ground := Ground.data }, { on := 10, ground := Ground.data }, { on := 8, ground := Ground.chain }, { on := 0, ground := Ground.phase }, { on := 1, ground := Ground.phase }, { on := 2, ground := Ground.phase }, { on := 3, ground := Ground.phase }, { on := 4, ground := Ground.phase }, { on := 5, ground := Ground.phase }, { on := 6, ground := Ground.phase }, { on := 7, ground := Ground.phase }, { on := 8, ground := Ground.phase }, { on := 9, ground := Ground.phase }, { on := 10, ground := Ground.phase }, { on := 11, ground := Ground.textOnly Departure.lateStores }, { on := 12, ground := Ground.phase }], guard := none }) rfl (fun K hK => ?_) AllReadyH.nil
                    rw [if_pos (by rfl)]
                    refine wp_store_row 26 _ _ rfl w9.heap.size x4.toArray rfl rfl 26 _ z5 (infoL (isT_five t4)) (by simp [isT_five t4, zT]) (isT_one t4) ?_
                    have k6 : Below w9.heap.size w9 (w5.setRow w9.heap.size x4.toArray) := below_setRow k5 (by omega) _
                    have x6c : Has (w5.setRow w9.heap.size x4.toArray) w.heap.size CS 26 := HXD.out.below k6 HXD.out.lt
                    have y6c : (w5.setRow w9.heap.size x4.toArray).cell? ⟨ba, oa + j, none⟩ = some (.string p) := (k6.cell (p := ⟨ba, oa + j, none⟩) hbc).trans HCQ.out
                    refine hK.out _ _ ⟨x6c, y6c⟩ (fun hHeld4 => ?_)
                    clear hK K hHeld3
                    try simp only [Act.put]
                    refine wpAnyH_take (i := 14) (oi := { dst := some 10, op := Op.assign (Operand.tmp 64), type := 29, pos := "more.go:20", after := #[{ on := 11, ground := Ground.data }, { on := 13, ground := Ground.chain }, { on := 0, ground := Ground.phase }, { on := 1, ground := Ground.phase }, { on := 2, ground := Ground.phase }, { on := 3, ground := Ground.phase }, { on := 4, ground := Ground.phase }, { on := 5, ground := Ground.phase }, { on := 6, ground := Ground.phase }, { on := 7, ground := Ground.phase }, { on := 8, ground := Ground.phase }, { on := 9, ground := Ground.phase }, { on := 10, ground := Ground.phase }, { on := 11, ground := Ground.phase }, { on := 12, ground := Ground.phase }, { on := 13, ground := Ground.phase }], guard := none }) (v := .int .i64 cc) rfl (by kernel_rfl) (by kernel_rfl) (by kernel_rfl) (fun _ _ _ h => h)
                      (Or.inl ⟨by rfl, by intro w hSw;  clear hSw; go_simp⟩) hHeld4 ?_
                    try simp only [Act.put, List.setIfInBounds_toArray, List.set_cons_zero, List.set_cons_succ]
                    refine wpAnyH_done (by kernel_rfl) ?_ _
                    have HK6 := Lib.hid k6
                    clear hHeld4 k6 x6c y6c
                    go_wp2_with fail
                    go_meet
                    exact ⟨rfl, HK6.out⟩
                case rest =>
                  obtain ⟨rfl, hb10⟩ := hcut
                  obtain ⟨w10, hw10⟩ : ∃ w10 : World, w10 = wc := ⟨_, rfl⟩
                  subst hw10
                  have HTR := Lib.hid (HTQ.out.later hb10)
                  have HP2 : Hid (p ++ ⟨#[47]⟩ ++ nm ∈ PT ↔ cc = 0) := Lib.hid (by
                    rw [HC2.out, HPT.out]
                    refine told_iff HGOOD.out (p ++ ⟨#[47]⟩ ++ nm) (by rw [slash_cat]; simp) ?_
                    rw [slash_cat]
                    simp
                    omega)
                  clear hb10 KAU HTQ HXD HCQ hbc hbe9 HXC HCP hba HTP
                  go_wp2_with fail
                  go_loopg [11, 12] Lp (fun k tv kk wx => ∃ (m : Nat) (bb : Bool), m ≤ Lp ∧ k = Lp - m ∧ kk = .int .i64 m ∧ tv = .bool bb ∧ (bb = true ↔ ∃ i, i < m ∧ PT.getD i ⟨#[]⟩ = p ++ ⟨#[47]⟩ ++ nm) ∧ TPI w [c0, c1, c2, c3, c4] (some ⟨ba, oa, none⟩) Lp c5 PT wx)
                  case atStart => exact ⟨0, false, Nat.zero_le _, rfl, rfl, rfl, ⟨fun h => (by cases h), fun ⟨i, hi, _⟩ => (by omega)⟩, HTR.out⟩
                  case round =>
                    clear HTR
                    obtain ⟨m, bb, hm, hgm, rfl, rfl, hbb, htw⟩ := hrel
                    have HTW := Lib.hid htw
                    have HBB := Lib.hid hbb
                    have HGM := Lib.hid hgm
                    by_cases hml : m < Lp
                    · rcases htw.1.at_ with h0 | ⟨b', o', he, _, hcw⟩
                      · omega
                      cases he
                      have hjp := hcw j hlt
                      rw [← HPJ.out] at hjp
                      have hmi : (m : Int) < (Lp : Int) := by omega
                      have hnm1 : (m : Int) + 1 ≤ 9223372036854775807 := by omega
                      have HML := Lib.hid hml
                      by_cases hmj : m = j
                      · subst hmj
                        have HSM' : Hid (p = PT.getD m ⟨#[]⟩) := Lib.hid HPJ.out
                        clear htw hbb hgm hcw hml
                        go_upto_region 15 with fail
                        go_quiet (fail)
                        go_upto_region 17 with fail
                        cases bb
                        · by_cases hsp : p = p ++ ⟨#[47]⟩ ++ nm
                          · have HB : Hid (∃ i, i < m + 1 ∧ PT.getD i ⟨#[]⟩ = p ++ ⟨#[47]⟩ ++ nm) := Lib.hid ⟨m, by omega, by rw [← HSM'.out]; exact hsp⟩
                            have e1 : (p.toList == (p ++ ⟨#[47]⟩ ++ nm).toList) = true := (Lib.bytes_beq_iff _ _).2 hsp
                            clear hsp
                            go_quiet (fail)
                            go_wp2_with fail
                            go_roundg (Lp - (m + 1))
                            case rel => exact ⟨m + 1, true, by have := HML.out; omega, rfl, by go_num, rfl, ⟨fun _ => HB.out, fun _ => rfl⟩, HTW.out.later (below_drewN (Below.refl _ _) _)⟩
                            case measure =>
                              have := HML.out
                              have := HGM.out
                              omega
                          · have HB : Hid (false = true ↔ ∃ i, i < m + 1 ∧ PT.getD i ⟨#[]⟩ = p ++ ⟨#[47]⟩ ++ nm) := Lib.hid ⟨fun h => (by cases h), fun ⟨i, hi, he⟩ => by
                              by_cases e : i = m
                              · subst e; rw [← HSM'.out] at he; exact absurd he hsp
                              · exact HBB.out.2 ⟨i, by omega, he⟩⟩
                            have e1 : (p.toList == (p ++ ⟨#[47]⟩ ++ nm).toList) = false := by rw [Lib.bytes_beq_false_iff]; exact hsp
                            clear hsp
                            go_quiet (fail)
                            go_wp2_with fail
                            go_roundg (Lp - (m + 1))
                            case rel => exact ⟨m + 1, false, by have := HML.out; omega, rfl, by go_num, rfl, HB.out, HTW.out.later (below_drewN (Below.refl _ _) _)⟩
                            case measure =>
                              have := HML.out
                              have := HGM.out
                              omega
                        · have HB : Hid (∃ i, i < m + 1 ∧ PT.getD i ⟨#[]⟩ = p ++ ⟨#[47]⟩ ++ nm) := Lib.hid (by
                            obtain ⟨i, hi, he⟩ := HBB.out.1 (by simp)
                            exact ⟨i, by omega, he⟩)
                          go_quiet (fail)
                          go_wp2_with fail
                          go_roundg (Lp - (m + 1))
                          case rel => exact ⟨m + 1, true, by have := HML.out; omega, rfl, by go_num, rfl, ⟨fun _ => HB.out, fun _ => rfl⟩, HTW.out.later (below_drewN (Below.refl _ _) _)⟩
                          case measure =>
                            have := HML.out
                            have := HGM.out
                            omega
                      · obtain ⟨s, hs⟩ : ∃ s, s = PT.getD m ⟨#[]⟩ := ⟨_, rfl⟩
                        have hsm := hcw m hml
                        rw [← hs] at hsm
                        have HSM' := Lib.hid hs
                        have hne : s ≠ p := fun e => hmj (HND.out m j hml hlt (by rw [← HSM'.out, ← HPJ.out]; exact e))
                        have e0 : (s.toList == p.toList) = false := by rw [Lib.bytes_beq_false_iff]; exact hne
                        have m1 : ((m : Int) != (j : Int)) = true := by rw [bne_iff_ne]; omega
                        have m2 : ((m : Int) == (j : Int)) = false := by rw [beq_eq_false_iff_ne]; omega
                        have m3 : (m == j) = false := by rw [beq_eq_false_iff_ne]; exact hmj
                        have m4 : (m != j) = true := by rw [bne_iff_ne]; exact hmj
                        clear htw hbb hgm hcw hml hs hne hmj
                        go_upto_region 15 with fail
                        go_quiet (fail)
                        go_upto_region 17 with fail
                        cases bb
                        · by_cases hsp : s = p ++ ⟨#[47]⟩ ++ nm
                          · have HB : Hid (∃ i, i < m + 1 ∧ PT.getD i ⟨#[]⟩ = p ++ ⟨#[47]⟩ ++ nm) := Lib.hid ⟨m, by omega, by rw [← HSM'.out]; exact hsp⟩
                            have e1 : (s.toList == (p ++ ⟨#[47]⟩ ++ nm).toList) = true := (Lib.bytes_beq_iff _ _).2 hsp
                            clear hsp
                            go_quiet (fail)
                            go_wp2_with fail
                            go_roundg (Lp - (m + 1))
                            case rel => exact ⟨m + 1, true, by have := HML.out; omega, rfl, by go_num, rfl, ⟨fun _ => HB.out, fun _ => rfl⟩, HTW.out.later (below_drewN (Below.refl _ _) _)⟩
                            case measure =>
                              have := HML.out
                              have := HGM.out
                              omega
                          · have HB : Hid (false = true ↔ ∃ i, i < m + 1 ∧ PT.getD i ⟨#[]⟩ = p ++ ⟨#[47]⟩ ++ nm) := Lib.hid ⟨fun h => (by cases h), fun ⟨i, hi, he⟩ => by
                              by_cases e : i = m
                              · subst e; rw [← HSM'.out] at he; exact absurd he hsp
                              · exact HBB.out.2 ⟨i, by omega, he⟩⟩
                            have e1 : (s.toList == (p ++ ⟨#[47]⟩ ++ nm).toList) = false := by rw [Lib.bytes_beq_false_iff]; exact hsp
                            clear hsp
                            go_quiet (fail)
                            go_wp2_with fail
                            go_roundg (Lp - (m + 1))
                            case rel => exact ⟨m + 1, false, by have := HML.out; omega, rfl, by go_num, rfl, HB.out, HTW.out.later (below_drewN (Below.refl _ _) _)⟩
                            case measure =>
                              have := HML.out
                              have := HGM.out
                              omega
                        · have HB : Hid (∃ i, i < m + 1 ∧ PT.getD i ⟨#[]⟩ = p ++ ⟨#[47]⟩ ++ nm) := Lib.hid (by
                            obtain ⟨i, hi, he⟩ := HBB.out.1 (by simp)
                            exact ⟨i, by omega, he⟩)
                          go_quiet (fail)
                          go_wp2_with fail
                          go_roundg (Lp - (m + 1))
                          case rel => exact ⟨m + 1, true, by have := HML.out; omega, rfl, by go_num, rfl, ⟨fun _ => HB.out, fun _ => rfl⟩, HTW.out.later (below_drewN (Below.refl _ _) _)⟩
                          case measure =>
                            have := HML.out
                            have := HGM.out
                            omega
                    · obtain rfl : Lp = m := by omega
                      have HEX : Hid (bb = true ↔ cc = 0) := Lib.hid (by
                        rw [hbb, ← HP2.out]
                        constructor
                        · rintro ⟨i, hi, he⟩
                          rw [← he, List.getD_eq_getElem?_getD, List.getElem?_eq_getElem (by rw [← HLP.out]; exact hi)]
                          exact List.getElem_mem _
                        · intro hm
                          obtain ⟨i, hi⟩ := List.getElem?_of_mem hm
                          have hil := (List.getElem?_eq_some_iff.1 hi).1
                          exact ⟨i, by rw [HLP.out]; exact hil, by rw [List.getD_eq_getElem?_getD, hi]; rfl⟩)
                      clear htw hbb hgm
                      cases bb
                      · have hcz : ¬ cc = 0 := fun h => by have := HEX.out.2 h; cases this
                        have q1 : (cc == 0) = false := by rw [beq_eq_false_iff_ne]; exact hcz
                        have q2 : (cc != 0) = true := by rw [bne_iff_ne]; exact hcz
                        clear HEX HP2 HBB
                        go_wp2_with fail
                        go_roundg (Lp - (j + 1))
                        case rel => exact ⟨j + 1, by have := HLT.out; omega, rfl, by go_num, HTW.out⟩
                        case measure =>
                          have := HLT.out
                          have := HGK.out
                          omega
                      · obtain rfl : cc = 0 := HEX.out.1 rfl
                        clear HEX HP2 HBB
                        go_wp2_with fail
                        go_roundg (Lp - (j + 1))
                        case rel => exact ⟨j + 1, by have := HLT.out; omega, rfl, by go_num, HTW.out⟩
                        case measure =>
                          have := HLT.out
                          have := HGK.out
                          omega
          · obtain rfl : Lp = j := by omega
            clear hI5
            go_wp2_with fail
            go_ret
            exact ⟨rfl, HTP.out.2.2.1⟩
  · skip
    go_wp2_with fail
    refine (awake_any w2 HM2.out (by omega)).mono ?_
    rintro e w2z ⟨rfl, bz⟩
    have BE := Lib.hid (B2.out.trans (bz.mono (by omega)))
    clear bz
    go_wp2_with fail
    go_ret
    exact ⟨rfl, BE.out⟩

end Go.Proofs.YtmgfgldabjgmmaaDoor

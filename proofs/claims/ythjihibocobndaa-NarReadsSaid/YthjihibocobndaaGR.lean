/-
  The contract of the reference's Read. Conditions: at most 1000000 bytes.
-/
import Derived.Test.YthjihibocobndaaGP
import Derived.Test.YthjihibocobndaaNNodeDir
import Derived.Deep.RegionHeld3
import Derived.Test.YthjihibocobndaaNReadL
namespace Go.Proofs.Ythjihibocobndaa
open Go.RowKit
set_option linter.unusedVariables false

/-- What the reference's Read tells. -/
def RReadP (R : List UInt8) (w : World) (e : Ending) (w' : World) : Prop := Below w.heap.size w w' ∧
  ((readL R = none ∧ ∃ cs, e = .returned (.tuple #[.agg cs, .bool false]) ∧ cs = zeroL.toArray) ∨ ∃ n cs t, readL R = some t ∧ e = .returned (.tuple #[.agg cs.toArray, .bool true]) ∧ IsT w' n cs t)

set_option maxRecDepth 100000 in
set_option maxHeartbeats 16000000 in
theorem rread_any (a : Option Addr) (n cap : Nat) (R : List UInt8) (w : World) (hB : IsB w a n cap R) (h9 : R.length ≤ 1000000) :
    Calls Try.prog 13 #[.slice a n cap] w (RReadP R w) := by
  have hn := hB.length
  have HB := Lib.hid hB
  have H9 := Lib.hid h9
  have HN := Lib.hid hn
  obtain ⟨LZ, hLZ⟩ : ∃ L, L = zeroL := ⟨_, rfl⟩
  have hI0 : (Try.prog.info? 26).map (·.size) = some LZ.toArray.size := by rw [hLZ, info5]; rfl
  have hO0 : LZ.toArray.all (·.oneCell') = true := by rw [hLZ]; exact cells_one _ _ _ _ _
  have hZ0 : zeroL.toArray.size = LZ.toArray.size := by rw [hLZ]
  have HI0 := Lib.hid hI0
  have HO0 := Lib.hid hO0
  have HZ0 := Lib.hid hZ0
  have HLZ := Lib.hid hLZ
  clear hLZ hI0 hO0 hZ0 hB h9 hn
  go_enter Try.func13, Try.ntmps13
  go_upto_region 1 with fail
  obtain ⟨A, hA⟩ : ∃ A, A = w.heap.size := ⟨_, rfl⟩
  obtain ⟨w1, hw⟩ : ∃ x, x = w.alloc (.cells #[.int .u8 0, .bool false, .slice none 0 0, .slice none 0 0, .slice none 0 0] 26) := ⟨_, rfl⟩
  rw [← hA, ← hw]
  have G1 : Hid (Has w1 A zeroL 26) := Lib.hid (by rw [hw, hA]; exact Has.new w zeroL _)
  have B1 : Hid (Below w.heap.size w w1) := Lib.hid (by rw [hw]; exact (Below.refl _ _).alloc (Nat.le_refl _) _)
  have HA := Lib.hid hA
  clear hA hw
  have hk := rwant_1s ⟨#[110, 105, 120, 45, 97, 114, 99, 104, 105, 118, 101, 45, 49]⟩ sMagic rfl w1 (HB.out.later B1.out) H9.out (at_start R)
  rw [posI_start] at hk
  have HK := Lib.hid hk
  clear hk
  go_wp2_with fail
  refine HK.out.mono ?_
  rintro e w2 ⟨rfl, b2⟩
  have G2 := Lib.hid (G1.out.below b2 G1.out.lt)
  have B2 := Lib.hid (B1.out.trans (b2.mono B1.out.size))
  clear b2 G1 B1 HK
  cases hc : wantO [sMagic] (some R) with
  | none =>
    have HF : Hid (readL R = none) := Lib.hid (by
      cases h : readL R with
      | none => rfl
      | some t => have := (rread_of h).2.2.1; rw [hc] at this; cases this)
    rw [show posI R none = -1 from rfl]
    clear hc
    go_wp2_with (refine wpList_store_row rfl 26 _ _ rfl A LZ.toArray rfl (by rw [HLZ.out]; rfl) 26 _ G2.out HI0.out HZ0.out HO0.out ?_)
    try simp only [Exit.inBlock, Exit.then]
    refine bodyPost_ret (results_cell_tmp (p := 2) (u := 3) (ty := 26) Try.results13 _ _ A 26 LZ.toArray (0, 0) _ rfl (setRow_heap _ _ _ _ _ _ G2.out) Try.underlying26 rfl HI0.out) rfl ?_
    exact ⟨below_setRow B2.out (by have := HA.out; omega) _, .inl ⟨HF.out, _, rfl, by rw [HLZ.out]⟩⟩
  | some r1 =>
    have HA1 : Hid (At R (some r1)) := Lib.hid (by have := (at_start R).skip [sMagic]; rw [hc] at this; exact this)
    have HC := Lib.hid hc
    obtain ⟨k1, hk1⟩ : ∃ k, k = posI R (some r1) := ⟨_, rfl⟩
    have hp1 : ¬ k1 < 0 := by rw [hk1]; exact posI_some
    have hk := rtree_all a n cap R H9.out 17 0 rfl (some r1) w2 HA1.out (HB.out.later B2.out)
    rw [← hk1] at hk ⊢
    have HK := Lib.hid hk
    clear hk hk1 hc
    go_wp2_with fail
    refine HK.out.mono ?_
    rintro e w3 ⟨nk, cs, rfl, hst, b3⟩
    have G3 := Lib.hid (G2.out.below b3 G2.out.lt)
    have B3 := Lib.hid (B2.out.trans (b3.mono B2.out.size))
    obtain ⟨t, ht⟩ : ∃ t, t = (rtO 17 (some r1)).1 := ⟨_, rfl⟩
    obtain ⟨o3, ho3⟩ : ∃ o, o = (rtO 17 (some r1)).2 := ⟨_, rfl⟩
    rw [← ht] at hst
    rw [← ho3]
    have hT := hst w3 (Nat.le_refl _) (fun _ _ _ _ => rfl)
    have HSM : Hid (Small t) := Lib.hid (by
      rw [ht]
      refine rtO_small 17 _ ?_
      obtain ⟨j, hj, _, hr⟩ := HA1.out r1 rfl
      have h3 : remO (some r1) = r1.length + 1 := rfl
      have h4 := congrArg List.length hr
      rw [List.length_drop] at h4
      have := H9.out
      omega)
    have HRD : Hid (∀ u, readL R = some u → t = u ∧ o3 = some [] ∧ R = archT u ∧ (sizeT u).isSome = true) := Lib.hid (fun u hu => by
      obtain ⟨h1, h2, h3, h4⟩ := rread_of hu
      rw [HC.out] at h3
      cases h3
      rw [ht, ho3, h4]
      exact ⟨rfl, rfl, h1, h2⟩)
    have HI := Lib.hid (infoL (isT_five hT))
    have HL5 : Hid ((Try.prog.info? 26).map (·.size) = some cs.length) := Lib.hid (by rw [info5, isT_five hT])
    have HON := Lib.hid (isT_one hT)
    have HZS : Hid ((#[.int .u8 0, .bool false, .slice none 0 0, .slice none 0 0, .slice none 0 0] : Array Value).size = cs.toArray.size) := Lib.hid (by simp [isT_five hT])
    have HZA : Hid (zeroL.toArray.size = cs.toArray.size) := Lib.hid (by simp [isT_five hT, zeroL])
    have HT3 := Lib.hid hT
    have HSTAB : Hid (∀ w', w3.heap.size ≤ w'.heap.size → (∀ k, w2.heap.size ≤ k → k < w3.heap.size → w'.heap[k]? = w3.heap[k]?) → IsT w' nk cs t) := Lib.hid (fun w' h1 h2 => hst w' h1 (fun k h3 h4 _ => h2 k h3 h4))
    have HAC : Hid (A < w2.heap.size) := Lib.hid G2.out.lt
    clear hT hst b3 G2 B2 HK ht ho3 hp1
    go_upto_region 5 with (refine wpList_store_row rfl 26 _ _ rfl w3.heap.size cs.toArray rfl rfl 26 _ (heap_alloc_new w3 _) HI.out HZS.out HON.out ?_)
    obtain ⟨w4, hw⟩ : ∃ x, x = (w3.alloc (.cells #[.int .u8 0, .bool false, .slice none 0 0, .slice none 0 0, .slice none 0 0] 26)).setRow w3.heap.size cs.toArray := ⟨_, rfl⟩
    have b4 := (var_treeN (w := w3) (cs := cs)).2
    have hv := (var_treeN (w := w3) (cs := cs)).1
    rw [← hw] at b4 hv ⊢
    obtain ⟨C, hC⟩ : ∃ C, C = w3.heap.size := ⟨_, rfl⟩
    rw [← hC] at hv ⊢
    have V4 := Lib.hid hv
    have HT4 := Lib.hid (IsT.later b4 _ _ _ HT3.out)
    have G4 := Lib.hid (G3.out.below b4 G3.out.lt)
    have B4 := Lib.hid (B3.out.trans (b4.mono B3.out.size))
    have HB34 := Lib.hid b4
    clear hw hv hC b4 G3 B3 HT3
    by_cases he : posI R o3 = (n : Int)
    · rw [he]
      have HE := Lib.hid he
      have hu26 := Try.underlying26
      obtain ⟨sb, hsb⟩ : ∃ s : ByteArray, s = ⟨R.toArray⟩ := ⟨_, rfl⟩
      have HSB := Lib.hid hsb
      have hnn : ((n : Int) != (n : Int)) = false := by simp
      clear hsb he
      refine wp_region_held_drew (S := fun W => Has W C cs 26 ∧ IsB W a n cap R) (by kernel_rfl) ⟨V4.out.drew, (HB.out.later B4.out).later (below_drewT (Below.refl _ _))⟩ (fun hHeld => ?_)
      refine wpAnyH_take (i := 0) (oi := { dst := some 19, op := Op.move (Operand.tmp 6), type := 3, pos := "ref.go:151", after := #[], guard := none }) (v := .int .i64 (n : Int)) rfl (by kernel_rfl) (by kernel_rfl) (by kernel_rfl) (fun _ _ _ h => h)
        (Or.inl ⟨by rfl, by intro w hSw;  clear hSw; go_simp⟩) hHeld ?_
      try simp only [Act.put, List.setIfInBounds_toArray, List.set_cons_zero, List.set_cons_succ]
      refine wpAnyH_take (i := 1) (oi := { dst := some 20, op := Op.move (Operand.tmp 0), type := 22, pos := "ref.go:151", after := #[], guard := none }) (v := .slice a n cap) rfl (by kernel_rfl) (by kernel_rfl) (by kernel_rfl) (fun _ _ _ h => h)
        (Or.inl ⟨by rfl, by intro w hSw;  clear hSw; go_simp⟩) hHeld ?_
      try simp only [Act.put, List.setIfInBounds_toArray, List.set_cons_zero, List.set_cons_succ]
      refine wpAnyH_take (i := 2) (oi := { dst := some 21, op := Op.call { callee := Callee.builtin Builtin.len, args := #[Operand.tmp 20], argTypes := #[22] }, type := 3, pos := "ref.go:151", after := #[{ on := 1, ground := Ground.data }], guard := none }) (v := .int .i64 (n : Int)) rfl (by kernel_rfl) (by kernel_rfl) (by kernel_rfl) (fun _ _ _ h => h)
        (Or.inl ⟨by rfl, by intro w hSw;  clear hSw; go_simp⟩) hHeld ?_
      try simp only [Act.put, List.setIfInBounds_toArray, List.set_cons_zero, List.set_cons_succ]
      refine wpAnyH_take (i := 3) (oi := { dst := some 22, op := Op.binOp BinOp.neq 3 (Operand.tmp 19) (Operand.tmp 21) 3, type := 4, pos := "ref.go:151", after := #[{ on := 0, ground := Ground.data }, { on := 2, ground := Ground.data }], guard := none }) (v := .bool false) rfl (by kernel_rfl) (by kernel_rfl) (by kernel_rfl) (fun _ _ _ h => h)
        (Or.inl ⟨by rfl, by intro w hSw;  clear hSw; go_simp⟩) hHeld ?_
      try simp only [Act.put, List.setIfInBounds_toArray, List.set_cons_zero, List.set_cons_succ]
      refine wpAnyH_take (i := 4) (oi := { dst := some 23, op := Op.move (Operand.tmp 22), type := 4, pos := "ref.go:151", after := #[{ on := 3, ground := Ground.data }], guard := none }) (v := .bool false) rfl (by kernel_rfl) (by kernel_rfl) (by kernel_rfl) (fun _ _ _ h => h)
        (Or.inl ⟨by rfl, by intro w hSw;  clear hSw; go_simp⟩) hHeld ?_
      try simp only [Act.put, List.setIfInBounds_toArray, List.set_cons_zero, List.set_cons_succ]
      refine wpAnyH_take (i := 5) (oi := { dst := some 24, op := Op.load 26 (Operand.tmp 5), type := 26, pos := "ref.go:151", after := #[{ on := 4, ground := Ground.guard }], guard := some (4, false) }) rfl (by kernel_rfl) (by kernel_rfl) (by kernel_rfl) (fun _ _ _ h => h)
        (yieldsIf_load_mid (by rfl) 26 (.tmp 5) rfl C (0) rfl cs _ (fun _ h => rangeAt_has h.1) hu26 rfl HL5.out) hHeld ?_
      try simp only [Act.put, List.setIfInBounds_toArray, List.set_cons_zero, List.set_cons_succ]
      refine wpAnyH_ready (rs := [6]) (by kernel_rfl) (by simp) ?_
      refine AllReadyH.cons (o := { dst := some 25, op := Op.call { callee := Callee.value (Operand.func 9), args := #[Operand.tmp 24], argTypes := #[26] }, type := 4, pos := "ref.go:151", after := #[{ on := 5, ground := Ground.data }, { on := 4, ground := Ground.chain }, { on := 4, ground := Ground.guard }], guard := some (4, false) }) rfl (fun K hK => ?_) AllReadyH.nil
      go_simp
      refine (rform_any nk cs t w4.drew (IsT.later (below_drewT (Below.refl _ _)) _ _ _ HT4.out) HSM.out).mono ?_
      rintro e w5 ⟨rfl, b5⟩
      have b5' : Below w4.heap.size w4 w5 := ⟨b5.os.trans rfl, b5.tape.trans rfl, b5.output, b5.size, b5.block⟩
      have G5 := Lib.hid (G4.out.below b5' G4.out.lt)
      have V5 := Lib.hid (V4.out.below b5' V4.out.lt)
      have B5 := Lib.hid (B4.out.trans (b5'.mono B4.out.size))
      have HT5 := Lib.hid (IsT.later b5' _ _ _ HT4.out)
      go_wp2_with fail
      refine hK.out _ _ ⟨V5.out, HB.out.later B5.out⟩ (fun hHeld2 => ?_)
      have HB35 := Lib.hid (HB34.out.trans (b5'.mono HB34.out.size))
      clear hK K hHeld b5 b5' HT4 G4 V4 B4
      try simp only [Act.put, List.setIfInBounds_toArray, List.set_cons_zero, List.set_cons_succ]

      cases hz : sizeT t with
      | none =>
        have HF : Hid (readL R = none) := Lib.hid (by
          cases h : readL R with
          | none => rfl
          | some u => obtain ⟨h1, _, _, h4⟩ := HRD.out u h; rw [← h1, hz] at h4; cases h4)
        rw [show (none : Option (Nat × Nat)).isSome = false from rfl]
        clear hz
        refine wpAnyH_take (i := 7) (oi := { dst := some 26, op := Op.unOp UnOp.not 4 (Operand.tmp 25), type := 4, pos := "ref.go:151", after := #[{ on := 6, ground := Ground.data }, { on := 4, ground := Ground.guard }], guard := some (4, false) }) (v := .bool true) rfl (by kernel_rfl) (by kernel_rfl) (by kernel_rfl) (fun _ _ _ h => h)
          (Or.inl ⟨by rfl, by intro w hSw;  clear hSw; go_simp⟩) hHeld2 ?_
        try simp only [Act.put, List.setIfInBounds_toArray, List.set_cons_zero, List.set_cons_succ]
        refine wpAnyH_take (i := 8) (oi := { dst := some 27, op := Op.pick (Operand.tmp 23) (Operand.const (Value.bool true)) (Operand.tmp 26), type := 4, pos := "ref.go:151", after := #[{ on := 4, ground := Ground.data }, { on := 7, ground := Ground.data }], guard := none }) (v := .bool true) rfl (by kernel_rfl) (by kernel_rfl) (by kernel_rfl) (fun _ _ _ h => h)
          (Or.inl ⟨by rfl, by intro w hSw;  clear hSw; go_simp⟩) hHeld2 ?_
        try simp only [Act.put, List.setIfInBounds_toArray, List.set_cons_zero, List.set_cons_succ]
        refine wpAnyH_take (i := 9) (oi := { dst := some 28, op := Op.move (Operand.tmp 27), type := 4, pos := "ref.go:151", after := #[{ on := 8, ground := Ground.data }, { on := 6, ground := Ground.chain }], guard := none }) (v := .bool true) rfl (by kernel_rfl) (by kernel_rfl) (by kernel_rfl) (fun _ _ _ h => h)
          (Or.inl ⟨by rfl, by intro w hSw;  clear hSw; go_simp⟩) hHeld2 ?_
        try simp only [Act.put, List.setIfInBounds_toArray, List.set_cons_zero, List.set_cons_succ]
        refine wpAnyH_take (i := 10) (oi := { dst := some 29, op := Op.load 26 (Operand.tmp 5), type := 26, pos := "ref.go:151", after := #[{ on := 9, ground := Ground.guard }], guard := some (9, false) }) (v := undef) rfl (by kernel_rfl) (by kernel_rfl) (by kernel_rfl) (fun _ _ _ h => h)
          (Or.inr ⟨by rfl, rfl⟩) hHeld2 ?_
        try simp only [Act.put, List.setIfInBounds_toArray, List.set_cons_zero, List.set_cons_succ]
        refine wpAnyH_take (i := 11) (oi := { dst := some 30, op := Op.call { callee := Callee.value (Operand.func 11), args := #[Operand.tmp 29], argTypes := #[26] }, type := 22, pos := "ref.go:151", after := #[{ on := 10, ground := Ground.data }, { on := 9, ground := Ground.chain }, { on := 9, ground := Ground.guard }], guard := some (9, false) }) (v := undef) rfl (by kernel_rfl) (by kernel_rfl) (by kernel_rfl) (fun _ _ _ h => h)
          (Or.inr ⟨by rfl, rfl⟩) hHeld2 ?_
        try simp only [Act.put, List.setIfInBounds_toArray, List.set_cons_zero, List.set_cons_succ]
        refine wpAnyH_take (i := 12) (oi := { dst := some 31, op := Op.convert 22 9 (Operand.tmp 30), type := 9, pos := "ref.go:151", after := #[{ on := 11, ground := Ground.data }, { on := 9, ground := Ground.guard }], guard := some (9, false) }) (v := undef) rfl (by kernel_rfl) (by kernel_rfl) (by kernel_rfl) (fun _ _ _ h => h)
          (Or.inr ⟨by rfl, rfl⟩) hHeld2 ?_
        try simp only [Act.put, List.setIfInBounds_toArray, List.set_cons_zero, List.set_cons_succ]
        refine wpAnyH_take (i := 13) (oi := { dst := some 32, op := Op.move (Operand.tmp 0), type := 22, pos := "ref.go:151", after := #[{ on := 9, ground := Ground.guard }], guard := some (9, false) }) (v := undef) rfl (by kernel_rfl) (by kernel_rfl) (by kernel_rfl) (fun _ _ _ h => h)
          (Or.inr ⟨by rfl, rfl⟩) hHeld2 ?_
        try simp only [Act.put, List.setIfInBounds_toArray, List.set_cons_zero, List.set_cons_succ]
        refine wpAnyH_take (i := 14) (oi := { dst := some 33, op := Op.convert 22 9 (Operand.tmp 32), type := 9, pos := "ref.go:151", after := #[{ on := 13, ground := Ground.data }, { on := 9, ground := Ground.guard }], guard := some (9, false) }) (v := undef) rfl (by kernel_rfl) (by kernel_rfl) (by kernel_rfl) (fun _ _ _ h => h)
          (Or.inr ⟨by rfl, rfl⟩) hHeld2 ?_
        try simp only [Act.put, List.setIfInBounds_toArray, List.set_cons_zero, List.set_cons_succ]
        refine wpAnyH_take (i := 15) (oi := { dst := some 34, op := Op.binOp BinOp.neq 9 (Operand.tmp 31) (Operand.tmp 33) 9, type := 4, pos := "ref.go:151", after := #[{ on := 12, ground := Ground.data }, { on := 14, ground := Ground.data }, { on := 9, ground := Ground.guard }], guard := some (9, false) }) (v := undef) rfl (by kernel_rfl) (by kernel_rfl) (by kernel_rfl) (fun _ _ _ h => h)
          (Or.inr ⟨by rfl, rfl⟩) hHeld2 ?_
        try simp only [Act.put, List.setIfInBounds_toArray, List.set_cons_zero, List.set_cons_succ]
        refine wpAnyH_take (i := 16) (oi := { dst := some 35, op := Op.pick (Operand.tmp 28) (Operand.const (Value.bool true)) (Operand.tmp 34), type := 4, pos := "ref.go:151", after := #[{ on := 9, ground := Ground.data }, { on := 15, ground := Ground.data }], guard := none }) (v := .bool true) rfl (by kernel_rfl) (by kernel_rfl) (by kernel_rfl) (fun _ _ _ h => h)
          (Or.inl ⟨by rfl, by intro w hSw;  clear hSw; go_simp⟩) hHeld2 ?_
        try simp only [Act.put, List.setIfInBounds_toArray, List.set_cons_zero, List.set_cons_succ]
        refine wpAnyH_done (by kernel_rfl) ?_ _
        clear hHeld2 hu26 hnn
        go_wp2_with (refine wpList_store_row rfl 26 _ _ rfl A LZ.toArray rfl (by rw [HLZ.out]; rfl) 26 _ G5.out HI0.out HZ0.out HO0.out ?_)
        try simp only [Exit.inBlock, Exit.then]
        refine bodyPost_ret (results_cell_tmp (p := 2) (u := 3) (ty := 26) Try.results13 _ _ A 26 LZ.toArray (0, 0) _ rfl (setRow_heap _ _ _ _ _ _ G5.out) Try.underlying26 rfl HI0.out) rfl ?_
        exact ⟨below_setRow (by first | exact B5.out | exact (B5.out).drew) (by have := HA.out; omega) _, .inl ⟨HF.out, _, rfl, by rw [HLZ.out]⟩⟩
      | some q =>
        have HZ := Lib.hid hz
        rw [show (some q).isSome = true from rfl]
        clear hz
        refine wpAnyH_take (i := 7) (oi := { dst := some 26, op := Op.unOp UnOp.not 4 (Operand.tmp 25), type := 4, pos := "ref.go:151", after := #[{ on := 6, ground := Ground.data }, { on := 4, ground := Ground.guard }], guard := some (4, false) }) (v := .bool false) rfl (by kernel_rfl) (by kernel_rfl) (by kernel_rfl) (fun _ _ _ h => h)
          (Or.inl ⟨by rfl, by intro w hSw;  clear hSw; go_simp⟩) hHeld2 ?_
        try simp only [Act.put, List.setIfInBounds_toArray, List.set_cons_zero, List.set_cons_succ]
        refine wpAnyH_take (i := 8) (oi := { dst := some 27, op := Op.pick (Operand.tmp 23) (Operand.const (Value.bool true)) (Operand.tmp 26), type := 4, pos := "ref.go:151", after := #[{ on := 4, ground := Ground.data }, { on := 7, ground := Ground.data }], guard := none }) (v := .bool false) rfl (by kernel_rfl) (by kernel_rfl) (by kernel_rfl) (fun _ _ _ h => h)
          (Or.inl ⟨by rfl, by intro w hSw;  clear hSw; go_simp⟩) hHeld2 ?_
        try simp only [Act.put, List.setIfInBounds_toArray, List.set_cons_zero, List.set_cons_succ]
        refine wpAnyH_take (i := 9) (oi := { dst := some 28, op := Op.move (Operand.tmp 27), type := 4, pos := "ref.go:151", after := #[{ on := 8, ground := Ground.data }, { on := 6, ground := Ground.chain }], guard := none }) (v := .bool false) rfl (by kernel_rfl) (by kernel_rfl) (by kernel_rfl) (fun _ _ _ h => h)
          (Or.inl ⟨by rfl, by intro w hSw;  clear hSw; go_simp⟩) hHeld2 ?_
        try simp only [Act.put, List.setIfInBounds_toArray, List.set_cons_zero, List.set_cons_succ]
        refine wpAnyH_take (i := 10) (oi := { dst := some 29, op := Op.load 26 (Operand.tmp 5), type := 26, pos := "ref.go:151", after := #[{ on := 9, ground := Ground.guard }], guard := some (9, false) }) rfl (by kernel_rfl) (by kernel_rfl) (by kernel_rfl) (fun _ _ _ h => h)
          (yieldsIf_load_mid (by rfl) 26 (.tmp 5) rfl C (0) rfl cs _ (fun _ h => rangeAt_has h.1) hu26 rfl HL5.out) hHeld2 ?_
        try simp only [Act.put, List.setIfInBounds_toArray, List.set_cons_zero, List.set_cons_succ]
        refine wpAnyH_take (i := 13) (oi := { dst := some 32, op := Op.move (Operand.tmp 0), type := 22, pos := "ref.go:151", after := #[{ on := 9, ground := Ground.guard }], guard := some (9, false) }) (v := .slice a n cap) rfl (by kernel_rfl) (by kernel_rfl) (by kernel_rfl) (fun _ _ _ h => h)
          (Or.inl ⟨by rfl, by intro w hSw;  clear hSw; go_simp⟩) hHeld2 ?_
        try simp only [Act.put, List.setIfInBounds_toArray, List.set_cons_zero, List.set_cons_succ]
        refine wpAnyH_take (i := 14) (oi := { dst := some 33, op := Op.convert 22 9 (Operand.tmp 32), type := 9, pos := "ref.go:151", after := #[{ on := 13, ground := Ground.data }, { on := 9, ground := Ground.guard }], guard := some (9, false) }) (v := .string sb) rfl (by kernel_rfl) (by kernel_rfl) (by kernel_rfl) (fun _ _ _ h => h)
          (Or.inl ⟨by rfl, by intro w hSw; have hcv := convert_b hSw.2; rw [← HSB.out] at hcv; clear hSw; go_simp⟩) hHeld2 ?_
        try simp only [Act.put, List.setIfInBounds_toArray, List.set_cons_zero, List.set_cons_succ]
        refine wpAnyH_ready (rs := [11]) (by kernel_rfl) (by simp) ?_
        refine AllReadyH.cons (o := { dst := some 30, op := Op.call { callee := Callee.value (Operand.func 11), args := #[Operand.tmp 29], argTypes := #[26] }, type := 22, pos := "ref.go:151", after := #[{ on := 10, ground := Ground.data }, { on := 9, ground := Ground.chain }, { on := 9, ground := Ground.guard }], guard := some (9, false) }) rfl (fun K hK => ?_) AllReadyH.nil
        go_simp
        refine ((rwrite_any nk cs t w5 HT5.out (.of HZ.out)).mono fun e w' h => src_own h (arch_pos t) (by have := arch_len HZ.out; omega)).mono ?_
        rintro e w6 ⟨g2, n2, c2, rfl, hB2, b6⟩
        have G6 := Lib.hid (G5.out.below b6 G5.out.lt)
        have V6 := Lib.hid (V5.out.below b6 V5.out.lt)
        have B6 := Lib.hid (B5.out.trans (b6.mono B5.out.size))
        have HT6 := Lib.hid (IsT.later b6 _ _ _ HT5.out)
        have hcv2 := convert_b hB2
        obtain ⟨sa, hsa⟩ : ∃ s : ByteArray, s = ⟨(archT t).toArray⟩ := ⟨_, rfl⟩
        rw [← hsa] at hcv2
        have HSA := Lib.hid hsa
        go_wp2_with fail
        refine hK.out _ _ ⟨V6.out, HB.out.later B6.out⟩ (fun hHeld3 => ?_)
        have hb36 := HB35.out.trans (b6.mono HB35.out.size)
        have HS6 := Lib.hid hb36.size
        have HK6 : Hid (∀ q, q < w3.heap.size → w6.heap[q]? = w3.heap[q]?) := Lib.hid (fun q h => hb36.block q h)
        clear hK K hHeld2 b6 hB2 hsa G5 V5 B5 HT5 hb36
        try simp only [Act.put, List.setIfInBounds_toArray, List.set_cons_zero, List.set_cons_succ]
        refine wpAnyH_ready (rs := [12]) (by kernel_rfl) (by simp) ?_
        refine AllReadyH.cons (o := { dst := some 31, op := Op.convert 22 9 (Operand.tmp 30), type := 9, pos := "ref.go:151", after := #[{ on := 11, ground := Ground.data }, { on := 9, ground := Ground.guard }], guard := some (9, false) }) rfl (fun K hK => ?_) AllReadyH.nil
        go_simp
        clear hcv2
        refine hK.out _ _ ⟨V6.out, HB.out.later B6.out⟩ (fun hHeld4 => ?_)
        clear hK K hHeld3
        try simp only [Act.put, List.setIfInBounds_toArray, List.set_cons_zero, List.set_cons_succ]

        have hs1 : sa.toList = archT t := by rw [HSA.out, ByteArray.toList_eq]
        have hs2 : sb.toList = R := by rw [HSB.out, ByteArray.toList_eq]
        by_cases hr : archT t = R
        · have ht1 : (sa.toList == sb.toList) = true := by rw [hs1, hs2, hr]; simp
          have HR : Hid (readL R = some t) := Lib.hid (by rw [← hr]; exact readL_of HZ.out)
          clear hs1 hs2 hr
          refine wpAnyH_take (i := 15) (oi := { dst := some 34, op := Op.binOp BinOp.neq 9 (Operand.tmp 31) (Operand.tmp 33) 9, type := 4, pos := "ref.go:151", after := #[{ on := 12, ground := Ground.data }, { on := 14, ground := Ground.data }, { on := 9, ground := Ground.guard }], guard := some (9, false) }) (v := .bool false) rfl (by kernel_rfl) (by kernel_rfl) (by kernel_rfl) (fun _ _ _ h => h)
            (Or.inl ⟨by rfl, by intro w hSw;  clear hSw; go_simp⟩) hHeld4 ?_
          try simp only [Act.put, List.setIfInBounds_toArray, List.set_cons_zero, List.set_cons_succ]
          refine wpAnyH_take (i := 16) (oi := { dst := some 35, op := Op.pick (Operand.tmp 28) (Operand.const (Value.bool true)) (Operand.tmp 34), type := 4, pos := "ref.go:151", after := #[{ on := 9, ground := Ground.data }, { on := 15, ground := Ground.data }], guard := none }) (v := .bool false) rfl (by kernel_rfl) (by kernel_rfl) (by kernel_rfl) (fun _ _ _ h => h)
            (Or.inl ⟨by rfl, by intro w hSw;  clear hSw; go_simp⟩) hHeld4 ?_
          try simp only [Act.put, List.setIfInBounds_toArray, List.set_cons_zero, List.set_cons_succ]
          refine wpAnyH_done (by kernel_rfl) ?_ _
          clear hHeld4 hu26 hnn ht1
          go_wp2_with (first
            | (refine wpList_load_rowG (by rfl) 26 _ rfl C rfl 26 cs.toArray (0, 0) _ V6.out Try.underlying26 rfl HI.out ?_)
            | (refine wpList_store_row rfl 26 _ _ rfl A cs.toArray rfl rfl 26 _ G6.out HI.out HZA.out HON.out ?_))
          try simp only [Exit.inBlock, Exit.then]
          refine bodyPost_ret (results_cell_tmp (p := 2) (u := 3) (ty := 26) Try.results13 _ _ A 26 cs.toArray (0, 0) _ rfl (setRow_heap _ _ _ _ _ _ G6.out) Try.underlying26 rfl HI.out) rfl ?_
          refine ⟨below_setRow B6.out (by have := HA.out; omega) _, .inr ⟨nk, cs, t, HR.out, rfl, ?_⟩⟩
          exact HSTAB.out _ (by have := HS6.out; simp only [World.setRow, Array.size_modify]; omega) (fun q h1 h2 => (heap_setRow_other _ _ _ _ (by have := HAC.out; omega)).trans (HK6.out q h2))
        · have ht1 : (sa.toList == sb.toList) = false := by rw [hs1, hs2]; simpa using hr
          have HF : Hid (readL R = none) := Lib.hid (by
            cases h : readL R with
            | none => rfl
            | some u => obtain ⟨h1, _, h3, _⟩ := HRD.out u h; exact absurd (by rw [h1, h3]) hr)
          clear hs1 hs2 hr
          refine wpAnyH_take (i := 15) (oi := { dst := some 34, op := Op.binOp BinOp.neq 9 (Operand.tmp 31) (Operand.tmp 33) 9, type := 4, pos := "ref.go:151", after := #[{ on := 12, ground := Ground.data }, { on := 14, ground := Ground.data }, { on := 9, ground := Ground.guard }], guard := some (9, false) }) (v := .bool true) rfl (by kernel_rfl) (by kernel_rfl) (by kernel_rfl) (fun _ _ _ h => h)
            (Or.inl ⟨by rfl, by intro w hSw;  clear hSw; go_simp⟩) hHeld4 ?_
          try simp only [Act.put, List.setIfInBounds_toArray, List.set_cons_zero, List.set_cons_succ]
          refine wpAnyH_take (i := 16) (oi := { dst := some 35, op := Op.pick (Operand.tmp 28) (Operand.const (Value.bool true)) (Operand.tmp 34), type := 4, pos := "ref.go:151", after := #[{ on := 9, ground := Ground.data }, { on := 15, ground := Ground.data }], guard := none }) (v := .bool true) rfl (by kernel_rfl) (by kernel_rfl) (by kernel_rfl) (fun _ _ _ h => h)
            (Or.inl ⟨by rfl, by intro w hSw;  clear hSw; go_simp⟩) hHeld4 ?_
          try simp only [Act.put, List.setIfInBounds_toArray, List.set_cons_zero, List.set_cons_succ]
          refine wpAnyH_done (by kernel_rfl) ?_ _
          clear hHeld4 hu26 hnn ht1
          go_wp2_with (refine wpList_store_row rfl 26 _ _ rfl A LZ.toArray rfl (by rw [HLZ.out]; rfl) 26 _ G6.out HI0.out HZ0.out HO0.out ?_)
          try simp only [Exit.inBlock, Exit.then]
          refine bodyPost_ret (results_cell_tmp (p := 2) (u := 3) (ty := 26) Try.results13 _ _ A 26 LZ.toArray (0, 0) _ rfl (setRow_heap _ _ _ _ _ _ G6.out) Try.underlying26 rfl HI0.out) rfl ?_
          exact ⟨below_setRow (by first | exact B6.out | exact (B6.out).drew) (by have := HA.out; omega) _, .inl ⟨HF.out, _, rfl, by rw [HLZ.out]⟩⟩
    · have HF : Hid (readL R = none) := Lib.hid (by
        cases h : readL R with
        | none => rfl
        | some u => have := (HRD.out u h).2.1; rw [this, posI_end] at he; exact absurd (by rw [HN.out]) he)
      obtain ⟨k3, hk3⟩ : ∃ k, k = posI R o3 := ⟨_, rfl⟩
      rw [← hk3] at he ⊢
      have hne : (k3 != (n : Int)) = true := by simpa using he
      clear hk3
      go_region
      all_goals
        go_wp2_with (refine wpList_store_row rfl 26 _ _ rfl A LZ.toArray rfl (by rw [HLZ.out]; rfl) 26 _ G4.out HI0.out HZ0.out HO0.out ?_)
        try simp only [Exit.inBlock, Exit.then]
        refine bodyPost_ret (results_cell_tmp (p := 2) (u := 3) (ty := 26) Try.results13 _ _ A 26 LZ.toArray (0, 0) _ rfl (setRow_heap _ _ _ _ _ _ G4.out) Try.underlying26 rfl HI0.out) rfl ?_
        exact ⟨below_setRow (by first | exact B4.out | exact (B4.out).drew) (by have := HA.out; omega) _, .inl ⟨HF.out, _, rfl, by rw [HLZ.out]⟩⟩

end Go.Proofs.Ythjihibocobndaa

namespace Go.Proofs.Ythjihibocobndaa
open Go.RowKit
set_option linter.unusedVariables false

theorem reads_far (w : World) (a : Option Addr) (n cap : Nat) (h : 100000 < n) :
    Calls Try.prog 4 #[.slice a n cap] w fun e w' => e = .returned (.bool true) ∧ Below w.heap.size w w' := by
  have hn : (100000 : Int) < (n : Int) := by omega
  have HNOT : ∀ (x : Bool) (w : World), (Op.unary .not (.bool x)).run Try.prog w = .ok (.bool (!x)) w := fun _ _ => rfl
  obtain ⟨w0, hw0⟩ : ∃ x, x = w := ⟨_, rfl⟩
  rw [← hw0]
  have B0 := Lib.hid (Below.refl w.heap.size w)
  rw [← hw0] at B0
  clear hw0
  go_enter Try.func4, Try.ntmps4
  go_wp2_with fail
  refine (awake_any w0).mono ?_
  rintro e w1 ⟨rfl, b1⟩
  have B1 := Lib.hid (B0.out.trans (b1.mono B0.out.size))
  clear b1
  go_wp2_with fail
  refine (awake_any w1).mono ?_
  rintro e w2 ⟨rfl, b2⟩
  have B2 := Lib.hid (B1.out.trans (b2.mono B1.out.size))
  clear b2
  go_wp2_with fail
  go_ret
  exact ⟨rfl, B2.out⟩

set_option maxRecDepth 100000 in
set_option maxHeartbeats 8000000 in
theorem reads_near (w : World) (a : Option Addr) (n cap : Nat) (R : List UInt8) (hB : IsB w a n cap R) (h : n ≤ 100000) :
    Calls Try.prog 4 #[.slice a n cap] w fun e w' => e = .returned (.bool true) ∧ Below w.heap.size w w' := by
  have hn : ¬ (100000 : Int) < (n : Int) := by omega
  have HNOT : ∀ (x : Bool) (w : World), (Op.unary .not (.bool x)).run Try.prog w = .ok (.bool (!x)) w := fun _ _ => rfl
  have hlen := hB.length
  have H9 : Hid (R.length ≤ 1000000) := Lib.hid (by omega)
  obtain ⟨w0, hw0⟩ : ∃ x, x = w := ⟨_, rfl⟩
  rw [← hw0] at hB ⊢
  have HB := Lib.hid hB
  have B0 := Lib.hid (Below.refl w.heap.size w)
  rw [← hw0] at B0
  clear hw0 hB hlen
  go_enter Try.func4, Try.ntmps4
  go_wp2_with fail
  refine (awake_any w0).mono ?_
  rintro e w1 ⟨rfl, b1⟩
  have B1 := Lib.hid (B0.out.trans (b1.mono B0.out.size))
  clear b1
  have HK := Lib.hid (readn_any a n cap R w1 (HB.out.later B1.out) (by have := H9.out; omega))
  go_wp2_with fail
  refine HK.out.mono ?_
  rintro e w2 ⟨b2, Z3, c3, rfl, n3, t3, hT3, h3⟩
  have B2 := Lib.hid (B1.out.trans (b2.mono B1.out.size))
  have HH3 := Lib.hid h3
  clear b2 h3
  have hI3 := Lib.hid (infoL (isT_five hT3))
  have hL3 : Hid ((Try.prog.info? 26).map (·.size) = some Z3.length) := Lib.hid (by rw [info5, isT_five hT3])
  have hS3 : Hid ((#[.int .u8 0, .bool false, .slice none 0 0, .slice none 0 0, .slice none 0 0] : Array Value).size = Z3.toArray.size) := Lib.hid (by simp [isT_five hT3])
  have hO3 := Lib.hid (isT_one hT3)
  have HT3 := Lib.hid hT3
  clear hT3 HK
  go_upto_region 4 with (refine wpList_store_row rfl 26 _ _ rfl w2.heap.size Z3.toArray rfl rfl 26 _ (heap_alloc_new w2 _) hI3.out hS3.out hO3.out ?_)
  obtain ⟨w3, hw⟩ : ∃ x, x = (w2.alloc (.cells #[.int .u8 0, .bool false, .slice none 0 0, .slice none 0 0, .slice none 0 0] 26)).setRow w2.heap.size Z3.toArray := ⟨_, rfl⟩
  have b3 := (var_treeN (w := w2) (cs := Z3)).2
  have hv := (var_treeN (w := w2) (cs := Z3)).1
  rw [← hw] at b3 hv ⊢
  obtain ⟨K3, hK3⟩ : ∃ A, A = w2.heap.size := ⟨_, rfl⟩
  rw [← hK3] at hv ⊢
  have V3 := Lib.hid hv
  replace HT3 := Lib.hid (IsT.later b3 _ _ _ HT3.out)
  have B3 := Lib.hid (B2.out.trans (b3.mono B2.out.size))
  have HB3 := Lib.hid b3
  clear hw hv hK3 b3
  have HK := Lib.hid (rread_any a n cap R w3 (HB.out.later B3.out) H9.out)
  go_wp2_with fail
  refine HK.out.mono ?_
  rintro e w4 ⟨b4, hm⟩
  have B4 := Lib.hid (B3.out.trans (b4.mono B3.out.size))
  have V4 := Lib.hid (V3.out.below b4 V3.out.lt)
  have HT4 := Lib.hid (IsT.later b4 _ _ _ HT3.out)
  clear b4 V3 HT3 HB3
  rcases hm with ⟨hr, cz, rfl, hcz⟩ | ⟨n5, Z5, t5, hr, rfl, hT5⟩
  · obtain ⟨rfl, rfl⟩ : c3 = 3 ∧ t3 = .mk 0 false [] [] [] := by
      rcases HH3.out with ⟨_, h1, h2⟩ | ⟨h1, _⟩
      · exact ⟨h1, h2⟩
      · rw [hr] at h1; cases h1
    obtain ⟨Z5, hZ5⟩ : ∃ Z : List Value, Z = zeroL := ⟨_, rfl⟩
    have hT5 : IsT w4 1 Z5 (.mk 0 false [] [] []) := by rw [hZ5]; exact zeroR 0 w4 w4 (Nat.le_refl _) (fun _ _ _ _ => rfl)
    rw [← hZ5] at hcz
    subst hcz
    have HZ5 := Lib.hid hZ5
    have hT7 : ∀ W, IsT W 1 zeroL (.mk 0 false [] [] []) := fun W => zeroR 0 W W (Nat.le_refl _) (fun _ _ _ _ => rfl)
    have HT7 := Lib.hid hT7
    clear hZ5 hr hT7
    have hI5 := Lib.hid (infoL (isT_five hT5))
    have hL5 : Hid ((Try.prog.info? 26).map (·.size) = some Z5.length) := Lib.hid (by rw [info5, isT_five hT5])
    have hS5 : Hid ((#[.int .u8 0, .bool false, .slice none 0 0, .slice none 0 0, .slice none 0 0] : Array Value).size = Z5.toArray.size) := Lib.hid (by simp [isT_five hT5])
    have hO5 := Lib.hid (isT_one hT5)
    have HT5 := Lib.hid hT5
    clear hT5 HK
    go_upto_region 5 with (refine wpList_store_row rfl 26 _ _ rfl w4.heap.size Z5.toArray rfl rfl 26 _ (heap_alloc_new w4 _) hI5.out hS5.out hO5.out ?_)
    obtain ⟨w5, hw⟩ : ∃ x, x = (w4.alloc (.cells #[.int .u8 0, .bool false, .slice none 0 0, .slice none 0 0, .slice none 0 0] 26)).setRow w4.heap.size Z5.toArray := ⟨_, rfl⟩
    have b5 := (var_treeN (w := w4) (cs := Z5)).2
    have hv := (var_treeN (w := w4) (cs := Z5)).1
    rw [← hw] at b5 hv ⊢
    obtain ⟨K5, hK5⟩ : ∃ A, A = w4.heap.size := ⟨_, rfl⟩
    rw [← hK5] at hv ⊢
    have V5 := Lib.hid hv
    replace HT5 := Lib.hid (IsT.later b5 _ _ _ HT5.out)
    have B5 := Lib.hid (B4.out.trans (b5.mono B4.out.size))
    have HB5 := Lib.hid b5
    clear hw hv hK5 b5
    have V5' := Lib.hid (V4.out.below HB5.out V4.out.lt)
    have HT6 := Lib.hid (IsT.later HB5.out _ _ _ HT4.out)
    clear V4 HT4 HB5
    go_wp2_with (refine wpList_load_rowG (by rfl) 26 _ rfl K3 rfl 26 Z3.toArray (0, 0) _ V5'.out Try.underlying26 rfl hI3.out ?_)
    refine (rsame_any n3 Z3 _ 1 zeroL _ w5 HT6.out (HT7.out w5)).mono ?_
    rintro e w6 ⟨⟨r, rfl, hr⟩, b6⟩
    obtain rfl : r = true := hr.2 rfl
    have BE := Lib.hid (B5.out.trans (b6.mono B5.out.size))
    clear b6 hr
    go_wp2_with fail
    go_ret
    exact ⟨rfl, BE.out⟩
  · obtain ⟨rfl, rfl⟩ : c3 = 0 ∧ t3 = t5 := by
      rcases HH3.out with ⟨h1, _⟩ | ⟨h1, h2⟩
      · rw [hr] at h1; cases h1
      · rw [hr] at h1; cases h1; exact ⟨h2, rfl⟩
    clear hr
    have hI5 := Lib.hid (infoL (isT_five hT5))
    have hL5 : Hid ((Try.prog.info? 26).map (·.size) = some Z5.length) := Lib.hid (by rw [info5, isT_five hT5])
    have hS5 : Hid ((#[.int .u8 0, .bool false, .slice none 0 0, .slice none 0 0, .slice none 0 0] : Array Value).size = Z5.toArray.size) := Lib.hid (by simp [isT_five hT5])
    have hO5 := Lib.hid (isT_one hT5)
    have HT5 := Lib.hid hT5
    clear hT5 HK
    go_upto_region 5 with (refine wpList_store_row rfl 26 _ _ rfl w4.heap.size Z5.toArray rfl rfl 26 _ (heap_alloc_new w4 _) hI5.out hS5.out hO5.out ?_)
    obtain ⟨w5, hw⟩ : ∃ x, x = (w4.alloc (.cells #[.int .u8 0, .bool false, .slice none 0 0, .slice none 0 0, .slice none 0 0] 26)).setRow w4.heap.size Z5.toArray := ⟨_, rfl⟩
    have b5 := (var_treeN (w := w4) (cs := Z5)).2
    have hv := (var_treeN (w := w4) (cs := Z5)).1
    rw [← hw] at b5 hv ⊢
    obtain ⟨K5, hK5⟩ : ∃ A, A = w4.heap.size := ⟨_, rfl⟩
    rw [← hK5] at hv ⊢
    have V5 := Lib.hid hv
    replace HT5 := Lib.hid (IsT.later b5 _ _ _ HT5.out)
    have B5 := Lib.hid (B4.out.trans (b5.mono B4.out.size))
    have HB5 := Lib.hid b5
    clear hw hv hK5 b5
    have V5' := Lib.hid (V4.out.below HB5.out V4.out.lt)
    have HT6 := Lib.hid (IsT.later HB5.out _ _ _ HT4.out)
    clear V4 HT4 HB5
    go_wp2_with (first
      | (refine wpList_load_rowG (by rfl) 26 _ rfl K3 rfl 26 Z3.toArray (0, 0) _ V5'.out Try.underlying26 rfl hI3.out ?_)
      | (refine wpList_load_rowG (by rfl) 26 _ rfl K5 rfl 26 Z5.toArray (0, 0) _ V5.out Try.underlying26 rfl hI5.out ?_))
    refine (rsame_any n3 Z3 _ n5 Z5 _ w5 HT6.out HT5.out).mono ?_
    rintro e w6 ⟨⟨r, rfl, hr⟩, b6⟩
    obtain rfl : r = true := hr.2 rfl
    have BE := Lib.hid (B5.out.trans (b6.mono B5.out.size))
    clear b6 hr
    go_wp2_with fail
    go_ret
    exact ⟨rfl, BE.out⟩

theorem walk_NarReads (w : World) (a : Option Addr) (n cap : Nat) (R : List UInt8) (hB : IsB w a n cap R) :
    Calls Try.prog 4 #[.slice a n cap] w fun e w' => e = .returned (.bool true) ∧ Below w.heap.size w w' := by
  by_cases h : n ≤ 100000
  · exact reads_near w a n cap R hB h
  · exact reads_far w a n cap (by omega)

end Go.Proofs.Ythjihibocobndaa

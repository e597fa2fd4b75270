/-
  The walk of the law TreeKeeps: it returns true. Conditions: a global's kind; names, lists and texts are no longer than memory.
-/
import Derived.Test.YtmgfgldabjgmmaaDoorTDownWalk
import Derived.Test.YtmgfgldabjgmmaaDoorTRAt
import Derived.Test.YtmgfgldabjgmmaaDoorTSpoil
namespace Go.Proofs.YtmgfgldabjgmmaaDoor
open Go.RowKit
set_option linter.unusedVariables false

theorem Closed.later {w w' : World} {B : Nat} {G : Nat → Option (List T)} {cs : List Value} {t : T} (h : Closed w B G cs t) (hb : Below w.heap.size w w') : Closed w' B G cs t :=
  h.but (q := w.heap.size) (But.of_below hb) (far_new w) (fun ks hg => by
    obtain ⟨_, L, hL, _⟩ := h.1 _ _ hg
    have := hL.lt
    omega)

theorem closed_zero (w : World) (B : Nat) : Closed w B (fun _ => none) zT zeroT :=
  ⟨(fun b ks hg => by cases hg), .slice none 0 0, .slice none 0 0, none, 0, 0, rfl, World.ownsRow_nil _ _ _ _, World.ownsRow_nil _ _ _ _, rfl, Nat.le_refl _, Nat.zero_le _, .inl ⟨rfl, fun _ => rfl⟩⟩

/-- What At tells is in memory of its own. -/
def AtC (r : Int ⊕ T) (w : World) (e : Ending) (w' : World) : Prop := ∃ cs G, e = .returned (.tuple #[.agg cs.toArray, .int .i64 (codeR r)]) ∧ Closed w' w.heap.size G cs (resT r) ∧ Below w.heap.size w w'

theorem at_closed (n : Nat) (cs : List Value) (t : T) (s : ByteArray) (w : World) (ht : IsT w n cs t) (hsm : Small t) (hN : sizeN t ≤ 1000000) (hm : MaxW w) (hmx : 0 < w.heap.size) :
    Calls Tryd.prog 20 #[.agg cs.toArray, .string s] w (AtC (atT s.data.toList t) w) := by
  refine (at_any n cs t s w ht hsm hN hm hmx).mono fun e w' h => ?_
  cases hr : atT s.data.toList t with
  | inl c =>
    rw [hr] at h
    obtain ⟨he, hb⟩ := h
    exact ⟨zT, _, he, closed_zero w' _, hb⟩
  | inr x =>
    rw [hr] at h
    obtain ⟨cq, G, he, hc, hb⟩ := h
    exact ⟨cq, G, he, hc, hb⟩

theorem resT_small {s : List UInt8} {t : T} (hs : Small t) : Small (resT (atT s t)) := by
  cases hr : atT s t with
  | inl c => exact small_zero
  | inr x => exact (atT_small hr hs).1

set_option maxRecDepth 100000 in
set_option maxHeartbeats 20000000 in
theorem walk_TreeKeeps (w : World) (n : Nat) (cs : List Value) (t : T) (ht : IsT w n cs t) (hs : Small t) (p : ByteArray) (hp : p.size ≤ 140737488355328) (hm : MaxW w) :
    Calls Tryd.prog 7 #[.agg cs.toArray, .string p] w fun e w' => e = .returned (.bool true) ∧ Below w.heap.size w w' := by
  have hmx : 0 < w.heap.size := by
    obtain ⟨m, h⟩ := hm
    exact World.block_lt_of_cell? w _ h
  have hI := Lib.hid (infoL (isT_five ht))
  have HT := Lib.hid ht
  have HSM := Lib.hid hs
  have HM := Lib.hid hm
  clear ht hs hm
  go_enter Tryd.func7, Tryd.ntmps7
  go_upto_region 1 with fail
  obtain ⟨w1, hw1⟩ : ∃ w1, w1 = w.alloc (.cells cs.toArray 26) := ⟨_, rfl⟩
  have g1 : Has w1 w.heap.size cs 26 := by rw [hw1]; exact Has.new w cs _
  have b1 : Below w.heap.size w w1 := by rw [hw1]; exact (Below.refl _ _).alloc (Nat.le_refl _) _
  have s1 : w1.heap.size = w.heap.size + 1 := by rw [hw1]; simp
  rw [← hw1]
  have H1 := Lib.hid g1
  have B1 := Lib.hid b1
  clear hw1 g1 b1
  go_wp2_with (refine wpList_load_rowG (by rfl) 26 _ rfl w.heap.size rfl 26 cs.toArray (0, 0) _ H1.out Tryd.underlying26 rfl hI.out ?_)
  refine (great_any n cs t w1 (IsT.later B1.out _ _ _ HT.out) 500 (by omega) (by omega)).mono ?_
  rintro e w2 ⟨⟨gr, rfl⟩, b2⟩
  have H2 := Lib.hid (H1.out.below b2 (by omega))
  have B2 := Lib.hid (B1.out.trans (b2.mono (by omega)))
  have s2 := b2.size
  have HM2 := Lib.hid (HM.out.below B2.out hmx)
  clear b2 H1 B1
  cases gr
  · go_wp2_with fail
    refine (awake_any w2 HM2.out (by omega)).mono ?_
    rintro e w3 ⟨rfl, b3⟩
    have H3 := Lib.hid (H2.out.below b3 (by omega))
    have B3 := Lib.hid (B2.out.trans (b3.mono (by omega)))
    have s3 := b3.size
    have HM3 := Lib.hid (HM.out.below B3.out hmx)
    clear b3 H2 B2 HM2
    go_wp2_with (refine wpList_load_rowG (by rfl) 26 _ rfl w.heap.size rfl 26 cs.toArray (0, 0) _ H3.out Tryd.underlying26 rfl hI.out ?_)
    refine (rform_any n cs t w3 (IsT.later B3.out _ _ _ HT.out) HSM.out).mono ?_
    rintro e w4 ⟨rfl, b4⟩
    have H4 := Lib.hid (H3.out.below b4 (by omega))
    have B4 := Lib.hid (B3.out.trans (b4.mono (by omega)))
    have s4 := b4.size
    have HM4 := Lib.hid (HM.out.below B4.out hmx)
    clear b4 H3 B3 HM3
    cases hz : sizeT t with
    | none =>
      rw [show (none : Option (Nat × Nat)).isSome = false from rfl]
      clear hz
      go_wp2_with fail
      refine (awake_any w4 HM4.out (by omega)).mono ?_
      rintro e w5 ⟨rfl, b5⟩
      have BE := Lib.hid (B4.out.trans (b5.mono (by omega)))
      clear b5
      go_wp2_with fail
      go_ret
      exact ⟨rfl, BE.out⟩
    | some q =>
      rw [show (some q).isSome = true from rfl]
      have HZ := Lib.hid hz
      have HN := Lib.hid (size_most hz).2
      have HGOOD := Lib.hid (Good.of hz)
      clear hz
      obtain ⟨r, hr⟩ : ∃ r, r = atT p.data.toList t := ⟨_, rfl⟩
      have HR := Lib.hid hr
      have HRS : Hid (Small (resT r)) := Lib.hid (by rw [hr]; exact resT_small HSM.out)
      obtain ⟨c, hc⟩ : ∃ c, c = codeR r := ⟨_, rfl⟩
      have HC := Lib.hid hc
      clear hr hc
      have KC := Lib.hid (fun W (hb : Below w.heap.size w W) => copy_any n cs t W (IsT.later hb _ _ _ HT.out) HSM.out (by have := HN.out; omega))
      go_wp2_with (refine wpList_load_rowG (by rfl) 26 _ rfl w.heap.size rfl 26 cs.toArray (0, 0) _ H4.out Tryd.underlying26 rfl hI.out ?_)
      refine (KC.out w4 B4.out).mono ?_
      rintro e w5 ⟨x5, G5, rfl, cl5, b5⟩
      have t5 := cl5.isT HSM.out
      have s5 := b5.size
      have h5a := isT_five t5
      have HIa := Lib.hid (infoL h5a)
      have HSa : Hid ((#[.int .u8 0, .bool false, .slice none 0 0, .slice none 0 0, .slice none 0 0] : Array Value).size = x5.toArray.size) := Lib.hid (by simp [h5a])
      have HOa := Lib.hid (isT_one t5)
      obtain ⟨w6, hw6⟩ : ∃ w6, w6 = (((w5.alloc (.cells #[.int .u8 0, .bool false, .slice none 0 0, .slice none 0 0, .slice none 0 0] 26)).setRow w5.heap.size x5.toArray)) := ⟨_, rfl⟩
      obtain ⟨va, b6⟩ := var_tree (w := w5) h5a
      rw [← hw6] at va b6
      have Va := Lib.hid va
      have HTa := Lib.hid t5
      have HWa := Lib.hid hw6
      have s6 := b6.size
      have sva := va.lt
      have Q6 := Lib.hid (b5.trans (b6.mono s5))
      have B6 := Lib.hid (B4.out.trans (Q6.out.mono (by omega)))
      have TX6 := Lib.hid (IsT.later b6 _ _ _ t5)
      have H6 := Lib.hid (H4.out.below Q6.out (by omega))
      have H6' : Hid ((((w5.alloc (.cells #[.int .u8 0, .bool false, .slice none 0 0, .slice none 0 0, .slice none 0 0] 26)).setRow w5.heap.size x5.toArray)).heap[w.heap.size]? = some (.cells cs.toArray 26 (0, 0))) := Lib.hid (by rw [← hw6]; exact H6.out)
      clear b5 b6 t5 cl5 h5a va hw6
      go_wp2_with (first
        | (refine wpList_store_row rfl 26 _ _ rfl w5.heap.size x5.toArray rfl rfl 26 _ (heap_alloc_new w5 _) HIa.out HSa.out HOa.out ?_)
        | (refine wpList_load_rowG (by rfl) 26 _ rfl w.heap.size rfl 26 cs.toArray (0, 0) _ H6'.out Tryd.underlying26 rfl hI.out ?_))
      rw [← HWa.out]
      refine (KC.out w6 B6.out).mono ?_
      rintro e w7 ⟨y7, G7, rfl, cl7, b7⟩
      have t7 := cl7.isT HSM.out
      have s7 := b7.size
      have h5b := isT_five t7
      have HIb := Lib.hid (infoL h5b)
      have HSb : Hid ((#[.int .u8 0, .bool false, .slice none 0 0, .slice none 0 0, .slice none 0 0] : Array Value).size = y7.toArray.size) := Lib.hid (by simp [h5b])
      have HOb := Lib.hid (isT_one t7)
      obtain ⟨w8, hw8⟩ : ∃ w8, w8 = (((w7.alloc (.cells #[.int .u8 0, .bool false, .slice none 0 0, .slice none 0 0, .slice none 0 0] 26)).setRow w7.heap.size y7.toArray)) := ⟨_, rfl⟩
      obtain ⟨vb, b8⟩ := var_tree (w := w7) h5b
      rw [← hw8] at vb b8
      have Vb := Lib.hid vb
      have HTb := Lib.hid t7
      have HWb := Lib.hid hw8
      have s8 := b8.size
      have svb := vb.lt
      have R8 := Lib.hid (b7.trans (b8.mono s7))
      have Q8 := Lib.hid (Q6.out.trans (R8.out.mono (by omega)))
      have B8 := Lib.hid (B4.out.trans (Q8.out.mono (by omega)))
      have TX8 := Lib.hid (IsT.later R8.out _ _ _ TX6.out)
      have VX8 := Lib.hid (Va.out.below R8.out (by omega))
      have CL8 := Lib.hid (cl7.later b8)
      have TY8 := Lib.hid (IsT.later b8 _ _ _ t7)
      have VX8' : Hid ((((w7.alloc (.cells #[.int .u8 0, .bool false, .slice none 0 0, .slice none 0 0, .slice none 0 0] 26)).setRow w7.heap.size y7.toArray)).heap[w5.heap.size]? = some (.cells x5.toArray 26 (0, 0))) := Lib.hid (by rw [← hw8]; exact VX8.out)
      have HM8 := Lib.hid (HM.out.below B8.out hmx)
      clear b7 b8 t7 cl7 h5b vb hw8 KC H6' H6
      go_wp2_with (first
        | (refine wpList_store_row rfl 26 _ _ rfl w7.heap.size y7.toArray rfl rfl 26 _ (heap_alloc_new w7 _) HIb.out HSb.out HOb.out ?_)
        | (refine wpList_load_rowG (by rfl) 26 _ rfl w5.heap.size rfl 26 x5.toArray (0, 0) _ VX8'.out Tryd.underlying26 rfl HIa.out ?_))
      rw [← HWb.out]
      have K8 := at_closed _ x5 t p w8 TX8.out HSM.out (by have := HN.out; omega) HM8.out (by omega)
      rw [← HR.out] at K8
      refine K8.mono ?_
      rintro e w9 ⟨z9, G9, rfl, cl9, b9⟩
      rw [← HC.out]
      have t9 := cl9.isT HRS.out
      have s9 := b9.size
      have h5c := isT_five t9
      have HIc := Lib.hid (infoL h5c)
      have HSc : Hid ((#[.int .u8 0, .bool false, .slice none 0 0, .slice none 0 0, .slice none 0 0] : Array Value).size = z9.toArray.size) := Lib.hid (by simp [h5c])
      have HOc := Lib.hid (isT_one t9)
      obtain ⟨w10, hw10⟩ : ∃ w10, w10 = (((w9.alloc (.cells #[.int .u8 0, .bool false, .slice none 0 0, .slice none 0 0, .slice none 0 0] 26)).setRow w9.heap.size z9.toArray)) := ⟨_, rfl⟩
      obtain ⟨vc, b10⟩ := var_tree (w := w9) h5c
      rw [← hw10] at vc b10
      have Vc := Lib.hid vc
      have HTc := Lib.hid t9
      have HWc := Lib.hid hw10
      have s10 := b10.size
      have svc := vc.lt
      have S10 := Lib.hid (b9.trans (b10.mono s9))
      have CL10 := Lib.hid (cl9.later b10)
      have KSP := Lib.hid (spoil_any w8.heap.size G9 _ (resT r) z9 w10 (Nat.le_refl _) CL10.out.any.1 CL10.out.any.2 (by omega))
      have VC10' : Hid ((((w9.alloc (.cells #[.int .u8 0, .bool false, .slice none 0 0, .slice none 0 0, .slice none 0 0] 26)).setRow w9.heap.size z9.toArray)).heap[w9.heap.size]? = some (.cells z9.toArray 26 (0, 0))) := Lib.hid (by rw [← hw10]; exact vc)
      clear b9 b10 t9 cl9 h5c vc hw10 K8 VX8'
      go_wp2_with (first
        | (refine wpList_store_row rfl 26 _ _ rfl w9.heap.size z9.toArray rfl rfl 26 _ (heap_alloc_new w9 _) HIc.out HSc.out HOc.out ?_)
        | (refine wpList_load_rowG (by rfl) 26 _ rfl w9.heap.size rfl 26 z9.toArray (0, 0) _ VC10'.out Tryd.underlying26 rfl HIc.out ?_))
      rw [← HWc.out]
      refine KSP.out.mono ?_
      rintro e w11 ⟨rfl, sp11⟩
      have s11 := sp11.below.size
      have S11 := Lib.hid (S10.out.trans sp11.below)
      have VX11 := Lib.hid (VX8.out.below S11.out (by omega))
      have VY11 := Lib.hid (Vb.out.below S11.out (by omega))
      have TX11 := Lib.hid (IsT.later S11.out _ _ _ TX8.out)
      have TY11 := Lib.hid (IsT.later S11.out _ _ _ TY8.out)
      clear sp11 KSP VC10'
      go_wp2_with (first
        | (refine wpList_load_rowG (by rfl) 26 _ rfl w5.heap.size rfl 26 x5.toArray (0, 0) _ VX11.out Tryd.underlying26 rfl HIa.out ?_)
        | (refine wpList_load_rowG (by rfl) 26 _ rfl w7.heap.size rfl 26 y7.toArray (0, 0) _ VY11.out Tryd.underlying26 rfl HIb.out ?_))
      refine (rsame_any _ x5 t _ y7 t w11 TX11.out TY11.out).mono ?_
      rintro e w12 ⟨⟨rb, rfl, hrb⟩, b12⟩
      obtain rfl := hrb.2 rfl
      have s12 := b12.size
      have S12 := Lib.hid (S11.out.trans (b12.mono (by omega)))
      have CL12 := Lib.hid (CL8.out.later S12.out)
      have VY12 := Lib.hid (Vb.out.below S12.out (by omega))
      have KSP := Lib.hid (spoil_any w6.heap.size G7 _ t y7 w12 (Nat.le_refl _) CL12.out.any.1 CL12.out.any.2 (by omega))
      clear b12 hrb
      go_wp2_with (refine wpList_load_rowG (by rfl) 26 _ rfl w7.heap.size rfl 26 y7.toArray (0, 0) _ VY12.out Tryd.underlying26 rfl HIb.out ?_)
      refine KSP.out.mono ?_
      rintro e w13 ⟨rfl, sp13⟩
      have s13 := sp13.below.size
      have R13 := Lib.hid ((R8.out.trans (S12.out.mono (by omega))).trans sp13.below)
      have Q13 := Lib.hid (Q6.out.trans (R13.out.mono (by omega)))
      have B13 := Lib.hid (B4.out.trans (Q13.out.mono (by omega)))
      have VX13 := Lib.hid (Va.out.below R13.out (by omega))
      have TX13 := Lib.hid (IsT.later R13.out _ _ _ TX6.out)
      have HM13 := Lib.hid (HM.out.below B13.out hmx)
      have K13 := at_uni _ x5 t p w13 TX13.out HSM.out (by have := HN.out; omega) HM13.out (by omega)
      rw [← HR.out] at K13
      clear sp13 KSP
      go_wp2_with (refine wpList_load_rowG (by rfl) 26 _ rfl w5.heap.size rfl 26 x5.toArray (0, 0) _ VX13.out Tryd.underlying26 rfl HIa.out ?_)
      refine K13.mono ?_
      rintro e w14 ⟨n14, d14, rfl, t14, b14⟩
      rw [← HC.out]
      have s14 := b14.size
      have h5d := isT_five t14
      have HId := Lib.hid (infoL h5d)
      have HSd : Hid ((#[.int .u8 0, .bool false, .slice none 0 0, .slice none 0 0, .slice none 0 0] : Array Value).size = d14.toArray.size) := Lib.hid (by simp [h5d])
      have HOd := Lib.hid (isT_one t14)
      obtain ⟨w15, hw15⟩ : ∃ w15, w15 = (((w14.alloc (.cells #[.int .u8 0, .bool false, .slice none 0 0, .slice none 0 0, .slice none 0 0] 26)).setRow w14.heap.size d14.toArray)) := ⟨_, rfl⟩
      obtain ⟨vd, b15⟩ := var_tree (w := w14) h5d
      rw [← hw15] at vd b15
      have Vd := Lib.hid vd
      have HTd := Lib.hid t14
      have HWd := Lib.hid hw15
      have s15 := b15.size
      have svd := vd.lt
      have M15 := Lib.hid (b14.trans (b15.mono s14))
      have R15 := Lib.hid (R13.out.trans (M15.out.mono (by omega)))
      have Q15 := Lib.hid (Q6.out.trans (R15.out.mono (by omega)))
      have B15 := Lib.hid (B4.out.trans (Q15.out.mono (by omega)))
      have H15 := Lib.hid (H4.out.below Q15.out (by omega))
      have TD15 := Lib.hid (IsT.later b15 _ _ _ t14)
      have H15' : Hid ((((w14.alloc (.cells #[.int .u8 0, .bool false, .slice none 0 0, .slice none 0 0, .slice none 0 0] 26)).setRow w14.heap.size d14.toArray)).heap[w.heap.size]? = some (.cells cs.toArray 26 (0, 0))) := Lib.hid (by rw [← hw15]; exact H15.out)
      clear b14 b15 t14 h5d vd hw15 K13
      go_wp2_with (first
        | (refine wpList_store_row rfl 26 _ _ rfl w14.heap.size d14.toArray rfl rfl 26 _ (heap_alloc_new w14 _) HId.out HSd.out HOd.out ?_)
        | (refine wpList_load_rowG (by rfl) 26 _ rfl w.heap.size rfl 26 cs.toArray (0, 0) _ H15'.out Tryd.underlying26 rfl hI.out ?_))
      rw [← HWd.out]
      have K15 := rat_any n cs t p w15 (IsT.later B15.out _ _ _ HT.out) HGOOD.out
      rw [← HR.out] at K15
      refine K15.mono ?_
      rintro e w16 ⟨n16, x16, rfl, t16, b16⟩
      rw [← HC.out]
      have s16 := b16.size
      have t16 := IsT.later b16 _ _ _ t16
      have h5x := isT_five t16
      have HIx := Lib.hid (infoL h5x)
      have HSx : Hid ((#[.int .u8 0, .bool false, .slice none 0 0, .slice none 0 0, .slice none 0 0] : Array Value).size = x16.toArray.size) := Lib.hid (by simp [h5x])
      have HOx := Lib.hid (isT_one t16)
      obtain ⟨w17, hw17⟩ : ∃ w17, w17 = (((w16.alloc (.cells #[.int .u8 0, .bool false, .slice none 0 0, .slice none 0 0, .slice none 0 0] 26)).setRow w16.heap.size x16.toArray)) := ⟨_, rfl⟩
      obtain ⟨vx, b17⟩ := var_tree (w := w16) h5x
      rw [← hw17] at vx b17
      have Vx := Lib.hid vx
      have HTx := Lib.hid t16
      have HWx := Lib.hid hw17
      have s17 := b17.size
      have svx := vx.lt
      have N17 := Lib.hid (b16.trans (b17.mono s16))
      have R17 := Lib.hid (R15.out.trans (N17.out.mono (by omega)))
      have Q17 := Lib.hid (Q6.out.trans (R17.out.mono (by omega)))
      have B17 := Lib.hid (B4.out.trans (Q17.out.mono (by omega)))
      have H17 := Lib.hid (H4.out.below Q17.out (by omega))
      have VA17 := Lib.hid (Va.out.below R17.out (by omega))
      have VD17 := Lib.hid (Vd.out.below N17.out (by omega))
      have TX17 := Lib.hid (IsT.later R17.out _ _ _ TX6.out)
      have TD17 := Lib.hid (IsT.later N17.out _ _ _ TD15.out)
      have TR17 := Lib.hid (IsT.later b17 _ _ _ t16)
      have VX17 := Lib.hid vx
      have H17' : Hid ((((w16.alloc (.cells #[.int .u8 0, .bool false, .slice none 0 0, .slice none 0 0, .slice none 0 0] 26)).setRow w16.heap.size x16.toArray)).heap[w.heap.size]? = some (.cells cs.toArray 26 (0, 0))) := Lib.hid (by rw [← hw17]; exact H17.out)
      have VA17' : Hid ((((w16.alloc (.cells #[.int .u8 0, .bool false, .slice none 0 0, .slice none 0 0, .slice none 0 0] 26)).setRow w16.heap.size x16.toArray)).heap[w5.heap.size]? = some (.cells x5.toArray 26 (0, 0))) := Lib.hid (by rw [← hw17]; exact VA17.out)
      clear b16 b17 t16 h5x vx hw17 K15 H15'
      go_wp2_with (first
        | (refine wpList_store_row rfl 26 _ _ rfl w16.heap.size x16.toArray rfl rfl 26 _ (heap_alloc_new w16 _) HIx.out HSx.out HOx.out ?_)
        | (refine wpList_load_rowG (by rfl) 26 _ rfl w5.heap.size rfl 26 x5.toArray (0, 0) _ VA17'.out Tryd.underlying26 rfl HIa.out ?_)
        | (refine wpList_load_rowG (by rfl) 26 _ rfl w.heap.size rfl 26 cs.toArray (0, 0) _ H17'.out Tryd.underlying26 rfl hI.out ?_))
      rw [← HWx.out]
      refine (rsame_any _ x5 t n cs t w17 TX17.out (IsT.later B17.out _ _ _ HT.out)).mono ?_
      rintro e w18 ⟨⟨rb, rfl, hrb⟩, b18⟩
      obtain rfl := hrb.2 rfl
      have s18 := b18.size
      have B18 := Lib.hid (B17.out.trans (b18.mono (by omega)))
      have VD18 := Lib.hid (VD17.out.below b18 (by omega))
      have VX18 := Lib.hid (VX17.out.below b18 (by omega))
      have TD18 := Lib.hid (IsT.later b18 _ _ _ TD17.out)
      have TR18 := Lib.hid (IsT.later b18 _ _ _ TR17.out)
      clear b18 hrb H17' VA17'
      go_wp2_with (first
        | (refine wpList_load_rowG (by rfl) 26 _ rfl w14.heap.size rfl 26 d14.toArray (0, 0) _ VD18.out Tryd.underlying26 rfl HId.out ?_)
        | (refine wpList_load_rowG (by rfl) 26 _ rfl w16.heap.size rfl 26 x16.toArray (0, 0) _ VX18.out Tryd.underlying26 rfl HIx.out ?_))
      refine (rsame_any _ d14 (resT r) _ x16 (resT r) w18 TD18.out TR18.out).mono ?_
      rintro e w19 ⟨⟨rb, rfl, hrb⟩, b19⟩
      obtain rfl := hrb.2 rfl
      have B19 := Lib.hid (B18.out.trans (b19.mono (by omega)))
      clear b19 hrb
      go_wp2_with fail
      go_ret
      exact ⟨rfl, B19.out⟩
  · skip
    go_wp2_with fail
    refine (awake_any w2 HM2.out (by omega)).mono ?_
    rintro e w3 ⟨rfl, b3⟩
    have BE := Lib.hid (B2.out.trans (b3.mono (by omega)))
    clear b3
    go_wp2_with fail
    go_ret
    exact ⟨rfl, BE.out⟩

end Go.Proofs.YtmgfgldabjgmmaaDoor

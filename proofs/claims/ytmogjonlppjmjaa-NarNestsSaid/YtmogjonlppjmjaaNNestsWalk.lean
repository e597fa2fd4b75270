/-
  The walk of the law NarNests: it returns true. Conditions: names and lists are no longer than memory.
-/
import Derived.Test.YtmogjonlppjmjaaNUnlikeWalk
namespace Go.Proofs.Ytmogjonlppjmjaa
open Go.RowKit
set_option linter.unusedVariables false

theorem isT_cells {w : World} {n : Nat} {cs : List Value} {t : T} (h : IsT w n cs t) : ∃ (m : Nat) (k : UInt8) (x : Bool) (ad : Option Addr) (nd cd : Nat) (an : Option Addr) (nn cn : Nat) (ak : Option Addr) (nk ck : Nat), n = m + 1 ∧
    cs = [.int .u8 (k.toNat : Int), .bool x, .slice ad nd cd, .slice an nn cn, .slice ak nk ck] := by
  cases n with
  | zero => exact absurd h (by simp [IsT])
  | succ n =>
    obtain ⟨k, x, d, ns, ks⟩ := t
    obtain ⟨ad, nd, cd, an, nn, cn, ak, nk, ck, rfl, _⟩ := h
    exact ⟨n, k, x, ad, nd, cd, an, nn, cn, ak, nk, ck, rfl, rfl⟩

/-- A directory of one entry. -/
def dirN (nm : ByteArray) (t : T) : T := .mk 3 false [] [nm] [t]
def preN (nm : ByteArray) : List UInt8 := strN sMagic ++ (strN sOpen ++ (strN sType ++ (strN sDirectory ++ (strN sEntry ++ (strN sOpen ++ (strN sName ++ (strN nm.data.toList ++ strN sNode)))))))
theorem arch_dirN (nm : ByteArray) (t : T) : archT (dirN nm t) = preN nm ++ (nodeT t ++ (strN sClose ++ strN sClose)) := by
  have h := node_dir false [] [nm] [t] []
  rw [List.append_nil] at h
  unfold archT dirN preN
  rw [h]
  simp only [entsT, List.append_assoc, List.append_nil]
theorem preN_len (nm : ByteArray) : 24 < (preN nm).length := by
  unfold preN
  rw [List.length_append, List.length_append, strN_length, strN_length]
  have : sMagic.length = 13 := rfl
  omega
theorem preN_take (nm : ByteArray) : (preN nm).take 24 = [13, 0, 0, 0, 0, 0, 0, 0, 110, 105, 120, 45, 97, 114, 99, 104, 105, 118, 101, 45, 49, 0, 0, 0] := by
  unfold preN
  rw [List.take_append_of_le_length (by rw [strN_length]; have : sMagic.length = 13 := rfl; unfold padN; omega)]
  rfl
theorem node_pos (t : T) : 0 < (nodeT t).length := by
  cases t
  rw [nodeT, List.length_append, strN_length]; omega
theorem magic_len : (strN sMagic).length = 24 := rfl
theorem closes_len : (strN sClose ++ strN sClose).length = 32 := rfl

set_option maxRecDepth 100000 in
set_option maxHeartbeats 20000000 in
theorem walk_NarNests (w : World) (n : Nat) (cs : List Value) (t : T) (ht : IsT w n cs t) (hs : Small t) (a : ByteArray) (ha : a.size ≤ 140737488355328) :
    Calls Try.prog 4 #[.agg cs.toArray, .string a] w fun e w' => e = .returned (.bool true) ∧ Below w.heap.size w w' := by
  have hI := Lib.hid (infoL (isT_five ht))
  have hL5 : Hid ((Try.prog.info? 26).map (·.size) = some cs.length) := Lib.hid (by rw [info5, isT_five ht])
  have HT := Lib.hid ht
  have HSM := Lib.hid hs
  clear ht hs
  go_enter Try.func4, Try.ntmps4
  go_upto_region 1 with fail
  obtain ⟨w1, hw1⟩ : ∃ w1, w1 = w.alloc (.cells cs.toArray 26) := ⟨_, rfl⟩
  have g1 : Has w1 w.heap.size cs 26 := by rw [hw1]; exact Has.new w cs _
  have b1 : Below w.heap.size w w1 := by rw [hw1]; exact (Below.refl _ _).alloc (Nat.le_refl _) _
  rw [← hw1]
  have H1 := Lib.hid g1
  have B1 := Lib.hid b1
  clear hw1 g1 b1
  go_wp2_with (refine wpList_load_rowG (by rfl) 26 _ rfl w.heap.size rfl 26 cs.toArray (0, 0) _ H1.out Try.underlying26 rfl hI.out ?_)
  refine (great_sum n cs t w1 (IsT.later B1.out _ _ _ HT.out) 100 (by omega) (by omega)).mono ?_
  rintro e w2 ⟨⟨gr, rfl, -⟩, b2⟩
  have H2 := Lib.hid (H1.out.below b2 H1.out.lt)
  have B2 := Lib.hid (B1.out.trans (b2.mono B1.out.size))
  clear b2 B1 H1 
  cases gr
  · skip
    go_wp2_with fail
    refine (awake_any w2).mono ?_
    rintro e w3 ⟨rfl, b3⟩
    have H3 := Lib.hid (H2.out.below b3 H2.out.lt)
    have B3 := Lib.hid (B2.out.trans (b3.mono B2.out.size))
    clear b3 B2 H2 
    go_wp2_with (refine wpList_load_rowG (by rfl) 26 _ rfl w.heap.size rfl 26 cs.toArray (0, 0) _ H3.out Try.underlying26 rfl hI.out ?_)
    refine (rform_any n cs t w3 (IsT.later B3.out _ _ _ HT.out) HSM.out).mono ?_
    rintro e w4 ⟨rfl, b4⟩
    have H4 := Lib.hid (H3.out.below b4 H3.out.lt)
    have B4 := Lib.hid (B3.out.trans (b4.mono B3.out.size))
    clear b4 B3 H3 
    cases hz : sizeT t with
    | none =>
      rw [show (none : Option (Nat × Nat)).isSome = false from rfl]
      clear hz
      go_wp2_with fail
      refine (awake_any w4).mono ?_
      rintro e w5 ⟨rfl, b5⟩
      have BE := Lib.hid (B4.out.trans (b5.mono B4.out.size))
      clear b5
      go_wp2_with fail
      go_ret
      exact ⟨rfl, BE.out⟩
    | some q =>
      rw [show (some q).isSome = true from rfl]
      have HZ := Lib.hid hz
      clear hz
      have KN := Lib.hid (rname_any a w4 ha)
      go_wp2_with fail
      refine KN.out.mono ?_
      rintro e w4' ⟨rfl, rfl⟩
      cases hnm : tName a.data.toList
      · clear hnm
        go_wp2_with fail
        refine (awake_any w4).mono ?_
        rintro e w5 ⟨rfl, b5⟩
        have BE := Lib.hid (B4.out.trans (b5.mono B4.out.size))
        clear b5
        go_wp2_with fail
        go_ret
        exact ⟨rfl, BE.out⟩
      have HNM := Lib.hid hnm
      clear hnm
      obtain ⟨nn', kd, xx, ad, nd, cd, an, nn, cn, ak, nk, ck, rfl, rfl⟩ := isT_cells HT.out
      have hlt4 := H4.out.lt
      have hc0 := H4.out.cellAt (i := 0) rfl
      have hc1 := H4.out.cellAt (i := 1) rfl
      have hc2 := H4.out.cellAt (i := 2) rfl
      have hc3 := H4.out.cellAt (i := 3) rfl
      have hc4 := H4.out.cellAt (i := 4) rfl
      go_upto_region 4 with fail
      clear hc0 hc1 hc2 hc3 hc4 hlt4 KN
      obtain ⟨A, hA⟩ : ∃ A, A = w4.heap.size := ⟨_, rfl⟩
      rw [← hA]
      obtain ⟨x1, hx1⟩ : ∃ x1, x1 = w4.alloc (.cells #[.string a] 9) := ⟨_, rfl⟩
      obtain ⟨x2, hx2⟩ : ∃ x2, x2 = x1.alloc (.cells #[.int .u8 (kd.toNat : Int), .bool xx, .slice ad nd cd, .slice an nn cn, .slice ak nk ck] 26) := ⟨_, rfl⟩
      obtain ⟨w5, hx3⟩ : ∃ x3, x3 = x2.alloc (.cells #[.int .u8 3, .bool false, .slice none 0 0, .slice (some ⟨A, 0, none⟩) 1 1, .slice (some ⟨A + 1, 0, none⟩) 1 1] 26) := ⟨_, rfl⟩
      rw [← hx1, ← hx2, ← hx3]
      have e1 : x1.heap.size = A + 1 := by rw [hx1, hA]; simp
      have e2 : x2.heap.size = A + 1 + 1 := by rw [hx2, ← e1]; simp
      have u1 : Has x1 A [.string a] 9 := by rw [hx1, hA]; exact Has.new w4 _ _
      have u3 : Has w5 A [.string a] 9 := by rw [hx3, hx2]; exact (u1.alloc _).alloc _
      have v2 : Has x2 (A + 1) [.int .u8 (kd.toNat : Int), .bool xx, .slice ad nd cd, .slice an nn cn, .slice ak nk ck] 26 := by rw [hx2, ← e1]; exact Has.new x1 _ _
      have v3 : Has w5 (A + 1) [.int .u8 (kd.toNat : Int), .bool xx, .slice ad nd cd, .slice an nn cn, .slice ak nk ck] 26 := by rw [hx3]; exact v2.alloc _
      have z3 : Has w5 (A + 1 + 1) [.int .u8 3, .bool false, .slice none 0 0, .slice (some ⟨A, 0, none⟩) 1 1, .slice (some ⟨A + 1, 0, none⟩) 1 1] 26 := by rw [hx3, ← e2]; exact Has.new x2 _ _
      have b5 : Below w4.heap.size w4 w5 := by
        rw [hx3, hx2, hx1]
        exact (((Below.refl _ _).alloc (Nat.le_refl _) _).alloc (by simp) _).alloc (by simp; omega) _
      have TT := IsT.later (B4.out.trans (b5.mono B4.out.size)) _ _ _ HT.out
      have ml : (1 : Nat) ≤ maxLen := by unfold maxLen; omega
      have sD : IsS w5 (some ⟨A, 0, none⟩) 1 1 [a] := ⟨rfl, .inr ⟨_, _, rfl, u3.lt, fun i hi => by
        match i, hi with
        | 0, _ => exact u3.cellAt (i := 0) rfl⟩, (fun h => by cases h), ⟨Nat.le_refl _, ml⟩⟩
      have kD : IsK (IsT w5 (nn' + 1)) w5 (some ⟨A + 1, 0, none⟩) 1 1 [t] := ⟨rfl, .inr ⟨_, _, rfl, v3.lt, fun i hi => by
        match i, hi with
        | 0, _ => exact ⟨_, _, _, _, _, TT, v3.cellAt (i := 0) rfl, v3.cellAt (i := 1) rfl, v3.cellAt (i := 2) rfl, v3.cellAt (i := 3) rfl, v3.cellAt (i := 4) rfl⟩⟩, (fun h => by cases h), ⟨Nat.le_refl _, ml⟩⟩
      have tD : IsT w5 (nn' + 1 + 1) [.int .u8 3, .bool false, .slice none 0 0, .slice (some ⟨A, 0, none⟩) 1 1, .slice (some ⟨A + 1, 0, none⟩) 1 1] (dirN a t) := ⟨_, _, _, _, _, _, _, _, _, rfl, isB_no w5, sD, kD⟩
      obtain ⟨C, hC⟩ : ∃ C : List Value, C = [.int .u8 (kd.toNat : Int), .bool xx, .slice ad nd cd, .slice an nn cn, .slice ak nk ck] := ⟨_, rfl⟩
      obtain ⟨D, hD⟩ : ∃ D : List Value, D = [.int .u8 3, .bool false, .slice none 0 0, .slice (some ⟨A, 0, none⟩) 1 1, .slice (some ⟨A + 1, 0, none⟩) 1 1] := ⟨_, rfl⟩
      have hID := Lib.hid (infoL (isT_five tD))
      rw [← hD] at hID tD z3 ⊢
      rw [← hC] at H4 HT hI hL5 ⊢
      have HTD := Lib.hid tD
      have K5 := Lib.hid z3
      have HSD : Hid (Small (dirN a t)) := Lib.hid (Small.mk (fun i hi => by
        match i, hi with
        | 0, _ => exact ha) (fun i hi => by
        match i, hi with
        | 0, _ => exact HSM.out) (by simp))
      clear tD kD sD TT z3 v3 v2 u3 u1 e1 e2 hx1 hx2 hx3 hC hD hA ml
      have H5 := Lib.hid (H4.out.below b5 H4.out.lt)
      have B5 := Lib.hid (B4.out.trans (b5.mono B4.out.size))
      clear b5 B4 H4 
      go_wp2_with (refine wpList_load_rowG (by rfl) 26 _ rfl (A + 1 + 1) rfl 26 D.toArray (0, 0) _ K5.out Try.underlying26 rfl hID.out ?_)
      refine (write_any _ D (dirN a t) w5 HTD.out).mono ?_
      rintro e w6 ⟨b6, hwp⟩
      have HWP := Lib.hid hwp
      clear hwp
      have H6 := Lib.hid (H5.out.below b6 H5.out.lt)
      have K6 := Lib.hid (K5.out.below b6 K5.out.lt)
      replace HTD := Lib.hid (IsT.later b6 _ _ _ HTD.out)
      have B6 := Lib.hid (B5.out.trans (b6.mono B5.out.size))
      clear b6 B5 H5 K5 
      rcases HWP.out with ⟨hz0, rfl⟩ | ⟨hz1, gp, capp, rfl, hop⟩
      · have HZ0 := Lib.hid hz0
        clear hz0 HWP
        go_wp2_with (refine wpList_load_rowG (by rfl) 26 _ rfl w.heap.size rfl 26 C.toArray (0, 0) _ H6.out Try.underlying26 rfl hI.out ?_)
        refine (write_any (nn' + 1) C t w6 (IsT.later B6.out _ _ _ HT.out)).mono ?_
        rintro e w7 ⟨b7, hwq⟩
        obtain ⟨gq, capq, rfl, hoq⟩ := wrote_good HZ.out hwq
        obtain ⟨lq, hlq⟩ : ∃ l, l = (archT t).length := ⟨_, rfl⟩
        rw [← hlq] at hoq ⊢
        have LLq := Lib.hid hlq
        have ROq := Lib.hid hoq
        clear hoq hlq hwq
        have H7 := Lib.hid (H6.out.below b7 H6.out.lt)
        have K7 := Lib.hid (K6.out.below b7 K6.out.lt)
        replace HTD := Lib.hid (IsT.later b7 _ _ _ HTD.out)
        have B7 := Lib.hid (B6.out.trans (b7.mono B6.out.size))
        clear b7 B6 H6 K6 
        go_wp2_with (refine wpList_load_rowG (by rfl) 26 _ rfl (A + 1 + 1) rfl 26 D.toArray (0, 0) _ K7.out Try.underlying26 rfl hID.out ?_)
        refine (rform_any _ D (dirN a t) w7 HTD.out HSD.out).mono ?_
        rintro e w8 ⟨rfl, b8⟩
        rw [HZ0.out, show (none : Option (Nat × Nat)).isSome = false from rfl]
        have H8 := Lib.hid (H7.out.below b8 H7.out.lt)
        have K8 := Lib.hid (K7.out.below b8 K7.out.lt)
        replace HTD := Lib.hid (IsT.later b8 _ _ _ HTD.out)
        have B8 := Lib.hid (B7.out.trans (b8.mono B7.out.size))
        clear b8 B7 H7 K7 
        go_wp2_with fail
        go_ret
        exact ⟨rfl, B8.out⟩
      have HZ1 := Lib.hid hz1
      obtain ⟨qd, hqd⟩ : ∃ qd, sizeT (dirN a t) = some qd := Option.isSome_iff_exists.1 hz1
      have hlp : (archT (dirN a t)).length = (preN a).length + (nodeT t).length + 32 := by rw [arch_dirN, List.length_append, List.length_append, closes_len]; omega
      have hlp9 := arch_len hqd
      rw [hlp] at hop hlp9
      rw [hlp]
      obtain ⟨ln, hln⟩ : ∃ ln, ln = (nodeT t).length := ⟨_, rfl⟩
      obtain ⟨P, hP⟩ : ∃ P, P = (preN a).length := ⟨_, rfl⟩
      rw [← hln, ← hP] at hop hlp9 ⊢
      have hP24 : 24 < P := by rw [hP]; exact preN_len a
      have hln0 : 0 < ln := by rw [hln]; exact node_pos t
      have hcp : P + ln + 32 ≤ capp ∧ capp ≤ maxLen := by
        rcases hop.2 with ⟨h0, _⟩ | ⟨g', cap', cur', he, _, _, h1, h2, _⟩
        · cases h0
        · cases he; exact ⟨h1, h2⟩
      have hlnq : (archT t).length = ln + 24 := by rw [hln, archT, List.length_append, magic_len]; omega
      have HLN := Lib.hid hln
      have HP := Lib.hid hP
      have HLNQ := Lib.hid hlnq
      have HN1 : Hid (IsB w6 (some ⟨gp, P, none⟩) ln (capp - P) (nodeT t)) := Lib.hid (by
        have := row_sub hop (by omega) P ln (capp - P) (by omega) (by omega) (by omega)
        have e : ((archT (dirN a t)).drop P).take ln = nodeT t := by rw [arch_dirN, hP, List.drop_left, hln, List.take_left]
        rwa [e] at this)
      have HN2 : Hid (IsB w6 (some ⟨gp, 0, none⟩) 24 capp [13, 0, 0, 0, 0, 0, 0, 0, 110, 105, 120, 45, 97, 114, 99, 104, 105, 118, 101, 45, 49, 0, 0, 0]) := Lib.hid (by
        have := row_sub hop (by omega) 0 24 capp (by omega) (by omega) (by omega)
        rwa [arch_dirN, List.drop_zero, List.take_append_of_le_length (by omega), preN_take] at this)
      clear hop hlp hz1 hqd hln hP hlnq HWP
      go_wp2_with (refine wpList_load_rowG (by rfl) 26 _ rfl w.heap.size rfl 26 C.toArray (0, 0) _ H6.out Try.underlying26 rfl hI.out ?_)
      refine (write_any (nn' + 1) C t w6 (IsT.later B6.out _ _ _ HT.out)).mono ?_
      rintro e w7 ⟨b7, hwq⟩
      obtain ⟨gq, capq, rfl, hoq⟩ := wrote_good HZ.out hwq
      obtain ⟨lq, hlq⟩ : ∃ l, l = (archT t).length := ⟨_, rfl⟩
      rw [← hlq] at hoq ⊢
      have LLq := Lib.hid hlq
      have ROq := Lib.hid hoq
      clear hoq hlq hwq
      have H7 := Lib.hid (H6.out.below b7 H6.out.lt)
      have K7 := Lib.hid (K6.out.below b7 K6.out.lt)
      replace HTD := Lib.hid (IsT.later b7 _ _ _ HTD.out)
      replace HN1 := Lib.hid (HN1.out.later b7)
      replace HN2 := Lib.hid (HN2.out.later b7)
      have B7 := Lib.hid (B6.out.trans (b7.mono B6.out.size))
      clear b7 B6 H6 K6 
      obtain rfl : lq = ln + 24 := by rw [LLq.out, HLNQ.out]
      have hcq : ln + 24 ≤ capq ∧ capq ≤ maxLen := by
        rcases ROq.out.2 with ⟨h0, _⟩ | ⟨g', cap', cur', he, _, _, h1, h2, _⟩
        · cases h0
        · cases he; exact ⟨h1, h2⟩
      have HQ1 : Hid (IsB w7 (some ⟨gq, 24, none⟩) ln (capq - 24) (nodeT t)) := Lib.hid (by
        have := row_sub ROq.out (by omega) 24 ln (capq - 24) (by omega) (by omega) (by omega)
        rwa [archT, List.drop_append_of_le_length (by rw [magic_len]; omega), List.drop_of_length_le (by rw [magic_len]; omega), List.nil_append, List.take_of_length_le (by rw [HLN.out]; omega)] at this)
      have h24 : ¬ ((ln : Int) + 24 < 24) := by omega
      have hcq1 := hcq.1
      have hcq2 := hcq.2
      unfold maxLen at hcq2
      have hneq : ¬ capq = 24 := by omega
      clear hcq LLq
      go_wp2_with (refine wpList_load_rowG (by rfl) 26 _ rfl (A + 1 + 1) rfl 26 D.toArray (0, 0) _ K7.out Try.underlying26 rfl hID.out ?_)
      refine (rform_any _ D (dirN a t) w7 HTD.out HSD.out).mono ?_
      rintro e w8 ⟨rfl, b8⟩
      rw [HZ1.out]
      have H8 := Lib.hid (H7.out.below b8 H7.out.lt)
      have K8 := Lib.hid (K7.out.below b8 K7.out.lt)
      replace HTD := Lib.hid (IsT.later b8 _ _ _ HTD.out)
      replace HN1 := Lib.hid (HN1.out.later b8)
      replace HN2 := Lib.hid (HN2.out.later b8)
      replace HQ1 := Lib.hid (HQ1.out.later b8)
      have B8 := Lib.hid (B7.out.trans (b8.mono B7.out.size))
      clear b8 B7 H7 K7 
      go_upto_region 12 with fail
      rw [show (P : Int) + ln + 32 - ln - 32 = P by omega]
      clear hneq h24
      obtain ⟨sn, hsn⟩ : ∃ sn : ByteArray, sn = ⟨(nodeT t).toArray⟩ := ⟨_, rfl⟩
      have HSN := Lib.hid hsn
      have hP24i : (24 : Int) < (P : Int) := by omega
      have hcp1 := hcp.1
      have hcp2 := hcp.2
      unfold maxLen at hcp2
      have HWW : Hid (IntKind.i64.wrap ((P : Int) + (ln : Int)) = (P : Int) + ln) := Lib.hid (by simp [IntKind.wrap, IntKind.bits, IntKind.signed]; omega)
      have hnep : ¬ capp = P := by omega
      have htn : ((P : Int) + (ln : Int)).toNat = P + ln := by omega
      have hle1 : (P : Int) ≤ (P : Int) + ln := by omega
      have hle2 : (P : Int) + (ln : Int) ≤ capp := by omega
      have hle3 : (0 : Int) ≤ (P : Int) + ln := by omega
      have hsb : P + ln - P = ln := by omega
      clear hcp hsn
      refine wp_region_held_drew (S := fun W => IsB W (some ⟨gp, P, none⟩) ln (capp - P) (nodeT t) ∧ IsB W (some ⟨gp, 0, none⟩) 24 capp [13, 0, 0, 0, 0, 0, 0, 0, 110, 105, 120, 45, 97, 114, 99, 104, 105, 118, 101, 45, 49, 0, 0, 0] ∧ IsB W (some ⟨gq, 24, none⟩) ln (capq - 24) (nodeT t)) (by kernel_rfl) ⟨HN1.out.later (below_drewT (Below.refl _ _)), HN2.out.later (below_drewT (Below.refl _ _)), HQ1.out.later (below_drewT (Below.refl _ _))⟩ (fun hHeld => ?_)
      refine wpAnyH_take (i := 0) (oi := { dst := some 67, op := Op.move (Operand.tmp 10), type := 3, pos := "more.go:25", after := #[], guard := none }) (v := .int .i64 (P : Int)) rfl (by kernel_rfl) (by kernel_rfl) (by kernel_rfl) (fun _ _ _ h => h)
        (Or.inl ⟨by rfl, by intro w hSw;  clear hSw; go_simp⟩) hHeld ?_
      try simp only [Act.put, List.setIfInBounds_toArray, List.set_cons_zero, List.set_cons_succ]
      refine wpAnyH_take (i := 1) (oi := { dst := some 68, op := Op.binOp BinOp.gtr 3 (Operand.tmp 67) (Operand.const (Value.int IntKind.i64 24)) 3, type := 4, pos := "more.go:25", after := #[{ on := 0, ground := Ground.data }], guard := none }) (v := .bool true) rfl (by kernel_rfl) (by kernel_rfl) (by kernel_rfl) (fun _ _ _ h => h)
        (Or.inl ⟨by rfl, by intro w hSw;  clear hSw; go_simp⟩) hHeld ?_
      try simp only [Act.put, List.setIfInBounds_toArray, List.set_cons_zero, List.set_cons_succ]
      refine wpAnyH_take (i := 2) (oi := { dst := some 69, op := Op.move (Operand.tmp 68), type := 4, pos := "more.go:25", after := #[{ on := 1, ground := Ground.data }], guard := none }) (v := .bool true) rfl (by kernel_rfl) (by kernel_rfl) (by kernel_rfl) (fun _ _ _ h => h)
        (Or.inl ⟨by rfl, by intro w hSw;  clear hSw; go_simp⟩) hHeld ?_
      try simp only [Act.put, List.setIfInBounds_toArray, List.set_cons_zero, List.set_cons_succ]
      refine wpAnyH_take (i := 3) (oi := { dst := some 70, op := Op.move (Operand.tmp 6), type := 22, pos := "more.go:25", after := #[{ on := 2, ground := Ground.guard }], guard := some (2, true) }) (v := .slice (some ⟨gp, 0, none⟩) (P + ln + 32) capp) rfl (by kernel_rfl) (by kernel_rfl) (by kernel_rfl) (fun _ _ _ h => h)
        (Or.inl ⟨by rfl, by intro w hSw;  clear hSw; go_simp⟩) hHeld ?_
      try simp only [Act.put, List.setIfInBounds_toArray, List.set_cons_zero, List.set_cons_succ]
      refine wpAnyH_take (i := 4) (oi := { dst := some 71, op := Op.move (Operand.tmp 10), type := 3, pos := "more.go:25", after := #[{ on := 2, ground := Ground.guard }], guard := some (2, true) }) (v := .int .i64 (P : Int)) rfl (by kernel_rfl) (by kernel_rfl) (by kernel_rfl) (fun _ _ _ h => h)
        (Or.inl ⟨by rfl, by intro w hSw;  clear hSw; go_simp⟩) hHeld ?_
      try simp only [Act.put, List.setIfInBounds_toArray, List.set_cons_zero, List.set_cons_succ]
      refine wpAnyH_take (i := 5) (oi := { dst := some 72, op := Op.move (Operand.tmp 10), type := 3, pos := "more.go:25", after := #[{ on := 2, ground := Ground.guard }], guard := some (2, true) }) (v := .int .i64 (P : Int)) rfl (by kernel_rfl) (by kernel_rfl) (by kernel_rfl) (fun _ _ _ h => h)
        (Or.inl ⟨by rfl, by intro w hSw;  clear hSw; go_simp⟩) hHeld ?_
      try simp only [Act.put, List.setIfInBounds_toArray, List.set_cons_zero, List.set_cons_succ]
      refine wpAnyH_take (i := 6) (oi := { dst := some 73, op := Op.move (Operand.tmp 8), type := 22, pos := "more.go:25", after := #[{ on := 2, ground := Ground.guard }], guard := some (2, true) }) (v := .slice (some ⟨gq, 24, none⟩) ln (capq - 24)) rfl (by kernel_rfl) (by kernel_rfl) (by kernel_rfl) (fun _ _ _ h => h)
        (Or.inl ⟨by rfl, by intro w hSw;  clear hSw; go_simp⟩) hHeld ?_
      try simp only [Act.put, List.setIfInBounds_toArray, List.set_cons_zero, List.set_cons_succ]
      refine wpAnyH_take (i := 7) (oi := { dst := some 74, op := Op.call { callee := Callee.builtin Builtin.len, args := #[Operand.tmp 73], argTypes := #[22] }, type := 3, pos := "more.go:25", after := #[{ on := 6, ground := Ground.data }, { on := 2, ground := Ground.guard }], guard := some (2, true) }) (v := .int .i64 (ln : Int)) rfl (by kernel_rfl) (by kernel_rfl) (by kernel_rfl) (fun _ _ _ h => h)
        (Or.inl ⟨by rfl, by intro w hSw;  clear hSw; go_simp⟩) hHeld ?_
      try simp only [Act.put, List.setIfInBounds_toArray, List.set_cons_zero, List.set_cons_succ]
      refine wpAnyH_take (i := 8) (oi := { dst := some 75, op := Op.binOp BinOp.add 3 (Operand.tmp 72) (Operand.tmp 74) 3, type := 3, pos := "more.go:25", after := #[{ on := 5, ground := Ground.data }, { on := 7, ground := Ground.data }, { on := 2, ground := Ground.guard }], guard := some (2, true) }) (v := .int .i64 ((P : Int) + ln)) rfl (by kernel_rfl) (by kernel_rfl) (by kernel_rfl) (fun _ _ _ h => h)
        (Or.inl ⟨by rfl, by intro w hSw;  clear hSw; go_simp; exact HWW.out⟩) hHeld ?_
      try simp only [Act.put, List.setIfInBounds_toArray, List.set_cons_zero, List.set_cons_succ]
      refine wpAnyH_take (i := 9) (oi := { dst := some 76, op := Op.slice 22 (Operand.tmp 70) (some (Operand.tmp 71)) (some (Operand.tmp 75)) none, type := 22, pos := "more.go:25", after := #[{ on := 3, ground := Ground.data }, { on := 4, ground := Ground.data }, { on := 8, ground := Ground.data }, { on := 2, ground := Ground.guard }], guard := some (2, true) }) (v := .slice (some ⟨gp, P, none⟩) ln (capp - P)) rfl (by kernel_rfl) (by kernel_rfl) (by kernel_rfl) (fun _ _ _ h => h)
        (Or.inl ⟨by rfl, by intro w hSw;  clear hSw; go_simp⟩) hHeld ?_
      try simp only [Act.put, List.setIfInBounds_toArray, List.set_cons_zero, List.set_cons_succ]
      refine wpAnyH_take (i := 10) (oi := { dst := some 77, op := Op.convert 22 9 (Operand.tmp 76), type := 9, pos := "more.go:25", after := #[{ on := 9, ground := Ground.data }, { on := 2, ground := Ground.guard }], guard := some (2, true) }) (v := .string sn) rfl (by kernel_rfl) (by kernel_rfl) (by kernel_rfl) (fun _ _ _ h => h)
        (Or.inl ⟨by rfl, by intro w hSw; have hcv := convert_b hSw.1; rw [← HSN.out] at hcv; clear hSw; go_simp⟩) hHeld ?_
      try simp only [Act.put, List.setIfInBounds_toArray, List.set_cons_zero, List.set_cons_succ]
      refine wpAnyH_take (i := 11) (oi := { dst := some 78, op := Op.move (Operand.tmp 8), type := 22, pos := "more.go:25", after := #[{ on := 2, ground := Ground.guard }], guard := some (2, true) }) (v := .slice (some ⟨gq, 24, none⟩) ln (capq - 24)) rfl (by kernel_rfl) (by kernel_rfl) (by kernel_rfl) (fun _ _ _ h => h)
        (Or.inl ⟨by rfl, by intro w hSw;  clear hSw; go_simp⟩) hHeld ?_
      try simp only [Act.put, List.setIfInBounds_toArray, List.set_cons_zero, List.set_cons_succ]
      refine wpAnyH_take (i := 12) (oi := { dst := some 79, op := Op.convert 22 9 (Operand.tmp 78), type := 9, pos := "more.go:25", after := #[{ on := 11, ground := Ground.data }, { on := 2, ground := Ground.guard }], guard := some (2, true) }) (v := .string sn) rfl (by kernel_rfl) (by kernel_rfl) (by kernel_rfl) (fun _ _ _ h => h)
        (Or.inl ⟨by rfl, by intro w hSw; have hcv := convert_b hSw.2.2; rw [← HSN.out] at hcv; clear hSw; go_simp⟩) hHeld ?_
      try simp only [Act.put, List.setIfInBounds_toArray, List.set_cons_zero, List.set_cons_succ]
      refine wpAnyH_take (i := 13) (oi := { dst := some 80, op := Op.binOp BinOp.eql 9 (Operand.tmp 77) (Operand.tmp 79) 9, type := 4, pos := "more.go:25", after := #[{ on := 10, ground := Ground.data }, { on := 12, ground := Ground.data }, { on := 2, ground := Ground.guard }], guard := some (2, true) }) (v := .bool true) rfl (by kernel_rfl) (by kernel_rfl) (by kernel_rfl) (fun _ _ _ h => h)
        (Or.inl ⟨by rfl, by intro w hSw;  clear hSw; go_simp⟩) hHeld ?_
      try simp only [Act.put, List.setIfInBounds_toArray, List.set_cons_zero, List.set_cons_succ]
      refine wpAnyH_take (i := 14) (oi := { dst := some 81, op := Op.pick (Operand.tmp 69) (Operand.tmp 80) (Operand.const (Value.bool false)), type := 4, pos := "more.go:25", after := #[{ on := 2, ground := Ground.data }, { on := 13, ground := Ground.data }], guard := none }) (v := .bool true) rfl (by kernel_rfl) (by kernel_rfl) (by kernel_rfl) (fun _ _ _ h => h)
        (Or.inl ⟨by rfl, by intro w hSw;  clear hSw; go_simp⟩) hHeld ?_
      try simp only [Act.put, List.setIfInBounds_toArray, List.set_cons_zero, List.set_cons_succ]
      refine wpAnyH_take (i := 15) (oi := { dst := some 82, op := Op.move (Operand.tmp 81), type := 4, pos := "more.go:25", after := #[{ on := 14, ground := Ground.data }, { on := 2, ground := Ground.chain }], guard := none }) (v := .bool true) rfl (by kernel_rfl) (by kernel_rfl) (by kernel_rfl) (fun _ _ _ h => h)
        (Or.inl ⟨by rfl, by intro w hSw;  clear hSw; go_simp⟩) hHeld ?_
      try simp only [Act.put, List.setIfInBounds_toArray, List.set_cons_zero, List.set_cons_succ]
      refine wpAnyH_take (i := 16) (oi := { dst := some 83, op := Op.move (Operand.tmp 6), type := 22, pos := "more.go:25", after := #[{ on := 15, ground := Ground.guard }], guard := some (15, true) }) (v := .slice (some ⟨gp, 0, none⟩) (P + ln + 32) capp) rfl (by kernel_rfl) (by kernel_rfl) (by kernel_rfl) (fun _ _ _ h => h)
        (Or.inl ⟨by rfl, by intro w hSw;  clear hSw; go_simp⟩) hHeld ?_
      try simp only [Act.put, List.setIfInBounds_toArray, List.set_cons_zero, List.set_cons_succ]
      refine wpAnyH_take (i := 17) (oi := { dst := some 84, op := Op.slice 22 (Operand.tmp 83) none (some (Operand.const (Value.int IntKind.i64 24))) none, type := 22, pos := "more.go:25", after := #[{ on := 16, ground := Ground.data }, { on := 15, ground := Ground.guard }], guard := some (15, true) }) (v := .slice (some ⟨gp, 0, none⟩) 24 capp) rfl (by kernel_rfl) (by kernel_rfl) (by kernel_rfl) (fun _ _ _ h => h)
        (Or.inl ⟨by rfl, by intro w hSw;  clear hSw; go_simp; intro h24; omega⟩) hHeld ?_
      try simp only [Act.put, List.setIfInBounds_toArray, List.set_cons_zero, List.set_cons_succ]
      refine wpAnyH_take (i := 18) (oi := { dst := some 85, op := Op.convert 22 9 (Operand.tmp 84), type := 9, pos := "more.go:25", after := #[{ on := 17, ground := Ground.data }, { on := 15, ground := Ground.guard }], guard := some (15, true) }) (v := .string ⟨#[13, 0, 0, 0, 0, 0, 0, 0, 110, 105, 120, 45, 97, 114, 99, 104, 105, 118, 101, 45, 49, 0, 0, 0]⟩) rfl (by kernel_rfl) (by kernel_rfl) (by kernel_rfl) (fun _ _ _ h => h)
        (Or.inl ⟨by rfl, by intro w hSw; have hcv := convert_b hSw.2.1; clear hSw; go_simp⟩) hHeld ?_
      try simp only [Act.put, List.setIfInBounds_toArray, List.set_cons_zero, List.set_cons_succ]
      refine wpAnyH_take (i := 19) (oi := { dst := some 86, op := Op.binOp BinOp.eql 9 (Operand.tmp 85) (Operand.const (Value.string { data := #[13, 0, 0, 0, 0, 0, 0, 0, 110, 105, 120, 45, 97, 114, 99, 104, 105, 118, 101, 45, 49, 0, 0, 0] })) 9, type := 4, pos := "more.go:25", after := #[{ on := 18, ground := Ground.data }, { on := 15, ground := Ground.guard }], guard := some (15, true) }) (v := .bool true) rfl (by kernel_rfl) (by kernel_rfl) (by kernel_rfl) (fun _ _ _ h => h)
        (Or.inl ⟨by rfl, by intro w hSw;  clear hSw; go_simp⟩) hHeld ?_
      try simp only [Act.put, List.setIfInBounds_toArray, List.set_cons_zero, List.set_cons_succ]
      refine wpAnyH_take (i := 20) (oi := { dst := some 87, op := Op.pick (Operand.tmp 82) (Operand.tmp 86) (Operand.const (Value.bool false)), type := 4, pos := "more.go:25", after := #[{ on := 15, ground := Ground.data }, { on := 19, ground := Ground.data }], guard := none }) (v := .bool true) rfl (by kernel_rfl) (by kernel_rfl) (by kernel_rfl) (fun _ _ _ h => h)
        (Or.inl ⟨by rfl, by intro w hSw;  clear hSw; go_simp⟩) hHeld ?_
      try simp only [Act.put, List.setIfInBounds_toArray, List.set_cons_zero, List.set_cons_succ]
      refine wpAnyH_take (i := 21) (oi := { dst := some 4, op := Op.assign (Operand.tmp 87), type := 4, pos := "more.go:25", after := #[{ on := 20, ground := Ground.data }, { on := 15, ground := Ground.chain }, { on := 0, ground := Ground.phase }, { on := 1, ground := Ground.phase }, { on := 2, ground := Ground.phase }, { on := 3, ground := Ground.phase }, { on := 4, ground := Ground.phase }, { on := 5, ground := Ground.phase }, { on := 6, ground := Ground.phase }, { on := 7, ground := Ground.phase }, { on := 8, ground := Ground.phase }, { on := 9, ground := Ground.phase }, { on := 10, ground := Ground.phase }, { on := 11, ground := Ground.phase }, { on := 12, ground := Ground.phase }, { on := 13, ground := Ground.phase }, { on := 14, ground := Ground.phase }, { on := 15, ground := Ground.phase }, { on := 16, ground := Ground.phase }, { on := 17, ground := Ground.phase }, { on := 18, ground := Ground.phase }, { on := 19, ground := Ground.phase }, { on := 20, ground := Ground.phase }], guard := none }) (v := .bool true) rfl (by kernel_rfl) (by kernel_rfl) (by kernel_rfl) (fun _ _ _ h => h)
        (Or.inl ⟨by rfl, by intro w hSw;  clear hSw; go_simp⟩) hHeld ?_
      try simp only [Act.put, List.setIfInBounds_toArray, List.set_cons_zero, List.set_cons_succ]
      refine wpAnyH_done (by kernel_rfl) ?_ _
      clear hHeld
      go_wp2_with fail
      go_ret
      exact ⟨rfl, B8.out.drew⟩
  · skip
    go_wp2_with fail
    refine (awake_any w2).mono ?_
    rintro e w3 ⟨rfl, b3⟩
    have BE := Lib.hid (B2.out.trans (b3.mono B2.out.size))
    clear b3
    go_wp2_with fail
    go_ret
    exact ⟨rfl, BE.out⟩

end Go.Proofs.Ytmogjonlppjmjaa

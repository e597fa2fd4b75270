/-
  Whether two trees are alike, what is in them aside: the program's alike. No conditions.
-/
import Derived.Test.YtmgfgldabjgmmaaDoorTRSame
import Derived.Test.YtmgfgldabjgmmaaDoorTRAt
import Derived.Test.YtmgfgldabjgmmaaDoorShelf
namespace Go.Proofs.YtmgfgldabjgmmaaDoor
open Go.RowKit
set_option linter.unusedVariables false

def headEq : T → T → Prop
  | .mk k x d ns ks, .mk k' x' d' ns' ks' => k' = k ∧ x' = x ∧ d' = d ∧ ns' = ns ∧ ks'.length = ks.length

def AlikePost (a b : T) (w : World) (e : Ending) (w' : World) : Prop := (∃ r : Bool, e = .returned (.bool r) ∧ (r = true ↔ headEq a b)) ∧ Below w.heap.size w w'
theorem alike_no {a b : T} {w w' : World} {e : Ending} (he : e = .returned (.bool false)) (h : ¬ headEq a b) (hb : Below w.heap.size w w') : AlikePost a b w e w' := ⟨⟨false, he, by simp [h]⟩, hb⟩
theorem alike_yes {a b : T} {w w' : World} {e : Ending} (he : e = .returned (.bool true)) (h : headEq a b) (hb : Below w.heap.size w w') : AlikePost a b w e w' := ⟨⟨true, he, by simp [h]⟩, hb⟩

/-- Are two lists of texts alike: the library's Equal. -/
theorem equalS {w : World} {a a' : Option Addr} {n c n' c' : Nat} {l l' : List ByteArray} (h : IsS w a n c l) (h' : IsS w a' n' c' l') :
    Calls Tryd.prog 45 #[.slice a n c, .slice a' n' c'] w fun e w' => e = .returned (.bool (decide (l' = l))) ∧ Below w.heap.size w w' := by
  have e1 := h.length
  have e2 := h'.length
  have r1 := h.room
  have r2 := h'.room
  unfold maxLen at r1 r2
  by_cases hn : n = n'
  · subst hn
    rcases h.at_ with h0 | ⟨b, o, rfl, _, hc⟩
    · subst h0
      obtain rfl : l = [] := List.eq_nil_of_length_eq_zero e1
      obtain rfl : l' = [] := List.eq_nil_of_length_eq_zero e2
      refine (Tryd.slices_Equal_string_empty a a' c 0 c' w (by omega)).mono fun e w' ⟨he, hw⟩ => ?_
      subst hw
      exact ⟨by rw [he]; simp, Below.refl _ _⟩
    · rcases h'.at_ with h0 | ⟨b', o', rfl, _, hc'⟩
      · subst h0
        obtain rfl : l = [] := List.eq_nil_of_length_eq_zero e1
        obtain rfl : l' = [] := List.eq_nil_of_length_eq_zero e2
        refine (Tryd.slices_Equal_string_empty _ a' c 0 c' w (by omega)).mono fun e w' ⟨he, hw⟩ => ?_
        subst hw
        exact ⟨by rw [he]; simp, Below.refl _ _⟩
      · refine (Tryd.slices_Equal_string b o n c b' o' n c' l l' w (by omega) (by omega) (by omega) (by omega) (fun j hj => hc j (by omega)) (fun j hj => hc' j (by omega))).mono fun e w' ⟨he, q, hw⟩ => ?_
        subst hw
        refine ⟨?_, below_drewN (Below.refl _ _) _⟩
        rw [he, List.take_of_length_le (by omega), List.take_of_length_le (by omega)]
        congr 2
        exact decide_eq_decide.2 ⟨fun h => h.symm, fun h => h.symm⟩
  · refine (Tryd.slices_Equal_string_lens a a' n c n' c' w hn).mono fun e w' ⟨he, hw⟩ => ?_
    subst hw
    refine ⟨?_, Below.refl _ _⟩
    have : ¬ l' = l := fun e => hn (by rw [← e1, ← e2, e])
    rw [he]; simp [this]

theorem equalB {w : World} {a a' : Option Addr} {n c n' c' : Nat} {l l' : List UInt8} (h : IsB w a n c l) (h' : IsB w a' n' c' l') :
    Calls Tryd.prog 44 #[.slice a n c, .slice a' n' c'] w fun e w' => e = .returned (.bool (decide (l' = l))) ∧ Below w.heap.size w w' := by
  refine (Tryd.bytes_Equal_strs _ _ _ _ w (convert_b h) (convert_b h')).mono fun e w' ⟨he, hw⟩ => ?_
  subst hw
  refine ⟨?_, Below.refl _ _⟩
  rw [he, ByteArray.toList_eq, ByteArray.toList_eq]
  congr 2
  by_cases e : l' = l
  · subst e; simp
  · have e' : ¬ l = l' := fun h => e h.symm
    simp [e, e']

set_option maxRecDepth 100000 in
set_option maxHeartbeats 20000000 in
theorem alike_any (n : Nat) (cs : List Value) (a : T) (m : Nat) (ds : List Value) (b : T) (w : World) (ht : IsT w n cs a) (ht' : IsT w m ds b) :
    Calls Tryd.prog 36 #[.agg cs.toArray, .agg ds.toArray] w (AlikePost a b w) := by
  cases n with
  | zero => exact absurd ht (by simp [IsT])
  | succ n =>
  cases m with
  | zero => exact absurd ht' (by simp [IsT])
  | succ m =>
  obtain ⟨k, x, d, ns, ks⟩ := a
  obtain ⟨k', x', d', ns', ks'⟩ := b
  obtain ⟨ad, nd, cd, an, nn, cn, ak, nk, ck, rfl, hB, hS, hK⟩ := ht
  obtain ⟨ad', nd', cd', an', nn', cn', ak', nk', ck', rfl, hB', hS', hK'⟩ := ht'
  have HS := Lib.hid hS
  have HS' := Lib.hid hS'
  have HKL := Lib.hid hK.length
  have HKL' := Lib.hid hK'.length
  have HB := Lib.hid hB
  have HB' := Lib.hid hB'
  clear hB hS hK hB' hS' hK'
  go_enter Tryd.func36, Tryd.ntmps36
  go_upto_region 1 with fail
  obtain ⟨w1, hw1⟩ : ∃ w1, w1 = w.alloc (.cells #[.int .u8 (k.toNat : Int), .bool x, .slice ad nd cd, .slice an nn cn, .slice ak nk ck] 26) := ⟨_, rfl⟩
  have e1 : w1.heap.size = w.heap.size + 1 := by rw [hw1]; simp
  have x1 : Has w1 w.heap.size [.int .u8 (k.toNat : Int), .bool x, .slice ad nd cd, .slice an nn cn, .slice ak nk ck] 26 := by rw [hw1]; exact Has.new w _ _
  have b1 : Below w.heap.size w w1 := by rw [hw1]; exact (Below.refl _ _).alloc (Nat.le_refl _) _
  rw [← hw1]
  obtain ⟨w2, hw2⟩ : ∃ w2, w2 = w1.alloc (.cells #[.int .u8 (k'.toNat : Int), .bool x', .slice ad' nd' cd', .slice an' nn' cn', .slice ak' nk' ck'] 26) := ⟨_, rfl⟩
  have y2 : Has w2 (w.heap.size + 1) [.int .u8 (k'.toNat : Int), .bool x', .slice ad' nd' cd', .slice an' nn' cn', .slice ak' nk' ck'] 26 := by rw [hw2, ← e1]; exact Has.new w1 _ _
  have x2 : Has w2 w.heap.size [.int .u8 (k.toNat : Int), .bool x, .slice ad nd cd, .slice an nn cn, .slice ak nk ck] 26 := by rw [hw2]; exact x1.alloc _
  have b2 : Below w.heap.size w w2 := by rw [hw2]; exact b1.alloc b1.size _
  have e2 : w2.heap.size = w.heap.size + 1 + 1 := by rw [hw2, ← e1]; simp
  rw [← hw2]
  obtain ⟨g, hg⟩ : ∃ g, g = w.heap.size := ⟨_, rfl⟩
  rw [← hg] at x2 y2 b2 e2 ⊢
  have HG := Lib.hid hg
  clear hw1 hw2 x1 b1 e1 hg
  have KB := Lib.hid (equalB (HB.out.later (by rw [← HG.out]; exact b2)) (HB'.out.later (by rw [← HG.out]; exact b2)))
  have cx0 := x2.cellAt (i := 0) rfl
  have cx1 := x2.cellAt (i := 1) rfl
  have cx2 := x2.cellAt (i := 2) rfl
  have cy0 := y2.cellAt (i := 0) rfl
  have cy1 := y2.cellAt (i := 1) rfl
  have cy2 := y2.cellAt (i := 2) rfl
  have X2 := Lib.hid x2
  have Y2 := Lib.hid y2
  have B2 := Lib.hid b2
  clear x2 y2 b2
  by_cases hk : k' = k
  · subst hk
    by_cases hx : x' = x
    · subst hx
      go_wp2_with fail
      refine KB.out.mono ?_
      rintro e w3 ⟨rfl, b3⟩
      have X3 := Lib.hid (X2.out.below b3 (by omega))
      have Y3 := Lib.hid (Y2.out.below b3 (by omega))
      have B3 := Lib.hid (B2.out.trans (b3.mono (by omega)))
      have s3 := b3.size
      clear b3 KB cx0 cx1 cx2 cy0 cy1 cy2 X2 Y2 B2
      by_cases hd : d' = d
      · subst hd
        have KS := Lib.hid (equalS (HS.out.later (by rw [← HG.out]; exact B3.out)) (HS'.out.later (by rw [← HG.out]; exact B3.out)))
        have cx3 := X3.out.cellAt (i := 3) rfl
        have cy3 := Y3.out.cellAt (i := 3) rfl
        rw [show decide (d' = d') = true by simp]
        go_wp2_with fail
        refine KS.out.mono ?_
        rintro e w4 ⟨rfl, b4⟩
        have X4 := Lib.hid (X3.out.below b4 (by omega))
        have Y4 := Lib.hid (Y3.out.below b4 (by omega))
        have B4 := Lib.hid (B3.out.trans (b4.mono (by omega)))
        clear b4 KS cx3 cy3 X3 Y3 B3
        by_cases hn : ns' = ns
        · subst hn
          rw [show decide (ns' = ns') = true by simp]
          have cx4 := X4.out.cellAt (i := 4) rfl
          have cy4 := Y4.out.cellAt (i := 4) rfl
          by_cases hkk : nk' = nk
          · have HE : Hid (headEq (.mk k' x' d' ns' ks) (.mk k' x' d' ns' ks')) := Lib.hid ⟨rfl, rfl, rfl, rfl, by rw [HKL.out, HKL'.out]; exact hkk⟩
            subst hkk
            go_wp2_with fail
            go_ret
            exact alike_yes rfl HE.out (by rw [← HG.out]; exact B4.out)
          · have HE : Hid (¬ headEq (.mk k' x' d' ns' ks) (.mk k' x' d' ns' ks')) := Lib.hid (fun h => hkk (by rw [← HKL.out, ← HKL'.out]; exact h.2.2.2.2))
            have h1 : ((nk : Int) != (nk' : Int)) = true := by rw [bne_iff_ne]; omega
            have h2 : ((nk : Int) == (nk' : Int)) = false := by rw [beq_eq_false_iff_ne]; omega
            have h3 : (nk == nk') = false := by rw [beq_eq_false_iff_ne]; omega
            have h4 : ¬ nk = nk' := by omega
            clear hkk
            go_wp2_with fail
            go_ret
            exact alike_no rfl HE.out (by rw [← HG.out]; exact B4.out)
        · have HE : Hid (¬ headEq (.mk k' x' d' ns ks) (.mk k' x' d' ns' ks')) := Lib.hid (fun h => hn h.2.2.2.1)
          rw [show decide (ns' = ns) = false by simp [hn]]
          clear hn
          go_wp2_with fail
          go_ret
          exact alike_no rfl HE.out (by rw [← HG.out]; exact B4.out)
      · have HE : Hid (¬ headEq (.mk k' x' d ns ks) (.mk k' x' d' ns' ks')) := Lib.hid (fun h => hd h.2.2.1)
        rw [show decide (d' = d) = false by simp [hd]]
        clear hd
        go_wp2_with fail
        go_ret
        exact alike_no rfl HE.out (by rw [← HG.out]; exact B3.out)
    · have HE : Hid (¬ headEq (.mk k' x d ns ks) (.mk k' x' d' ns' ks')) := Lib.hid (fun h => hx h.2.1)
      cases x <;> cases x'
      · exact absurd rfl hx
      · clear hx
        go_wp2_with fail
        go_ret
        exact alike_no rfl HE.out (by rw [← HG.out]; exact B2.out)
      · clear hx
        go_wp2_with fail
        go_ret
        exact alike_no rfl HE.out (by rw [← HG.out]; exact B2.out)
      · exact absurd rfl hx
  · have HE : Hid (¬ headEq (.mk k x d ns ks) (.mk k' x' d' ns' ks')) := Lib.hid (fun h => hk h.1)
    obtain ⟨z, hz⟩ : ∃ z : Int, z = (k.toNat : Int) := ⟨_, rfl⟩
    obtain ⟨z', hz'⟩ : ∃ z : Int, z = (k'.toNat : Int) := ⟨_, rfl⟩
    have hzz : ¬ z = z' := fun e => hk (UInt8.toNat_inj.1 (by omega))
    rw [← hz] at cx0
    rw [← hz'] at cy0
    have h1 : (z != z') = true := by rw [bne_iff_ne]; exact hzz
    have h2 : (z == z') = false := by rw [beq_eq_false_iff_ne]; exact hzz
    clear hk hz hz'
    go_wp2_with fail
    go_ret
    exact alike_no rfl HE.out (by rw [← HG.out]; exact B2.out)

end Go.Proofs.YtmgfgldabjgmmaaDoor

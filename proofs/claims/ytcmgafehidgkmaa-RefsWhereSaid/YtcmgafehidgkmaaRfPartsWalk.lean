/-
  The walk of the law RefsParts. Conditions: bounds on the lengths.
-/
import Derived.Test.YtcmgafehidgkmaaRfApp
namespace Go.Proofs.Ytcmgafehidgkmaa
open Go.RowKit
set_option linter.unusedVariables false

/-- An answer held against a list in its order. -/
theorem same_lists {w : World} {B B' : Nat} {v v' : Value} {o o' : List ByteArray} (h : w.ownsRow B 9 1 v o.length (o.map Value.string)) (h' : w.ownsRow B' 9 1 v' o'.length (o'.map Value.string)) (he : o.map btsOf = o'.map btsOf) (hl : o.length ≤ 100000) (hl' : o'.length ≤ 100000) :
    Calls Try.prog 9 #[v, v'] w fun e w3 => e = .returned (.bool true) ∧ Below w.heap.size w w3 := by
  obtain ⟨a, c, rfl, hs, _⟩ := isS_of_owns h
  obtain ⟨a', c', rfl, hs', _⟩ := isS_of_owns h'
  refine (rfsame_any a a' _ _ c c' o o' w hs hs' (by omega) (by omega)).mono ?_
  rintro e w3 ⟨b, rfl, hbt, hb3⟩
  have : b = true := hbt.2 (map_inj he)
  rw [this]
  exact ⟨rfl, hb3⟩

/-- Rows of two types are two. -/
theorem own_two {w : World} {B B' size size' n n' : Nat} {e e' : TypeId} {v v' : Value} {xs xs' : List Value} (h : w.ownsRow B e size v n xs) (h' : w.ownsRow B' e' size' v' n' xs') (hne : e ≠ e') : v.ownBlock = none ∨ v.ownBlock ≠ v'.ownBlock := by
  rcases h.2 with ⟨rfl, _⟩ | ⟨g, cap, cur, rfl, _, hg, _⟩
  · left; rfl
  · rcases h'.2 with ⟨rfl, _⟩ | ⟨g', cap', cur', rfl, _, hg', _⟩
    · right; simp [Value.ownBlock]
    · right
      intro e2
      have e3 : g = g' := by simpa [Value.ownBlock] using e2
      subst e3
      rw [hg] at hg'
      injection hg' with hg'
      injection hg' with _ h2
      exact hne h2

set_option maxRecDepth 100000 in
set_option maxHeartbeats 2000000 in
theorem walk_RefsParts (w : World) (a : Option Addr) (n cap : Nat) (p : List UInt8) (hB : IsB w a n cap p) (ab : Option Addr) (nb capb : Nat) (pb : List UInt8) (hBb : IsB w ab nb capb pb) (a' : Option Addr) (m cap' : Nat) (l : List ByteArray) (hS : IsS w a' m cap' l) (hsz : ∀ i, i < l.length → (l.getD i ⟨#[]⟩).size ≤ 140737488355328) :
    Calls Try.prog 6 #[.slice a n cap, .slice ab nb capb, .slice a' m cap'] w fun e w' => e = .returned (.bool true) ∧ Below w.heap.size w w' := by
  obtain ⟨i0, hi, hz0, hz1, hz2⟩ := info_parts info_str
  have HI := Lib.hid hi
  have HZ0 := Lib.hid hz0
  have HZ1 := Lib.hid hz1
  have HZ2 := Lib.hid hz2
  obtain ⟨j0, hj, hy0, hy1, hy2⟩ := info_parts Nam.info_u8
  have HJ := Lib.hid hj
  have HY0 := Lib.hid hy0
  have HY1 := Lib.hid hy1
  have HY2 := Lib.hid hy2
  have HBB := Lib.hid hB
  have HBC := Lib.hid hBb
  have HS := Lib.hid hS
  have hll := hS.length
  have hl1 := hB.length
  have hl2 := hBb.length
  clear hi hz0 hz1 hz2 hj hy0 hy1 hy2 hB hBb hS hsz
  go_enter Try.func6, Try.ntmps6
  go_wp2_with fail
  refine (awake_any w).mono ?_
  rintro e w1 ⟨rfl, b1⟩
  have B1 := Lib.hid b1
  clear b1
  have hr1 := HBB.out.most
  have hr2 := HBC.out.most
  have w1' : IntKind.i64.wrap ((n : Int) + (nb : Int)) = (n : Int) + (nb : Int) := IntWalk.i64_in _ (by omega)
  by_cases hm : m ≤ 20
  · have hm' : ¬ (20 : Int) < (m : Int) := by omega
    by_cases hn : n + nb ≤ 5000
    · have hn' : ¬ (5000 : Int) < (n : Int) + (nb : Int) := by omega
      have hn1 : (n : Int) ≤ 5000 := by omega
      have hn2 : (nb : Int) ≤ 5000 := by omega
      obtain ⟨B0, hB0⟩ : ∃ B0, B0 = w.heap.size := ⟨_, rfl⟩
      have HB0 := Lib.hid hB0
      rw [← hB0] at B1
      have hs1 : B0 ≤ w1.heap.size := by rw [hB0]; exact B1.out.size
      clear hB0
      go_upto_region 4 with fail
      go_wp2_with (at_builtin; go_must (refine Nam.wpList_append_bytes rfl (.tmp 25) (.tmp 26) 22 rfl B0 5 j0 Try.underlying22 HJ.out HY0.out HY1.out HY2.out _ 0 [] rfl (World.ownsRow_nil _ _ _ _) a n cap p rfl (toNam (HBB.out.later (by rw [← HB0.out]; exact B1.out))) (by omega) hs1 ?_))
      intro v2 w2 ho2 hg2
      have hb2 : Below B0 w w2 := below_grown B1.out hs1 (World.ownsRow_nil _ _ 5 1) hg2
      have HO2 := Lib.hid ho2
      have HB2 := Lib.hid hb2
      have hs2 : B0 ≤ w2.heap.size := by rw [HB0.out]; exact hb2.size
      have hI2 : Nam.IsB (w2.alloc (.cells #[.int .u8 46] 5)) (some ⟨w2.heap.size, 0, none⟩) 1 1 [46] := Nam.Has.isB (l := [46]) (Has.new w2 [.int .u8 46] 5) (by decide)
      have hs2' : B0 ≤ (w2.alloc (.cells #[.int .u8 46] 5)).heap.size := by simp; omega
      clear ho2 hg2 hb2
      go_wp2_with (at_builtin; go_must (refine Nam.wpList_append_bytes rfl (.tmp 28) (.tmp 29) 22 rfl B0 5 j0 Try.underlying22 HJ.out HY0.out HY1.out HY2.out _ n p rfl (HO2.out.alloc _) (some ⟨w2.heap.size, 0, none⟩) 1 1 [46] rfl hI2 (by omega) hs2' ?_))
      intro v3 w3 ho3 hg3
      have hb3 : Below B0 w w3 := below_grown (HB2.out.alloc hs2 _) hs2' (HO2.out.alloc _) hg3
      have HO3 : Hid (w3.ownsRow B0 5 1 v3 (n + 1) ((p ++ [46]).map Nam.bv)) := Lib.hid (by rw [List.map_append]; exact ho3)
      have HB3 := Lib.hid hb3
      have hs3 : B0 ≤ w3.heap.size := by rw [HB0.out]; exact hb3.size
      clear ho3 hg3 hb3 hI2 hs2'
      go_wp2_with (at_builtin; go_must (refine Nam.wpList_append_bytes rfl (.tmp 31) (.tmp 32) 22 rfl B0 5 j0 Try.underlying22 HJ.out HY0.out HY1.out HY2.out _ (n + 1) (p ++ [46]) rfl HO3.out ab nb capb pb rfl (toNam (HBC.out.later (by rw [← HB0.out]; exact HB3.out))) (by omega) hs3 ?_))
      intro v4 w4 ho4 hg4
      have hb4 : Below B0 w w4 := below_grown HB3.out hs3 HO3.out hg4
      have hpp : p ++ [46] ++ pb = p ++ 46 :: pb := by simp
      have ho4 : w4.ownsRow B0 5 1 v4 (n + 1 + nb) ((p ++ 46 :: pb).map Nam.bv) := by
        rw [← hpp, List.map_append, List.map_append]
        first | exact ho4 | simpa using ho4
      obtain ⟨a4, c4, rfl, hI4⟩ := isB_owns ho4 (by omega)
      have HO4 := Lib.hid ho4
      have HI4 := Lib.hid hI4
      have HB4 := Lib.hid hb4
      have hs4 : B0 ≤ w4.heap.size := by rw [HB0.out]; exact hb4.size
      clear ho4 hg4 hb4 hI4 hpp
      go_wp2_with fail
      refine (bytes_any a n cap p a' m cap' l w4 (HBB.out.later (by rw [← HB0.out]; exact HB4.out)) (by omega) (HS.out.later (by rw [← HB0.out]; exact HB4.out)) (by omega)).mono ?_
      rintro e w5 ⟨v5, o5, rfl, hq5, ho5, hl5, hb5⟩
      have HQ5 := Lib.hid hq5
      have HO5 := Lib.hid (owns_lower ho5 hs4)
      have HI5 := Lib.hid (HI4.out.later hb5)
      have HB5 : Hid (Below B0 w w5) := Lib.hid (HB4.out.trans (hb5.mono hs4))
      have hs5 : B0 ≤ w5.heap.size := by rw [HB0.out]; exact HB5.out.size
      obtain ⟨a5, c5, rfl, hS5, _⟩ := isS_of_owns ho5
      have HS5 := Lib.hid hS5
      have HP5 := Lib.hid (own_later HO4.out hb5)
      clear hq5 ho5 hb5 hS5 HI4 HO4
      go_wp2_with (at_builtin; go_must (refine wpList_append_strs rfl (.tmp 34) (.tmp 37) 23 rfl B0 9 i0 Try.underlying23 HI.out HZ0.out HZ1.out HZ2.out _ 0 [] rfl (World.ownsRow_nil _ _ _ _) a5 o5.length c5 o5 rfl HS5.out (by omega) hs5 ?_))
      intro v6 w6 ho6 hg6
      have hb56 : Below w5.heap.size w5 w6 := ⟨hg6.os, hg6.tape, hg6.output, hg6.size, fun k hk => hg6.block k hk (by simp [Value.ownBlock])⟩
      have HB6 : Hid (Below B0 w w6) := Lib.hid (HB5.out.trans (hb56.mono hs5))
      have HO6 := Lib.hid ho6
      have HI6 := Lib.hid (HI5.out.later hb56)
      have hs6 : B0 ≤ w6.heap.size := by rw [HB0.out]; exact HB6.out.size
      have HP6 := Lib.hid (own_later HP5.out hb56)
      clear ho6 hg6 hb56 HI5 HP5
      go_wp2_with fail
      refine (bytes_any ab nb capb pb a' m cap' l w6 (HBC.out.later (by rw [← HB0.out]; exact HB6.out)) (by omega) (HS.out.later (by rw [← HB0.out]; exact HB6.out)) (by omega)).mono ?_
      rintro e w7 ⟨v7, o7, rfl, hq7, ho7, hl7, hb7⟩
      have HQ7 := Lib.hid hq7
      have HI7 := Lib.hid (HI6.out.later hb7)
      have HO6' := Lib.hid (own_later HO6.out hb7)
      have HB7 : Hid (Below B0 w w7) := Lib.hid (HB6.out.trans (hb7.mono hs6))
      have hs7 : B0 ≤ w7.heap.size := by rw [HB0.out]; exact HB7.out.size
      obtain ⟨a7, c7, rfl, hS7, _⟩ := isS_of_owns ho7
      have HS7 := Lib.hid hS7
      have HP7 := Lib.hid (own_later HP6.out hb7)
      clear hq7 ho7 hb7 hS7 HI6 HO6 HP6
      go_wp2_with (at_builtin; go_must (refine wpList_append_strs rfl (.tmp 39) (.tmp 42) 23 rfl B0 9 i0 Try.underlying23 HI.out HZ0.out HZ1.out HZ2.out _ o5.length o5 rfl HO6'.out a7 o7.length c7 o7 rfl HS7.out (by omega) hs7 ?_))
      intro v8 w8 ho8 hg8
      have ho8' : w8.ownsRow B0 9 1 v8 (o5.length + o7.length) ((o5 ++ o7).map Value.string) := by first | exact ho8 | (rw [List.map_append]; exact ho8)
      have hp8 := HP7.out.kept hg8 (by
        rcases own_two HP7.out HO6'.out (by decide) with h | h
        · exact .inl h
        · exact .inr h)
      have hb8 : Below B0 w w8 := below_grown HB7.out hs7 HO6'.out hg8
      have hs8 : B0 ≤ w8.heap.size := by rw [HB0.out]; exact hb8.size
      obtain ⟨a8, c8, e8, hI8⟩ := isB_owns hp8 (by omega)
      have e8a : a4 = a8 := by injection e8
      have e8c : c4 = c8 := by injection e8
      subst e8a
      subst e8c
      have HO8 := Lib.hid ho8'
      have HI8 := Lib.hid hI8
      have HB8 := Lib.hid hb8
      clear ho8 ho8' hp8 hb8 hg8 hI8 HI7 HP7 HO6' e8
      go_wp2_with fail
      refine (bytes_any a4 _ c4 (p ++ 46 :: pb) a' m cap' l w8 HI8.out (by omega) (HS.out.later (by rw [← HB0.out]; exact HB8.out)) (by omega)).mono ?_
      rintro e w9 ⟨v9, o9, rfl, hq9, ho9, hl9, hb9⟩
      have HQ9 := Lib.hid hq9
      have HO9 := Lib.hid ho9
      have HO8' := Lib.hid (own_later HO8.out hb9)
      have HB9 : Hid (Below B0 w w9) := Lib.hid (HB8.out.trans (hb9.mono hs8))
      have hs9 : B0 ≤ w9.heap.size := by rw [HB0.out]; exact HB9.out.size
      obtain ⟨a9, c9, rfl⟩ := row_form2 HO8'.out
      have hal : (o5 ++ o7).length = o5.length + o7.length := List.length_append
      have hrow : w9.ownsRow B0 9 1 (.slice a9 (o5.length + o7.length) c9) (o5 ++ o7).length ((o5 ++ o7).map Value.string) := by rw [hal]; exact HO8'.out
      obtain ⟨b9, d9, e9, hS9, _⟩ := isS_of_owns hrow
      have e9a : a9 = b9 := by injection e9
      have e9c : c9 = d9 := by injection e9
      subst e9a
      subst e9c
      rw [hal] at hS9
      have HS9 := Lib.hid hS9
      clear hq9 ho9 hb9 hrow hS9 hal HO8 e9
      go_wp2_with fail
      refine (rsort_any a9 (o5.length + o7.length) c9 (o5 ++ o7) w9 HS9.out (by omega)).mono ?_
      rintro e w10 ⟨v10, o10, rfl, hq10, ho10, hl10, hb10⟩
      have HQ10 := Lib.hid hq10
      have HO10 := Lib.hid ho10
      have HO9' := Lib.hid (own_later HO9.out hb10)
      have HB10 : Hid (Below B0 w w10) := Lib.hid (HB9.out.trans (hb10.mono hs9))
      have hs10 : B0 ≤ w10.heap.size := by rw [HB0.out]; exact HB10.out.size
      clear hq10 ho10 hb10
      have heq : o9.map btsOf = o10.map btsOf := by
        rw [HQ9.out, HQ10.out, List.map_append, HQ5.out, HQ7.out]
        exact parts_math _ _ _
      have HSM := Lib.hid (same_lists HO9'.out HO10.out heq (by omega) (by omega))
      clear heq
      go_wp2_with fail
      refine HSM.out.mono ?_
      rintro e w11 ⟨rfl, b11⟩
      have HB11 := Lib.hid (HB10.out.trans (b11.mono hs10))
      clear b11
      go_wp2_with fail
      refine bodyPost_ret (results_tmp rfl _ _ _) rfl ?_
      exact ⟨rfl, by rw [← HB0.out]; exact HB11.out⟩
    · have hn' : (5000 : Int) < (n : Int) + (nb : Int) := by omega
      go_wp2_with fail
      refine (awake_any w1).mono ?_
      rintro e w2 ⟨rfl, b2⟩
      have B2 := Lib.hid (B1.out.trans (b2.mono B1.out.size))
      clear b2
      go_wp2_with fail
      refine bodyPost_ret (results_tmp rfl _ _ _) rfl ?_
      exact ⟨rfl, B2.out⟩
  · have hm' : (20 : Int) < (m : Int) := by omega
    go_wp2_with fail
    refine (awake_any w1).mono ?_
    rintro e w2 ⟨rfl, b2⟩
    have B2 := Lib.hid (B1.out.trans (b2.mono B1.out.size))
    clear b2
    go_wp2_with fail
    refine bodyPost_ret (results_tmp rfl _ _ _) rfl ?_
    exact ⟨rfl, B2.out⟩

end Go.Proofs.Ytcmgafehidgkmaa

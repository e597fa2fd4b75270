/-
  The walks of the laws NamingNames, NamingPaths, NamingParses: each returns true. No conditions.
-/
import Derived.Test.YthomkagbcoaipaaIs
import Derived.BigFrame
namespace Go.Proofs.Ythomkagbcoaipaa
open Go.RowKit
set_option linter.unusedVariables false

theorem path_list (d : List UInt8) (s : ByteArray) : (pathB d s).data.toList = enc d ++ 45 :: s.data.toList := by
  simp [pathB, ByteArray.data_append]

theorem parse_path (d n : List UInt8) (hd : d.length = 20) (hn : isName n = true) : parseP (enc d ++ 45 :: n) = some (d, n) := by
  have hl : (enc d).length = 32 := by rw [enc_length, hd]; rfl
  have h1 : (enc d ++ 45 :: n).take 32 = enc d := by rw [← hl]; simp
  have h2 : (enc d ++ 45 :: n).drop 32 = 45 :: n := by rw [← hl]; simp
  have h3 : (enc d ++ 45 :: n).drop 33 = n := by
    have : (enc d ++ 45 :: n).drop 33 = ((enc d ++ 45 :: n).drop 32).drop 1 := by rw [List.drop_drop]
    rw [this, h2]; rfl
  unfold parseP
  rw [h1, h2, h3, if_pos ⟨by simp; omega, by simp [dash], hn⟩, dec_enc]
  rfl

theorem enc_zero : enc zU = List.replicate 32 48 := by decide +kernel
theorem path_zero : pathB zU ⟨#[97]⟩ = ⟨#[48, 48, 48, 48, 48, 48, 48, 48, 48, 48, 48, 48, 48, 48, 48, 48, 48, 48, 48, 48, 48, 48, 48, 48, 48, 48, 48, 48, 48, 48, 48, 48, 45, 97]⟩ := by
  apply bytes_ext
  rw [path_list, enc_zero]
  rfl
theorem zero_is : parseP [48, 48, 48, 48, 48, 48, 48, 48, 48, 48, 48, 48, 48, 48, 48, 48, 48, 48, 48, 48, 48, 48, 48, 48, 48, 48, 48, 48, 48, 48, 48, 48, 45, 97] = some (zU, [97]) := by
  have h := parse_path zU [97] rfl (by decide)
  rw [enc_zero] at h
  exact h

set_option maxRecDepth 100000 in
set_option maxHeartbeats 4000000 in
theorem awake_any (w : World) :
    Calls Try.prog 6 #[] w fun e w' => e = .returned (.bool true) ∧ Below w.heap.size w w' := by
  go_enter Try.func6, Try.ntmps6
  go_wp2_with fail
  refine (path_yes zU ⟨#[97]⟩ w rfl (by decide)).mono ?_
  rintro e w1 ⟨rfl, b1⟩
  rw [path_zero]
  have B1 := Lib.hid b1
  clear b1
  go_wp2_with fail
  refine (is_any _ _).mono ?_
  rintro e w2 ⟨rfl, b2⟩
  have B2 := Lib.hid (B1.out.trans (b2.mono B1.out.size))
  rw [show (parseP (⟨#[48, 48, 48, 48, 48, 48, 48, 48, 48, 48, 48, 48, 48, 48, 48, 48, 48, 48, 48, 48, 48, 48, 48, 48, 48, 48, 48, 48, 48, 48, 48, 48, 45, 97]⟩ : ByteArray).data.toList).isSome = true from by rw [zero_is]; rfl]
  clear b2
  go_wp2_with fail
  go_ret
  exact ⟨rfl, B2.out⟩

set_option maxRecDepth 100000 in
set_option maxHeartbeats 4000000 in
theorem walk_NamingNames (w : World) (s : ByteArray) (_w0 : s.size ≤ maxLen) (m0 : s.size ≤ 140737488355328) :
    Calls Try.prog 3 #[.string s] w fun e w' => e = .returned (.bool true) ∧ Below w.heap.size w w' := by
  go_enter Try.func3, Try.ntmps3
  go_wp2_with fail
  refine (awake_any w).mono ?_
  rintro e w1 ⟨rfl, b1⟩
  have B1 := Lib.hid b1
  clear b1
  go_wp2_with fail
  refine (name_any s _).mono ?_
  rintro e w2 ⟨rfl, rfl⟩
  go_wp2_with fail
  refine (rname_any s _ m0).mono ?_
  rintro e w2 ⟨rfl, rfl⟩
  go_wp2_with fail
  go_ret
  refine ⟨?_, B1.out⟩
  simp

/-- The load of a whole row, at an operation whose guard says yes. -/
theorem wpList_load_rowG {P : Program} {ops : Array Oper} {rest : List Oper} {o : Oper} {a : Act} {w : World} {Q : Exit → Act → World → Prop} (hw : Region.wanted o (yielded ops a.tmps) = true) (ty : TypeId) (x : Operand) (ho : o.op = .load ty x)
    (g : Nat) (hx : a.eval x = .pointer (some ⟨g, 0, none⟩)) (t : TypeId) (cs : Array Value) (fr : Nat × Nat) (d : TypeDesc) (hg : w.heap[g]? = some (.cells cs t fr))
    (hu : P.underlying ty = some d) (hd : (match d with | .struct _ | .array _ _ => true | _ => false) = true) (hi : (P.info? ty).map (·.size) = some cs.size)
    (h : wpList P ops Q rest (a.put o.dst (.agg cs)) w) : wpList P ops Q (o :: rest) a w :=
  BigFrame.wpList_want hw fun _ hK => wp_load_row ty x ho g hx t cs fr d hg hu hd hi (hK _ _ h)

set_option maxRecDepth 100000 in
set_option maxHeartbeats 8000000 in
theorem walk_NamingParses (w : World) (s : ByteArray) (_w0 : s.size ≤ maxLen) (m0 : s.size ≤ 140737488355328) :
    Calls Try.prog 5 #[.string s] w fun e w' => e = .returned (.bool true) ∧ Below w.heap.size w w' := by
  obtain ⟨O, hO⟩ : ∃ O, O = parseP s.data.toList := ⟨_, rfl⟩
  have HO := Lib.hid hO
  have hnot : ∀ (x : Bool) (w : World), (Op.unary .not (.bool x)).run Try.prog w = .ok (.bool (!x)) w := fun _ _ => rfl
  have hgd := guard_20
  clear hO
  go_enter Try.func5, Try.ntmps5
  go_wp2_with fail
  refine (awake_any w).mono ?_
  rintro e w1 ⟨rfl, b1⟩
  have B1 := Lib.hid b1
  clear b1
  go_wp2_with fail
  refine (parse_any s _).mono ?_
  rintro e w2 hq
  have b2 := hq.2.2
  obtain ⟨D, n, k, rfl, hD, hk⟩ := parse_form hq
  rw [← HO.out] at hk
  have hc := c20 D hD
  obtain ⟨C, hC⟩ : ∃ C, C = (D.map bv).toArray := ⟨_, rfl⟩
  rw [← hC] at hc ⊢
  have HCD := Lib.hid hC
  have HC := Lib.hid hc
  have I1 := Lib.hid hc.info
  have I2 := Lib.hid hc.size
  have I3 := Lib.hid hc.one
  have HD := Lib.hid hD
  have HK := Lib.hid hk
  have B2 := Lib.hid (B1.out.trans (b2.mono B1.out.size))
  clear hq b2 hD hk hC hc
  go_wp2_with (refine wpList_store_row rfl 24 _ _ rfl w2.heap.size C rfl rfl 24 _ (heap_alloc_new w2 _) I1.out I2.out.symm I3.out ?_)
  obtain ⟨w3, hw3⟩ : ∃ w3, w3 = (w2.alloc (.cells #[.int .u8 0, .int .u8 0, .int .u8 0, .int .u8 0, .int .u8 0, .int .u8 0, .int .u8 0, .int .u8 0, .int .u8 0, .int .u8 0, .int .u8 0, .int .u8 0, .int .u8 0, .int .u8 0, .int .u8 0, .int .u8 0, .int .u8 0, .int .u8 0, .int .u8 0, .int .u8 0] 24)).setRow w2.heap.size C := ⟨_, rfl⟩
  have x3 : w3.heap[w2.heap.size]? = some (.cells C 24 (0, 0)) := by rw [hw3]; exact setRow_heap _ _ _ _ _ _ (heap_alloc_new w2 _)
  have b3 : Below w.heap.size w w3 := by rw [hw3]; exact below_setRow (B2.out.alloc B2.out.size _) B2.out.size _
  rw [← hw3]
  obtain ⟨g, hg⟩ : ∃ g, g = w2.heap.size := ⟨_, rfl⟩
  rw [← hg] at x3 ⊢
  have X3 := Lib.hid x3
  have B3 := Lib.hid b3
  clear hw3 x3 b3 hg
  refine (rparse_any s _ m0).mono ?_
  rintro e w4 ⟨hs4, hn4, b4⟩
  rw [← HO.out] at hs4 hn4
  have hg3 : g < w3.heap.size := (Array.getElem?_eq_some_iff.1 X3.out).1
  have X4 := Lib.hid ((b4.block g hg3).trans X3.out)
  have B4 := Lib.hid (B3.out.trans (b4.mono B3.out.size))
  clear b4 hg3
  rcases HK.out with ⟨m, hm, hn, hk0⟩ | ⟨hm, hdz, hn, hk0⟩
  · obtain ⟨_, rfl⟩ := hs4 D m hm
    have HM := Lib.hid hm
    subst hk0 hn
    clear hs4 hn4 hm
    rw [← HCD.out]
    have heq : ∀ W, (Op.equalIn 10000 24 (.agg C) (.agg C)).run Try.prog W = .ok true W := by
      intro W
      have := eqlU W D D HD.out HD.out
      rw [← HCD.out] at this
      simpa using this
    go_wp2_with (refine wpList_store_row rfl 24 _ _ rfl w4.heap.size C rfl rfl 24 _ (heap_alloc_new w4 _) I1.out I2.out.symm I3.out ?_)
    obtain ⟨w5, hw5⟩ : ∃ w5, w5 = (w4.alloc (.cells #[.int .u8 0, .int .u8 0, .int .u8 0, .int .u8 0, .int .u8 0, .int .u8 0, .int .u8 0, .int .u8 0, .int .u8 0, .int .u8 0, .int .u8 0, .int .u8 0, .int .u8 0, .int .u8 0, .int .u8 0, .int .u8 0, .int .u8 0, .int .u8 0, .int .u8 0, .int .u8 0] 24)).setRow w4.heap.size C := ⟨_, rfl⟩
    have x5 : w5.heap[w4.heap.size]? = some (.cells C 24 (0, 0)) := by rw [hw5]; exact setRow_heap _ _ _ _ _ _ (heap_alloc_new w4 _)
    have hg4 : g < w4.heap.size := (Array.getElem?_eq_some_iff.1 X4.out).1
    have y5 : w5.heap[g]? = some (.cells C 24 (0, 0)) := by
      rw [hw5]
      exact ((setRow_other _ _ _ _ (by omega)).trans (Go.RowKit.Below.heap_alloc _ _ _ hg4)).trans X4.out
    have b5 : Below w.heap.size w w5 := by rw [hw5]; exact below_setRow (B4.out.alloc B4.out.size _) B4.out.size _
    rw [← hw5]
    obtain ⟨g2, hg2⟩ : ∃ g, g = w4.heap.size := ⟨_, rfl⟩
    rw [← hg2] at x5 ⊢
    have X5 := Lib.hid x5
    have Y5 := Lib.hid y5
    have B5 := Lib.hid b5
    clear hw5 x5 y5 b5 hg2 hg4
    refine (is_any s _).mono ?_
    rintro e w6 ⟨rfl, b6⟩
    rw [← HO.out, HM.out]
    have X6 := Lib.hid ((b6.block g2 (Array.getElem?_eq_some_iff.1 X5.out).1).trans X5.out)
    have Y6 := Lib.hid ((b6.block g (Array.getElem?_eq_some_iff.1 Y5.out).1).trans Y5.out)
    have B6 := Lib.hid (B5.out.trans (b6.mono B5.out.size))
    clear b6
    simp only [Option.isSome_some]
    go_wp2_with (first
      | (refine wpList_load_rowG (by rfl) 24 _ rfl g rfl 24 C (0, 0) _ Y6.out Try.underlying24 rfl I1.out ?_)
      | (refine wpList_load_rowG (by rfl) 24 _ rfl g2 rfl 24 C (0, 0) _ X6.out Try.underlying24 rfl I1.out ?_))
    go_ret
    exact ⟨rfl, B6.out⟩
  · obtain rfl := hn4 hm
    have HM := Lib.hid hm
    subst hk0 hn
    have hcz : C = (zU.map bv).toArray := by rw [HCD.out, hdz]
    rw [← hcz]
    have heq : ∀ W, (Op.equalIn 10000 24 (.agg C) (.agg #[.int .u8 0, .int .u8 0, .int .u8 0, .int .u8 0, .int .u8 0, .int .u8 0, .int .u8 0, .int .u8 0, .int .u8 0, .int .u8 0, .int .u8 0, .int .u8 0, .int .u8 0, .int .u8 0, .int .u8 0, .int .u8 0, .int .u8 0, .int .u8 0, .int .u8 0, .int .u8 0])).run Try.prog W = .ok true W := by
      intro W
      have := eqlU W zU zU rfl rfl
      rw [← hcz] at this
      have e : #[.int .u8 0, .int .u8 0, .int .u8 0, .int .u8 0, .int .u8 0, .int .u8 0, .int .u8 0, .int .u8 0, .int .u8 0, .int .u8 0, .int .u8 0, .int .u8 0, .int .u8 0, .int .u8 0, .int .u8 0, .int .u8 0, .int .u8 0, .int .u8 0, .int .u8 0, .int .u8 0] = C := by rw [hcz]; rfl
      rw [e]
      simpa using this
    clear hs4 hn4 hm hdz hcz
    go_wp2_with (refine wpList_store_row rfl 24 _ _ rfl w4.heap.size C rfl rfl 24 _ (heap_alloc_new w4 _) I1.out I2.out.symm I3.out ?_)
    obtain ⟨w5, hw5⟩ : ∃ w5, w5 = (w4.alloc (.cells #[.int .u8 0, .int .u8 0, .int .u8 0, .int .u8 0, .int .u8 0, .int .u8 0, .int .u8 0, .int .u8 0, .int .u8 0, .int .u8 0, .int .u8 0, .int .u8 0, .int .u8 0, .int .u8 0, .int .u8 0, .int .u8 0, .int .u8 0, .int .u8 0, .int .u8 0, .int .u8 0] 24)).setRow w4.heap.size C := ⟨_, rfl⟩
    have hg4 : g < w4.heap.size := (Array.getElem?_eq_some_iff.1 X4.out).1
    have y5 : w5.heap[g]? = some (.cells C 24 (0, 0)) := by
      rw [hw5]
      exact ((setRow_other _ _ _ _ (by omega)).trans (Go.RowKit.Below.heap_alloc _ _ _ hg4)).trans X4.out
    have b5 : Below w.heap.size w w5 := by rw [hw5]; exact below_setRow (B4.out.alloc B4.out.size _) B4.out.size _
    rw [← hw5]
    have Y5 := Lib.hid y5
    have B5 := Lib.hid b5
    clear hw5 y5 b5 hg4
    refine (is_any s _).mono ?_
    rintro e w6 ⟨rfl, b6⟩
    rw [← HO.out, HM.out]
    have Y6 := Lib.hid ((b6.block g (Array.getElem?_eq_some_iff.1 Y5.out).1).trans Y5.out)
    have B6 := Lib.hid (B5.out.trans (b6.mono B5.out.size))
    clear b6
    simp only [Option.isSome_none]
    go_wp2_with (refine wpList_load_rowG (by rfl) 24 _ rfl g rfl 24 C (0, 0) _ Y6.out Try.underlying24 rfl I1.out ?_)
    go_ret
    exact ⟨rfl, B6.out⟩

set_option maxRecDepth 100000 in
set_option maxHeartbeats 8000000 in
theorem walk_NamingPaths (w : World) (d : List UInt8) (hd : d.length = 20) (s : ByteArray) (_w0 : s.size ≤ maxLen) (m0 : s.size ≤ 140737488355328) :
    Calls Try.prog 4 #[.agg (d.map bv).toArray, .string s] w fun e w' => e = .returned (.bool true) ∧ Below w.heap.size w w' := by
  obtain ⟨C, hC⟩ : ∃ C, C = (d.map bv).toArray := ⟨_, rfl⟩
  have hc := c20 d hd
  rw [← hC] at hc ⊢
  have HCD := Lib.hid hC
  have I1 := Lib.hid hc.info
  have I2 := Lib.hid hc.size
  have I3 := Lib.hid hc.one
  have HD := Lib.hid hd
  have hnot : ∀ (x : Bool) (w : World), (Op.unary .not (.bool x)).run Try.prog w = .ok (.bool (!x)) w := fun _ _ => rfl
  have hgd := guard_20
  clear hC hc hd
  go_enter Try.func4, Try.ntmps4
  go_wp2_with fail
  obtain ⟨w1, hw1⟩ : ∃ w1, w1 = w.alloc (.cells C 24) := ⟨_, rfl⟩
  have x1 : w1.heap[w.heap.size]? = some (.cells C 24 (0, 0)) := by rw [hw1]; exact heap_alloc_new w _
  have b1 : Below w.heap.size w w1 := by rw [hw1]; exact (Below.refl _ _).alloc (Nat.le_refl _) _
  rw [← hw1]
  obtain ⟨g, hg⟩ : ∃ g, g = w.heap.size := ⟨_, rfl⟩
  rw [← hg] at x1 ⊢
  have HGW := Lib.hid hg
  clear hw1 hg
  refine (awake_any w1).mono ?_
  rintro e w2 ⟨rfl, b2⟩
  have X2 := Lib.hid ((b2.block g (Array.getElem?_eq_some_iff.1 x1).1).trans x1)
  have B2 := Lib.hid (b1.trans (b2.mono b1.size))
  clear x1 b1 b2
  go_wp2_with (refine wpList_load_row rfl 24 _ rfl g rfl 24 C (0, 0) _ X2.out Try.underlying24 rfl I1.out ?_)
  cases hn : isName s.data.toList
  · have HN := Lib.hid hn
    clear hn
    rw [HCD.out]
    refine (path_no d s _ HN.out).mono ?_
    rintro e w3 ⟨rfl, b3⟩
    rw [← HCD.out]
    have B3 := Lib.hid (B2.out.trans (b3.mono B2.out.size))
    clear b3
    go_wp2_with fail
    refine (rname_any s _ m0).mono ?_
    rintro e w4 ⟨rfl, rfl⟩
    rw [HN.out]
    go_wp2_with fail
    go_ret
    exact ⟨rfl, B3.out⟩
  · have HN := Lib.hid hn
    have hsm := name_small hn
    have hsl : s.data.toList.length = s.size := by simp
    clear hn
    have hpp := parse_path d s.data.toList HD.out HN.out
    rw [← path_list] at hpp
    have HPP := Lib.hid hpp
    have hps : pathB d s = pathB d s := rfl
    obtain ⟨Q, hQ⟩ : ∃ Q, Q = pathB d s := ⟨_, rfl⟩
    have HQ := Lib.hid hQ
    clear hpp hps hQ
    rw [HCD.out]
    refine (path_yes d s _ HD.out HN.out).mono ?_
    rintro e w3 ⟨rfl, b3⟩
    rw [← HCD.out, ← HQ.out]
    have X3 := Lib.hid ((b3.block g (Array.getElem?_eq_some_iff.1 X2.out).1).trans X2.out)
    have B3 := Lib.hid (B2.out.trans (b3.mono B2.out.size))
    clear b3
    go_wp2_with fail
    refine (rname_any s _ m0).mono ?_
    rintro e w4 ⟨rfl, rfl⟩
    rw [HN.out]
    go_wp2_with fail
    refine (parse_any Q _).mono ?_
    rintro e w4 ⟨hs4, _, b4⟩
    obtain ⟨_, rfl⟩ := hs4 d s.data.toList (by rw [HQ.out]; exact HPP.out)
    have X4 := Lib.hid ((b4.block g (Array.getElem?_eq_some_iff.1 X3.out).1).trans X3.out)
    have B4 := Lib.hid (B3.out.trans (b4.mono B3.out.size))
    rw [← HCD.out]
    have hse : (⟨s.data.toList.toArray⟩ : ByteArray) = s := bytes_ext (by simp)
    rw [hse]
    have heq : ∀ W, (Op.equalIn 10000 24 (.agg C) (.agg C)).run Try.prog W = .ok true W := by
      intro W
      have := eqlU W d d HD.out HD.out
      rw [← HCD.out] at this
      simpa using this
    clear hs4 b4 hse
    obtain ⟨w5, hw5⟩ : ∃ w5, w5 = (w4.alloc (.cells #[.int .u8 0, .int .u8 0, .int .u8 0, .int .u8 0, .int .u8 0, .int .u8 0, .int .u8 0, .int .u8 0, .int .u8 0, .int .u8 0, .int .u8 0, .int .u8 0, .int .u8 0, .int .u8 0, .int .u8 0, .int .u8 0, .int .u8 0, .int .u8 0, .int .u8 0, .int .u8 0] 24)).setRow w4.heap.size C := ⟨_, rfl⟩
    have x5 : w5.heap[w4.heap.size]? = some (.cells C 24 (0, 0)) := by rw [hw5]; exact setRow_heap _ _ _ _ _ _ (heap_alloc_new w4 _)
    have hg4 : g < w4.heap.size := (Array.getElem?_eq_some_iff.1 X4.out).1
    have y5 : w5.heap[g]? = some (.cells C 24 (0, 0)) := by
      rw [hw5]
      exact ((setRow_other _ _ _ _ (by omega)).trans (Go.RowKit.Below.heap_alloc _ _ _ hg4)).trans X4.out
    have b5 : Below w.heap.size w w5 := by rw [hw5]; exact below_setRow (B4.out.alloc B4.out.size _) B4.out.size _
    have Y5 := Lib.hid y5
    have B5 := Lib.hid b5
    have HW5 := Lib.hid hw5
    rw [hw5] at y5
    have Z5 := Lib.hid y5
    have X5 := Lib.hid x5
    clear hw5 x5 y5 b5 hg4
    go_wp2_with (first
      | (refine wpList_store_row rfl 24 _ _ rfl w4.heap.size C rfl rfl 24 _ (heap_alloc_new w4 _) I1.out I2.out.symm I3.out ?_)
      | (refine wpList_load_rowG (by rfl) 24 _ rfl g rfl 24 C (0, 0) _ Z5.out Try.underlying24 rfl I1.out ?_))
    rw [← HW5.out]
    rw [HCD.out]
    refine (rpath_yes d s _ HD.out (by omega)).mono ?_
    rintro e w6 ⟨rfl, b6⟩
    rw [← HCD.out, ← HQ.out]
    obtain ⟨g2, hg2⟩ : ∃ g, g = w4.heap.size := ⟨_, rfl⟩
    rw [← hg2] at X5 ⊢
    have X6 := Lib.hid ((b6.block g2 (Array.getElem?_eq_some_iff.1 X5.out).1).trans X5.out)
    have Y6 := Lib.hid ((b6.block g (Array.getElem?_eq_some_iff.1 Y5.out).1).trans Y5.out)
    have B6 := Lib.hid (B5.out.trans (b6.mono B5.out.size))
    clear b6 hg2 HW5
    go_wp2_with (first
      | (refine wpList_load_rowG (by rfl) 24 _ rfl g rfl 24 C (0, 0) _ Y6.out Try.underlying24 rfl I1.out ?_)
      | (refine wpList_load_rowG (by rfl) 24 _ rfl g2 rfl 24 C (0, 0) _ X6.out Try.underlying24 rfl I1.out ?_))
    refine (is_any Q _).mono ?_
    rintro e w7 ⟨rfl, b7⟩
    rw [show (parseP Q.data.toList).isSome = true from by rw [HQ.out, HPP.out]; rfl]
    have B7 := Lib.hid (B6.out.trans (b7.mono B6.out.size))
    clear b7
    go_wp2_with fail
    go_ret
    exact ⟨rfl, B7.out⟩

end Go.Proofs.Ythomkagbcoaipaa

/-
  The walk of the law HashApart.
-/
import Derived.Test.YthnifhelpjfliaaDoorRSum
import Derived.Test.YthnifhelpjfliaaDoorNil
import Derived.Test.YthnifhelpjfliaaDoorCutsWalk
namespace Go.Proofs.YthnifhelpjfliaaDoor
open Go.RowKit
set_option linter.unusedVariables false

set_option maxRecDepth 100000 in
set_option maxHeartbeats 1000000 in
theorem apart_far (w : World) (a : Option Addr) (n cap : Nat) (b : Option Addr) (m cap2 : Nat) (hn : n ≤ 140737488355328) (hm : m ≤ 140737488355328) (h : 5000 < n + m) (hl : LaidW w) :
    Calls Tryd.prog 6 #[.slice a n cap, .slice b m cap2] w fun e w' => e = .returned (.bool true) ∧ Below w.heap.size w w' := by
  have HL := Lib.hid hl
  have hx : (5000 : Int) < (n : Int) + (m : Int) := by omega
  have hnot : ∀ (x : Bool) (w : World), (Op.unary .not (.bool x)).run Tryd.prog w = .ok (.bool (!x)) w := fun _ _ => rfl
  clear hl
  go_enter Tryd.func6, Tryd.ntmps6
  go_wp2_with fail
  refine (awake_any w HL.out).mono ?_
  rintro e w1 ⟨rfl, b1⟩
  have HL1 := Lib.hid (HL.out.later b1)
  go_wp2_with fail
  refine (awake_any w1 HL1.out).mono ?_
  rintro e w2 ⟨rfl, b2⟩
  go_wp2_with fail
  go_ret
  exact ⟨rfl, b1.trans (b2.mono b1.size)⟩

set_option maxRecDepth 100000 in
set_option maxHeartbeats 2000000 in
theorem apart_near (w : World) (a : Option Addr) (n cap : Nat) (A : List Nat) (hA : IsN w a n cap A) (b : Option Addr) (m cap2 : Nat) (B : List Nat) (hB : IsN w b m cap2 B) (h : n + m ≤ 5000) (hl : LaidW w) :
    Calls Tryd.prog 6 #[.slice a n cap, .slice b m cap2] w fun e w' => e = .returned (.bool true) ∧ Below w.heap.size w w' := by
  obtain ⟨i0, hi, hz0, hz1, hz2⟩ := info_parts8 info_u8
  have HI := Lib.hid hi
  have HZ0 := Lib.hid hz0
  have HZ1 := Lib.hid hz1
  have HZ2 := Lib.hid hz2
  have HL := Lib.hid hl
  have HA := Lib.hid hA
  have HB := Lib.hid hB
  have HAL := Lib.hid hA.length
  have HBL := Lib.hid hB.length
  have hx : ¬ (5000 : Int) < (n : Int) + (m : Int) := by omega
  have hnot : ∀ (x : Bool) (w : World), (Op.unary .not (.bool x)).run Tryd.prog w = .ok (.bool (!x)) w := fun _ _ => rfl
  have HG := guard_32
  have heqs : ∀ (D : List Nat), ∀ W, (Op.equalIn 10000 24 (.agg ((dig D).map byv).toArray) (.agg ((dig D).map byv).toArray)).run Tryd.prog W = .ok true W := by
    intro D W
    have := eql_32 W (dig D) (dig D) (dig_length D) (dig_length D)
    simpa using this
  have HE1 := Lib.hid (heqs (A ++ B))
  have HE2 := Lib.hid (heqs B)
  have hez : ∀ W, (Op.equalIn 10000 24 (.agg ((List.replicate 32 0).map byv).toArray) (.agg ((List.replicate 32 0).map byv).toArray)).run Tryd.prog W = .ok true W := by
    intro W
    have := eql_32 W (List.replicate 32 0) (List.replicate 32 0) (by simp) (by simp)
    simpa using this
  have HEZ := Lib.hid hez
  clear hl hA hB heqs hez hi hz0 hz1 hz2
  go_enter Tryd.func6, Tryd.ntmps6
  go_wp2_with fail
  refine (awake_any w HL.out).mono ?_
  rintro e w1 ⟨rfl, b1⟩
  have HL1 := Lib.hid (HL.out.later b1)
  go_wp2_with fail
  refine (new_any w1 HL1.out).mono ?_
  rintro e w2 ⟨rfl, hw2⟩
  have x2 : Has w2 w1.heap.size newRow 61 := by rw [hw2]; exact Has.new w1 _ _
  have b2 : Below w.heap.size w w2 := by rw [hw2]; exact b1.alloc b1.size _
  have s2 : w2.heap.size = w1.heap.size + 1 := by rw [hw2]; simp
  have hs1 := b1.size
  obtain ⟨g, hg⟩ : ∃ g, g = w1.heap.size := ⟨_, rfl⟩
  rw [← hg] at x2 s2 hs1 ⊢
  have HL2 := Lib.hid (HL.out.later b2)
  have h1 : 1 < g := by have := HL.out.two; omega
  clear hw2 hg b1 HL1
  go_wp2_with fail
  refine (new_any w2 HL2.out).mono ?_
  rintro e w3 ⟨rfl, hw3⟩
  rw [s2]
  have y3 : Has w3 (g + 1) newRow 61 := by rw [hw3, ← s2]; exact Has.new w2 _ _
  have x3 : Has w3 g newRow 61 := by rw [hw3]; exact x2.alloc _
  have b3 : Below w.heap.size w w3 := by rw [hw3]; exact b2.alloc (by omega) _
  have s3 : w3.heap.size = g + 2 := by rw [hw3]; simp [s2]
  have HL3 := Lib.hid (HL.out.later b3)
  clear hw3 x2 b2 HL2 s2
  go_wp2_with fail
  refine (write_n g a n cap newRow [] A w3 x3 took_new (HA.out.later b3) (fun h0 => HA.out.old h0 hs1) (by simp; omega) HL3.out h1).mono ?_
  rintro e w4 ⟨rfl, L4, x4, t4, bb4⟩
  rw [List.nil_append] at t4
  have y4 := y3.but bb4 (by omega) (by omega)
  have s4 := bb4.size
  have b4 : Below w.heap.size w w4 := b3.trans ((bb4.mono (by omega)).below (by omega))
  have HL4 := Lib.hid (HL.out.later b4)
  have T4 := Lib.hid t4
  clear t4 bb4 b3 HL3 x3 y3
  go_wp2_with fail
  refine (write_n (g + 1) b m cap2 newRow [] B w4 y4 took_new (HB.out.later b4) (fun h0 => HB.out.old h0 (by omega)) (by simp; omega) HL4.out (by omega)).mono ?_
  rintro e w5 ⟨rfl, L5, y5, t5, bb5⟩
  rw [List.nil_append] at t5
  have x5 := x4.but bb5 (by omega) (by omega)
  have s5 := bb5.size
  have b5 : Below w.heap.size w w5 := b4.trans ((bb5.mono (by omega)).below (by omega))
  have HL5 := Lib.hid (HL.out.later b5)
  have T5 := Lib.hid t5
  clear t5 bb5 b4 HL4 x4 y4
  go_wp2_with fail
  refine (write_nil _ _).mono ?_
  rintro e w' ⟨rfl, rfl⟩
  go_wp2_with fail
  refine (write_n g b m cap2 L4 A B _ x5 T4.out (HB.out.later b5) (fun h0 => HB.out.old h0 hs1) (by have := HAL.out; omega) HL5.out h1).mono ?_
  rintro e w6 ⟨rfl, L6, x6, t6, bb6⟩
  have y6 := y5.but bb6 (by omega) (by omega)
  have s6 := bb6.size
  have b6 : Below w.heap.size w w6 := b5.trans ((bb6.mono (by omega)).below (by omega))
  have HL6 := Lib.hid (HL.out.later b6)
  have T6 := Lib.hid t6
  clear t6 bb6 b5 HL5 x5 y5 T4
  go_wp2_with fail
  refine (sum_took g L6 (A ++ B) w6 x6 T6.out HL6.out h1).mono ?_
  rintro e w7 ⟨rfl, x7, bb7⟩
  have y7 := y6.but bb7 (by omega) (by omega)
  have s7 := bb7.size
  have b7 : Below w.heap.size w w7 := b6.trans ((bb7.mono (by omega)).below (by omega))
  have HL7 := Lib.hid (HL.out.later b7)
  have HA7 := Lib.hid (HA.out.later b7)
  clear bb7 b6 HL6 x6 y6 T6
  go_wp2_with (at_builtin; refine wpList_append_nat rfl (.const (.slice none 0 0)) (.tmp 35) 22 rfl w7.heap.size 5 i0 Tryd.underlying22 HI.out HZ0.out HZ1.out HZ2.out _ 0 [] rfl (World.ownsRow_nil _ _ _ _) a n cap A rfl HA7.out (by omega) (Nat.le_refl _) ?_)
  intro v8 w8 hown8 hgrow8
  have hown8 : w8.ownsRow w7.heap.size 5 1 v8 n (A.map byv) := by simpa using hown8
  have c8 : Below w7.heap.size w7 w8 := (Below.refl _ _).grown hgrow8 (Nat.le_refl _) (by intro k hk; cases hk)
  have s8 := c8.size
  have b8 : Below w.heap.size w w8 := b7.trans (c8.mono (by omega))
  have HB8 := Lib.hid (HB.out.later b8)
  go_wp2_with (at_builtin; refine wpList_append_nat rfl (.tmp 36) (.tmp 37) 22 rfl w7.heap.size 5 i0 Tryd.underlying22 HI.out HZ0.out HZ1.out HZ2.out v8 n A rfl hown8 b m cap2 B rfl HB8.out (by omega) s8 ?_)
  intro v9 w9 hown9 hgrow9
  have c9 : Below w7.heap.size w7 w9 := c8.grown hgrow9 s8 (fun k hk => (hown8.lt k hk).1)
  have s9 := c9.size
  have b9 : Below w.heap.size w w9 := b7.trans (c9.mono (by omega))
  have y9 := y7.below c9 y7.lt
  obtain ⟨a9, cap9, rfl, I9, _⟩ := isN_of_owns (l := A ++ B) (by
    intro x hx
    rcases List.mem_append.1 hx with h | h
    · exact HA.out.small x h
    · exact HB.out.small x h) (by rw [List.map_append]; exact hown9)
  have HI9 := Lib.hid I9
  clear hown8 hgrow8 c8 s8 b8 HB8 hown9 hgrow9 c9 I9 b7 HL7 HA7 x7 y7
  go_wp2_with fail
  refine (rsum_n a9 (n + m) cap9 (A ++ B) w9 HI9.out (by omega)).mono ?_
  rintro e w10 ⟨rfl, c10⟩
  have y10 := y9.below c10 y9.lt
  have s10 := c10.size
  have b10 : Below w.heap.size w w10 := b9.trans (c10.mono (by omega))
  have HL10 := Lib.hid (HL.out.later b10)
  have heq1 := HE1.out
  clear c10 b9 y9
  go_wp2_with fail
  refine (sum_took (g + 1) L5 B w10 y10 T5.out HL10.out (by omega)).mono ?_
  rintro e w11 ⟨rfl, y11, bb11⟩
  have s11 := bb11.size
  have b11 : Below w.heap.size w w11 := b10.trans ((bb11.mono (by omega)).below (by omega))
  have HB11 := Lib.hid (HB.out.later b11)
  clear heq1 bb11 b10 HL10 y10
  go_wp2_with fail
  refine (rsum_n b m cap2 B w11 HB11.out (by omega)).mono ?_
  rintro e w12 ⟨rfl, c12⟩
  have b12 : Below w.heap.size w w12 := b11.trans (c12.mono (by omega))
  have heq2 := HE2.out
  have s12 := c12.size
  clear c12 b11
  go_wp2_with fail
  refine (len_nil _).mono ?_
  rintro e w' ⟨rfl, rfl⟩
  clear heq2
  go_wp2_with fail
  refine (sum_nil _).mono ?_
  rintro e w13 ⟨rfl, c13⟩
  have b13 : Below w.heap.size w w13 := b12.trans (c13.mono b12.size)
  have hez := HEZ.out
  rw [← zeros32] at hez ⊢
  clear c13 b12 y11
  go_wp2_with fail
  go_ret
  exact ⟨rfl, b13⟩

theorem walk_HashApart (w : World) (a : Option Addr) (n cap : Nat) (A : List Nat) (hA : IsN w a n cap A) (hn : n ≤ 140737488355328) (b : Option Addr) (m cap2 : Nat) (B : List Nat) (hB : IsN w b m cap2 B) (hm : m ≤ 140737488355328) (hl : LaidW w) :
    Calls Tryd.prog 6 #[.slice a n cap, .slice b m cap2] w fun e w' => e = .returned (.bool true) ∧ Below w.heap.size w w' := by
  by_cases h : n + m ≤ 5000
  · exact apart_near w a n cap A hA b m cap2 B hB h hl
  · exact apart_far w a n cap b m cap2 hn hm (by omega) hl

end Go.Proofs.YthnifhelpjfliaaDoor

/-
  The walk of the law NamingMakes: it returns true. Condition: what the program's text has laid.
-/
import Derived.Test.YthomkagbcoaipaaDoorMake
namespace Go.Proofs.YthomkagbcoaipaaDoor
open Go.RowKit
set_option linter.unusedVariables false

theorem LaidW.later {w w' : World} (l : LaidW w) (hb : Below w.heap.size w w') : LaidW w' := l.below hb l.two

theorem info_a32 (L : List UInt8) (h : L.length = 32) : (Tryd.prog.info? 22).map (·.size) = some (L.map B.bv).toArray.size := by rw [List.size_toArray, List.length_map, h]; kernel_rfl

theorem open_a32 {H : Type} {enc : TypeId × Value → H} {w : World} {base : Nat} {sp : Nat → Bool} {held : Bool} {C : Array Value} {d : DataW H} {p : List MemPlace}
    (h : DataW.Trod enc Tryd.prog w base sp held 22 (.agg C) d p) : ∃ D : List UInt8, C = (D.map B.bv).toArray ∧ D.length = 32 := by
  obtain ⟨D, h1, h2, h3⟩ := open_bytes_arr Tryd.underlying22 Tryd.underlying5 (by kernel_rfl) (by kernel_rfl) h
  refine ⟨D.map UInt8.ofNat, ?_, by simpa using h2⟩
  rw [h1, B.bv_byv, List.map_map, List.map_map]
  congr 1
  refine List.map_congr_left fun x hx => ?_
  have := h3 x hx
  simp only [Function.comp, UInt8.toNat_ofNat']
  congr 1; omega

theorem makeV_no {kind name : ByteArray} {d : List UInt8} (h : B.isName name.data.toList = false) : makeV kind name d = .tuple #[.string ⟨#[]⟩, .int .i64 4] := by
  unfold makeV isName'; rw [if_neg (by rw [h]; decide)]
theorem makeV_yes {kind name : ByteArray} {d : List UInt8} (h : B.isName name.data.toList = true) : makeV kind name d = .tuple #[.string (B.pathB (fd (mkT kind.data.toList d name.data.toList)) name), .int .i64 0] := by
  unfold makeV isName'; rw [if_pos h]

set_option maxRecDepth 100000 in
set_option maxHeartbeats 8000000 in
theorem makes_far (w : World) (kind name : ByteArray) (d : List UInt8) (hl : LaidW w) (h : 2000 < kind.size) :
    Calls Tryd.prog 3 #[.string kind, .agg (d.map B.bv).toArray, .string name] w fun e w' => e = .returned (.bool true) ∧ Below w.heap.size w w' := by
  obtain ⟨C, hC⟩ : ∃ C, C = (d.map B.bv).toArray := ⟨_, rfl⟩
  rw [← hC]
  have h3 : decide ((2000 : Int) < (kind.size : Int)) = true := by simp; omega
  have hnot : ∀ (x : Bool) (w : World), (Op.unary .not (.bool x)).run Tryd.prog w = .ok (.bool (!x)) w := fun _ _ => rfl
  clear hC
  go_enter Tryd.func3, Tryd.ntmps3
  go_wp2_with fail
  have b0 : Below w.heap.size w (w.alloc (.cells C 22)) := (Below.refl _ _).alloc (Nat.le_refl _) _
  generalize w.alloc (.cells C 22) = w0 at *
  refine (B.awake_any w0).mono ?_
  rintro e w1 ⟨rfl, b1⟩
  have B1 := Lib.hid (b0.trans (b1.mono b0.size))
  clear b1 b0
  go_wp2_with fail
  refine (B.awake_any w1).mono ?_
  rintro e w2 ⟨rfl, b2⟩
  have B2 := Lib.hid (B1.out.trans (b2.mono B1.out.size))
  clear b2
  go_wp2_with fail
  go_ret
  exact ⟨rfl, B2.out⟩

set_option maxRecDepth 100000 in
set_option maxHeartbeats 8000000 in
theorem makes_near (w : World) (kind name : ByteArray) (d : List UInt8) (hd : d.length = 32) (hl : LaidW w) (h : kind.size ≤ 2000) (hn : name.size ≤ 140737488351232) :
    Calls Tryd.prog 3 #[.string kind, .agg (d.map B.bv).toArray, .string name] w fun e w' => e = .returned (.bool true) ∧ Below w.heap.size w w' := by
  obtain ⟨C, hC⟩ : ∃ C, C = (d.map B.bv).toArray := ⟨_, rfl⟩
  have hi := info_a32 d hd
  rw [← hC] at hi ⊢
  have h3 : decide ((2000 : Int) < (kind.size : Int)) = false := by simp; omega
  have hnot : ∀ (x : Bool) (w : World), (Op.unary .not (.bool x)).run Tryd.prog w = .ok (.bool (!x)) w := fun _ _ => rfl
  have HC := Lib.hid hC
  have HI := Lib.hid hi
  have HL := Lib.hid hl
  have HD := Lib.hid hd
  clear hC hi hl hd
  go_enter Tryd.func3, Tryd.ntmps3
  go_wp2_with fail
  obtain ⟨w0, hw0⟩ : ∃ w0, w0 = w.alloc (.cells C 22) := ⟨_, rfl⟩
  have b0 : Below w.heap.size w w0 := by rw [hw0]; exact (Below.refl _ _).alloc (Nat.le_refl _) _
  have x0 : w0.heap[w.heap.size]? = some (.cells C 22 (0, 0)) := by rw [hw0]; exact heap_alloc_new w _
  rw [← hw0]
  obtain ⟨g, hg⟩ : ∃ g, g = w.heap.size := ⟨_, rfl⟩
  rw [← hg] at x0 ⊢
  clear hw0
  refine (B.awake_any w0).mono ?_
  rintro e w1 ⟨rfl, b1⟩
  have X1 := Lib.hid ((b1.block g (Array.getElem?_eq_some_iff.1 x0).1).trans x0)
  have B1 := Lib.hid (b0.trans (b1.mono b0.size))
  have HG := Lib.hid hg
  clear b1 b0 x0 hg
  go_wp2_with (refine wpList_load_row rfl 22 _ rfl g rfl 22 C (0, 0) _ X1.out Tryd.underlying22 rfl HI.out ?_)
  obtain ⟨V, hV⟩ : ∃ V, V = makeV kind name d := ⟨_, rfl⟩
  have HV := Lib.hid hV
  clear hV
  rw [HC.out]
  refine (nmake_any kind name d w1 (HL.out.later B1.out) h HD.out hn).mono ?_
  rintro e w2 ⟨rfl, b2⟩
  rw [← HC.out]
  have X2 := Lib.hid ((b2.block g (Array.getElem?_eq_some_iff.1 X1.out).1).trans X1.out)
  have B2 := Lib.hid (B1.out.trans (b2.mono B1.out.size))
  clear b2
  cases hin : B.isName name.data.toList
  · rw [makeV_no hin]
    have HN := Lib.hid hin
    clear hin
    go_wp2_with fail
    refine (B.rname_any name _ (by omega)).mono ?_
    rintro e w3 ⟨rfl, rfl⟩
    rw [HN.out]
    go_wp2_with fail
    go_ret
    exact ⟨rfl, by rw [← HG.out] at B2 ⊢; exact B2.out⟩
  · rw [makeV_yes hin]
    have hs40 : name.size ≤ 40 := by
      have h1 := (B.name_small hin).2
      have h2 : name.data.toList.length = name.size := by simp
      omega
    have HN := Lib.hid hin
    have HS := Lib.hid hs40
    clear hin hs40
    obtain ⟨Q, hQ⟩ : ∃ Q, Q = B.pathB (fd (mkT kind.data.toList d name.data.toList)) name := ⟨_, rfl⟩
    rw [← hQ]
    have HQ := Lib.hid hQ
    clear hQ
    go_wp2_with fail
    refine (B.rname_any name _ (by omega)).mono ?_
    rintro e w3 ⟨rfl, rfl⟩
    rw [HN.out]
    go_wp2_with (refine B.wpList_load_rowG (by rfl) 22 _ rfl g rfl 22 C (0, 0) _ X2.out Tryd.underlying22 rfl HI.out ?_)
    rw [HC.out]
    refine (rmake_yes kind name d w2 h HD.out HS.out).mono ?_
    rintro e w4 ⟨rfl, b4⟩
    rw [← HC.out, ← HQ.out]
    have B4 := Lib.hid (B2.out.trans (b4.mono B2.out.size))
    clear b4
    go_wp2_with fail
    go_ret
    exact ⟨rfl, B4.out⟩

theorem walk_NamingMakes (w : World) (kind : ByteArray) (_wk : kind.size ≤ maxLen) (mk : kind.size ≤ 140737488351232) (d : List UInt8) (hd : d.length = 32) (name : ByteArray) (_wn : name.size ≤ maxLen) (mn : name.size ≤ 140737488351232) (hl : LaidW w) :
    Calls Tryd.prog 3 #[.string kind, .agg (d.map B.bv).toArray, .string name] w fun e w' => e = .returned (.bool true) ∧ Below w.heap.size w w' := by
  by_cases h : 2000 < kind.size
  · exact makes_far w kind name d hl h
  · exact makes_near w kind name d hd hl (by omega) mn

end Go.Proofs.YthomkagbcoaipaaDoor

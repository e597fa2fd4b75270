/-
  The walk of the law NamingApart: it returns true. Condition: what the program's text has laid.
-/
import Derived.Test.YthomkagbcoaipaaDoorMakeWalk
import Derived.Deep.RegionHeld3
namespace Go.Proofs.YthomkagbcoaipaaDoor
open Go.RowKit
set_option linter.unusedVariables false

/-- Both boxes stand, and what was there is as it was. -/
structure Two (w0 : World) (G1 G2 : Nat) (LC LE : List Value) (W : World) : Prop where
  c : W.heap[G1]? = some (.cells LC.toArray 22 (0, 0))
  e : W.heap[G2]? = some (.cells LE.toArray 22 (0, 0))
  below : Below w0.heap.size w0 W

theorem Two.drew {w0 W : World} {G1 G2 : Nat} {LC LE : List Value} (h : Two w0 G1 G2 LC LE W) : Two w0 G1 G2 LC LE W.drew := ⟨h.c, h.e, h.below.drew⟩
theorem Two.ranC {w0 W : World} {G1 G2 : Nat} {LC LE : List Value} (h : Two w0 G1 G2 LC LE W) : W.rangeAt G1 0 LC := fun j v hv => by
  rw [Nat.zero_add, cell_of_row W G1 j _ _ _ h.c]; simpa using hv
theorem Two.ranE {w0 W : World} {G1 G2 : Nat} {LC LE : List Value} (h : Two w0 G1 G2 LC LE W) : W.rangeAt G2 0 LE := fun j v hv => by
  rw [Nat.zero_add, cell_of_row W G2 j _ _ _ h.e]; simpa using hv
theorem Two.later {w0 W W' : World} {G1 G2 : Nat} {LC LE : List Value} (h : Two w0 G1 G2 LC LE W) (hb : Below W.heap.size W W') : Two w0 G1 G2 LC LE W' :=
  ⟨(hb.block G1 (Array.getElem?_eq_some_iff.1 h.c).1).trans h.c, (hb.block G2 (Array.getElem?_eq_some_iff.1 h.e).1).trans h.e, h.below.trans (hb.mono h.below.size)⟩

theorem two_ref {w0 W : World} {G1 G2 : Nat} {LC LE : List Value} (kind name : ByteArray) (d : List UInt8) {L : List Value} (PA : ByteArray) (hP : Hid (PA = B.pathB (fd (mkT kind.data.toList d name.data.toList)) name)) (hL : Hid (L = d.map B.bv)) (hd : Hid (d.length = 32)) (hk : Hid (kind.size ≤ 2000)) (hn : Hid (name.size ≤ 40)) (h : Two w0 G1 G2 LC LE W) :
    Calls Tryd.prog 8 #[.string kind, .agg L.toArray, .string name] W fun e w' => e = .returned (.string PA) ∧ Two w0 G1 G2 LC LE w' := by
  rw [hL.out, hP.out]
  exact (rmake_yes kind name d W hk.out hd.out hn.out).mono fun e w' ⟨he, hb⟩ => ⟨he, h.later hb⟩

set_option maxRecDepth 100000 in
set_option maxHeartbeats 8000000 in
theorem apart_far (w : World) (a b name other : ByteArray) (d e : List UInt8) (hl : LaidW w) (ha : a.size ≤ 140737488351232) (hb : b.size ≤ 140737488351232) (hn : name.size ≤ 140737488351232) (ho : other.size ≤ 140737488351232)
    (h : 500 < a.size + b.size ∨ (a.size + b.size ≤ 500 ∧ B.isName name.data.toList = false) ∨ (a.size + b.size ≤ 500 ∧ B.isName name.data.toList = true ∧ B.isName other.data.toList = false)) :
    Calls Tryd.prog 4 #[.string a, .string b, .agg (d.map B.bv).toArray, .agg (e.map B.bv).toArray, .string name, .string other] w fun r w' => r = .returned (.bool true) ∧ Below w.heap.size w w' := by
  obtain ⟨C, hC⟩ : ∃ C, C = (d.map B.bv).toArray := ⟨_, rfl⟩
  obtain ⟨E, hE⟩ : ∃ E, E = (e.map B.bv).toArray := ⟨_, rfl⟩
  rw [← hC, ← hE]
  have hnot : ∀ (x : Bool) (w : World), (Op.unary .not (.bool x)).run Tryd.prog w = .ok (.bool (!x)) w := fun _ _ => rfl
  clear hC hE
  rcases h with h | ⟨h, h1⟩ | ⟨h, h1, h2⟩
  · have hx : (500 : Int) < (a.size : Int) + (b.size : Int) := by omega
    go_enter Tryd.func4, Tryd.ntmps4
    go_wp2_with fail
    have b0 : Below w.heap.size w ((w.alloc (.cells C 22)).alloc (.cells E 22)) := ((Below.refl _ _).alloc (Nat.le_refl _) _).alloc (by simp) _
    generalize (w.alloc (.cells C 22)).alloc (.cells E 22) = w0 at *
    refine (B.awake_any w0).mono ?_
    rintro r w1 ⟨rfl, b1⟩
    have B1 := Lib.hid (b0.trans (b1.mono b0.size))
    clear b1 b0
    go_wp2_with fail
    refine (B.awake_any w1).mono ?_
    rintro r w3 ⟨rfl, b3⟩
    have B3 := Lib.hid (B1.out.trans (b3.mono B1.out.size))
    clear b3
    go_wp2_with fail
    go_ret
    exact ⟨rfl, B3.out⟩
  · have hx : ¬ (500 : Int) < (a.size : Int) + (b.size : Int) := by omega
    have H1 := Lib.hid h1
    clear h1
    go_enter Tryd.func4, Tryd.ntmps4
    go_wp2_with fail
    have b0 : Below w.heap.size w ((w.alloc (.cells C 22)).alloc (.cells E 22)) := ((Below.refl _ _).alloc (Nat.le_refl _) _).alloc (by simp) _
    generalize (w.alloc (.cells C 22)).alloc (.cells E 22) = w0 at *
    refine (B.awake_any w0).mono ?_
    rintro r w1 ⟨rfl, b1⟩
    have B1 := Lib.hid (b0.trans (b1.mono b0.size))
    clear b1 b0
    go_wp2_with fail
    refine (B.rname_any name _ (by omega)).mono ?_
    rintro r w2 ⟨rfl, rfl⟩
    rw [H1.out]
    go_wp2_with fail
    refine (B.awake_any w1).mono ?_
    rintro r w3 ⟨rfl, b3⟩
    have B3 := Lib.hid (B1.out.trans (b3.mono B1.out.size))
    clear b3
    go_wp2_with fail
    go_ret
    exact ⟨rfl, B3.out⟩
  · have hx : ¬ (500 : Int) < (a.size : Int) + (b.size : Int) := by omega
    have H1 := Lib.hid h1
    have H2 := Lib.hid h2
    clear h1 h2
    go_enter Tryd.func4, Tryd.ntmps4
    go_wp2_with fail
    have b0 : Below w.heap.size w ((w.alloc (.cells C 22)).alloc (.cells E 22)) := ((Below.refl _ _).alloc (Nat.le_refl _) _).alloc (by simp) _
    generalize (w.alloc (.cells C 22)).alloc (.cells E 22) = w0 at *
    refine (B.awake_any w0).mono ?_
    rintro r w1 ⟨rfl, b1⟩
    have B1 := Lib.hid (b0.trans (b1.mono b0.size))
    clear b1 b0
    go_wp2_with fail
    refine (B.rname_any name _ (by omega)).mono ?_
    rintro r w2 ⟨rfl, rfl⟩
    rw [H1.out]
    go_wp2_with fail
    refine (B.rname_any other _ (by omega)).mono ?_
    rintro r w2 ⟨rfl, rfl⟩
    rw [H2.out]
    go_wp2_with fail
    refine (B.awake_any w1).mono ?_
    rintro r w3 ⟨rfl, b3⟩
    have B3 := Lib.hid (B1.out.trans (b3.mono B1.out.size))
    clear b3
    go_wp2_with fail
    go_ret
    exact ⟨rfl, B3.out⟩

set_option maxRecDepth 100000 in
set_option maxHeartbeats 20000000 in
theorem apart_near1 (w : World) (a b name other : ByteArray) (d e : List UInt8) (hd : d.length = 32) (he : e.length = 32) (hl : LaidW w) (h : a.size + b.size ≤ 500) (hn : B.isName name.data.toList = true) (ho : B.isName other.data.toList = true) (hab : (a.toList == b.toList) = false) :
    Calls Tryd.prog 4 #[.string a, .string b, .agg (d.map B.bv).toArray, .agg (e.map B.bv).toArray, .string name, .string other] w fun r w' => r = .returned (.bool true) ∧ Below w.heap.size w w' := by
  obtain ⟨LC, hLC⟩ : ∃ L, L = d.map B.bv := ⟨_, rfl⟩
  obtain ⟨LE, hLE⟩ : ∃ L, L = e.map B.bv := ⟨_, rfl⟩
  have hnot : ∀ (x : Bool) (w : World), (Op.unary .not (.bool x)).run Tryd.prog w = .ok (.bool (!x)) w := fun _ _ => rfl
  have hx : ¬ (500 : Int) < (a.size : Int) + (b.size : Int) := by omega
  have hu32 := Tryd.underlying22
  have hgd := guard_32
  have HCD := Lib.hid hLC
  have HCE := Lib.hid hLE
  have HD := Lib.hid hd
  have HE := Lib.hid he
  have hiC' : (Tryd.prog.info? 22).map (·.size) = some LC.length := by rw [hLC, List.length_map, hd]; kernel_rfl
  have hiE' : (Tryd.prog.info? 22).map (·.size) = some LE.length := by rw [hLE, List.length_map, HE.out]; kernel_rfl
  have I1 : Hid ((Tryd.prog.info? 22).map (·.size) = some LC.toArray.size) := Lib.hid (by rw [List.size_toArray]; exact hiC')
  have I2 : Hid ((Tryd.prog.info? 22).map (·.size) = some LE.toArray.size) := Lib.hid (by rw [List.size_toArray]; exact hiE')
  have HA : Hid (a.size ≤ 2000) := Lib.hid (by omega)
  have HB : Hid (b.size ≤ 2000) := Lib.hid (by omega)
  have sn := B.name_small hn
  have so := B.name_small ho
  have ln : name.data.toList.length = name.size := by simp
  have lo : other.data.toList.length = other.size := by simp
  have HN : Hid (name.size ≤ 40) := Lib.hid (by omega)
  have HO : Hid (other.size ≤ 40) := Lib.hid (by omega)
  have HNT := Lib.hid hn
  have HOT := Lib.hid ho
  have HL := Lib.hid hl
  obtain ⟨PA, hPA⟩ : ∃ P, P = B.pathB (fd (mkT a.data.toList d name.data.toList)) name := ⟨_, rfl⟩
  obtain ⟨PB, hPB⟩ : ∃ P, P = B.pathB (fd (mkT b.data.toList e other.data.toList)) other := ⟨_, rfl⟩
  have HPA := Lib.hid hPA
  have HPB := Lib.hid hPB
  obtain ⟨pe, hpe⟩ : ∃ pe, (PA.toList == PB.toList) = pe := ⟨_, rfl⟩
  rw [← HCD.out, ← HCE.out]
  clear hLC hLE hd he hl hn ho sn so ln lo hPA hPB
  go_enter Tryd.func4, Tryd.ntmps4
  go_wp2_with fail
  obtain ⟨w1, hw1⟩ : ∃ w1, w1 = (w.alloc (.cells LC.toArray 22)).alloc (.cells LE.toArray 22) := ⟨_, rfl⟩
  have c1 : w1.heap[w.heap.size]? = some (.cells LC.toArray 22 (0, 0)) := by
    rw [hw1]; exact (Go.RowKit.Below.heap_alloc _ _ _ (by simp)).trans (heap_alloc_new w _)
  have e1 : w1.heap[w.heap.size + 1]? = some (.cells LE.toArray 22 (0, 0)) := by
    have h := heap_alloc_new (w.alloc (.cells LC.toArray 22)) (.cells LE.toArray 22)
    have hs : (w.alloc (.cells LC.toArray 22)).heap.size = w.heap.size + 1 := by simp
    rw [hs, ← hw1] at h
    exact h
  have b1 : Below w.heap.size w w1 := by rw [hw1]; exact ((Below.refl _ _).alloc (Nat.le_refl _) _).alloc (by simp) _
  rw [← hw1]
  obtain ⟨w0, hw0⟩ : ∃ w0, w0 = w := ⟨_, rfl⟩
  obtain ⟨G1, hG1⟩ : ∃ G, G = w.heap.size := ⟨_, rfl⟩
  obtain ⟨G2, hG2⟩ : ∃ G, G = w.heap.size + 1 := ⟨_, rfl⟩
  have M1 : Hid (Two w0 G1 G2 LC LE w1) := Lib.hid ⟨by rw [hG1]; exact c1, by rw [hG2]; exact e1, by rw [hw0]; exact b1⟩
  rw [← hG2, ← hG1]
  have HW0 := Lib.hid hw0
  have HL0 : Hid (LaidW w0) := Lib.hid (by rw [hw0]; exact HL.out)
  have hpost : Hid (Below w.heap.size w = Below w0.heap.size w0) := Lib.hid (by rw [hw0])
  clear hw1 c1 e1 b1 hG1 hG2 hw0
  refine (B.awake_any w1).mono ?_
  rintro r w2 ⟨rfl, b2⟩
  have M2 := Lib.hid (M1.out.later b2)
  clear b2 M1
  go_wp2_with fail
  refine (B.rname_any name _ (by have := HN.out; omega)).mono ?_
  rintro r w3 ⟨rfl, rfl⟩
  rw [HNT.out]
  go_wp2_with fail
  refine (B.rname_any other _ (by have := HO.out; omega)).mono ?_
  rintro r w3 ⟨rfl, rfl⟩
  rw [HOT.out]
  go_wp2_with (refine wpList_load_row rfl 22 _ rfl G1 rfl 22 LC.toArray (0, 0) _ M2.out.c Tryd.underlying22 rfl I1.out ?_)
  obtain ⟨V1, hV1⟩ : ∃ V, V = makeV a name d := ⟨_, rfl⟩
  rw [makeV_yes HNT.out, ← HPA.out] at hV1
  have HV1 := Lib.hid hV1
  have K1 := nmake_any a name d w2 (HL0.out.below M2.out.below HL0.out.two) HA.out HD.out (by have := HN.out; omega)
  rw [makeV_yes HNT.out, ← HPA.out, ← HCD.out] at K1
  have HK1 := Lib.hid K1
  clear K1 hV1 HV1
  refine HK1.out.mono ?_
  rintro r w3 ⟨rfl, b3⟩
  have M3 := Lib.hid (M2.out.later b3)
  clear b3 M2 HK1
  go_wp2_with (refine wpList_load_row rfl 22 _ rfl G2 rfl 22 LE.toArray (0, 0) _ M3.out.e Tryd.underlying22 rfl I2.out ?_)
  have K2 := nmake_any b other e w3 (HL0.out.below M3.out.below HL0.out.two) HB.out HE.out (by have := HO.out; omega)
  rw [makeV_yes HOT.out, ← HPB.out, ← HCE.out] at K2
  have HK2 := Lib.hid K2
  clear K2
  refine HK2.out.mono ?_
  rintro r w4 ⟨rfl, b4⟩
  have MM := Lib.hid (M3.out.later b4)
  have hiC := hiC'
  have hiE := hiE'
  clear b4 M3 HK2 hiC' hiE' I1 I2
  go_wp2_with fail
  refine wp_region_held_drew (S := Two w0 G1 G2 LC LE) (by kernel_rfl) MM.out.drew (fun hHeld => ?_)
  refine wpAnyH_take (i := 0) (oi := { dst := some 52, op := Op.move (Operand.tmp 14), type := 24, pos := "more.go:16", after := #[], guard := none }) (v := .int .i64 0) rfl (by kernel_rfl) (by kernel_rfl) (by kernel_rfl) (fun _ _ _ h => h)
    (Or.inl ⟨by rfl, by intro w hSw; clear hSw; go_simp⟩) hHeld ?_
  try simp only [Act.put, List.setIfInBounds_toArray, List.set_cons_zero, List.set_cons_succ]
  refine wpAnyH_take (i := 1) (oi := { dst := some 53, op := Op.binOp BinOp.eql 24 (Operand.tmp 52) (Operand.const (Value.int IntKind.i64 0)) 24, type := 4, pos := "more.go:16", after := #[{ on := 0, ground := Ground.data }], guard := none }) (v := .bool true) rfl (by kernel_rfl) (by kernel_rfl) (by kernel_rfl) (fun _ _ _ h => h)
    (Or.inl ⟨by rfl, by intro w hSw; clear hSw; go_simp⟩) hHeld ?_
  try simp only [Act.put, List.setIfInBounds_toArray, List.set_cons_zero, List.set_cons_succ]
  refine wpAnyH_take (i := 2) (oi := { dst := some 54, op := Op.move (Operand.tmp 53), type := 4, pos := "more.go:16", after := #[{ on := 1, ground := Ground.data }], guard := none }) (v := .bool true) rfl (by kernel_rfl) (by kernel_rfl) (by kernel_rfl) (fun _ _ _ h => h)
    (Or.inl ⟨by rfl, by intro w hSw; clear hSw; go_simp⟩) hHeld ?_
  try simp only [Act.put, List.setIfInBounds_toArray, List.set_cons_zero, List.set_cons_succ]
  refine wpAnyH_take (i := 3) (oi := { dst := some 55, op := Op.move (Operand.tmp 16), type := 24, pos := "more.go:16", after := #[{ on := 2, ground := Ground.guard }], guard := some (2, true) }) (v := .int .i64 0) rfl (by kernel_rfl) (by kernel_rfl) (by kernel_rfl) (fun _ _ _ h => h)
    (Or.inl ⟨by rfl, by intro w hSw; clear hSw; go_simp⟩) hHeld ?_
  try simp only [Act.put, List.setIfInBounds_toArray, List.set_cons_zero, List.set_cons_succ]
  refine wpAnyH_take (i := 4) (oi := { dst := some 56, op := Op.binOp BinOp.eql 24 (Operand.tmp 55) (Operand.const (Value.int IntKind.i64 0)) 24, type := 4, pos := "more.go:16", after := #[{ on := 3, ground := Ground.data }, { on := 2, ground := Ground.guard }], guard := some (2, true) }) (v := .bool true) rfl (by kernel_rfl) (by kernel_rfl) (by kernel_rfl) (fun _ _ _ h => h)
    (Or.inl ⟨by rfl, by intro w hSw; clear hSw; go_simp⟩) hHeld ?_
  try simp only [Act.put, List.setIfInBounds_toArray, List.set_cons_zero, List.set_cons_succ]
  refine wpAnyH_take (i := 5) (oi := { dst := some 57, op := Op.pick (Operand.tmp 54) (Operand.tmp 56) (Operand.const (Value.bool false)), type := 4, pos := "more.go:16", after := #[{ on := 2, ground := Ground.data }, { on := 4, ground := Ground.data }], guard := none }) (v := .bool true) rfl (by kernel_rfl) (by kernel_rfl) (by kernel_rfl) (fun _ _ _ h => h)
    (Or.inl ⟨by rfl, by intro w hSw; clear hSw; go_simp⟩) hHeld ?_
  try simp only [Act.put, List.setIfInBounds_toArray, List.set_cons_zero, List.set_cons_succ]
  refine wpAnyH_take (i := 6) (oi := { dst := some 58, op := Op.move (Operand.tmp 57), type := 4, pos := "more.go:16", after := #[{ on := 5, ground := Ground.data }, { on := 2, ground := Ground.chain }], guard := none }) (v := .bool true) rfl (by kernel_rfl) (by kernel_rfl) (by kernel_rfl) (fun _ _ _ h => h)
    (Or.inl ⟨by rfl, by intro w hSw; clear hSw; go_simp⟩) hHeld ?_
  try simp only [Act.put, List.setIfInBounds_toArray, List.set_cons_zero, List.set_cons_succ]
  refine wpAnyH_take (i := 7) (oi := { dst := some 59, op := Op.move (Operand.tmp 13), type := 9, pos := "more.go:16", after := #[{ on := 6, ground := Ground.guard }], guard := some (6, true) }) (v := .string PA) rfl (by kernel_rfl) (by kernel_rfl) (by kernel_rfl) (fun _ _ _ h => h)
    (Or.inl ⟨by rfl, by intro w hSw; clear hSw; go_simp⟩) hHeld ?_
  try simp only [Act.put, List.setIfInBounds_toArray, List.set_cons_zero, List.set_cons_succ]
  refine wpAnyH_take (i := 8) (oi := { dst := some 60, op := Op.move (Operand.tmp 15), type := 9, pos := "more.go:16", after := #[{ on := 6, ground := Ground.guard }], guard := some (6, true) }) (v := .string PB) rfl (by kernel_rfl) (by kernel_rfl) (by kernel_rfl) (fun _ _ _ h => h)
    (Or.inl ⟨by rfl, by intro w hSw; clear hSw; go_simp⟩) hHeld ?_
  try simp only [Act.put, List.setIfInBounds_toArray, List.set_cons_zero, List.set_cons_succ]
  refine wpAnyH_take (i := 9) (oi := { dst := some 61, op := Op.binOp BinOp.eql 9 (Operand.tmp 59) (Operand.tmp 60) 9, type := 4, pos := "more.go:16", after := #[{ on := 7, ground := Ground.data }, { on := 8, ground := Ground.data }, { on := 6, ground := Ground.guard }], guard := some (6, true) }) (v := .bool pe) rfl (by kernel_rfl) (by kernel_rfl) (by kernel_rfl) (fun _ _ _ h => h)
    (Or.inl ⟨by rfl, by intro w hSw; clear hSw; go_simp⟩) hHeld ?_
  try simp only [Act.put, List.setIfInBounds_toArray, List.set_cons_zero, List.set_cons_succ]
  refine wpAnyH_take (i := 10) (oi := { dst := some 62, op := Op.move (Operand.tmp 0), type := 9, pos := "more.go:16", after := #[{ on := 6, ground := Ground.guard }], guard := some (6, true) }) (v := .string a) rfl (by kernel_rfl) (by kernel_rfl) (by kernel_rfl) (fun _ _ _ h => h)
    (Or.inl ⟨by rfl, by intro w hSw; clear hSw; go_simp⟩) hHeld ?_
  try simp only [Act.put, List.setIfInBounds_toArray, List.set_cons_zero, List.set_cons_succ]
  refine wpAnyH_take (i := 11) (oi := { dst := some 63, op := Op.load 22 (Operand.tmp 8), type := 22, pos := "more.go:16", after := #[{ on := 6, ground := Ground.guard }], guard := some (6, true) }) rfl (by kernel_rfl) (by kernel_rfl) (by kernel_rfl) (fun _ _ _ h => h)
    (yieldsIf_load_mid (by rfl) 22 (.tmp 8) rfl G1 0 rfl LC _ (fun _ h => h.ranC) hu32 rfl hiC) hHeld ?_
  try simp only [Act.put, List.setIfInBounds_toArray, List.set_cons_zero, List.set_cons_succ]
  refine wpAnyH_take (i := 12) (oi := { dst := some 64, op := Op.move (Operand.tmp 4), type := 9, pos := "more.go:16", after := #[{ on := 6, ground := Ground.guard }], guard := some (6, true) }) (v := .string name) rfl (by kernel_rfl) (by kernel_rfl) (by kernel_rfl) (fun _ _ _ h => h)
    (Or.inl ⟨by rfl, by intro w hSw; clear hSw; go_simp⟩) hHeld ?_
  try simp only [Act.put, List.setIfInBounds_toArray, List.set_cons_zero, List.set_cons_succ]
  refine wpAnyH_take (i := 14) (oi := { dst := some 66, op := Op.move (Operand.tmp 1), type := 9, pos := "more.go:16", after := #[{ on := 6, ground := Ground.guard }], guard := some (6, true) }) (v := .string b) rfl (by kernel_rfl) (by kernel_rfl) (by kernel_rfl) (fun _ _ _ h => h)
    (Or.inl ⟨by rfl, by intro w hSw; clear hSw; go_simp⟩) hHeld ?_
  try simp only [Act.put, List.setIfInBounds_toArray, List.set_cons_zero, List.set_cons_succ]
  refine wpAnyH_take (i := 15) (oi := { dst := some 67, op := Op.load 22 (Operand.tmp 9), type := 22, pos := "more.go:16", after := #[{ on := 6, ground := Ground.guard }], guard := some (6, true) }) rfl (by kernel_rfl) (by kernel_rfl) (by kernel_rfl) (fun _ _ _ h => h)
    (yieldsIf_load_mid (by rfl) 22 (.tmp 9) rfl G2 0 rfl LE _ (fun _ h => h.ranE) hu32 rfl hiE) hHeld ?_
  try simp only [Act.put, List.setIfInBounds_toArray, List.set_cons_zero, List.set_cons_succ]
  refine wpAnyH_take (i := 16) (oi := { dst := some 68, op := Op.move (Operand.tmp 5), type := 9, pos := "more.go:16", after := #[{ on := 6, ground := Ground.guard }], guard := some (6, true) }) (v := .string other) rfl (by kernel_rfl) (by kernel_rfl) (by kernel_rfl) (fun _ _ _ h => h)
    (Or.inl ⟨by rfl, by intro w hSw; clear hSw; go_simp⟩) hHeld ?_
  try simp only [Act.put, List.setIfInBounds_toArray, List.set_cons_zero, List.set_cons_succ]
  refine wpAnyH_ready (rs := [13]) (by kernel_rfl) (by simp) ?_
  refine AllReadyH.cons (o := { dst := some 65, op := Op.call { callee := Callee.value (Operand.func 8), args := #[Operand.tmp 62, Operand.tmp 63, Operand.tmp 64], argTypes := #[9, 22, 9] }, type := 9, pos := "more.go:16", after := #[{ on := 10, ground := Ground.data }, { on := 11, ground := Ground.data }, { on := 12, ground := Ground.data }, { on := 6, ground := Ground.chain }, { on := 6, ground := Ground.guard }], guard := some (6, true) }) rfl (fun K hK => ?_) AllReadyH.nil
  go_simp
  refine (two_ref a name d PA HPA HCD HD HA HN hHeld).mono ?_
  rintro e w9 ⟨rfl, hm9⟩
  go_wp2_with fail
  refine hK.out _ _ hm9 (fun hHeld2 => ?_)
  clear hK K hHeld
  try simp only [Act.put, List.setIfInBounds_toArray, List.set_cons_zero, List.set_cons_succ]
  refine wpAnyH_ready (rs := [17]) (by kernel_rfl) (by simp) ?_
  refine AllReadyH.cons (o := { dst := some 69, op := Op.call { callee := Callee.value (Operand.func 8), args := #[Operand.tmp 66, Operand.tmp 67, Operand.tmp 68], argTypes := #[9, 22, 9] }, type := 9, pos := "more.go:16", after := #[{ on := 14, ground := Ground.data }, { on := 15, ground := Ground.data }, { on := 16, ground := Ground.data }, { on := 13, ground := Ground.chain }, { on := 6, ground := Ground.guard }], guard := some (6, true) }) rfl (fun K hK => ?_) AllReadyH.nil
  go_simp
  refine (two_ref b other e PB HPB HCE HE HB HO hHeld2).mono ?_
  rintro e w9 ⟨rfl, hm9⟩
  go_wp2_with fail
  refine hK.out _ _ hm9 (fun hHeld3 => ?_)
  clear hK K hHeld2
  try simp only [Act.put, List.setIfInBounds_toArray, List.set_cons_zero, List.set_cons_succ]
  refine wpAnyH_take (i := 18) (oi := { dst := some 70, op := Op.binOp BinOp.eql 9 (Operand.tmp 65) (Operand.tmp 69) 9, type := 4, pos := "more.go:16", after := #[{ on := 13, ground := Ground.data }, { on := 17, ground := Ground.data }, { on := 6, ground := Ground.guard }], guard := some (6, true) }) (v := .bool pe) rfl (by kernel_rfl) (by kernel_rfl) (by kernel_rfl) (fun _ _ _ h => h)
    (Or.inl ⟨by rfl, by intro w hSw; clear hSw; go_simp⟩) hHeld3 ?_
  try simp only [Act.put, List.setIfInBounds_toArray, List.set_cons_zero, List.set_cons_succ]
  refine wpAnyH_take (i := 19) (oi := { dst := some 71, op := Op.binOp BinOp.eql 4 (Operand.tmp 61) (Operand.tmp 70) 4, type := 4, pos := "more.go:16", after := #[{ on := 9, ground := Ground.data }, { on := 18, ground := Ground.data }, { on := 6, ground := Ground.guard }], guard := some (6, true) }) (v := .bool true) rfl (by kernel_rfl) (by kernel_rfl) (by kernel_rfl) (fun _ _ _ h => h)
    (Or.inl ⟨by rfl, by intro w hSw; clear hSw; go_simp⟩) hHeld3 ?_
  try simp only [Act.put, List.setIfInBounds_toArray, List.set_cons_zero, List.set_cons_succ]
  refine wpAnyH_take (i := 20) (oi := { dst := some 72, op := Op.pick (Operand.tmp 58) (Operand.tmp 71) (Operand.const (Value.bool false)), type := 4, pos := "more.go:16", after := #[{ on := 6, ground := Ground.data }, { on := 19, ground := Ground.data }], guard := none }) (v := .bool true) rfl (by kernel_rfl) (by kernel_rfl) (by kernel_rfl) (fun _ _ _ h => h)
    (Or.inl ⟨by rfl, by intro w hSw; clear hSw; go_simp⟩) hHeld3 ?_
  try simp only [Act.put, List.setIfInBounds_toArray, List.set_cons_zero, List.set_cons_succ]
  refine wpAnyH_take (i := 21) (oi := { dst := some 73, op := Op.move (Operand.tmp 72), type := 4, pos := "more.go:16", after := #[{ on := 20, ground := Ground.data }, { on := 17, ground := Ground.chain }], guard := none }) (v := .bool true) rfl (by kernel_rfl) (by kernel_rfl) (by kernel_rfl) (fun _ _ _ h => h)
    (Or.inl ⟨by rfl, by intro w hSw; clear hSw; go_simp⟩) hHeld3 ?_
  try simp only [Act.put, List.setIfInBounds_toArray, List.set_cons_zero, List.set_cons_succ]
  refine wpAnyH_take (i := 22) (oi := { dst := some 74, op := Op.move (Operand.tmp 0), type := 9, pos := "more.go:16", after := #[{ on := 21, ground := Ground.guard }], guard := some (21, true) }) (v := .string a) rfl (by kernel_rfl) (by kernel_rfl) (by kernel_rfl) (fun _ _ _ h => h)
    (Or.inl ⟨by rfl, by intro w hSw; clear hSw; go_simp⟩) hHeld3 ?_
  try simp only [Act.put, List.setIfInBounds_toArray, List.set_cons_zero, List.set_cons_succ]
  refine wpAnyH_take (i := 23) (oi := { dst := some 75, op := Op.move (Operand.tmp 1), type := 9, pos := "more.go:16", after := #[{ on := 21, ground := Ground.guard }], guard := some (21, true) }) (v := .string b) rfl (by kernel_rfl) (by kernel_rfl) (by kernel_rfl) (fun _ _ _ h => h)
    (Or.inl ⟨by rfl, by intro w hSw; clear hSw; go_simp⟩) hHeld3 ?_
  try simp only [Act.put, List.setIfInBounds_toArray, List.set_cons_zero, List.set_cons_succ]
  refine wpAnyH_take (i := 24) (oi := { dst := some 76, op := Op.binOp BinOp.neq 9 (Operand.tmp 74) (Operand.tmp 75) 9, type := 4, pos := "more.go:16", after := #[{ on := 22, ground := Ground.data }, { on := 23, ground := Ground.data }, { on := 21, ground := Ground.guard }], guard := some (21, true) }) (v := .bool true) rfl (by kernel_rfl) (by kernel_rfl) (by kernel_rfl) (fun _ _ _ h => h)
    (Or.inl ⟨by rfl, by intro w hSw; clear hSw; go_simp⟩) hHeld3 ?_
  try simp only [Act.put, List.setIfInBounds_toArray, List.set_cons_zero, List.set_cons_succ]
  refine wpAnyH_take (i := 25) (oi := { dst := some 77, op := Op.move (Operand.tmp 76), type := 4, pos := "more.go:16", after := #[{ on := 24, ground := Ground.data }, { on := 21, ground := Ground.chain }, { on := 21, ground := Ground.guard }], guard := some (21, true) }) (v := .bool true) rfl (by kernel_rfl) (by kernel_rfl) (by kernel_rfl) (fun _ _ _ h => h)
    (Or.inl ⟨by rfl, by intro w hSw; clear hSw; go_simp⟩) hHeld3 ?_
  try simp only [Act.put, List.setIfInBounds_toArray, List.set_cons_zero, List.set_cons_succ]
  refine wpAnyH_take (i := 26) (oi := { dst := some 78, op := Op.load 22 (Operand.tmp 8), type := 22, pos := "more.go:16", after := #[{ on := 25, ground := Ground.guard }], guard := some (25, false) }) (v := undef) rfl (by kernel_rfl) (by kernel_rfl) (by kernel_rfl) (fun _ _ _ h => h)
    (Or.inr ⟨by rfl, rfl⟩) hHeld3 ?_
  try simp only [Act.put, List.setIfInBounds_toArray, List.set_cons_zero, List.set_cons_succ]
  refine wpAnyH_take (i := 27) (oi := { dst := some 79, op := Op.load 22 (Operand.tmp 9), type := 22, pos := "more.go:16", after := #[{ on := 25, ground := Ground.guard }], guard := some (25, false) }) (v := undef) rfl (by kernel_rfl) (by kernel_rfl) (by kernel_rfl) (fun _ _ _ h => h)
    (Or.inr ⟨by rfl, rfl⟩) hHeld3 ?_
  try simp only [Act.put, List.setIfInBounds_toArray, List.set_cons_zero, List.set_cons_succ]
  refine wpAnyH_take (i := 28) (oi := { dst := some 80, op := Op.binOp BinOp.neq 22 (Operand.tmp 78) (Operand.tmp 79) 22, type := 4, pos := "more.go:16", after := #[{ on := 26, ground := Ground.data }, { on := 27, ground := Ground.data }, { on := 25, ground := Ground.guard }], guard := some (25, false) }) (v := undef) rfl (by kernel_rfl) (by kernel_rfl) (by kernel_rfl) (fun _ _ _ h => h)
    (Or.inr ⟨by rfl, rfl⟩) hHeld3 ?_
  try simp only [Act.put, List.setIfInBounds_toArray, List.set_cons_zero, List.set_cons_succ]
  refine wpAnyH_take (i := 29) (oi := { dst := some 81, op := Op.pick (Operand.tmp 77) (Operand.const (Value.bool true)) (Operand.tmp 80), type := 4, pos := "more.go:16", after := #[{ on := 25, ground := Ground.data }, { on := 28, ground := Ground.data }, { on := 21, ground := Ground.guard }], guard := some (21, true) }) (v := .bool true) rfl (by kernel_rfl) (by kernel_rfl) (by kernel_rfl) (fun _ _ _ h => h)
    (Or.inl ⟨by rfl, by intro w hSw; clear hSw; go_simp⟩) hHeld3 ?_
  try simp only [Act.put, List.setIfInBounds_toArray, List.set_cons_zero, List.set_cons_succ]
  refine wpAnyH_take (i := 30) (oi := { dst := some 82, op := Op.move (Operand.tmp 81), type := 4, pos := "more.go:16", after := #[{ on := 29, ground := Ground.data }, { on := 25, ground := Ground.chain }, { on := 21, ground := Ground.guard }], guard := some (21, true) }) (v := .bool true) rfl (by kernel_rfl) (by kernel_rfl) (by kernel_rfl) (fun _ _ _ h => h)
    (Or.inl ⟨by rfl, by intro w hSw; clear hSw; go_simp⟩) hHeld3 ?_
  try simp only [Act.put, List.setIfInBounds_toArray, List.set_cons_zero, List.set_cons_succ]
  refine wpAnyH_take (i := 31) (oi := { dst := some 83, op := Op.move (Operand.tmp 4), type := 9, pos := "more.go:16", after := #[{ on := 30, ground := Ground.guard }], guard := some (30, false) }) (v := undef) rfl (by kernel_rfl) (by kernel_rfl) (by kernel_rfl) (fun _ _ _ h => h)
    (Or.inr ⟨by rfl, rfl⟩) hHeld3 ?_
  try simp only [Act.put, List.setIfInBounds_toArray, List.set_cons_zero, List.set_cons_succ]
  refine wpAnyH_take (i := 32) (oi := { dst := some 84, op := Op.move (Operand.tmp 5), type := 9, pos := "more.go:16", after := #[{ on := 30, ground := Ground.guard }], guard := some (30, false) }) (v := undef) rfl (by kernel_rfl) (by kernel_rfl) (by kernel_rfl) (fun _ _ _ h => h)
    (Or.inr ⟨by rfl, rfl⟩) hHeld3 ?_
  try simp only [Act.put, List.setIfInBounds_toArray, List.set_cons_zero, List.set_cons_succ]
  refine wpAnyH_take (i := 33) (oi := { dst := some 85, op := Op.binOp BinOp.neq 9 (Operand.tmp 83) (Operand.tmp 84) 9, type := 4, pos := "more.go:16", after := #[{ on := 31, ground := Ground.data }, { on := 32, ground := Ground.data }, { on := 30, ground := Ground.guard }], guard := some (30, false) }) (v := undef) rfl (by kernel_rfl) (by kernel_rfl) (by kernel_rfl) (fun _ _ _ h => h)
    (Or.inr ⟨by rfl, rfl⟩) hHeld3 ?_
  try simp only [Act.put, List.setIfInBounds_toArray, List.set_cons_zero, List.set_cons_succ]
  refine wpAnyH_take (i := 34) (oi := { dst := some 86, op := Op.pick (Operand.tmp 82) (Operand.const (Value.bool true)) (Operand.tmp 85), type := 4, pos := "more.go:16", after := #[{ on := 30, ground := Ground.data }, { on := 33, ground := Ground.data }, { on := 21, ground := Ground.guard }], guard := some (21, true) }) (v := .bool true) rfl (by kernel_rfl) (by kernel_rfl) (by kernel_rfl) (fun _ _ _ h => h)
    (Or.inl ⟨by rfl, by intro w hSw; clear hSw; go_simp⟩) hHeld3 ?_
  try simp only [Act.put, List.setIfInBounds_toArray, List.set_cons_zero, List.set_cons_succ]
  refine wpAnyH_take (i := 35) (oi := { dst := some 87, op := Op.move (Operand.tmp 86), type := 4, pos := "more.go:16", after := #[{ on := 34, ground := Ground.data }, { on := 30, ground := Ground.chain }, { on := 21, ground := Ground.guard }], guard := some (21, true) }) (v := .bool true) rfl (by kernel_rfl) (by kernel_rfl) (by kernel_rfl) (fun _ _ _ h => h)
    (Or.inl ⟨by rfl, by intro w hSw; clear hSw; go_simp⟩) hHeld3 ?_
  try simp only [Act.put, List.setIfInBounds_toArray, List.set_cons_zero, List.set_cons_succ]
  refine wpAnyH_take (i := 36) (oi := { dst := some 88, op := Op.move (Operand.tmp 13), type := 9, pos := "more.go:16", after := #[{ on := 35, ground := Ground.guard }], guard := some (35, false) }) (v := undef) rfl (by kernel_rfl) (by kernel_rfl) (by kernel_rfl) (fun _ _ _ h => h)
    (Or.inr ⟨by rfl, rfl⟩) hHeld3 ?_
  try simp only [Act.put, List.setIfInBounds_toArray, List.set_cons_zero, List.set_cons_succ]
  refine wpAnyH_take (i := 37) (oi := { dst := some 89, op := Op.move (Operand.tmp 15), type := 9, pos := "more.go:16", after := #[{ on := 35, ground := Ground.guard }], guard := some (35, false) }) (v := undef) rfl (by kernel_rfl) (by kernel_rfl) (by kernel_rfl) (fun _ _ _ h => h)
    (Or.inr ⟨by rfl, rfl⟩) hHeld3 ?_
  try simp only [Act.put, List.setIfInBounds_toArray, List.set_cons_zero, List.set_cons_succ]
  refine wpAnyH_take (i := 38) (oi := { dst := some 90, op := Op.binOp BinOp.eql 9 (Operand.tmp 88) (Operand.tmp 89) 9, type := 4, pos := "more.go:16", after := #[{ on := 36, ground := Ground.data }, { on := 37, ground := Ground.data }, { on := 35, ground := Ground.guard }], guard := some (35, false) }) (v := undef) rfl (by kernel_rfl) (by kernel_rfl) (by kernel_rfl) (fun _ _ _ h => h)
    (Or.inr ⟨by rfl, rfl⟩) hHeld3 ?_
  try simp only [Act.put, List.setIfInBounds_toArray, List.set_cons_zero, List.set_cons_succ]
  refine wpAnyH_take (i := 39) (oi := { dst := some 91, op := Op.pick (Operand.tmp 87) (Operand.const (Value.bool true)) (Operand.tmp 90), type := 4, pos := "more.go:16", after := #[{ on := 35, ground := Ground.data }, { on := 38, ground := Ground.data }, { on := 21, ground := Ground.guard }], guard := some (21, true) }) (v := .bool true) rfl (by kernel_rfl) (by kernel_rfl) (by kernel_rfl) (fun _ _ _ h => h)
    (Or.inl ⟨by rfl, by intro w hSw; clear hSw; go_simp⟩) hHeld3 ?_
  try simp only [Act.put, List.setIfInBounds_toArray, List.set_cons_zero, List.set_cons_succ]
  refine wpAnyH_take (i := 40) (oi := { dst := some 92, op := Op.pick (Operand.tmp 73) (Operand.tmp 91) (Operand.const (Value.bool false)), type := 4, pos := "more.go:16", after := #[{ on := 21, ground := Ground.data }, { on := 39, ground := Ground.data }], guard := none }) (v := .bool true) rfl (by kernel_rfl) (by kernel_rfl) (by kernel_rfl) (fun _ _ _ h => h)
    (Or.inl ⟨by rfl, by intro w hSw; clear hSw; go_simp⟩) hHeld3 ?_
  try simp only [Act.put, List.setIfInBounds_toArray, List.set_cons_zero, List.set_cons_succ]
  refine wpAnyH_take (i := 41) (oi := { dst := some 12, op := Op.assign (Operand.tmp 92), type := 4, pos := "more.go:16", after := #[{ on := 40, ground := Ground.data }, { on := 35, ground := Ground.chain }, { on := 0, ground := Ground.phase }, { on := 1, ground := Ground.phase }, { on := 2, ground := Ground.phase }, { on := 3, ground := Ground.phase }, { on := 4, ground := Ground.phase }, { on := 5, ground := Ground.phase }, { on := 6, ground := Ground.phase }, { on := 7, ground := Ground.phase }, { on := 8, ground := Ground.phase }, { on := 9, ground := Ground.phase }, { on := 10, ground := Ground.phase }, { on := 11, ground := Ground.phase }, { on := 12, ground := Ground.phase }, { on := 13, ground := Ground.phase }, { on := 14, ground := Ground.phase }, { on := 15, ground := Ground.phase }, { on := 16, ground := Ground.phase }, { on := 17, ground := Ground.phase }, { on := 18, ground := Ground.phase }, { on := 19, ground := Ground.phase }, { on := 20, ground := Ground.phase }, { on := 21, ground := Ground.phase }, { on := 22, ground := Ground.phase }, { on := 23, ground := Ground.phase }, { on := 24, ground := Ground.phase }, { on := 25, ground := Ground.phase }, { on := 26, ground := Ground.phase }, { on := 27, ground := Ground.phase }, { on := 28, ground := Ground.phase }, { on := 29, ground := Ground.phase }, { on := 30, ground := Ground.phase }, { on := 31, ground := Ground.phase }, { on := 32, ground := Ground.phase }, { on := 33, ground := Ground.phase }, { on := 34, ground := Ground.phase }, { on := 35, ground := Ground.phase }, { on := 36, ground := Ground.phase }, { on := 37, ground := Ground.phase }, { on := 38, ground := Ground.phase }, { on := 39, ground := Ground.phase }, { on := 40, ground := Ground.phase }], guard := none }) (v := .bool true) rfl (by kernel_rfl) (by kernel_rfl) (by kernel_rfl) (fun _ _ _ h => h)
    (Or.inl ⟨by rfl, by intro w hSw; clear hSw; go_simp⟩) hHeld3 ?_
  try simp only [Act.put, List.setIfInBounds_toArray, List.set_cons_zero, List.set_cons_succ]
  refine wpAnyH_done (by kernel_rfl) ?_ _
  go_wp2_with fail
  go_ret
  exact ⟨rfl, by rw [hpost.out]; exact hHeld3.below⟩

set_option maxRecDepth 100000 in
set_option maxHeartbeats 20000000 in
theorem apart_near2 (w : World) (a b name other : ByteArray) (d e : List UInt8) (hd : d.length = 32) (he : e.length = 32) (hl : LaidW w) (h : a.size + b.size ≤ 500) (hn : B.isName name.data.toList = true) (ho : B.isName other.data.toList = true) (hab : a = b) (hde : d ≠ e) :
    Calls Tryd.prog 4 #[.string a, .string b, .agg (d.map B.bv).toArray, .agg (e.map B.bv).toArray, .string name, .string other] w fun r w' => r = .returned (.bool true) ∧ Below w.heap.size w w' := by
  subst hab
  obtain ⟨LC, hLC⟩ : ∃ L, L = d.map B.bv := ⟨_, rfl⟩
  obtain ⟨LE, hLE⟩ : ∃ L, L = e.map B.bv := ⟨_, rfl⟩
  have hnot : ∀ (x : Bool) (w : World), (Op.unary .not (.bool x)).run Tryd.prog w = .ok (.bool (!x)) w := fun _ _ => rfl
  have hx : ¬ (500 : Int) < (a.size : Int) + (a.size : Int) := by omega
  have hu32 := Tryd.underlying22
  have hgd := guard_32
  have HCD := Lib.hid hLC
  have HCE := Lib.hid hLE
  have HD := Lib.hid hd
  have HE := Lib.hid he
  have hiC' : (Tryd.prog.info? 22).map (·.size) = some LC.length := by rw [hLC, List.length_map, hd]; kernel_rfl
  have hiE' : (Tryd.prog.info? 22).map (·.size) = some LE.length := by rw [hLE, List.length_map, HE.out]; kernel_rfl
  have I1 : Hid ((Tryd.prog.info? 22).map (·.size) = some LC.toArray.size) := Lib.hid (by rw [List.size_toArray]; exact hiC')
  have I2 : Hid ((Tryd.prog.info? 22).map (·.size) = some LE.toArray.size) := Lib.hid (by rw [List.size_toArray]; exact hiE')
  have HA : Hid (a.size ≤ 2000) := Lib.hid (by omega)
  have HB : Hid (a.size ≤ 2000) := Lib.hid (by omega)
  have sn := B.name_small hn
  have so := B.name_small ho
  have ln : name.data.toList.length = name.size := by simp
  have lo : other.data.toList.length = other.size := by simp
  have HN : Hid (name.size ≤ 40) := Lib.hid (by omega)
  have HO : Hid (other.size ≤ 40) := Lib.hid (by omega)
  have HNT := Lib.hid hn
  have HOT := Lib.hid ho
  have HL := Lib.hid hl
  obtain ⟨PA, hPA⟩ : ∃ P, P = B.pathB (fd (mkT a.data.toList d name.data.toList)) name := ⟨_, rfl⟩
  obtain ⟨PB, hPB⟩ : ∃ P, P = B.pathB (fd (mkT a.data.toList e other.data.toList)) other := ⟨_, rfl⟩
  have HPA := Lib.hid hPA
  have HPB := Lib.hid hPB
  obtain ⟨pe, hpe⟩ : ∃ pe, (PA.toList == PB.toList) = pe := ⟨_, rfl⟩
  have heq : ∀ W, (Op.equalIn 10000 22 (.agg LC.toArray) (.agg LE.toArray)).run Tryd.prog W = .ok false W := by
    intro W
    have := eql_32 W (nats d) (nats e) (by simpa [nats] using hd) (by simpa [nats] using he)
    rw [hLC, hLE, B.bv_byv, B.bv_byv]
    rw [show d.map UInt8.toNat = nats d from rfl, show e.map UInt8.toNat = nats e from rfl, this]
    congr 1
    rw [decide_eq_false_iff_not]
    intro hne
    have hinj : Function.Injective UInt8.toNat := fun a b h => UInt8.toNat_inj.1 h
    exact hde ((List.map_inj_right hinj).1 hne)
  rw [← HCD.out, ← HCE.out]
  clear hLC hLE hd he hl hn ho sn so ln lo hPA hPB hde
  go_enter Tryd.func4, Tryd.ntmps4
  go_wp2_with fail
  obtain ⟨w1, hw1⟩ : ∃ w1, w1 = (w.alloc (.cells LC.toArray 22)).alloc (.cells LE.toArray 22) := ⟨_, rfl⟩
  have c1 : w1.heap[w.heap.size]? = some (.cells LC.toArray 22 (0, 0)) := by
    rw [hw1]; exact (Go.RowKit.Below.heap_alloc _ _ _ (by simp)).trans (heap_alloc_new w _)
  have e1 : w1.heap[w.heap.size + 1]? = some (.cells LE.toArray 22 (0, 0)) := by
    have h := heap_alloc_new (w.alloc (.cells LC.toArray 22)) (.cells LE.toArray 22)
    have hs : (w.alloc (.cells LC.toArray 22)).heap.size = w.heap.size + 1 := by simp
    rw [hs, ← hw1] at h
    exact h
  have b1 : Below w.heap.size w w1 := by rw [hw1]; exact ((Below.refl _ _).alloc (Nat.le_refl _) _).alloc (by simp) _
  rw [← hw1]
  obtain ⟨w0, hw0⟩ : ∃ w0, w0 = w := ⟨_, rfl⟩
  obtain ⟨G1, hG1⟩ : ∃ G, G = w.heap.size := ⟨_, rfl⟩
  obtain ⟨G2, hG2⟩ : ∃ G, G = w.heap.size + 1 := ⟨_, rfl⟩
  have M1 : Hid (Two w0 G1 G2 LC LE w1) := Lib.hid ⟨by rw [hG1]; exact c1, by rw [hG2]; exact e1, by rw [hw0]; exact b1⟩
  rw [← hG2, ← hG1]
  have HW0 := Lib.hid hw0
  have HL0 : Hid (LaidW w0) := Lib.hid (by rw [hw0]; exact HL.out)
  have hpost : Hid (Below w.heap.size w = Below w0.heap.size w0) := Lib.hid (by rw [hw0])
  clear hw1 c1 e1 b1 hG1 hG2 hw0
  refine (B.awake_any w1).mono ?_
  rintro r w2 ⟨rfl, b2⟩
  have M2 := Lib.hid (M1.out.later b2)
  clear b2 M1
  go_wp2_with fail
  refine (B.rname_any name _ (by have := HN.out; omega)).mono ?_
  rintro r w3 ⟨rfl, rfl⟩
  rw [HNT.out]
  go_wp2_with fail
  refine (B.rname_any other _ (by have := HO.out; omega)).mono ?_
  rintro r w3 ⟨rfl, rfl⟩
  rw [HOT.out]
  go_wp2_with (refine wpList_load_row rfl 22 _ rfl G1 rfl 22 LC.toArray (0, 0) _ M2.out.c Tryd.underlying22 rfl I1.out ?_)
  obtain ⟨V1, hV1⟩ : ∃ V, V = makeV a name d := ⟨_, rfl⟩
  rw [makeV_yes HNT.out, ← HPA.out] at hV1
  have HV1 := Lib.hid hV1
  have K1 := nmake_any a name d w2 (HL0.out.below M2.out.below HL0.out.two) HA.out HD.out (by have := HN.out; omega)
  rw [makeV_yes HNT.out, ← HPA.out, ← HCD.out] at K1
  have HK1 := Lib.hid K1
  clear K1 hV1 HV1
  refine HK1.out.mono ?_
  rintro r w3 ⟨rfl, b3⟩
  have M3 := Lib.hid (M2.out.later b3)
  clear b3 M2 HK1
  go_wp2_with (refine wpList_load_row rfl 22 _ rfl G2 rfl 22 LE.toArray (0, 0) _ M3.out.e Tryd.underlying22 rfl I2.out ?_)
  have K2 := nmake_any a other e w3 (HL0.out.below M3.out.below HL0.out.two) HB.out HE.out (by have := HO.out; omega)
  rw [makeV_yes HOT.out, ← HPB.out, ← HCE.out] at K2
  have HK2 := Lib.hid K2
  clear K2
  refine HK2.out.mono ?_
  rintro r w4 ⟨rfl, b4⟩
  have MM := Lib.hid (M3.out.later b4)
  have hiC := hiC'
  have hiE := hiE'
  clear b4 M3 HK2 hiC' hiE' I1 I2
  go_wp2_with fail
  refine wp_region_held_drew (S := Two w0 G1 G2 LC LE) (by kernel_rfl) MM.out.drew (fun hHeld => ?_)
  refine wpAnyH_take (i := 0) (oi := { dst := some 52, op := Op.move (Operand.tmp 14), type := 24, pos := "more.go:16", after := #[], guard := none }) (v := .int .i64 0) rfl (by kernel_rfl) (by kernel_rfl) (by kernel_rfl) (fun _ _ _ h => h)
    (Or.inl ⟨by rfl, by intro w hSw; clear hSw; go_simp⟩) hHeld ?_
  try simp only [Act.put, List.setIfInBounds_toArray, List.set_cons_zero, List.set_cons_succ]
  refine wpAnyH_take (i := 1) (oi := { dst := some 53, op := Op.binOp BinOp.eql 24 (Operand.tmp 52) (Operand.const (Value.int IntKind.i64 0)) 24, type := 4, pos := "more.go:16", after := #[{ on := 0, ground := Ground.data }], guard := none }) (v := .bool true) rfl (by kernel_rfl) (by kernel_rfl) (by kernel_rfl) (fun _ _ _ h => h)
    (Or.inl ⟨by rfl, by intro w hSw; clear hSw; go_simp⟩) hHeld ?_
  try simp only [Act.put, List.setIfInBounds_toArray, List.set_cons_zero, List.set_cons_succ]
  refine wpAnyH_take (i := 2) (oi := { dst := some 54, op := Op.move (Operand.tmp 53), type := 4, pos := "more.go:16", after := #[{ on := 1, ground := Ground.data }], guard := none }) (v := .bool true) rfl (by kernel_rfl) (by kernel_rfl) (by kernel_rfl) (fun _ _ _ h => h)
    (Or.inl ⟨by rfl, by intro w hSw; clear hSw; go_simp⟩) hHeld ?_
  try simp only [Act.put, List.setIfInBounds_toArray, List.set_cons_zero, List.set_cons_succ]
  refine wpAnyH_take (i := 3) (oi := { dst := some 55, op := Op.move (Operand.tmp 16), type := 24, pos := "more.go:16", after := #[{ on := 2, ground := Ground.guard }], guard := some (2, true) }) (v := .int .i64 0) rfl (by kernel_rfl) (by kernel_rfl) (by kernel_rfl) (fun _ _ _ h => h)
    (Or.inl ⟨by rfl, by intro w hSw; clear hSw; go_simp⟩) hHeld ?_
  try simp only [Act.put, List.setIfInBounds_toArray, List.set_cons_zero, List.set_cons_succ]
  refine wpAnyH_take (i := 4) (oi := { dst := some 56, op := Op.binOp BinOp.eql 24 (Operand.tmp 55) (Operand.const (Value.int IntKind.i64 0)) 24, type := 4, pos := "more.go:16", after := #[{ on := 3, ground := Ground.data }, { on := 2, ground := Ground.guard }], guard := some (2, true) }) (v := .bool true) rfl (by kernel_rfl) (by kernel_rfl) (by kernel_rfl) (fun _ _ _ h => h)
    (Or.inl ⟨by rfl, by intro w hSw; clear hSw; go_simp⟩) hHeld ?_
  try simp only [Act.put, List.setIfInBounds_toArray, List.set_cons_zero, List.set_cons_succ]
  refine wpAnyH_take (i := 5) (oi := { dst := some 57, op := Op.pick (Operand.tmp 54) (Operand.tmp 56) (Operand.const (Value.bool false)), type := 4, pos := "more.go:16", after := #[{ on := 2, ground := Ground.data }, { on := 4, ground := Ground.data }], guard := none }) (v := .bool true) rfl (by kernel_rfl) (by kernel_rfl) (by kernel_rfl) (fun _ _ _ h => h)
    (Or.inl ⟨by rfl, by intro w hSw; clear hSw; go_simp⟩) hHeld ?_
  try simp only [Act.put, List.setIfInBounds_toArray, List.set_cons_zero, List.set_cons_succ]
  refine wpAnyH_take (i := 6) (oi := { dst := some 58, op := Op.move (Operand.tmp 57), type := 4, pos := "more.go:16", after := #[{ on := 5, ground := Ground.data }, { on := 2, ground := Ground.chain }], guard := none }) (v := .bool true) rfl (by kernel_rfl) (by kernel_rfl) (by kernel_rfl) (fun _ _ _ h => h)
    (Or.inl ⟨by rfl, by intro w hSw; clear hSw; go_simp⟩) hHeld ?_
  try simp only [Act.put, List.setIfInBounds_toArray, List.set_cons_zero, List.set_cons_succ]
  refine wpAnyH_take (i := 7) (oi := { dst := some 59, op := Op.move (Operand.tmp 13), type := 9, pos := "more.go:16", after := #[{ on := 6, ground := Ground.guard }], guard := some (6, true) }) (v := .string PA) rfl (by kernel_rfl) (by kernel_rfl) (by kernel_rfl) (fun _ _ _ h => h)
    (Or.inl ⟨by rfl, by intro w hSw; clear hSw; go_simp⟩) hHeld ?_
  try simp only [Act.put, List.setIfInBounds_toArray, List.set_cons_zero, List.set_cons_succ]
  refine wpAnyH_take (i := 8) (oi := { dst := some 60, op := Op.move (Operand.tmp 15), type := 9, pos := "more.go:16", after := #[{ on := 6, ground := Ground.guard }], guard := some (6, true) }) (v := .string PB) rfl (by kernel_rfl) (by kernel_rfl) (by kernel_rfl) (fun _ _ _ h => h)
    (Or.inl ⟨by rfl, by intro w hSw; clear hSw; go_simp⟩) hHeld ?_
  try simp only [Act.put, List.setIfInBounds_toArray, List.set_cons_zero, List.set_cons_succ]
  refine wpAnyH_take (i := 9) (oi := { dst := some 61, op := Op.binOp BinOp.eql 9 (Operand.tmp 59) (Operand.tmp 60) 9, type := 4, pos := "more.go:16", after := #[{ on := 7, ground := Ground.data }, { on := 8, ground := Ground.data }, { on := 6, ground := Ground.guard }], guard := some (6, true) }) (v := .bool pe) rfl (by kernel_rfl) (by kernel_rfl) (by kernel_rfl) (fun _ _ _ h => h)
    (Or.inl ⟨by rfl, by intro w hSw; clear hSw; go_simp⟩) hHeld ?_
  try simp only [Act.put, List.setIfInBounds_toArray, List.set_cons_zero, List.set_cons_succ]
  refine wpAnyH_take (i := 10) (oi := { dst := some 62, op := Op.move (Operand.tmp 0), type := 9, pos := "more.go:16", after := #[{ on := 6, ground := Ground.guard }], guard := some (6, true) }) (v := .string a) rfl (by kernel_rfl) (by kernel_rfl) (by kernel_rfl) (fun _ _ _ h => h)
    (Or.inl ⟨by rfl, by intro w hSw; clear hSw; go_simp⟩) hHeld ?_
  try simp only [Act.put, List.setIfInBounds_toArray, List.set_cons_zero, List.set_cons_succ]
  refine wpAnyH_take (i := 11) (oi := { dst := some 63, op := Op.load 22 (Operand.tmp 8), type := 22, pos := "more.go:16", after := #[{ on := 6, ground := Ground.guard }], guard := some (6, true) }) rfl (by kernel_rfl) (by kernel_rfl) (by kernel_rfl) (fun _ _ _ h => h)
    (yieldsIf_load_mid (by rfl) 22 (.tmp 8) rfl G1 0 rfl LC _ (fun _ h => h.ranC) hu32 rfl hiC) hHeld ?_
  try simp only [Act.put, List.setIfInBounds_toArray, List.set_cons_zero, List.set_cons_succ]
  refine wpAnyH_take (i := 12) (oi := { dst := some 64, op := Op.move (Operand.tmp 4), type := 9, pos := "more.go:16", after := #[{ on := 6, ground := Ground.guard }], guard := some (6, true) }) (v := .string name) rfl (by kernel_rfl) (by kernel_rfl) (by kernel_rfl) (fun _ _ _ h => h)
    (Or.inl ⟨by rfl, by intro w hSw; clear hSw; go_simp⟩) hHeld ?_
  try simp only [Act.put, List.setIfInBounds_toArray, List.set_cons_zero, List.set_cons_succ]
  refine wpAnyH_take (i := 14) (oi := { dst := some 66, op := Op.move (Operand.tmp 1), type := 9, pos := "more.go:16", after := #[{ on := 6, ground := Ground.guard }], guard := some (6, true) }) (v := .string a) rfl (by kernel_rfl) (by kernel_rfl) (by kernel_rfl) (fun _ _ _ h => h)
    (Or.inl ⟨by rfl, by intro w hSw; clear hSw; go_simp⟩) hHeld ?_
  try simp only [Act.put, List.setIfInBounds_toArray, List.set_cons_zero, List.set_cons_succ]
  refine wpAnyH_take (i := 15) (oi := { dst := some 67, op := Op.load 22 (Operand.tmp 9), type := 22, pos := "more.go:16", after := #[{ on := 6, ground := Ground.guard }], guard := some (6, true) }) rfl (by kernel_rfl) (by kernel_rfl) (by kernel_rfl) (fun _ _ _ h => h)
    (yieldsIf_load_mid (by rfl) 22 (.tmp 9) rfl G2 0 rfl LE _ (fun _ h => h.ranE) hu32 rfl hiE) hHeld ?_
  try simp only [Act.put, List.setIfInBounds_toArray, List.set_cons_zero, List.set_cons_succ]
  refine wpAnyH_take (i := 16) (oi := { dst := some 68, op := Op.move (Operand.tmp 5), type := 9, pos := "more.go:16", after := #[{ on := 6, ground := Ground.guard }], guard := some (6, true) }) (v := .string other) rfl (by kernel_rfl) (by kernel_rfl) (by kernel_rfl) (fun _ _ _ h => h)
    (Or.inl ⟨by rfl, by intro w hSw; clear hSw; go_simp⟩) hHeld ?_
  try simp only [Act.put, List.setIfInBounds_toArray, List.set_cons_zero, List.set_cons_succ]
  refine wpAnyH_ready (rs := [13]) (by kernel_rfl) (by simp) ?_
  refine AllReadyH.cons (o := { dst := some 65, op := Op.call { callee := Callee.value (Operand.func 8), args := #[Operand.tmp 62, Operand.tmp 63, Operand.tmp 64], argTypes := #[9, 22, 9] }, type := 9, pos := "more.go:16", after := #[{ on := 10, ground := Ground.data }, { on := 11, ground := Ground.data }, { on := 12, ground := Ground.data }, { on := 6, ground := Ground.chain }, { on := 6, ground := Ground.guard }], guard := some (6, true) }) rfl (fun K hK => ?_) AllReadyH.nil
  go_simp
  refine (two_ref a name d PA HPA HCD HD HA HN hHeld).mono ?_
  rintro e w9 ⟨rfl, hm9⟩
  go_wp2_with fail
  refine hK.out _ _ hm9 (fun hHeld2 => ?_)
  clear hK K hHeld
  try simp only [Act.put, List.setIfInBounds_toArray, List.set_cons_zero, List.set_cons_succ]
  refine wpAnyH_ready (rs := [17]) (by kernel_rfl) (by simp) ?_
  refine AllReadyH.cons (o := { dst := some 69, op := Op.call { callee := Callee.value (Operand.func 8), args := #[Operand.tmp 66, Operand.tmp 67, Operand.tmp 68], argTypes := #[9, 22, 9] }, type := 9, pos := "more.go:16", after := #[{ on := 14, ground := Ground.data }, { on := 15, ground := Ground.data }, { on := 16, ground := Ground.data }, { on := 13, ground := Ground.chain }, { on := 6, ground := Ground.guard }], guard := some (6, true) }) rfl (fun K hK => ?_) AllReadyH.nil
  go_simp
  refine (two_ref a other e PB HPB HCE HE HB HO hHeld2).mono ?_
  rintro e w9 ⟨rfl, hm9⟩
  go_wp2_with fail
  refine hK.out _ _ hm9 (fun hHeld3 => ?_)
  clear hK K hHeld2
  try simp only [Act.put, List.setIfInBounds_toArray, List.set_cons_zero, List.set_cons_succ]
  refine wpAnyH_take (i := 18) (oi := { dst := some 70, op := Op.binOp BinOp.eql 9 (Operand.tmp 65) (Operand.tmp 69) 9, type := 4, pos := "more.go:16", after := #[{ on := 13, ground := Ground.data }, { on := 17, ground := Ground.data }, { on := 6, ground := Ground.guard }], guard := some (6, true) }) (v := .bool pe) rfl (by kernel_rfl) (by kernel_rfl) (by kernel_rfl) (fun _ _ _ h => h)
    (Or.inl ⟨by rfl, by intro w hSw; clear hSw; go_simp⟩) hHeld3 ?_
  try simp only [Act.put, List.setIfInBounds_toArray, List.set_cons_zero, List.set_cons_succ]
  refine wpAnyH_take (i := 19) (oi := { dst := some 71, op := Op.binOp BinOp.eql 4 (Operand.tmp 61) (Operand.tmp 70) 4, type := 4, pos := "more.go:16", after := #[{ on := 9, ground := Ground.data }, { on := 18, ground := Ground.data }, { on := 6, ground := Ground.guard }], guard := some (6, true) }) (v := .bool true) rfl (by kernel_rfl) (by kernel_rfl) (by kernel_rfl) (fun _ _ _ h => h)
    (Or.inl ⟨by rfl, by intro w hSw; clear hSw; go_simp⟩) hHeld3 ?_
  try simp only [Act.put, List.setIfInBounds_toArray, List.set_cons_zero, List.set_cons_succ]
  refine wpAnyH_take (i := 20) (oi := { dst := some 72, op := Op.pick (Operand.tmp 58) (Operand.tmp 71) (Operand.const (Value.bool false)), type := 4, pos := "more.go:16", after := #[{ on := 6, ground := Ground.data }, { on := 19, ground := Ground.data }], guard := none }) (v := .bool true) rfl (by kernel_rfl) (by kernel_rfl) (by kernel_rfl) (fun _ _ _ h => h)
    (Or.inl ⟨by rfl, by intro w hSw; clear hSw; go_simp⟩) hHeld3 ?_
  try simp only [Act.put, List.setIfInBounds_toArray, List.set_cons_zero, List.set_cons_succ]
  refine wpAnyH_take (i := 21) (oi := { dst := some 73, op := Op.move (Operand.tmp 72), type := 4, pos := "more.go:16", after := #[{ on := 20, ground := Ground.data }, { on := 17, ground := Ground.chain }], guard := none }) (v := .bool true) rfl (by kernel_rfl) (by kernel_rfl) (by kernel_rfl) (fun _ _ _ h => h)
    (Or.inl ⟨by rfl, by intro w hSw; clear hSw; go_simp⟩) hHeld3 ?_
  try simp only [Act.put, List.setIfInBounds_toArray, List.set_cons_zero, List.set_cons_succ]
  refine wpAnyH_take (i := 22) (oi := { dst := some 74, op := Op.move (Operand.tmp 0), type := 9, pos := "more.go:16", after := #[{ on := 21, ground := Ground.guard }], guard := some (21, true) }) (v := .string a) rfl (by kernel_rfl) (by kernel_rfl) (by kernel_rfl) (fun _ _ _ h => h)
    (Or.inl ⟨by rfl, by intro w hSw; clear hSw; go_simp⟩) hHeld3 ?_
  try simp only [Act.put, List.setIfInBounds_toArray, List.set_cons_zero, List.set_cons_succ]
  refine wpAnyH_take (i := 23) (oi := { dst := some 75, op := Op.move (Operand.tmp 1), type := 9, pos := "more.go:16", after := #[{ on := 21, ground := Ground.guard }], guard := some (21, true) }) (v := .string a) rfl (by kernel_rfl) (by kernel_rfl) (by kernel_rfl) (fun _ _ _ h => h)
    (Or.inl ⟨by rfl, by intro w hSw; clear hSw; go_simp⟩) hHeld3 ?_
  try simp only [Act.put, List.setIfInBounds_toArray, List.set_cons_zero, List.set_cons_succ]
  refine wpAnyH_take (i := 24) (oi := { dst := some 76, op := Op.binOp BinOp.neq 9 (Operand.tmp 74) (Operand.tmp 75) 9, type := 4, pos := "more.go:16", after := #[{ on := 22, ground := Ground.data }, { on := 23, ground := Ground.data }, { on := 21, ground := Ground.guard }], guard := some (21, true) }) (v := .bool false) rfl (by kernel_rfl) (by kernel_rfl) (by kernel_rfl) (fun _ _ _ h => h)
    (Or.inl ⟨by rfl, by intro w hSw; clear hSw; go_simp⟩) hHeld3 ?_
  try simp only [Act.put, List.setIfInBounds_toArray, List.set_cons_zero, List.set_cons_succ]
  refine wpAnyH_take (i := 25) (oi := { dst := some 77, op := Op.move (Operand.tmp 76), type := 4, pos := "more.go:16", after := #[{ on := 24, ground := Ground.data }, { on := 21, ground := Ground.chain }, { on := 21, ground := Ground.guard }], guard := some (21, true) }) (v := .bool false) rfl (by kernel_rfl) (by kernel_rfl) (by kernel_rfl) (fun _ _ _ h => h)
    (Or.inl ⟨by rfl, by intro w hSw; clear hSw; go_simp⟩) hHeld3 ?_
  try simp only [Act.put, List.setIfInBounds_toArray, List.set_cons_zero, List.set_cons_succ]
  refine wpAnyH_take (i := 26) (oi := { dst := some 78, op := Op.load 22 (Operand.tmp 8), type := 22, pos := "more.go:16", after := #[{ on := 25, ground := Ground.guard }], guard := some (25, false) }) rfl (by kernel_rfl) (by kernel_rfl) (by kernel_rfl) (fun _ _ _ h => h)
    (yieldsIf_load_mid (by rfl) 22 (.tmp 8) rfl G1 0 rfl LC _ (fun _ h => h.ranC) hu32 rfl hiC) hHeld3 ?_
  try simp only [Act.put, List.setIfInBounds_toArray, List.set_cons_zero, List.set_cons_succ]
  refine wpAnyH_take (i := 27) (oi := { dst := some 79, op := Op.load 22 (Operand.tmp 9), type := 22, pos := "more.go:16", after := #[{ on := 25, ground := Ground.guard }], guard := some (25, false) }) rfl (by kernel_rfl) (by kernel_rfl) (by kernel_rfl) (fun _ _ _ h => h)
    (yieldsIf_load_mid (by rfl) 22 (.tmp 9) rfl G2 0 rfl LE _ (fun _ h => h.ranE) hu32 rfl hiE) hHeld3 ?_
  try simp only [Act.put, List.setIfInBounds_toArray, List.set_cons_zero, List.set_cons_succ]
  refine wpAnyH_take (i := 28) (oi := { dst := some 80, op := Op.binOp BinOp.neq 22 (Operand.tmp 78) (Operand.tmp 79) 22, type := 4, pos := "more.go:16", after := #[{ on := 26, ground := Ground.data }, { on := 27, ground := Ground.data }, { on := 25, ground := Ground.guard }], guard := some (25, false) }) (v := .bool true) rfl (by kernel_rfl) (by kernel_rfl) (by kernel_rfl) (fun _ _ _ h => h)
    (Or.inl ⟨by rfl, by intro w hSw; clear hSw; go_simp⟩) hHeld3 ?_
  try simp only [Act.put, List.setIfInBounds_toArray, List.set_cons_zero, List.set_cons_succ]
  refine wpAnyH_take (i := 29) (oi := { dst := some 81, op := Op.pick (Operand.tmp 77) (Operand.const (Value.bool true)) (Operand.tmp 80), type := 4, pos := "more.go:16", after := #[{ on := 25, ground := Ground.data }, { on := 28, ground := Ground.data }, { on := 21, ground := Ground.guard }], guard := some (21, true) }) (v := .bool true) rfl (by kernel_rfl) (by kernel_rfl) (by kernel_rfl) (fun _ _ _ h => h)
    (Or.inl ⟨by rfl, by intro w hSw; clear hSw; go_simp⟩) hHeld3 ?_
  try simp only [Act.put, List.setIfInBounds_toArray, List.set_cons_zero, List.set_cons_succ]
  refine wpAnyH_take (i := 30) (oi := { dst := some 82, op := Op.move (Operand.tmp 81), type := 4, pos := "more.go:16", after := #[{ on := 29, ground := Ground.data }, { on := 25, ground := Ground.chain }, { on := 21, ground := Ground.guard }], guard := some (21, true) }) (v := .bool true) rfl (by kernel_rfl) (by kernel_rfl) (by kernel_rfl) (fun _ _ _ h => h)
    (Or.inl ⟨by rfl, by intro w hSw; clear hSw; go_simp⟩) hHeld3 ?_
  try simp only [Act.put, List.setIfInBounds_toArray, List.set_cons_zero, List.set_cons_succ]
  refine wpAnyH_take (i := 31) (oi := { dst := some 83, op := Op.move (Operand.tmp 4), type := 9, pos := "more.go:16", after := #[{ on := 30, ground := Ground.guard }], guard := some (30, false) }) (v := undef) rfl (by kernel_rfl) (by kernel_rfl) (by kernel_rfl) (fun _ _ _ h => h)
    (Or.inr ⟨by rfl, rfl⟩) hHeld3 ?_
  try simp only [Act.put, List.setIfInBounds_toArray, List.set_cons_zero, List.set_cons_succ]
  refine wpAnyH_take (i := 32) (oi := { dst := some 84, op := Op.move (Operand.tmp 5), type := 9, pos := "more.go:16", after := #[{ on := 30, ground := Ground.guard }], guard := some (30, false) }) (v := undef) rfl (by kernel_rfl) (by kernel_rfl) (by kernel_rfl) (fun _ _ _ h => h)
    (Or.inr ⟨by rfl, rfl⟩) hHeld3 ?_
  try simp only [Act.put, List.setIfInBounds_toArray, List.set_cons_zero, List.set_cons_succ]
  refine wpAnyH_take (i := 33) (oi := { dst := some 85, op := Op.binOp BinOp.neq 9 (Operand.tmp 83) (Operand.tmp 84) 9, type := 4, pos := "more.go:16", after := #[{ on := 31, ground := Ground.data }, { on := 32, ground := Ground.data }, { on := 30, ground := Ground.guard }], guard := some (30, false) }) (v := undef) rfl (by kernel_rfl) (by kernel_rfl) (by kernel_rfl) (fun _ _ _ h => h)
    (Or.inr ⟨by rfl, rfl⟩) hHeld3 ?_
  try simp only [Act.put, List.setIfInBounds_toArray, List.set_cons_zero, List.set_cons_succ]
  refine wpAnyH_take (i := 34) (oi := { dst := some 86, op := Op.pick (Operand.tmp 82) (Operand.const (Value.bool true)) (Operand.tmp 85), type := 4, pos := "more.go:16", after := #[{ on := 30, ground := Ground.data }, { on := 33, ground := Ground.data }, { on := 21, ground := Ground.guard }], guard := some (21, true) }) (v := .bool true) rfl (by kernel_rfl) (by kernel_rfl) (by kernel_rfl) (fun _ _ _ h => h)
    (Or.inl ⟨by rfl, by intro w hSw; clear hSw; go_simp⟩) hHeld3 ?_
  try simp only [Act.put, List.setIfInBounds_toArray, List.set_cons_zero, List.set_cons_succ]
  refine wpAnyH_take (i := 35) (oi := { dst := some 87, op := Op.move (Operand.tmp 86), type := 4, pos := "more.go:16", after := #[{ on := 34, ground := Ground.data }, { on := 30, ground := Ground.chain }, { on := 21, ground := Ground.guard }], guard := some (21, true) }) (v := .bool true) rfl (by kernel_rfl) (by kernel_rfl) (by kernel_rfl) (fun _ _ _ h => h)
    (Or.inl ⟨by rfl, by intro w hSw; clear hSw; go_simp⟩) hHeld3 ?_
  try simp only [Act.put, List.setIfInBounds_toArray, List.set_cons_zero, List.set_cons_succ]
  refine wpAnyH_take (i := 36) (oi := { dst := some 88, op := Op.move (Operand.tmp 13), type := 9, pos := "more.go:16", after := #[{ on := 35, ground := Ground.guard }], guard := some (35, false) }) (v := undef) rfl (by kernel_rfl) (by kernel_rfl) (by kernel_rfl) (fun _ _ _ h => h)
    (Or.inr ⟨by rfl, rfl⟩) hHeld3 ?_
  try simp only [Act.put, List.setIfInBounds_toArray, List.set_cons_zero, List.set_cons_succ]
  refine wpAnyH_take (i := 37) (oi := { dst := some 89, op := Op.move (Operand.tmp 15), type := 9, pos := "more.go:16", after := #[{ on := 35, ground := Ground.guard }], guard := some (35, false) }) (v := undef) rfl (by kernel_rfl) (by kernel_rfl) (by kernel_rfl) (fun _ _ _ h => h)
    (Or.inr ⟨by rfl, rfl⟩) hHeld3 ?_
  try simp only [Act.put, List.setIfInBounds_toArray, List.set_cons_zero, List.set_cons_succ]
  refine wpAnyH_take (i := 38) (oi := { dst := some 90, op := Op.binOp BinOp.eql 9 (Operand.tmp 88) (Operand.tmp 89) 9, type := 4, pos := "more.go:16", after := #[{ on := 36, ground := Ground.data }, { on := 37, ground := Ground.data }, { on := 35, ground := Ground.guard }], guard := some (35, false) }) (v := undef) rfl (by kernel_rfl) (by kernel_rfl) (by kernel_rfl) (fun _ _ _ h => h)
    (Or.inr ⟨by rfl, rfl⟩) hHeld3 ?_
  try simp only [Act.put, List.setIfInBounds_toArray, List.set_cons_zero, List.set_cons_succ]
  refine wpAnyH_take (i := 39) (oi := { dst := some 91, op := Op.pick (Operand.tmp 87) (Operand.const (Value.bool true)) (Operand.tmp 90), type := 4, pos := "more.go:16", after := #[{ on := 35, ground := Ground.data }, { on := 38, ground := Ground.data }, { on := 21, ground := Ground.guard }], guard := some (21, true) }) (v := .bool true) rfl (by kernel_rfl) (by kernel_rfl) (by kernel_rfl) (fun _ _ _ h => h)
    (Or.inl ⟨by rfl, by intro w hSw; clear hSw; go_simp⟩) hHeld3 ?_
  try simp only [Act.put, List.setIfInBounds_toArray, List.set_cons_zero, List.set_cons_succ]
  refine wpAnyH_take (i := 40) (oi := { dst := some 92, op := Op.pick (Operand.tmp 73) (Operand.tmp 91) (Operand.const (Value.bool false)), type := 4, pos := "more.go:16", after := #[{ on := 21, ground := Ground.data }, { on := 39, ground := Ground.data }], guard := none }) (v := .bool true) rfl (by kernel_rfl) (by kernel_rfl) (by kernel_rfl) (fun _ _ _ h => h)
    (Or.inl ⟨by rfl, by intro w hSw; clear hSw; go_simp⟩) hHeld3 ?_
  try simp only [Act.put, List.setIfInBounds_toArray, List.set_cons_zero, List.set_cons_succ]
  refine wpAnyH_take (i := 41) (oi := { dst := some 12, op := Op.assign (Operand.tmp 92), type := 4, pos := "more.go:16", after := #[{ on := 40, ground := Ground.data }, { on := 35, ground := Ground.chain }, { on := 0, ground := Ground.phase }, { on := 1, ground := Ground.phase }, { on := 2, ground := Ground.phase }, { on := 3, ground := Ground.phase }, { on := 4, ground := Ground.phase }, { on := 5, ground := Ground.phase }, { on := 6, ground := Ground.phase }, { on := 7, ground := Ground.phase }, { on := 8, ground := Ground.phase }, { on := 9, ground := Ground.phase }, { on := 10, ground := Ground.phase }, { on := 11, ground := Ground.phase }, { on := 12, ground := Ground.phase }, { on := 13, ground := Ground.phase }, { on := 14, ground := Ground.phase }, { on := 15, ground := Ground.phase }, { on := 16, ground := Ground.phase }, { on := 17, ground := Ground.phase }, { on := 18, ground := Ground.phase }, { on := 19, ground := Ground.phase }, { on := 20, ground := Ground.phase }, { on := 21, ground := Ground.phase }, { on := 22, ground := Ground.phase }, { on := 23, ground := Ground.phase }, { on := 24, ground := Ground.phase }, { on := 25, ground := Ground.phase }, { on := 26, ground := Ground.phase }, { on := 27, ground := Ground.phase }, { on := 28, ground := Ground.phase }, { on := 29, ground := Ground.phase }, { on := 30, ground := Ground.phase }, { on := 31, ground := Ground.phase }, { on := 32, ground := Ground.phase }, { on := 33, ground := Ground.phase }, { on := 34, ground := Ground.phase }, { on := 35, ground := Ground.phase }, { on := 36, ground := Ground.phase }, { on := 37, ground := Ground.phase }, { on := 38, ground := Ground.phase }, { on := 39, ground := Ground.phase }, { on := 40, ground := Ground.phase }], guard := none }) (v := .bool true) rfl (by kernel_rfl) (by kernel_rfl) (by kernel_rfl) (fun _ _ _ h => h)
    (Or.inl ⟨by rfl, by intro w hSw; clear hSw; go_simp⟩) hHeld3 ?_
  try simp only [Act.put, List.setIfInBounds_toArray, List.set_cons_zero, List.set_cons_succ]
  refine wpAnyH_done (by kernel_rfl) ?_ _
  go_wp2_with fail
  go_ret
  exact ⟨rfl, by rw [hpost.out]; exact hHeld3.below⟩

set_option maxRecDepth 100000 in
set_option maxHeartbeats 20000000 in
theorem apart_near3 (w : World) (a b name other : ByteArray) (d e : List UInt8) (hd : d.length = 32) (he : e.length = 32) (hl : LaidW w) (h : a.size + b.size ≤ 500) (hn : B.isName name.data.toList = true) (ho : B.isName other.data.toList = true) (hab : a = b) (hde : d = e) (hno : (name.toList == other.toList) = false) :
    Calls Tryd.prog 4 #[.string a, .string b, .agg (d.map B.bv).toArray, .agg (e.map B.bv).toArray, .string name, .string other] w fun r w' => r = .returned (.bool true) ∧ Below w.heap.size w w' := by
  subst hab hde
  obtain ⟨LC, hLC⟩ : ∃ L, L = d.map B.bv := ⟨_, rfl⟩
  obtain ⟨LE, hLE⟩ : ∃ L, L = d.map B.bv := ⟨_, rfl⟩
  have hnot : ∀ (x : Bool) (w : World), (Op.unary .not (.bool x)).run Tryd.prog w = .ok (.bool (!x)) w := fun _ _ => rfl
  have hx : ¬ (500 : Int) < (a.size : Int) + (a.size : Int) := by omega
  have hu32 := Tryd.underlying22
  have hgd := guard_32
  have HCD := Lib.hid hLC
  have HCE := Lib.hid hLE
  have HD := Lib.hid hd
  have HE := Lib.hid hd
  have hiC' : (Tryd.prog.info? 22).map (·.size) = some LC.length := by rw [hLC, List.length_map, hd]; kernel_rfl
  have hiE' : (Tryd.prog.info? 22).map (·.size) = some LE.length := by rw [hLE, List.length_map, HE.out]; kernel_rfl
  have I1 : Hid ((Tryd.prog.info? 22).map (·.size) = some LC.toArray.size) := Lib.hid (by rw [List.size_toArray]; exact hiC')
  have I2 : Hid ((Tryd.prog.info? 22).map (·.size) = some LE.toArray.size) := Lib.hid (by rw [List.size_toArray]; exact hiE')
  have HA : Hid (a.size ≤ 2000) := Lib.hid (by omega)
  have HB : Hid (a.size ≤ 2000) := Lib.hid (by omega)
  have sn := B.name_small hn
  have so := B.name_small ho
  have ln : name.data.toList.length = name.size := by simp
  have lo : other.data.toList.length = other.size := by simp
  have HN : Hid (name.size ≤ 40) := Lib.hid (by omega)
  have HO : Hid (other.size ≤ 40) := Lib.hid (by omega)
  have HNT := Lib.hid hn
  have HOT := Lib.hid ho
  have HL := Lib.hid hl
  obtain ⟨PA, hPA⟩ : ∃ P, P = B.pathB (fd (mkT a.data.toList d name.data.toList)) name := ⟨_, rfl⟩
  obtain ⟨PB, hPB⟩ : ∃ P, P = B.pathB (fd (mkT a.data.toList d other.data.toList)) other := ⟨_, rfl⟩
  have HPA := Lib.hid hPA
  have HPB := Lib.hid hPB
  obtain ⟨pe, hpe⟩ : ∃ pe, (PA.toList == PB.toList) = pe := ⟨_, rfl⟩
  have heq : ∀ W, (Op.equalIn 10000 22 (.agg LC.toArray) (.agg LE.toArray)).run Tryd.prog W = .ok true W := by
    intro W
    have := eql_32 W (nats d) (nats d) (by simpa [nats] using hd) (by simpa [nats] using hd)
    rw [hLC, hLE, B.bv_byv]
    rw [show d.map UInt8.toNat = nats d from rfl, this]
    simp
  have HEC : Hid (LE = LC) := Lib.hid (by rw [hLE, hLC])
  rw [← HCD.out]
  clear hLC hLE hd he hl hn ho sn so ln lo hPA hPB
  go_enter Tryd.func4, Tryd.ntmps4
  go_wp2_with fail
  obtain ⟨w1, hw1⟩ : ∃ w1, w1 = (w.alloc (.cells LC.toArray 22)).alloc (.cells LC.toArray 22) := ⟨_, rfl⟩
  have c1 : w1.heap[w.heap.size]? = some (.cells LC.toArray 22 (0, 0)) := by
    rw [hw1]; exact (Go.RowKit.Below.heap_alloc _ _ _ (by simp)).trans (heap_alloc_new w _)
  have e1 : w1.heap[w.heap.size + 1]? = some (.cells LE.toArray 22 (0, 0)) := by
    have h := heap_alloc_new (w.alloc (.cells LC.toArray 22)) (.cells LC.toArray 22)
    have hs : (w.alloc (.cells LC.toArray 22)).heap.size = w.heap.size + 1 := by simp
    rw [hs, ← hw1] at h
    rw [HEC.out]; exact h
  have b1 : Below w.heap.size w w1 := by rw [hw1]; exact ((Below.refl _ _).alloc (Nat.le_refl _) _).alloc (by simp) _
  rw [← hw1]
  obtain ⟨w0, hw0⟩ : ∃ w0, w0 = w := ⟨_, rfl⟩
  obtain ⟨G1, hG1⟩ : ∃ G, G = w.heap.size := ⟨_, rfl⟩
  obtain ⟨G2, hG2⟩ : ∃ G, G = w.heap.size + 1 := ⟨_, rfl⟩
  have M1 : Hid (Two w0 G1 G2 LC LE w1) := Lib.hid ⟨by rw [hG1]; exact c1, by rw [hG2]; exact e1, by rw [hw0]; exact b1⟩
  rw [← hG2, ← hG1]
  have HW0 := Lib.hid hw0
  have HL0 : Hid (LaidW w0) := Lib.hid (by rw [hw0]; exact HL.out)
  have hpost : Hid (Below w.heap.size w = Below w0.heap.size w0) := Lib.hid (by rw [hw0])
  clear hw1 c1 e1 b1 hG1 hG2 hw0
  refine (B.awake_any w1).mono ?_
  rintro r w2 ⟨rfl, b2⟩
  have M2 := Lib.hid (M1.out.later b2)
  clear b2 M1
  go_wp2_with fail
  refine (B.rname_any name _ (by have := HN.out; omega)).mono ?_
  rintro r w3 ⟨rfl, rfl⟩
  rw [HNT.out]
  go_wp2_with fail
  refine (B.rname_any other _ (by have := HO.out; omega)).mono ?_
  rintro r w3 ⟨rfl, rfl⟩
  rw [HOT.out]
  go_wp2_with (refine wpList_load_row rfl 22 _ rfl G1 rfl 22 LC.toArray (0, 0) _ M2.out.c Tryd.underlying22 rfl I1.out ?_)
  obtain ⟨V1, hV1⟩ : ∃ V, V = makeV a name d := ⟨_, rfl⟩
  rw [makeV_yes HNT.out, ← HPA.out] at hV1
  have HV1 := Lib.hid hV1
  have K1 := nmake_any a name d w2 (HL0.out.below M2.out.below HL0.out.two) HA.out HD.out (by have := HN.out; omega)
  rw [makeV_yes HNT.out, ← HPA.out, ← HCD.out] at K1
  have HK1 := Lib.hid K1
  clear K1 hV1 HV1
  refine HK1.out.mono ?_
  rintro r w3 ⟨rfl, b3⟩
  have M3 := Lib.hid (M2.out.later b3)
  clear b3 M2 HK1
  go_wp2_with (refine wpList_load_row rfl 22 _ rfl G2 rfl 22 LE.toArray (0, 0) _ M3.out.e Tryd.underlying22 rfl I2.out ?_)
  have K2 := nmake_any a other d w3 (HL0.out.below M3.out.below HL0.out.two) HB.out HE.out (by have := HO.out; omega)
  rw [makeV_yes HOT.out, ← HPB.out, ← HCE.out] at K2
  have HK2 := Lib.hid K2
  clear K2
  refine HK2.out.mono ?_
  rintro r w4 ⟨rfl, b4⟩
  have MM := Lib.hid (M3.out.later b4)
  have hiC := hiC'
  have hiE := hiE'
  clear b4 M3 HK2 hiC' hiE' I1 I2
  go_wp2_with fail
  refine wp_region_held_drew (S := Two w0 G1 G2 LC LE) (by kernel_rfl) MM.out.drew (fun hHeld => ?_)
  refine wpAnyH_take (i := 0) (oi := { dst := some 52, op := Op.move (Operand.tmp 14), type := 24, pos := "more.go:16", after := #[], guard := none }) (v := .int .i64 0) rfl (by kernel_rfl) (by kernel_rfl) (by kernel_rfl) (fun _ _ _ h => h)
    (Or.inl ⟨by rfl, by intro w hSw; clear hSw; go_simp⟩) hHeld ?_
  try simp only [Act.put, List.setIfInBounds_toArray, List.set_cons_zero, List.set_cons_succ]
  refine wpAnyH_take (i := 1) (oi := { dst := some 53, op := Op.binOp BinOp.eql 24 (Operand.tmp 52) (Operand.const (Value.int IntKind.i64 0)) 24, type := 4, pos := "more.go:16", after := #[{ on := 0, ground := Ground.data }], guard := none }) (v := .bool true) rfl (by kernel_rfl) (by kernel_rfl) (by kernel_rfl) (fun _ _ _ h => h)
    (Or.inl ⟨by rfl, by intro w hSw; clear hSw; go_simp⟩) hHeld ?_
  try simp only [Act.put, List.setIfInBounds_toArray, List.set_cons_zero, List.set_cons_succ]
  refine wpAnyH_take (i := 2) (oi := { dst := some 54, op := Op.move (Operand.tmp 53), type := 4, pos := "more.go:16", after := #[{ on := 1, ground := Ground.data }], guard := none }) (v := .bool true) rfl (by kernel_rfl) (by kernel_rfl) (by kernel_rfl) (fun _ _ _ h => h)
    (Or.inl ⟨by rfl, by intro w hSw; clear hSw; go_simp⟩) hHeld ?_
  try simp only [Act.put, List.setIfInBounds_toArray, List.set_cons_zero, List.set_cons_succ]
  refine wpAnyH_take (i := 3) (oi := { dst := some 55, op := Op.move (Operand.tmp 16), type := 24, pos := "more.go:16", after := #[{ on := 2, ground := Ground.guard }], guard := some (2, true) }) (v := .int .i64 0) rfl (by kernel_rfl) (by kernel_rfl) (by kernel_rfl) (fun _ _ _ h => h)
    (Or.inl ⟨by rfl, by intro w hSw; clear hSw; go_simp⟩) hHeld ?_
  try simp only [Act.put, List.setIfInBounds_toArray, List.set_cons_zero, List.set_cons_succ]
  refine wpAnyH_take (i := 4) (oi := { dst := some 56, op := Op.binOp BinOp.eql 24 (Operand.tmp 55) (Operand.const (Value.int IntKind.i64 0)) 24, type := 4, pos := "more.go:16", after := #[{ on := 3, ground := Ground.data }, { on := 2, ground := Ground.guard }], guard := some (2, true) }) (v := .bool true) rfl (by kernel_rfl) (by kernel_rfl) (by kernel_rfl) (fun _ _ _ h => h)
    (Or.inl ⟨by rfl, by intro w hSw; clear hSw; go_simp⟩) hHeld ?_
  try simp only [Act.put, List.setIfInBounds_toArray, List.set_cons_zero, List.set_cons_succ]
  refine wpAnyH_take (i := 5) (oi := { dst := some 57, op := Op.pick (Operand.tmp 54) (Operand.tmp 56) (Operand.const (Value.bool false)), type := 4, pos := "more.go:16", after := #[{ on := 2, ground := Ground.data }, { on := 4, ground := Ground.data }], guard := none }) (v := .bool true) rfl (by kernel_rfl) (by kernel_rfl) (by kernel_rfl) (fun _ _ _ h => h)
    (Or.inl ⟨by rfl, by intro w hSw; clear hSw; go_simp⟩) hHeld ?_
  try simp only [Act.put, List.setIfInBounds_toArray, List.set_cons_zero, List.set_cons_succ]
  refine wpAnyH_take (i := 6) (oi := { dst := some 58, op := Op.move (Operand.tmp 57), type := 4, pos := "more.go:16", after := #[{ on := 5, ground := Ground.data }, { on := 2, ground := Ground.chain }], guard := none }) (v := .bool true) rfl (by kernel_rfl) (by kernel_rfl) (by kernel_rfl) (fun _ _ _ h => h)
    (Or.inl ⟨by rfl, by intro w hSw; clear hSw; go_simp⟩) hHeld ?_
  try simp only [Act.put, List.setIfInBounds_toArray, List.set_cons_zero, List.set_cons_succ]
  refine wpAnyH_take (i := 7) (oi := { dst := some 59, op := Op.move (Operand.tmp 13), type := 9, pos := "more.go:16", after := #[{ on := 6, ground := Ground.guard }], guard := some (6, true) }) (v := .string PA) rfl (by kernel_rfl) (by kernel_rfl) (by kernel_rfl) (fun _ _ _ h => h)
    (Or.inl ⟨by rfl, by intro w hSw; clear hSw; go_simp⟩) hHeld ?_
  try simp only [Act.put, List.setIfInBounds_toArray, List.set_cons_zero, List.set_cons_succ]
  refine wpAnyH_take (i := 8) (oi := { dst := some 60, op := Op.move (Operand.tmp 15), type := 9, pos := "more.go:16", after := #[{ on := 6, ground := Ground.guard }], guard := some (6, true) }) (v := .string PB) rfl (by kernel_rfl) (by kernel_rfl) (by kernel_rfl) (fun _ _ _ h => h)
    (Or.inl ⟨by rfl, by intro w hSw; clear hSw; go_simp⟩) hHeld ?_
  try simp only [Act.put, List.setIfInBounds_toArray, List.set_cons_zero, List.set_cons_succ]
  refine wpAnyH_take (i := 9) (oi := { dst := some 61, op := Op.binOp BinOp.eql 9 (Operand.tmp 59) (Operand.tmp 60) 9, type := 4, pos := "more.go:16", after := #[{ on := 7, ground := Ground.data }, { on := 8, ground := Ground.data }, { on := 6, ground := Ground.guard }], guard := some (6, true) }) (v := .bool pe) rfl (by kernel_rfl) (by kernel_rfl) (by kernel_rfl) (fun _ _ _ h => h)
    (Or.inl ⟨by rfl, by intro w hSw; clear hSw; go_simp⟩) hHeld ?_
  try simp only [Act.put, List.setIfInBounds_toArray, List.set_cons_zero, List.set_cons_succ]
  refine wpAnyH_take (i := 10) (oi := { dst := some 62, op := Op.move (Operand.tmp 0), type := 9, pos := "more.go:16", after := #[{ on := 6, ground := Ground.guard }], guard := some (6, true) }) (v := .string a) rfl (by kernel_rfl) (by kernel_rfl) (by kernel_rfl) (fun _ _ _ h => h)
    (Or.inl ⟨by rfl, by intro w hSw; clear hSw; go_simp⟩) hHeld ?_
  try simp only [Act.put, List.setIfInBounds_toArray, List.set_cons_zero, List.set_cons_succ]
  refine wpAnyH_take (i := 11) (oi := { dst := some 63, op := Op.load 22 (Operand.tmp 8), type := 22, pos := "more.go:16", after := #[{ on := 6, ground := Ground.guard }], guard := some (6, true) }) rfl (by kernel_rfl) (by kernel_rfl) (by kernel_rfl) (fun _ _ _ h => h)
    (yieldsIf_load_mid (by rfl) 22 (.tmp 8) rfl G1 0 rfl LC _ (fun _ h => h.ranC) hu32 rfl hiC) hHeld ?_
  try simp only [Act.put, List.setIfInBounds_toArray, List.set_cons_zero, List.set_cons_succ]
  refine wpAnyH_take (i := 12) (oi := { dst := some 64, op := Op.move (Operand.tmp 4), type := 9, pos := "more.go:16", after := #[{ on := 6, ground := Ground.guard }], guard := some (6, true) }) (v := .string name) rfl (by kernel_rfl) (by kernel_rfl) (by kernel_rfl) (fun _ _ _ h => h)
    (Or.inl ⟨by rfl, by intro w hSw; clear hSw; go_simp⟩) hHeld ?_
  try simp only [Act.put, List.setIfInBounds_toArray, List.set_cons_zero, List.set_cons_succ]
  refine wpAnyH_take (i := 14) (oi := { dst := some 66, op := Op.move (Operand.tmp 1), type := 9, pos := "more.go:16", after := #[{ on := 6, ground := Ground.guard }], guard := some (6, true) }) (v := .string a) rfl (by kernel_rfl) (by kernel_rfl) (by kernel_rfl) (fun _ _ _ h => h)
    (Or.inl ⟨by rfl, by intro w hSw; clear hSw; go_simp⟩) hHeld ?_
  try simp only [Act.put, List.setIfInBounds_toArray, List.set_cons_zero, List.set_cons_succ]
  refine wpAnyH_take (i := 15) (oi := { dst := some 67, op := Op.load 22 (Operand.tmp 9), type := 22, pos := "more.go:16", after := #[{ on := 6, ground := Ground.guard }], guard := some (6, true) }) rfl (by kernel_rfl) (by kernel_rfl) (by kernel_rfl) (fun _ _ _ h => h)
    (yieldsIf_load_mid (by rfl) 22 (.tmp 9) rfl G2 0 rfl LE _ (fun _ h => h.ranE) hu32 rfl hiE) hHeld ?_
  try simp only [Act.put, List.setIfInBounds_toArray, List.set_cons_zero, List.set_cons_succ]
  refine wpAnyH_take (i := 16) (oi := { dst := some 68, op := Op.move (Operand.tmp 5), type := 9, pos := "more.go:16", after := #[{ on := 6, ground := Ground.guard }], guard := some (6, true) }) (v := .string other) rfl (by kernel_rfl) (by kernel_rfl) (by kernel_rfl) (fun _ _ _ h => h)
    (Or.inl ⟨by rfl, by intro w hSw; clear hSw; go_simp⟩) hHeld ?_
  try simp only [Act.put, List.setIfInBounds_toArray, List.set_cons_zero, List.set_cons_succ]
  refine wpAnyH_ready (rs := [13]) (by kernel_rfl) (by simp) ?_
  refine AllReadyH.cons (o := { dst := some 65, op := Op.call { callee := Callee.value (Operand.func 8), args := #[Operand.tmp 62, Operand.tmp 63, Operand.tmp 64], argTypes := #[9, 22, 9] }, type := 9, pos := "more.go:16", after := #[{ on := 10, ground := Ground.data }, { on := 11, ground := Ground.data }, { on := 12, ground := Ground.data }, { on := 6, ground := Ground.chain }, { on := 6, ground := Ground.guard }], guard := some (6, true) }) rfl (fun K hK => ?_) AllReadyH.nil
  go_simp
  refine (two_ref a name d PA HPA HCD HD HA HN hHeld).mono ?_
  rintro e w9 ⟨rfl, hm9⟩
  go_wp2_with fail
  refine hK.out _ _ hm9 (fun hHeld2 => ?_)
  clear hK K hHeld
  try simp only [Act.put, List.setIfInBounds_toArray, List.set_cons_zero, List.set_cons_succ]
  refine wpAnyH_ready (rs := [17]) (by kernel_rfl) (by simp) ?_
  refine AllReadyH.cons (o := { dst := some 69, op := Op.call { callee := Callee.value (Operand.func 8), args := #[Operand.tmp 66, Operand.tmp 67, Operand.tmp 68], argTypes := #[9, 22, 9] }, type := 9, pos := "more.go:16", after := #[{ on := 14, ground := Ground.data }, { on := 15, ground := Ground.data }, { on := 16, ground := Ground.data }, { on := 13, ground := Ground.chain }, { on := 6, ground := Ground.guard }], guard := some (6, true) }) rfl (fun K hK => ?_) AllReadyH.nil
  go_simp
  refine (two_ref a other d PB HPB HCE HE HB HO hHeld2).mono ?_
  rintro e w9 ⟨rfl, hm9⟩
  go_wp2_with fail
  refine hK.out _ _ hm9 (fun hHeld3 => ?_)
  clear hK K hHeld2
  try simp only [Act.put, List.setIfInBounds_toArray, List.set_cons_zero, List.set_cons_succ]
  refine wpAnyH_take (i := 18) (oi := { dst := some 70, op := Op.binOp BinOp.eql 9 (Operand.tmp 65) (Operand.tmp 69) 9, type := 4, pos := "more.go:16", after := #[{ on := 13, ground := Ground.data }, { on := 17, ground := Ground.data }, { on := 6, ground := Ground.guard }], guard := some (6, true) }) (v := .bool pe) rfl (by kernel_rfl) (by kernel_rfl) (by kernel_rfl) (fun _ _ _ h => h)
    (Or.inl ⟨by rfl, by intro w hSw; clear hSw; go_simp⟩) hHeld3 ?_
  try simp only [Act.put, List.setIfInBounds_toArray, List.set_cons_zero, List.set_cons_succ]
  refine wpAnyH_take (i := 19) (oi := { dst := some 71, op := Op.binOp BinOp.eql 4 (Operand.tmp 61) (Operand.tmp 70) 4, type := 4, pos := "more.go:16", after := #[{ on := 9, ground := Ground.data }, { on := 18, ground := Ground.data }, { on := 6, ground := Ground.guard }], guard := some (6, true) }) (v := .bool true) rfl (by kernel_rfl) (by kernel_rfl) (by kernel_rfl) (fun _ _ _ h => h)
    (Or.inl ⟨by rfl, by intro w hSw; clear hSw; go_simp⟩) hHeld3 ?_
  try simp only [Act.put, List.setIfInBounds_toArray, List.set_cons_zero, List.set_cons_succ]
  refine wpAnyH_take (i := 20) (oi := { dst := some 72, op := Op.pick (Operand.tmp 58) (Operand.tmp 71) (Operand.const (Value.bool false)), type := 4, pos := "more.go:16", after := #[{ on := 6, ground := Ground.data }, { on := 19, ground := Ground.data }], guard := none }) (v := .bool true) rfl (by kernel_rfl) (by kernel_rfl) (by kernel_rfl) (fun _ _ _ h => h)
    (Or.inl ⟨by rfl, by intro w hSw; clear hSw; go_simp⟩) hHeld3 ?_
  try simp only [Act.put, List.setIfInBounds_toArray, List.set_cons_zero, List.set_cons_succ]
  refine wpAnyH_take (i := 21) (oi := { dst := some 73, op := Op.move (Operand.tmp 72), type := 4, pos := "more.go:16", after := #[{ on := 20, ground := Ground.data }, { on := 17, ground := Ground.chain }], guard := none }) (v := .bool true) rfl (by kernel_rfl) (by kernel_rfl) (by kernel_rfl) (fun _ _ _ h => h)
    (Or.inl ⟨by rfl, by intro w hSw; clear hSw; go_simp⟩) hHeld3 ?_
  try simp only [Act.put, List.setIfInBounds_toArray, List.set_cons_zero, List.set_cons_succ]
  refine wpAnyH_take (i := 22) (oi := { dst := some 74, op := Op.move (Operand.tmp 0), type := 9, pos := "more.go:16", after := #[{ on := 21, ground := Ground.guard }], guard := some (21, true) }) (v := .string a) rfl (by kernel_rfl) (by kernel_rfl) (by kernel_rfl) (fun _ _ _ h => h)
    (Or.inl ⟨by rfl, by intro w hSw; clear hSw; go_simp⟩) hHeld3 ?_
  try simp only [Act.put, List.setIfInBounds_toArray, List.set_cons_zero, List.set_cons_succ]
  refine wpAnyH_take (i := 23) (oi := { dst := some 75, op := Op.move (Operand.tmp 1), type := 9, pos := "more.go:16", after := #[{ on := 21, ground := Ground.guard }], guard := some (21, true) }) (v := .string a) rfl (by kernel_rfl) (by kernel_rfl) (by kernel_rfl) (fun _ _ _ h => h)
    (Or.inl ⟨by rfl, by intro w hSw; clear hSw; go_simp⟩) hHeld3 ?_
  try simp only [Act.put, List.setIfInBounds_toArray, List.set_cons_zero, List.set_cons_succ]
  refine wpAnyH_take (i := 24) (oi := { dst := some 76, op := Op.binOp BinOp.neq 9 (Operand.tmp 74) (Operand.tmp 75) 9, type := 4, pos := "more.go:16", after := #[{ on := 22, ground := Ground.data }, { on := 23, ground := Ground.data }, { on := 21, ground := Ground.guard }], guard := some (21, true) }) (v := .bool false) rfl (by kernel_rfl) (by kernel_rfl) (by kernel_rfl) (fun _ _ _ h => h)
    (Or.inl ⟨by rfl, by intro w hSw; clear hSw; go_simp⟩) hHeld3 ?_
  try simp only [Act.put, List.setIfInBounds_toArray, List.set_cons_zero, List.set_cons_succ]
  refine wpAnyH_take (i := 25) (oi := { dst := some 77, op := Op.move (Operand.tmp 76), type := 4, pos := "more.go:16", after := #[{ on := 24, ground := Ground.data }, { on := 21, ground := Ground.chain }, { on := 21, ground := Ground.guard }], guard := some (21, true) }) (v := .bool false) rfl (by kernel_rfl) (by kernel_rfl) (by kernel_rfl) (fun _ _ _ h => h)
    (Or.inl ⟨by rfl, by intro w hSw; clear hSw; go_simp⟩) hHeld3 ?_
  try simp only [Act.put, List.setIfInBounds_toArray, List.set_cons_zero, List.set_cons_succ]
  refine wpAnyH_take (i := 26) (oi := { dst := some 78, op := Op.load 22 (Operand.tmp 8), type := 22, pos := "more.go:16", after := #[{ on := 25, ground := Ground.guard }], guard := some (25, false) }) rfl (by kernel_rfl) (by kernel_rfl) (by kernel_rfl) (fun _ _ _ h => h)
    (yieldsIf_load_mid (by rfl) 22 (.tmp 8) rfl G1 0 rfl LC _ (fun _ h => h.ranC) hu32 rfl hiC) hHeld3 ?_
  try simp only [Act.put, List.setIfInBounds_toArray, List.set_cons_zero, List.set_cons_succ]
  refine wpAnyH_take (i := 27) (oi := { dst := some 79, op := Op.load 22 (Operand.tmp 9), type := 22, pos := "more.go:16", after := #[{ on := 25, ground := Ground.guard }], guard := some (25, false) }) rfl (by kernel_rfl) (by kernel_rfl) (by kernel_rfl) (fun _ _ _ h => h)
    (yieldsIf_load_mid (by rfl) 22 (.tmp 9) rfl G2 0 rfl LE _ (fun _ h => h.ranE) hu32 rfl hiE) hHeld3 ?_
  try simp only [Act.put, List.setIfInBounds_toArray, List.set_cons_zero, List.set_cons_succ]
  refine wpAnyH_take (i := 28) (oi := { dst := some 80, op := Op.binOp BinOp.neq 22 (Operand.tmp 78) (Operand.tmp 79) 22, type := 4, pos := "more.go:16", after := #[{ on := 26, ground := Ground.data }, { on := 27, ground := Ground.data }, { on := 25, ground := Ground.guard }], guard := some (25, false) }) (v := .bool false) rfl (by kernel_rfl) (by kernel_rfl) (by kernel_rfl) (fun _ _ _ h => h)
    (Or.inl ⟨by rfl, by intro w hSw; clear hSw; go_simp⟩) hHeld3 ?_
  try simp only [Act.put, List.setIfInBounds_toArray, List.set_cons_zero, List.set_cons_succ]
  refine wpAnyH_take (i := 29) (oi := { dst := some 81, op := Op.pick (Operand.tmp 77) (Operand.const (Value.bool true)) (Operand.tmp 80), type := 4, pos := "more.go:16", after := #[{ on := 25, ground := Ground.data }, { on := 28, ground := Ground.data }, { on := 21, ground := Ground.guard }], guard := some (21, true) }) (v := .bool false) rfl (by kernel_rfl) (by kernel_rfl) (by kernel_rfl) (fun _ _ _ h => h)
    (Or.inl ⟨by rfl, by intro w hSw; clear hSw; go_simp⟩) hHeld3 ?_
  try simp only [Act.put, List.setIfInBounds_toArray, List.set_cons_zero, List.set_cons_succ]
  refine wpAnyH_take (i := 30) (oi := { dst := some 82, op := Op.move (Operand.tmp 81), type := 4, pos := "more.go:16", after := #[{ on := 29, ground := Ground.data }, { on := 25, ground := Ground.chain }, { on := 21, ground := Ground.guard }], guard := some (21, true) }) (v := .bool false) rfl (by kernel_rfl) (by kernel_rfl) (by kernel_rfl) (fun _ _ _ h => h)
    (Or.inl ⟨by rfl, by intro w hSw; clear hSw; go_simp⟩) hHeld3 ?_
  try simp only [Act.put, List.setIfInBounds_toArray, List.set_cons_zero, List.set_cons_succ]
  refine wpAnyH_take (i := 31) (oi := { dst := some 83, op := Op.move (Operand.tmp 4), type := 9, pos := "more.go:16", after := #[{ on := 30, ground := Ground.guard }], guard := some (30, false) }) (v := .string name) rfl (by kernel_rfl) (by kernel_rfl) (by kernel_rfl) (fun _ _ _ h => h)
    (Or.inl ⟨by rfl, by intro w hSw; clear hSw; go_simp⟩) hHeld3 ?_
  try simp only [Act.put, List.setIfInBounds_toArray, List.set_cons_zero, List.set_cons_succ]
  refine wpAnyH_take (i := 32) (oi := { dst := some 84, op := Op.move (Operand.tmp 5), type := 9, pos := "more.go:16", after := #[{ on := 30, ground := Ground.guard }], guard := some (30, false) }) (v := .string other) rfl (by kernel_rfl) (by kernel_rfl) (by kernel_rfl) (fun _ _ _ h => h)
    (Or.inl ⟨by rfl, by intro w hSw; clear hSw; go_simp⟩) hHeld3 ?_
  try simp only [Act.put, List.setIfInBounds_toArray, List.set_cons_zero, List.set_cons_succ]
  refine wpAnyH_take (i := 33) (oi := { dst := some 85, op := Op.binOp BinOp.neq 9 (Operand.tmp 83) (Operand.tmp 84) 9, type := 4, pos := "more.go:16", after := #[{ on := 31, ground := Ground.data }, { on := 32, ground := Ground.data }, { on := 30, ground := Ground.guard }], guard := some (30, false) }) (v := .bool true) rfl (by kernel_rfl) (by kernel_rfl) (by kernel_rfl) (fun _ _ _ h => h)
    (Or.inl ⟨by rfl, by intro w hSw; clear hSw; go_simp⟩) hHeld3 ?_
  try simp only [Act.put, List.setIfInBounds_toArray, List.set_cons_zero, List.set_cons_succ]
  refine wpAnyH_take (i := 34) (oi := { dst := some 86, op := Op.pick (Operand.tmp 82) (Operand.const (Value.bool true)) (Operand.tmp 85), type := 4, pos := "more.go:16", after := #[{ on := 30, ground := Ground.data }, { on := 33, ground := Ground.data }, { on := 21, ground := Ground.guard }], guard := some (21, true) }) (v := .bool true) rfl (by kernel_rfl) (by kernel_rfl) (by kernel_rfl) (fun _ _ _ h => h)
    (Or.inl ⟨by rfl, by intro w hSw; clear hSw; go_simp⟩) hHeld3 ?_
  try simp only [Act.put, List.setIfInBounds_toArray, List.set_cons_zero, List.set_cons_succ]
  refine wpAnyH_take (i := 35) (oi := { dst := some 87, op := Op.move (Operand.tmp 86), type := 4, pos := "more.go:16", after := #[{ on := 34, ground := Ground.data }, { on := 30, ground := Ground.chain }, { on := 21, ground := Ground.guard }], guard := some (21, true) }) (v := .bool true) rfl (by kernel_rfl) (by kernel_rfl) (by kernel_rfl) (fun _ _ _ h => h)
    (Or.inl ⟨by rfl, by intro w hSw; clear hSw; go_simp⟩) hHeld3 ?_
  try simp only [Act.put, List.setIfInBounds_toArray, List.set_cons_zero, List.set_cons_succ]
  refine wpAnyH_take (i := 36) (oi := { dst := some 88, op := Op.move (Operand.tmp 13), type := 9, pos := "more.go:16", after := #[{ on := 35, ground := Ground.guard }], guard := some (35, false) }) (v := undef) rfl (by kernel_rfl) (by kernel_rfl) (by kernel_rfl) (fun _ _ _ h => h)
    (Or.inr ⟨by rfl, rfl⟩) hHeld3 ?_
  try simp only [Act.put, List.setIfInBounds_toArray, List.set_cons_zero, List.set_cons_succ]
  refine wpAnyH_take (i := 37) (oi := { dst := some 89, op := Op.move (Operand.tmp 15), type := 9, pos := "more.go:16", after := #[{ on := 35, ground := Ground.guard }], guard := some (35, false) }) (v := undef) rfl (by kernel_rfl) (by kernel_rfl) (by kernel_rfl) (fun _ _ _ h => h)
    (Or.inr ⟨by rfl, rfl⟩) hHeld3 ?_
  try simp only [Act.put, List.setIfInBounds_toArray, List.set_cons_zero, List.set_cons_succ]
  refine wpAnyH_take (i := 38) (oi := { dst := some 90, op := Op.binOp BinOp.eql 9 (Operand.tmp 88) (Operand.tmp 89) 9, type := 4, pos := "more.go:16", after := #[{ on := 36, ground := Ground.data }, { on := 37, ground := Ground.data }, { on := 35, ground := Ground.guard }], guard := some (35, false) }) (v := undef) rfl (by kernel_rfl) (by kernel_rfl) (by kernel_rfl) (fun _ _ _ h => h)
    (Or.inr ⟨by rfl, rfl⟩) hHeld3 ?_
  try simp only [Act.put, List.setIfInBounds_toArray, List.set_cons_zero, List.set_cons_succ]
  refine wpAnyH_take (i := 39) (oi := { dst := some 91, op := Op.pick (Operand.tmp 87) (Operand.const (Value.bool true)) (Operand.tmp 90), type := 4, pos := "more.go:16", after := #[{ on := 35, ground := Ground.data }, { on := 38, ground := Ground.data }, { on := 21, ground := Ground.guard }], guard := some (21, true) }) (v := .bool true) rfl (by kernel_rfl) (by kernel_rfl) (by kernel_rfl) (fun _ _ _ h => h)
    (Or.inl ⟨by rfl, by intro w hSw; clear hSw; go_simp⟩) hHeld3 ?_
  try simp only [Act.put, List.setIfInBounds_toArray, List.set_cons_zero, List.set_cons_succ]
  refine wpAnyH_take (i := 40) (oi := { dst := some 92, op := Op.pick (Operand.tmp 73) (Operand.tmp 91) (Operand.const (Value.bool false)), type := 4, pos := "more.go:16", after := #[{ on := 21, ground := Ground.data }, { on := 39, ground := Ground.data }], guard := none }) (v := .bool true) rfl (by kernel_rfl) (by kernel_rfl) (by kernel_rfl) (fun _ _ _ h => h)
    (Or.inl ⟨by rfl, by intro w hSw; clear hSw; go_simp⟩) hHeld3 ?_
  try simp only [Act.put, List.setIfInBounds_toArray, List.set_cons_zero, List.set_cons_succ]
  refine wpAnyH_take (i := 41) (oi := { dst := some 12, op := Op.assign (Operand.tmp 92), type := 4, pos := "more.go:16", after := #[{ on := 40, ground := Ground.data }, { on := 35, ground := Ground.chain }, { on := 0, ground := Ground.phase }, { on := 1, ground := Ground.phase }, { on := 2, ground := Ground.phase }, { on := 3, ground := Ground.phase }, { on := 4, ground := Ground.phase }, { on := 5, ground := Ground.phase }, { on := 6, ground := Ground.phase }, { on := 7, ground := Ground.phase }, { on := 8, ground := Ground.phase }, { on := 9, ground := Ground.phase }, { on := 10, ground := Ground.phase }, { on := 11, ground := Ground.phase }, { on := 12, ground := Ground.phase }, { on := 13, ground := Ground.phase }, { on := 14, ground := Ground.phase }, { on := 15, ground := Ground.phase }, { on := 16, ground := Ground.phase }, { on := 17, ground := Ground.phase }, { on := 18, ground := Ground.phase }, { on := 19, ground := Ground.phase }, { on := 20, ground := Ground.phase }, { on := 21, ground := Ground.phase }, { on := 22, ground := Ground.phase }, { on := 23, ground := Ground.phase }, { on := 24, ground := Ground.phase }, { on := 25, ground := Ground.phase }, { on := 26, ground := Ground.phase }, { on := 27, ground := Ground.phase }, { on := 28, ground := Ground.phase }, { on := 29, ground := Ground.phase }, { on := 30, ground := Ground.phase }, { on := 31, ground := Ground.phase }, { on := 32, ground := Ground.phase }, { on := 33, ground := Ground.phase }, { on := 34, ground := Ground.phase }, { on := 35, ground := Ground.phase }, { on := 36, ground := Ground.phase }, { on := 37, ground := Ground.phase }, { on := 38, ground := Ground.phase }, { on := 39, ground := Ground.phase }, { on := 40, ground := Ground.phase }], guard := none }) (v := .bool true) rfl (by kernel_rfl) (by kernel_rfl) (by kernel_rfl) (fun _ _ _ h => h)
    (Or.inl ⟨by rfl, by intro w hSw; clear hSw; go_simp⟩) hHeld3 ?_
  try simp only [Act.put, List.setIfInBounds_toArray, List.set_cons_zero, List.set_cons_succ]
  refine wpAnyH_done (by kernel_rfl) ?_ _
  go_wp2_with fail
  go_ret
  exact ⟨rfl, by rw [hpost.out]; exact hHeld3.below⟩

set_option maxRecDepth 100000 in
set_option maxHeartbeats 20000000 in
theorem apart_near4 (w : World) (a b name other : ByteArray) (d e : List UInt8) (hd : d.length = 32) (he : e.length = 32) (hl : LaidW w) (h : a.size + b.size ≤ 500) (hn : B.isName name.data.toList = true) (ho : B.isName other.data.toList = true) (hab : a = b) (hde : d = e) (hno : name = other) :
    Calls Tryd.prog 4 #[.string a, .string b, .agg (d.map B.bv).toArray, .agg (e.map B.bv).toArray, .string name, .string other] w fun r w' => r = .returned (.bool true) ∧ Below w.heap.size w w' := by
  subst hab hde hno
  obtain ⟨LC, hLC⟩ : ∃ L, L = d.map B.bv := ⟨_, rfl⟩
  obtain ⟨LE, hLE⟩ : ∃ L, L = d.map B.bv := ⟨_, rfl⟩
  have hnot : ∀ (x : Bool) (w : World), (Op.unary .not (.bool x)).run Tryd.prog w = .ok (.bool (!x)) w := fun _ _ => rfl
  have hx : ¬ (500 : Int) < (a.size : Int) + (a.size : Int) := by omega
  have hu32 := Tryd.underlying22
  have hgd := guard_32
  have HCD := Lib.hid hLC
  have HCE := Lib.hid hLE
  have HD := Lib.hid hd
  have HE := Lib.hid hd
  have hiC' : (Tryd.prog.info? 22).map (·.size) = some LC.length := by rw [hLC, List.length_map, hd]; kernel_rfl
  have hiE' : (Tryd.prog.info? 22).map (·.size) = some LE.length := by rw [hLE, List.length_map, HE.out]; kernel_rfl
  have I1 : Hid ((Tryd.prog.info? 22).map (·.size) = some LC.toArray.size) := Lib.hid (by rw [List.size_toArray]; exact hiC')
  have I2 : Hid ((Tryd.prog.info? 22).map (·.size) = some LE.toArray.size) := Lib.hid (by rw [List.size_toArray]; exact hiE')
  have HA : Hid (a.size ≤ 2000) := Lib.hid (by omega)
  have HB : Hid (a.size ≤ 2000) := Lib.hid (by omega)
  have sn := B.name_small hn
  have so := B.name_small hn
  have ln : name.data.toList.length = name.size := by simp
  have lo : name.data.toList.length = name.size := by simp
  have HN : Hid (name.size ≤ 40) := Lib.hid (by omega)
  have HO : Hid (name.size ≤ 40) := Lib.hid (by omega)
  have HNT := Lib.hid hn
  have HOT := Lib.hid hn
  have HL := Lib.hid hl
  obtain ⟨PA, hPA⟩ : ∃ P, P = B.pathB (fd (mkT a.data.toList d name.data.toList)) name := ⟨_, rfl⟩
  have HPA := Lib.hid hPA
  have HPB := HPA
  have heq : ∀ W, (Op.equalIn 10000 22 (.agg LC.toArray) (.agg LE.toArray)).run Tryd.prog W = .ok true W := by
    intro W
    have := eql_32 W (nats d) (nats d) (by simpa [nats] using hd) (by simpa [nats] using hd)
    rw [hLC, hLE, B.bv_byv]
    rw [show d.map UInt8.toNat = nats d from rfl, this]
    simp
  have HEC : Hid (LE = LC) := Lib.hid (by rw [hLE, hLC])
  rw [← HCD.out]
  clear hLC hLE hd he hl hn ho sn so ln lo hPA
  go_enter Tryd.func4, Tryd.ntmps4
  go_wp2_with fail
  obtain ⟨w1, hw1⟩ : ∃ w1, w1 = (w.alloc (.cells LC.toArray 22)).alloc (.cells LC.toArray 22) := ⟨_, rfl⟩
  have c1 : w1.heap[w.heap.size]? = some (.cells LC.toArray 22 (0, 0)) := by
    rw [hw1]; exact (Go.RowKit.Below.heap_alloc _ _ _ (by simp)).trans (heap_alloc_new w _)
  have e1 : w1.heap[w.heap.size + 1]? = some (.cells LE.toArray 22 (0, 0)) := by
    have h := heap_alloc_new (w.alloc (.cells LC.toArray 22)) (.cells LC.toArray 22)
    have hs : (w.alloc (.cells LC.toArray 22)).heap.size = w.heap.size + 1 := by simp
    rw [hs, ← hw1] at h
    rw [HEC.out]; exact h
  have b1 : Below w.heap.size w w1 := by rw [hw1]; exact ((Below.refl _ _).alloc (Nat.le_refl _) _).alloc (by simp) _
  rw [← hw1]
  obtain ⟨w0, hw0⟩ : ∃ w0, w0 = w := ⟨_, rfl⟩
  obtain ⟨G1, hG1⟩ : ∃ G, G = w.heap.size := ⟨_, rfl⟩
  obtain ⟨G2, hG2⟩ : ∃ G, G = w.heap.size + 1 := ⟨_, rfl⟩
  have M1 : Hid (Two w0 G1 G2 LC LE w1) := Lib.hid ⟨by rw [hG1]; exact c1, by rw [hG2]; exact e1, by rw [hw0]; exact b1⟩
  rw [← hG2, ← hG1]
  have HW0 := Lib.hid hw0
  have HL0 : Hid (LaidW w0) := Lib.hid (by rw [hw0]; exact HL.out)
  have hpost : Hid (Below w.heap.size w = Below w0.heap.size w0) := Lib.hid (by rw [hw0])
  clear hw1 c1 e1 b1 hG1 hG2 hw0
  refine (B.awake_any w1).mono ?_
  rintro r w2 ⟨rfl, b2⟩
  have M2 := Lib.hid (M1.out.later b2)
  clear b2 M1
  go_wp2_with fail
  refine (B.rname_any name _ (by have := HN.out; omega)).mono ?_
  rintro r w3 ⟨rfl, rfl⟩
  rw [HNT.out]
  go_wp2_with fail
  refine (B.rname_any name _ (by have := HO.out; omega)).mono ?_
  rintro r w3 ⟨rfl, rfl⟩
  rw [HOT.out]
  go_wp2_with (refine wpList_load_row rfl 22 _ rfl G1 rfl 22 LC.toArray (0, 0) _ M2.out.c Tryd.underlying22 rfl I1.out ?_)
  obtain ⟨V1, hV1⟩ : ∃ V, V = makeV a name d := ⟨_, rfl⟩
  rw [makeV_yes HNT.out, ← HPA.out] at hV1
  have HV1 := Lib.hid hV1
  have K1 := nmake_any a name d w2 (HL0.out.below M2.out.below HL0.out.two) HA.out HD.out (by have := HN.out; omega)
  rw [makeV_yes HNT.out, ← HPA.out, ← HCD.out] at K1
  have HK1 := Lib.hid K1
  clear K1 hV1 HV1
  refine HK1.out.mono ?_
  rintro r w3 ⟨rfl, b3⟩
  have M3 := Lib.hid (M2.out.later b3)
  clear b3 M2 HK1
  go_wp2_with (refine wpList_load_row rfl 22 _ rfl G2 rfl 22 LE.toArray (0, 0) _ M3.out.e Tryd.underlying22 rfl I2.out ?_)
  have K2 := nmake_any a name d w3 (HL0.out.below M3.out.below HL0.out.two) HB.out HE.out (by have := HO.out; omega)
  rw [makeV_yes HOT.out, ← HPB.out, ← HCE.out] at K2
  have HK2 := Lib.hid K2
  clear K2
  refine HK2.out.mono ?_
  rintro r w4 ⟨rfl, b4⟩
  have MM := Lib.hid (M3.out.later b4)
  have hiC := hiC'
  have hiE := hiE'
  clear b4 M3 HK2 hiC' hiE' I1 I2
  go_wp2_with fail
  refine wp_region_held_drew (S := Two w0 G1 G2 LC LE) (by kernel_rfl) MM.out.drew (fun hHeld => ?_)
  refine wpAnyH_take (i := 0) (oi := { dst := some 52, op := Op.move (Operand.tmp 14), type := 24, pos := "more.go:16", after := #[], guard := none }) (v := .int .i64 0) rfl (by kernel_rfl) (by kernel_rfl) (by kernel_rfl) (fun _ _ _ h => h)
    (Or.inl ⟨by rfl, by intro w hSw; clear hSw; go_simp⟩) hHeld ?_
  try simp only [Act.put, List.setIfInBounds_toArray, List.set_cons_zero, List.set_cons_succ]
  refine wpAnyH_take (i := 1) (oi := { dst := some 53, op := Op.binOp BinOp.eql 24 (Operand.tmp 52) (Operand.const (Value.int IntKind.i64 0)) 24, type := 4, pos := "more.go:16", after := #[{ on := 0, ground := Ground.data }], guard := none }) (v := .bool true) rfl (by kernel_rfl) (by kernel_rfl) (by kernel_rfl) (fun _ _ _ h => h)
    (Or.inl ⟨by rfl, by intro w hSw; clear hSw; go_simp⟩) hHeld ?_
  try simp only [Act.put, List.setIfInBounds_toArray, List.set_cons_zero, List.set_cons_succ]
  refine wpAnyH_take (i := 2) (oi := { dst := some 54, op := Op.move (Operand.tmp 53), type := 4, pos := "more.go:16", after := #[{ on := 1, ground := Ground.data }], guard := none }) (v := .bool true) rfl (by kernel_rfl) (by kernel_rfl) (by kernel_rfl) (fun _ _ _ h => h)
    (Or.inl ⟨by rfl, by intro w hSw; clear hSw; go_simp⟩) hHeld ?_
  try simp only [Act.put, List.setIfInBounds_toArray, List.set_cons_zero, List.set_cons_succ]
  refine wpAnyH_take (i := 3) (oi := { dst := some 55, op := Op.move (Operand.tmp 16), type := 24, pos := "more.go:16", after := #[{ on := 2, ground := Ground.guard }], guard := some (2, true) }) (v := .int .i64 0) rfl (by kernel_rfl) (by kernel_rfl) (by kernel_rfl) (fun _ _ _ h => h)
    (Or.inl ⟨by rfl, by intro w hSw; clear hSw; go_simp⟩) hHeld ?_
  try simp only [Act.put, List.setIfInBounds_toArray, List.set_cons_zero, List.set_cons_succ]
  refine wpAnyH_take (i := 4) (oi := { dst := some 56, op := Op.binOp BinOp.eql 24 (Operand.tmp 55) (Operand.const (Value.int IntKind.i64 0)) 24, type := 4, pos := "more.go:16", after := #[{ on := 3, ground := Ground.data }, { on := 2, ground := Ground.guard }], guard := some (2, true) }) (v := .bool true) rfl (by kernel_rfl) (by kernel_rfl) (by kernel_rfl) (fun _ _ _ h => h)
    (Or.inl ⟨by rfl, by intro w hSw; clear hSw; go_simp⟩) hHeld ?_
  try simp only [Act.put, List.setIfInBounds_toArray, List.set_cons_zero, List.set_cons_succ]
  refine wpAnyH_take (i := 5) (oi := { dst := some 57, op := Op.pick (Operand.tmp 54) (Operand.tmp 56) (Operand.const (Value.bool false)), type := 4, pos := "more.go:16", after := #[{ on := 2, ground := Ground.data }, { on := 4, ground := Ground.data }], guard := none }) (v := .bool true) rfl (by kernel_rfl) (by kernel_rfl) (by kernel_rfl) (fun _ _ _ h => h)
    (Or.inl ⟨by rfl, by intro w hSw; clear hSw; go_simp⟩) hHeld ?_
  try simp only [Act.put, List.setIfInBounds_toArray, List.set_cons_zero, List.set_cons_succ]
  refine wpAnyH_take (i := 6) (oi := { dst := some 58, op := Op.move (Operand.tmp 57), type := 4, pos := "more.go:16", after := #[{ on := 5, ground := Ground.data }, { on := 2, ground := Ground.chain }], guard := none }) (v := .bool true) rfl (by kernel_rfl) (by kernel_rfl) (by kernel_rfl) (fun _ _ _ h => h)
    (Or.inl ⟨by rfl, by intro w hSw; clear hSw; go_simp⟩) hHeld ?_
  try simp only [Act.put, List.setIfInBounds_toArray, List.set_cons_zero, List.set_cons_succ]
  refine wpAnyH_take (i := 7) (oi := { dst := some 59, op := Op.move (Operand.tmp 13), type := 9, pos := "more.go:16", after := #[{ on := 6, ground := Ground.guard }], guard := some (6, true) }) (v := .string PA) rfl (by kernel_rfl) (by kernel_rfl) (by kernel_rfl) (fun _ _ _ h => h)
    (Or.inl ⟨by rfl, by intro w hSw; clear hSw; go_simp⟩) hHeld ?_
  try simp only [Act.put, List.setIfInBounds_toArray, List.set_cons_zero, List.set_cons_succ]
  refine wpAnyH_take (i := 8) (oi := { dst := some 60, op := Op.move (Operand.tmp 15), type := 9, pos := "more.go:16", after := #[{ on := 6, ground := Ground.guard }], guard := some (6, true) }) (v := .string PA) rfl (by kernel_rfl) (by kernel_rfl) (by kernel_rfl) (fun _ _ _ h => h)
    (Or.inl ⟨by rfl, by intro w hSw; clear hSw; go_simp⟩) hHeld ?_
  try simp only [Act.put, List.setIfInBounds_toArray, List.set_cons_zero, List.set_cons_succ]
  refine wpAnyH_take (i := 9) (oi := { dst := some 61, op := Op.binOp BinOp.eql 9 (Operand.tmp 59) (Operand.tmp 60) 9, type := 4, pos := "more.go:16", after := #[{ on := 7, ground := Ground.data }, { on := 8, ground := Ground.data }, { on := 6, ground := Ground.guard }], guard := some (6, true) }) (v := .bool true) rfl (by kernel_rfl) (by kernel_rfl) (by kernel_rfl) (fun _ _ _ h => h)
    (Or.inl ⟨by rfl, by intro w hSw; clear hSw; go_simp⟩) hHeld ?_
  try simp only [Act.put, List.setIfInBounds_toArray, List.set_cons_zero, List.set_cons_succ]
  refine wpAnyH_take (i := 10) (oi := { dst := some 62, op := Op.move (Operand.tmp 0), type := 9, pos := "more.go:16", after := #[{ on := 6, ground := Ground.guard }], guard := some (6, true) }) (v := .string a) rfl (by kernel_rfl) (by kernel_rfl) (by kernel_rfl) (fun _ _ _ h => h)
    (Or.inl ⟨by rfl, by intro w hSw; clear hSw; go_simp⟩) hHeld ?_
  try simp only [Act.put, List.setIfInBounds_toArray, List.set_cons_zero, List.set_cons_succ]
  refine wpAnyH_take (i := 11) (oi := { dst := some 63, op := Op.load 22 (Operand.tmp 8), type := 22, pos := "more.go:16", after := #[{ on := 6, ground := Ground.guard }], guard := some (6, true) }) rfl (by kernel_rfl) (by kernel_rfl) (by kernel_rfl) (fun _ _ _ h => h)
    (yieldsIf_load_mid (by rfl) 22 (.tmp 8) rfl G1 0 rfl LC _ (fun _ h => h.ranC) hu32 rfl hiC) hHeld ?_
  try simp only [Act.put, List.setIfInBounds_toArray, List.set_cons_zero, List.set_cons_succ]
  refine wpAnyH_take (i := 12) (oi := { dst := some 64, op := Op.move (Operand.tmp 4), type := 9, pos := "more.go:16", after := #[{ on := 6, ground := Ground.guard }], guard := some (6, true) }) (v := .string name) rfl (by kernel_rfl) (by kernel_rfl) (by kernel_rfl) (fun _ _ _ h => h)
    (Or.inl ⟨by rfl, by intro w hSw; clear hSw; go_simp⟩) hHeld ?_
  try simp only [Act.put, List.setIfInBounds_toArray, List.set_cons_zero, List.set_cons_succ]
  refine wpAnyH_take (i := 14) (oi := { dst := some 66, op := Op.move (Operand.tmp 1), type := 9, pos := "more.go:16", after := #[{ on := 6, ground := Ground.guard }], guard := some (6, true) }) (v := .string a) rfl (by kernel_rfl) (by kernel_rfl) (by kernel_rfl) (fun _ _ _ h => h)
    (Or.inl ⟨by rfl, by intro w hSw; clear hSw; go_simp⟩) hHeld ?_
  try simp only [Act.put, List.setIfInBounds_toArray, List.set_cons_zero, List.set_cons_succ]
  refine wpAnyH_take (i := 15) (oi := { dst := some 67, op := Op.load 22 (Operand.tmp 9), type := 22, pos := "more.go:16", after := #[{ on := 6, ground := Ground.guard }], guard := some (6, true) }) rfl (by kernel_rfl) (by kernel_rfl) (by kernel_rfl) (fun _ _ _ h => h)
    (yieldsIf_load_mid (by rfl) 22 (.tmp 9) rfl G2 0 rfl LE _ (fun _ h => h.ranE) hu32 rfl hiE) hHeld ?_
  try simp only [Act.put, List.setIfInBounds_toArray, List.set_cons_zero, List.set_cons_succ]
  refine wpAnyH_take (i := 16) (oi := { dst := some 68, op := Op.move (Operand.tmp 5), type := 9, pos := "more.go:16", after := #[{ on := 6, ground := Ground.guard }], guard := some (6, true) }) (v := .string name) rfl (by kernel_rfl) (by kernel_rfl) (by kernel_rfl) (fun _ _ _ h => h)
    (Or.inl ⟨by rfl, by intro w hSw; clear hSw; go_simp⟩) hHeld ?_
  try simp only [Act.put, List.setIfInBounds_toArray, List.set_cons_zero, List.set_cons_succ]
  refine wpAnyH_ready (rs := [13]) (by kernel_rfl) (by simp) ?_
  refine AllReadyH.cons (o := { dst := some 65, op := Op.call { callee := Callee.value (Operand.func 8), args := #[Operand.tmp 62, Operand.tmp 63, Operand.tmp 64], argTypes := #[9, 22, 9] }, type := 9, pos := "more.go:16", after := #[{ on := 10, ground := Ground.data }, { on := 11, ground := Ground.data }, { on := 12, ground := Ground.data }, { on := 6, ground := Ground.chain }, { on := 6, ground := Ground.guard }], guard := some (6, true) }) rfl (fun K hK => ?_) AllReadyH.nil
  go_simp
  refine (two_ref a name d PA HPA HCD HD HA HN hHeld).mono ?_
  rintro e w9 ⟨rfl, hm9⟩
  go_wp2_with fail
  refine hK.out _ _ hm9 (fun hHeld2 => ?_)
  clear hK K hHeld
  try simp only [Act.put, List.setIfInBounds_toArray, List.set_cons_zero, List.set_cons_succ]
  refine wpAnyH_ready (rs := [17]) (by kernel_rfl) (by simp) ?_
  refine AllReadyH.cons (o := { dst := some 69, op := Op.call { callee := Callee.value (Operand.func 8), args := #[Operand.tmp 66, Operand.tmp 67, Operand.tmp 68], argTypes := #[9, 22, 9] }, type := 9, pos := "more.go:16", after := #[{ on := 14, ground := Ground.data }, { on := 15, ground := Ground.data }, { on := 16, ground := Ground.data }, { on := 13, ground := Ground.chain }, { on := 6, ground := Ground.guard }], guard := some (6, true) }) rfl (fun K hK => ?_) AllReadyH.nil
  go_simp
  refine (two_ref a name d PA HPB HCE HE HB HO hHeld2).mono ?_
  rintro e w9 ⟨rfl, hm9⟩
  go_wp2_with fail
  refine hK.out _ _ hm9 (fun hHeld3 => ?_)
  clear hK K hHeld2
  try simp only [Act.put, List.setIfInBounds_toArray, List.set_cons_zero, List.set_cons_succ]
  refine wpAnyH_take (i := 18) (oi := { dst := some 70, op := Op.binOp BinOp.eql 9 (Operand.tmp 65) (Operand.tmp 69) 9, type := 4, pos := "more.go:16", after := #[{ on := 13, ground := Ground.data }, { on := 17, ground := Ground.data }, { on := 6, ground := Ground.guard }], guard := some (6, true) }) (v := .bool true) rfl (by kernel_rfl) (by kernel_rfl) (by kernel_rfl) (fun _ _ _ h => h)
    (Or.inl ⟨by rfl, by intro w hSw; clear hSw; go_simp⟩) hHeld3 ?_
  try simp only [Act.put, List.setIfInBounds_toArray, List.set_cons_zero, List.set_cons_succ]
  refine wpAnyH_take (i := 19) (oi := { dst := some 71, op := Op.binOp BinOp.eql 4 (Operand.tmp 61) (Operand.tmp 70) 4, type := 4, pos := "more.go:16", after := #[{ on := 9, ground := Ground.data }, { on := 18, ground := Ground.data }, { on := 6, ground := Ground.guard }], guard := some (6, true) }) (v := .bool true) rfl (by kernel_rfl) (by kernel_rfl) (by kernel_rfl) (fun _ _ _ h => h)
    (Or.inl ⟨by rfl, by intro w hSw; clear hSw; go_simp⟩) hHeld3 ?_
  try simp only [Act.put, List.setIfInBounds_toArray, List.set_cons_zero, List.set_cons_succ]
  refine wpAnyH_take (i := 20) (oi := { dst := some 72, op := Op.pick (Operand.tmp 58) (Operand.tmp 71) (Operand.const (Value.bool false)), type := 4, pos := "more.go:16", after := #[{ on := 6, ground := Ground.data }, { on := 19, ground := Ground.data }], guard := none }) (v := .bool true) rfl (by kernel_rfl) (by kernel_rfl) (by kernel_rfl) (fun _ _ _ h => h)
    (Or.inl ⟨by rfl, by intro w hSw; clear hSw; go_simp⟩) hHeld3 ?_
  try simp only [Act.put, List.setIfInBounds_toArray, List.set_cons_zero, List.set_cons_succ]
  refine wpAnyH_take (i := 21) (oi := { dst := some 73, op := Op.move (Operand.tmp 72), type := 4, pos := "more.go:16", after := #[{ on := 20, ground := Ground.data }, { on := 17, ground := Ground.chain }], guard := none }) (v := .bool true) rfl (by kernel_rfl) (by kernel_rfl) (by kernel_rfl) (fun _ _ _ h => h)
    (Or.inl ⟨by rfl, by intro w hSw; clear hSw; go_simp⟩) hHeld3 ?_
  try simp only [Act.put, List.setIfInBounds_toArray, List.set_cons_zero, List.set_cons_succ]
  refine wpAnyH_take (i := 22) (oi := { dst := some 74, op := Op.move (Operand.tmp 0), type := 9, pos := "more.go:16", after := #[{ on := 21, ground := Ground.guard }], guard := some (21, true) }) (v := .string a) rfl (by kernel_rfl) (by kernel_rfl) (by kernel_rfl) (fun _ _ _ h => h)
    (Or.inl ⟨by rfl, by intro w hSw; clear hSw; go_simp⟩) hHeld3 ?_
  try simp only [Act.put, List.setIfInBounds_toArray, List.set_cons_zero, List.set_cons_succ]
  refine wpAnyH_take (i := 23) (oi := { dst := some 75, op := Op.move (Operand.tmp 1), type := 9, pos := "more.go:16", after := #[{ on := 21, ground := Ground.guard }], guard := some (21, true) }) (v := .string a) rfl (by kernel_rfl) (by kernel_rfl) (by kernel_rfl) (fun _ _ _ h => h)
    (Or.inl ⟨by rfl, by intro w hSw; clear hSw; go_simp⟩) hHeld3 ?_
  try simp only [Act.put, List.setIfInBounds_toArray, List.set_cons_zero, List.set_cons_succ]
  refine wpAnyH_take (i := 24) (oi := { dst := some 76, op := Op.binOp BinOp.neq 9 (Operand.tmp 74) (Operand.tmp 75) 9, type := 4, pos := "more.go:16", after := #[{ on := 22, ground := Ground.data }, { on := 23, ground := Ground.data }, { on := 21, ground := Ground.guard }], guard := some (21, true) }) (v := .bool false) rfl (by kernel_rfl) (by kernel_rfl) (by kernel_rfl) (fun _ _ _ h => h)
    (Or.inl ⟨by rfl, by intro w hSw; clear hSw; go_simp⟩) hHeld3 ?_
  try simp only [Act.put, List.setIfInBounds_toArray, List.set_cons_zero, List.set_cons_succ]
  refine wpAnyH_take (i := 25) (oi := { dst := some 77, op := Op.move (Operand.tmp 76), type := 4, pos := "more.go:16", after := #[{ on := 24, ground := Ground.data }, { on := 21, ground := Ground.chain }, { on := 21, ground := Ground.guard }], guard := some (21, true) }) (v := .bool false) rfl (by kernel_rfl) (by kernel_rfl) (by kernel_rfl) (fun _ _ _ h => h)
    (Or.inl ⟨by rfl, by intro w hSw; clear hSw; go_simp⟩) hHeld3 ?_
  try simp only [Act.put, List.setIfInBounds_toArray, List.set_cons_zero, List.set_cons_succ]
  refine wpAnyH_take (i := 26) (oi := { dst := some 78, op := Op.load 22 (Operand.tmp 8), type := 22, pos := "more.go:16", after := #[{ on := 25, ground := Ground.guard }], guard := some (25, false) }) rfl (by kernel_rfl) (by kernel_rfl) (by kernel_rfl) (fun _ _ _ h => h)
    (yieldsIf_load_mid (by rfl) 22 (.tmp 8) rfl G1 0 rfl LC _ (fun _ h => h.ranC) hu32 rfl hiC) hHeld3 ?_
  try simp only [Act.put, List.setIfInBounds_toArray, List.set_cons_zero, List.set_cons_succ]
  refine wpAnyH_take (i := 27) (oi := { dst := some 79, op := Op.load 22 (Operand.tmp 9), type := 22, pos := "more.go:16", after := #[{ on := 25, ground := Ground.guard }], guard := some (25, false) }) rfl (by kernel_rfl) (by kernel_rfl) (by kernel_rfl) (fun _ _ _ h => h)
    (yieldsIf_load_mid (by rfl) 22 (.tmp 9) rfl G2 0 rfl LE _ (fun _ h => h.ranE) hu32 rfl hiE) hHeld3 ?_
  try simp only [Act.put, List.setIfInBounds_toArray, List.set_cons_zero, List.set_cons_succ]
  refine wpAnyH_take (i := 28) (oi := { dst := some 80, op := Op.binOp BinOp.neq 22 (Operand.tmp 78) (Operand.tmp 79) 22, type := 4, pos := "more.go:16", after := #[{ on := 26, ground := Ground.data }, { on := 27, ground := Ground.data }, { on := 25, ground := Ground.guard }], guard := some (25, false) }) (v := .bool false) rfl (by kernel_rfl) (by kernel_rfl) (by kernel_rfl) (fun _ _ _ h => h)
    (Or.inl ⟨by rfl, by intro w hSw; clear hSw; go_simp⟩) hHeld3 ?_
  try simp only [Act.put, List.setIfInBounds_toArray, List.set_cons_zero, List.set_cons_succ]
  refine wpAnyH_take (i := 29) (oi := { dst := some 81, op := Op.pick (Operand.tmp 77) (Operand.const (Value.bool true)) (Operand.tmp 80), type := 4, pos := "more.go:16", after := #[{ on := 25, ground := Ground.data }, { on := 28, ground := Ground.data }, { on := 21, ground := Ground.guard }], guard := some (21, true) }) (v := .bool false) rfl (by kernel_rfl) (by kernel_rfl) (by kernel_rfl) (fun _ _ _ h => h)
    (Or.inl ⟨by rfl, by intro w hSw; clear hSw; go_simp⟩) hHeld3 ?_
  try simp only [Act.put, List.setIfInBounds_toArray, List.set_cons_zero, List.set_cons_succ]
  refine wpAnyH_take (i := 30) (oi := { dst := some 82, op := Op.move (Operand.tmp 81), type := 4, pos := "more.go:16", after := #[{ on := 29, ground := Ground.data }, { on := 25, ground := Ground.chain }, { on := 21, ground := Ground.guard }], guard := some (21, true) }) (v := .bool false) rfl (by kernel_rfl) (by kernel_rfl) (by kernel_rfl) (fun _ _ _ h => h)
    (Or.inl ⟨by rfl, by intro w hSw; clear hSw; go_simp⟩) hHeld3 ?_
  try simp only [Act.put, List.setIfInBounds_toArray, List.set_cons_zero, List.set_cons_succ]
  refine wpAnyH_take (i := 31) (oi := { dst := some 83, op := Op.move (Operand.tmp 4), type := 9, pos := "more.go:16", after := #[{ on := 30, ground := Ground.guard }], guard := some (30, false) }) (v := .string name) rfl (by kernel_rfl) (by kernel_rfl) (by kernel_rfl) (fun _ _ _ h => h)
    (Or.inl ⟨by rfl, by intro w hSw; clear hSw; go_simp⟩) hHeld3 ?_
  try simp only [Act.put, List.setIfInBounds_toArray, List.set_cons_zero, List.set_cons_succ]
  refine wpAnyH_take (i := 32) (oi := { dst := some 84, op := Op.move (Operand.tmp 5), type := 9, pos := "more.go:16", after := #[{ on := 30, ground := Ground.guard }], guard := some (30, false) }) (v := .string name) rfl (by kernel_rfl) (by kernel_rfl) (by kernel_rfl) (fun _ _ _ h => h)
    (Or.inl ⟨by rfl, by intro w hSw; clear hSw; go_simp⟩) hHeld3 ?_
  try simp only [Act.put, List.setIfInBounds_toArray, List.set_cons_zero, List.set_cons_succ]
  refine wpAnyH_take (i := 33) (oi := { dst := some 85, op := Op.binOp BinOp.neq 9 (Operand.tmp 83) (Operand.tmp 84) 9, type := 4, pos := "more.go:16", after := #[{ on := 31, ground := Ground.data }, { on := 32, ground := Ground.data }, { on := 30, ground := Ground.guard }], guard := some (30, false) }) (v := .bool false) rfl (by kernel_rfl) (by kernel_rfl) (by kernel_rfl) (fun _ _ _ h => h)
    (Or.inl ⟨by rfl, by intro w hSw; clear hSw; go_simp⟩) hHeld3 ?_
  try simp only [Act.put, List.setIfInBounds_toArray, List.set_cons_zero, List.set_cons_succ]
  refine wpAnyH_take (i := 34) (oi := { dst := some 86, op := Op.pick (Operand.tmp 82) (Operand.const (Value.bool true)) (Operand.tmp 85), type := 4, pos := "more.go:16", after := #[{ on := 30, ground := Ground.data }, { on := 33, ground := Ground.data }, { on := 21, ground := Ground.guard }], guard := some (21, true) }) (v := .bool false) rfl (by kernel_rfl) (by kernel_rfl) (by kernel_rfl) (fun _ _ _ h => h)
    (Or.inl ⟨by rfl, by intro w hSw; clear hSw; go_simp⟩) hHeld3 ?_
  try simp only [Act.put, List.setIfInBounds_toArray, List.set_cons_zero, List.set_cons_succ]
  refine wpAnyH_take (i := 35) (oi := { dst := some 87, op := Op.move (Operand.tmp 86), type := 4, pos := "more.go:16", after := #[{ on := 34, ground := Ground.data }, { on := 30, ground := Ground.chain }, { on := 21, ground := Ground.guard }], guard := some (21, true) }) (v := .bool false) rfl (by kernel_rfl) (by kernel_rfl) (by kernel_rfl) (fun _ _ _ h => h)
    (Or.inl ⟨by rfl, by intro w hSw; clear hSw; go_simp⟩) hHeld3 ?_
  try simp only [Act.put, List.setIfInBounds_toArray, List.set_cons_zero, List.set_cons_succ]
  refine wpAnyH_take (i := 36) (oi := { dst := some 88, op := Op.move (Operand.tmp 13), type := 9, pos := "more.go:16", after := #[{ on := 35, ground := Ground.guard }], guard := some (35, false) }) (v := .string PA) rfl (by kernel_rfl) (by kernel_rfl) (by kernel_rfl) (fun _ _ _ h => h)
    (Or.inl ⟨by rfl, by intro w hSw; clear hSw; go_simp⟩) hHeld3 ?_
  try simp only [Act.put, List.setIfInBounds_toArray, List.set_cons_zero, List.set_cons_succ]
  refine wpAnyH_take (i := 37) (oi := { dst := some 89, op := Op.move (Operand.tmp 15), type := 9, pos := "more.go:16", after := #[{ on := 35, ground := Ground.guard }], guard := some (35, false) }) (v := .string PA) rfl (by kernel_rfl) (by kernel_rfl) (by kernel_rfl) (fun _ _ _ h => h)
    (Or.inl ⟨by rfl, by intro w hSw; clear hSw; go_simp⟩) hHeld3 ?_
  try simp only [Act.put, List.setIfInBounds_toArray, List.set_cons_zero, List.set_cons_succ]
  refine wpAnyH_take (i := 38) (oi := { dst := some 90, op := Op.binOp BinOp.eql 9 (Operand.tmp 88) (Operand.tmp 89) 9, type := 4, pos := "more.go:16", after := #[{ on := 36, ground := Ground.data }, { on := 37, ground := Ground.data }, { on := 35, ground := Ground.guard }], guard := some (35, false) }) (v := .bool true) rfl (by kernel_rfl) (by kernel_rfl) (by kernel_rfl) (fun _ _ _ h => h)
    (Or.inl ⟨by rfl, by intro w hSw; clear hSw; go_simp⟩) hHeld3 ?_
  try simp only [Act.put, List.setIfInBounds_toArray, List.set_cons_zero, List.set_cons_succ]
  refine wpAnyH_take (i := 39) (oi := { dst := some 91, op := Op.pick (Operand.tmp 87) (Operand.const (Value.bool true)) (Operand.tmp 90), type := 4, pos := "more.go:16", after := #[{ on := 35, ground := Ground.data }, { on := 38, ground := Ground.data }, { on := 21, ground := Ground.guard }], guard := some (21, true) }) (v := .bool true) rfl (by kernel_rfl) (by kernel_rfl) (by kernel_rfl) (fun _ _ _ h => h)
    (Or.inl ⟨by rfl, by intro w hSw; clear hSw; go_simp⟩) hHeld3 ?_
  try simp only [Act.put, List.setIfInBounds_toArray, List.set_cons_zero, List.set_cons_succ]
  refine wpAnyH_take (i := 40) (oi := { dst := some 92, op := Op.pick (Operand.tmp 73) (Operand.tmp 91) (Operand.const (Value.bool false)), type := 4, pos := "more.go:16", after := #[{ on := 21, ground := Ground.data }, { on := 39, ground := Ground.data }], guard := none }) (v := .bool true) rfl (by kernel_rfl) (by kernel_rfl) (by kernel_rfl) (fun _ _ _ h => h)
    (Or.inl ⟨by rfl, by intro w hSw; clear hSw; go_simp⟩) hHeld3 ?_
  try simp only [Act.put, List.setIfInBounds_toArray, List.set_cons_zero, List.set_cons_succ]
  refine wpAnyH_take (i := 41) (oi := { dst := some 12, op := Op.assign (Operand.tmp 92), type := 4, pos := "more.go:16", after := #[{ on := 40, ground := Ground.data }, { on := 35, ground := Ground.chain }, { on := 0, ground := Ground.phase }, { on := 1, ground := Ground.phase }, { on := 2, ground := Ground.phase }, { on := 3, ground := Ground.phase }, { on := 4, ground := Ground.phase }, { on := 5, ground := Ground.phase }, { on := 6, ground := Ground.phase }, { on := 7, ground := Ground.phase }, { on := 8, ground := Ground.phase }, { on := 9, ground := Ground.phase }, { on := 10, ground := Ground.phase }, { on := 11, ground := Ground.phase }, { on := 12, ground := Ground.phase }, { on := 13, ground := Ground.phase }, { on := 14, ground := Ground.phase }, { on := 15, ground := Ground.phase }, { on := 16, ground := Ground.phase }, { on := 17, ground := Ground.phase }, { on := 18, ground := Ground.phase }, { on := 19, ground := Ground.phase }, { on := 20, ground := Ground.phase }, { on := 21, ground := Ground.phase }, { on := 22, ground := Ground.phase }, { on := 23, ground := Ground.phase }, { on := 24, ground := Ground.phase }, { on := 25, ground := Ground.phase }, { on := 26, ground := Ground.phase }, { on := 27, ground := Ground.phase }, { on := 28, ground := Ground.phase }, { on := 29, ground := Ground.phase }, { on := 30, ground := Ground.phase }, { on := 31, ground := Ground.phase }, { on := 32, ground := Ground.phase }, { on := 33, ground := Ground.phase }, { on := 34, ground := Ground.phase }, { on := 35, ground := Ground.phase }, { on := 36, ground := Ground.phase }, { on := 37, ground := Ground.phase }, { on := 38, ground := Ground.phase }, { on := 39, ground := Ground.phase }, { on := 40, ground := Ground.phase }], guard := none }) (v := .bool true) rfl (by kernel_rfl) (by kernel_rfl) (by kernel_rfl) (fun _ _ _ h => h)
    (Or.inl ⟨by rfl, by intro w hSw; clear hSw; go_simp⟩) hHeld3 ?_
  try simp only [Act.put, List.setIfInBounds_toArray, List.set_cons_zero, List.set_cons_succ]
  refine wpAnyH_done (by kernel_rfl) ?_ _
  go_wp2_with fail
  go_ret
  exact ⟨rfl, by rw [hpost.out]; exact hHeld3.below⟩

theorem walk_NamingApart (w : World) (a : ByteArray) (_wa : a.size ≤ maxLen) (ma : a.size ≤ 140737488351232) (b : ByteArray) (_wb : b.size ≤ maxLen) (mb : b.size ≤ 140737488351232) (d : List UInt8) (hd : d.length = 32) (e : List UInt8) (he : e.length = 32) (name : ByteArray) (_wn : name.size ≤ maxLen) (mn : name.size ≤ 140737488351232) (other : ByteArray) (_wo : other.size ≤ maxLen) (mo : other.size ≤ 140737488351232) (hl : LaidW w) :
    Calls Tryd.prog 4 #[.string a, .string b, .agg (d.map B.bv).toArray, .agg (e.map B.bv).toArray, .string name, .string other] w fun r w' => r = .returned (.bool true) ∧ Below w.heap.size w w' := by
  have str : ∀ s t : ByteArray, s ≠ t → (s.toList == t.toList) = false := fun s t h => by
    rw [beq_eq_false_iff_ne, ByteArray.toList_eq, ByteArray.toList_eq]
    exact fun h' => h (B.bytes_ext h')
  by_cases h : a.size + b.size ≤ 500
  · cases hn : B.isName name.data.toList
    · exact apart_far w a b name other d e hl ma mb mn mo (.inr (.inl ⟨h, hn⟩))
    · cases ho : B.isName other.data.toList
      · exact apart_far w a b name other d e hl ma mb mn mo (.inr (.inr ⟨h, hn, ho⟩))
      · by_cases hab : a = b
        · by_cases hde : d = e
          · by_cases hno : name = other
            · exact apart_near4 w a b name other d e hd he hl h hn ho hab hde hno
            · exact apart_near3 w a b name other d e hd he hl h hn ho hab hde (str _ _ hno)
          · exact apart_near2 w a b name other d e hd he hl h hn ho hab hde
        · exact apart_near1 w a b name other d e hd he hl h hn ho (str _ _ hab)
  · exact apart_far w a b name other d e hl ma mb mn mo (.inl (by omega))

end Go.Proofs.YthomkagbcoaipaaDoor

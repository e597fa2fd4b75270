/-
  The walk of the law ParseOrder. Conditions: the listed variables lie as the text lays them.
-/
import Derived.Test.YtjggfjoodoidhaaDoorPAwake
import Derived.Test.YtjggfjoodoidhaaDoorPPairs
import Derived.BigQuiet
namespace Go.Proofs.YtjggfjoodoidhaaDoor
open Go.RowKit
set_option linter.unusedVariables false

def sgB (i : Nat) : ByteArray := ⟨(sgN i).toArray⟩
def sgsV : List Value := [0, 1, 2, 3, 4, 5, 6, 7, 8, 9].map fun i => .string (sgB i)
def intsV : List Value := [0, 1, 2, 3, 4, 5, 6, 7, 8, 9].map fun i => .int .i64 (strN i : Int)
theorem sgsV_get (i : Nat) (hi : i < 10) : sgsV[i]? = some (.string (sgB i)) := by
  have h : i = 0 ∨ i = 1 ∨ i = 2 ∨ i = 3 ∨ i = 4 ∨ i = 5 ∨ i = 6 ∨ i = 7 ∨ i = 8 ∨ i = 9 := by omega
  rcases h with rfl | rfl | rfl | rfl | rfl | rfl | rfl | rfl | rfl | rfl <;> rfl
theorem intsV_get (i : Nat) (hi : i < 10) : intsV[i]? = some (.int .i64 (strN i : Int)) := by
  have h : i = 0 ∨ i = 1 ∨ i = 2 ∨ i = 3 ∨ i = 4 ∨ i = 5 ∨ i = 6 ∨ i = 7 ∨ i = 8 ∨ i = 9 := by omega
  rcases h with rfl | rfl | rfl | rfl | rfl | rfl | rfl | rfl | rfl | rfl <;> rfl
theorem sgB_size (i : Nat) (hi : i < 10) : (sgB i).size ≤ 2 := by
  have h : i = 0 ∨ i = 1 ∨ i = 2 ∨ i = 3 ∨ i = 4 ∨ i = 5 ∨ i = 6 ∨ i = 7 ∨ i = 8 ∨ i = 9 := by omega
  rcases h with rfl | rfl | rfl | rfl | rfl | rfl | rfl | rfl | rfl | rfl <;> decide
theorem ba_of {b : ByteArray} {l : List UInt8} (h : b.data.toList = l) : b = ⟨l.toArray⟩ := by
  cases b with
  | mk d => simp at h; subst h; simp
theorem below_drewN {B : Nat} {a w : World} (h : Below B a w) (n : Nat) : Below B a (w.drewN n) := by
  induction n with
  | zero => exact h
  | succ n ih => exact ih.drew
theorem txt_list (a b : ByteArray) (i k : Nat) (ha : a = sgB i) (hb : b = sgB k) : (((ByteArray.mk #[97, 32] ++ a) ++ ByteArray.mk #[32, 98, 32]) ++ b ++ ByteArray.mk #[32, 99]).data.toList = txtP i k := by
  subst ha hb
  simp [txtP, sgB]

set_option maxRecDepth 100000 in
set_option maxHeartbeats 16000000 in
theorem walk_nat (w : World) (p q : Nat) (hp : p < 256) (hq : q < 256) (hl : LaidL w) (hlp : LaidP w) :
    Calls Tryd.prog 3 #[.int .u8 (p : Int), .int .u8 (q : Int)] w fun e w' => e = .returned (.bool true) ∧ Below w.heap.size w w' := by
  have HL := Lib.hid hl
  have HLP := Lib.hid hlp
  have HA := Lib.hid (awake_any w hl hlp)
  clear hl hlp
  go_enter Tryd.func3, Tryd.ntmps3
  go_wp2_with fail
  refine HA.out.mono ?_
  rintro e w1 ⟨rfl, hb⟩
  have L1 := Lib.hid (HL.out.below hb HL.out.size)
  have LP1 := Lib.hid (HLP.out.below hb HLP.out.lt)
  have BB1 := Lib.hid hb
  clear hb HL HLP HA
  go_upto_region 5 with fail
  obtain ⟨S1, hS1⟩ : ∃ s, s = w1.heap.size := ⟨_, rfl⟩
  obtain ⟨wa, hwa⟩ : ∃ y, y = w1.alloc (.cells #[.string ⟨#[124, 124]⟩, .string ⟨#[38, 38]⟩, .string ⟨#[61, 61]⟩, .string ⟨#[33, 61]⟩, .string ⟨#[60]⟩, .string ⟨#[47, 47]⟩, .string ⟨#[43]⟩, .string ⟨#[45]⟩, .string ⟨#[42]⟩, .string ⟨#[43, 43]⟩] 9) := ⟨_, rfl⟩
  obtain ⟨w2, hw2⟩ : ∃ y, y = wa.alloc (.cells #[.int .i64 0, .int .i64 1, .int .i64 2, .int .i64 2, .int .i64 3, .int .i64 4, .int .i64 5, .int .i64 5, .int .i64 6, .int .i64 7] 3) := ⟨_, rfl⟩
  rw [← hwa, ← hw2, ← hS1]
  have e1 : wa.heap.size = S1 + 1 := by rw [hwa, hS1]; simp
  have T1 : Hid (Has w2 S1 sgsV 9) := Lib.hid (by rw [hw2, hwa, hS1]; exact (Has.new w1 sgsV _).alloc _)
  have T2 : Hid (Has w2 (S1 + 1) intsV 3) := Lib.hid (by rw [hw2, ← e1]; exact Has.new wa intsV _)
  have D2 : Hid (Below w1.heap.size w1 w2) := Lib.hid (by rw [hw2, hwa]; exact ((Below.refl _ _).alloc (Nat.le_refl _) _).alloc (by simp) _)
  have BB2 : Hid (Below w.heap.size w w2) := Lib.hid (BB1.out.trans (D2.out.mono BB1.out.size))
  have L2 := Lib.hid (L1.out.below D2.out L1.out.size)
  have LP2 := Lib.hid (LP1.out.below D2.out LP1.out.lt)
  clear hS1 hwa hw2 e1 D2 L1 LP1
  have hpw : IntKind.i64.wrap (p : Int) = (p : Int) := by simp [IntKind.wrap, IntKind.bits, IntKind.signed]; omega
  have hqw : IntKind.i64.wrap (q : Int) = (q : Int) := by simp [IntKind.wrap, IntKind.bits, IntKind.signed]; omega
  obtain ⟨i, hi⟩ : ∃ i, i = p % 10 := ⟨_, rfl⟩
  obtain ⟨k, hk⟩ : ∃ k, k = q % 10 := ⟨_, rfl⟩
  have hpt : (p : Int) % 10 = (i : Int) := by rw [hi]; rfl
  have hqt : (q : Int) % 10 = (k : Int) := by rw [hk]; rfl
  have hi10 : i < 10 := by omega
  have hk10 : k < 10 := by omega
  clear hi hk
  go_upto_region 7 with fail
  clear hpw hqw hp hq
  have hii : (i : Int) < 10 := by omega
  have hkk : (k : Int) < 10 := by omega
  obtain ⟨ts, x, tl, tq, hlex, hgood, hpg, htl, hsh⟩ := pair_ok i k hi10 hk10
  obtain ⟨sI, hsI⟩ : ∃ s, s = sgB i := ⟨_, rfl⟩
  obtain ⟨sK, hsK⟩ : ∃ s, s = sgB k := ⟨_, rfl⟩
  obtain ⟨sA, hsA⟩ : ∃ s, s = ByteArray.mk #[97, 32] ++ sI := ⟨_, rfl⟩
  obtain ⟨sC, hsC⟩ : ∃ s, s = sA ++ ByteArray.mk #[32, 98, 32] := ⟨_, rfl⟩
  obtain ⟨sD, hsD⟩ : ∃ s, s = sC ++ sK := ⟨_, rfl⟩
  obtain ⟨sE, hsE⟩ : ∃ s, s = sD ++ ByteArray.mk #[32, 99] := ⟨_, rfl⟩
  have HPC : Hid (∀ W : World, LaidL W → LaidP W → Calls Tryd.prog 7 #[.string sE] W fun e w' => ∃ cs, e = .returned (.tuple #[.agg cs.toArray, .int .i64 0, .int .i64 0]) ∧ IsX w' W.heap.size cs x ∧ Below W.heap.size W w') :=
    Lib.hid (fun W h1 h2 => parse_good sE h1 h2 400 ts x tl tq (by rw [hsE, hsD, hsC, hsA, txt_list sI sK i k hsI hsK]; exact hlex) hgood hpg htl)
  have z1 : sI.size ≤ 2 := by rw [hsI]; exact sgB_size i hi10
  have z2 : sK.size ≤ 2 := by rw [hsK]; exact sgB_size k hk10
  have z3 : sA.size = 2 + sI.size := by rw [hsA, ByteArray.size_append]; rfl
  have z4 : sC.size = sA.size + 3 := by rw [hsC, ByteArray.size_append]; rfl
  have z5 : sD.size = sC.size + sK.size := by rw [hsD, ByteArray.size_append]
  have q1 : 2 + sI.size ≤ 9223372036854775807 := by omega
  have q2 : sA.size ≤ 9223372036854775804 := by omega
  have q3 : sC.size + sK.size ≤ 9223372036854775807 := by omega
  have q4 : sD.size ≤ 9223372036854775805 := by omega
  clear z1 z2 z3 z4 z5
  have HSA := Lib.hid hsA
  have HSC := Lib.hid hsC
  have HSD := Lib.hid hsD
  have HSE := Lib.hid hsE
  have HSI := Lib.hid hsI
  have HSK := Lib.hid hsK
  have HSH := Lib.hid hsh
  have HI := Lib.hid hi10
  have HK := Lib.hid hk10
  have C1 : Hid (w2.cell? ⟨S1, i, none⟩ = some (.string sI) ∧ w2.cell? ⟨S1, k, none⟩ = some (.string sK)) := Lib.hid (by rw [hsI, hsK]; exact ⟨T1.out.cellAt (sgsV_get i hi10), T1.out.cellAt (sgsV_get k hk10)⟩)
  clear hlex hgood hpg htl hsh hsI hsK hsA hsC hsD hsE hi10 hk10
  refine wp_region_held_drew (S := fun W => W.cell? ⟨S1, i, none⟩ = some (.string sI) ∧ W.cell? ⟨S1, k, none⟩ = some (.string sK)) (by kernel_rfl) C1.out (fun hHeld => ?_)
  obtain ⟨wd, hwd⟩ : ∃ wd, wd = w2.drew := ⟨_, rfl⟩
  rw [← hwd]
  rw [← hwd] at hHeld
  have TA : Hid (Has wd S1 sgsV 9) := Lib.hid (by rw [hwd]; exact T1.out.drew)
  have TB : Hid (Has wd (S1 + 1) intsV 3) := Lib.hid (by rw [hwd]; exact T2.out.drew)
  have LD : Hid (LaidL wd) := Lib.hid (by rw [hwd]; exact L2.out.below (Below.refl _ _).drew L2.out.size)
  have LPD : Hid (LaidP wd) := Lib.hid (by rw [hwd]; exact LP2.out)
  have BB : Hid (Below w.heap.size w wd) := Lib.hid (by rw [hwd]; exact BB2.out.drew)
  have KD := Lib.hid hHeld
  clear hwd T1 T2 L2 LP2 C1
  refine wpAnyH_take (i := 0) (oi := { dst := some 24, op := Op.move (Operand.tmp 5), type := 23, pos := "law.go:76", after := #[], guard := none }) (v := .slice (some ⟨S1, 0, none⟩) 10 10) rfl (by kernel_rfl) (by kernel_rfl) (by kernel_rfl) (fun _ _ _ h => h)
    (Or.inl ⟨by rfl, by intro w hSw;  clear hSw; go_simp⟩) hHeld ?_
  try simp only [Act.put, List.setIfInBounds_toArray, List.set_cons_zero, List.set_cons_succ]
  refine wpAnyH_take (i := 1) (oi := { dst := some 25, op := Op.move (Operand.tmp 7), type := 3, pos := "law.go:76", after := #[], guard := none }) (v := .int .i64 (i : Int)) rfl (by kernel_rfl) (by kernel_rfl) (by kernel_rfl) (fun _ _ _ h => h)
    (Or.inl ⟨by rfl, by intro w hSw;  clear hSw; go_simp⟩) hHeld ?_
  try simp only [Act.put, List.setIfInBounds_toArray, List.set_cons_zero, List.set_cons_succ]
  refine wpAnyH_take (i := 2) (oi := { dst := some 26, op := Op.indexAddr 23 (Operand.tmp 24) (Operand.tmp 25), type := 0, pos := "law.go:76", after := #[{ on := 0, ground := Ground.data }, { on := 1, ground := Ground.data }], guard := none }) (v := .pointer (some ⟨S1, i, none⟩)) rfl (by kernel_rfl) (by kernel_rfl) (by kernel_rfl) (fun _ _ _ h => h)
    (Or.inl ⟨by rfl, by intro w hSw;  clear hSw; go_simp⟩) hHeld ?_
  try simp only [Act.put, List.setIfInBounds_toArray, List.set_cons_zero, List.set_cons_succ]
  refine wpAnyH_take (i := 3) (oi := { dst := some 27, op := Op.load 9 (Operand.tmp 26), type := 9, pos := "law.go:76", after := #[{ on := 2, ground := Ground.data }], guard := none }) (v := .string sI) rfl (by kernel_rfl) (by kernel_rfl) (by kernel_rfl) (fun _ _ _ h => h)
    (Or.inl ⟨by rfl, by intro w hSw; have hcs := hSw.1; clear hSw; go_simp⟩) hHeld ?_
  try simp only [Act.put, List.setIfInBounds_toArray, List.set_cons_zero, List.set_cons_succ]
  refine wpAnyH_take (i := 4) (oi := { dst := some 28, op := Op.binOp BinOp.add 9 (Operand.const (Value.string { data := #[97, 32] })) (Operand.tmp 27) 9, type := 9, pos := "law.go:76", after := #[{ on := 3, ground := Ground.data }], guard := none }) (v := .string sA) rfl (by kernel_rfl) (by kernel_rfl) (by kernel_rfl) (fun _ _ _ h => h)
    (Or.inl ⟨by rfl, by intro w hSw; have hsa := HSA.out; clear hSw; go_simp⟩) hHeld ?_
  try simp only [Act.put, List.setIfInBounds_toArray, List.set_cons_zero, List.set_cons_succ]
  refine wpAnyH_take (i := 5) (oi := { dst := some 29, op := Op.binOp BinOp.add 9 (Operand.tmp 28) (Operand.const (Value.string { data := #[32, 98, 32] })) 9, type := 9, pos := "law.go:76", after := #[{ on := 4, ground := Ground.data }], guard := none }) (v := .string sC) rfl (by kernel_rfl) (by kernel_rfl) (by kernel_rfl) (fun _ _ _ h => h)
    (Or.inl ⟨by rfl, by intro w hSw; have hsc := HSC.out; clear hSw; go_simp⟩) hHeld ?_
  try simp only [Act.put, List.setIfInBounds_toArray, List.set_cons_zero, List.set_cons_succ]
  refine wpAnyH_take (i := 6) (oi := { dst := some 30, op := Op.move (Operand.tmp 5), type := 23, pos := "law.go:76", after := #[], guard := none }) (v := .slice (some ⟨S1, 0, none⟩) 10 10) rfl (by kernel_rfl) (by kernel_rfl) (by kernel_rfl) (fun _ _ _ h => h)
    (Or.inl ⟨by rfl, by intro w hSw;  clear hSw; go_simp⟩) hHeld ?_
  try simp only [Act.put, List.setIfInBounds_toArray, List.set_cons_zero, List.set_cons_succ]
  refine wpAnyH_take (i := 7) (oi := { dst := some 31, op := Op.move (Operand.tmp 8), type := 3, pos := "law.go:76", after := #[], guard := none }) (v := .int .i64 (k : Int)) rfl (by kernel_rfl) (by kernel_rfl) (by kernel_rfl) (fun _ _ _ h => h)
    (Or.inl ⟨by rfl, by intro w hSw;  clear hSw; go_simp⟩) hHeld ?_
  try simp only [Act.put, List.setIfInBounds_toArray, List.set_cons_zero, List.set_cons_succ]
  refine wpAnyH_take (i := 8) (oi := { dst := some 32, op := Op.indexAddr 23 (Operand.tmp 30) (Operand.tmp 31), type := 0, pos := "law.go:76", after := #[{ on := 6, ground := Ground.data }, { on := 7, ground := Ground.data }], guard := none }) (v := .pointer (some ⟨S1, k, none⟩)) rfl (by kernel_rfl) (by kernel_rfl) (by kernel_rfl) (fun _ _ _ h => h)
    (Or.inl ⟨by rfl, by intro w hSw;  clear hSw; go_simp⟩) hHeld ?_
  try simp only [Act.put, List.setIfInBounds_toArray, List.set_cons_zero, List.set_cons_succ]
  refine wpAnyH_take (i := 9) (oi := { dst := some 33, op := Op.load 9 (Operand.tmp 32), type := 9, pos := "law.go:76", after := #[{ on := 8, ground := Ground.data }], guard := none }) (v := .string sK) rfl (by kernel_rfl) (by kernel_rfl) (by kernel_rfl) (fun _ _ _ h => h)
    (Or.inl ⟨by rfl, by intro w hSw; have hcs := hSw.2; clear hSw; go_simp⟩) hHeld ?_
  try simp only [Act.put, List.setIfInBounds_toArray, List.set_cons_zero, List.set_cons_succ]
  refine wpAnyH_take (i := 10) (oi := { dst := some 34, op := Op.binOp BinOp.add 9 (Operand.tmp 29) (Operand.tmp 33) 9, type := 9, pos := "law.go:76", after := #[{ on := 5, ground := Ground.data }, { on := 9, ground := Ground.data }], guard := none }) (v := .string sD) rfl (by kernel_rfl) (by kernel_rfl) (by kernel_rfl) (fun _ _ _ h => h)
    (Or.inl ⟨by rfl, by intro w hSw; have hsd := HSD.out; clear hSw; go_simp⟩) hHeld ?_
  try simp only [Act.put, List.setIfInBounds_toArray, List.set_cons_zero, List.set_cons_succ]
  refine wpAnyH_take (i := 11) (oi := { dst := some 35, op := Op.binOp BinOp.add 9 (Operand.tmp 34) (Operand.const (Value.string { data := #[32, 99] })) 9, type := 9, pos := "law.go:76", after := #[{ on := 10, ground := Ground.data }], guard := none }) (v := .string sE) rfl (by kernel_rfl) (by kernel_rfl) (by kernel_rfl) (fun _ _ _ h => h)
    (Or.inl ⟨by rfl, by intro w hSw; have hse := HSE.out; clear hSw; go_simp⟩) hHeld ?_
  try simp only [Act.put, List.setIfInBounds_toArray, List.set_cons_zero, List.set_cons_succ]
  refine wpAnyH_ready (rs := [12, 17]) (by kernel_rfl) (by simp) ?_
  refine AllReadyH.cons (o := { dst := some 36, op := Op.call { callee := Callee.value (Operand.func 7), args := #[Operand.tmp 35], argTypes := #[9] }, type := 30, pos := "law.go:76", after := #[{ on := 11, ground := Ground.data }], guard := none }) rfl (fun K hK => ?_) (AllReadyH.cons (o := { dst := some 9, op := Op.alloc 28, type := 0, pos := "law.go:76", after := #[], guard := none }) rfl (fun K hK => ?_) AllReadyH.nil)
  · have HQ := Lib.hid (HPC.out wd LD.out LPD.out)
    go_simp
    refine HQ.out.mono ?_
    rintro e wc ⟨cs, rfl, ix, bc⟩
    have TAc := Lib.hid (TA.out.below bc TA.out.lt)
    have TBc := Lib.hid (TB.out.below bc TB.out.lt)
    have KDc : Hid (wc.cell? ⟨S1, i, none⟩ = some (.string sI) ∧ wc.cell? ⟨S1, k, none⟩ = some (.string sK)) := Lib.hid ⟨(World.cell?_of_block (a := ⟨S1, i, none⟩) (bc.block S1 TA.out.lt)).trans KD.out.1, (World.cell?_of_block (a := ⟨S1, k, none⟩) (bc.block S1 TA.out.lt)).trans KD.out.2⟩
    have BBc : Hid (Below w.heap.size w wc) := Lib.hid (BB.out.trans (bc.mono BB.out.size))
    have IX := Lib.hid ix
    have CSL := Lib.hid ix.len
    have CSO := Lib.hid ix.one
    obtain ⟨E, hE⟩ : ∃ E, E = cs.toArray := ⟨_, rfl⟩
    rw [← hE]
    have HE := Lib.hid hE
    clear ix bc hE HQ
    try go_wp2_with fail
    refine hK.out _ _ KDc.out (fun hHw1 => ?_)
    clear hK K hHeld
    try simp only [Act.put, List.setIfInBounds_toArray, List.set_cons_zero, List.set_cons_succ]
    refine wpAnyH_take (i := 13) (oi := { dst := some 23, op := Op.move (Operand.tmp 36), type := 30, pos := "law.go:76", after := #[{ on := 12, ground := Ground.data }], guard := none }) (v := .tuple #[.agg E, .int .i64 0, .int .i64 0]) rfl (by kernel_rfl) (by kernel_rfl) (by kernel_rfl) (fun _ _ _ h => h)
      (Or.inl ⟨by rfl, by intro w hSw;  clear hSw; go_simp⟩) hHw1 ?_
    try simp only [Act.put, List.setIfInBounds_toArray, List.set_cons_zero, List.set_cons_succ]
    refine wpAnyH_take (i := 14) (oi := { dst := some 37, op := Op.extract (Operand.tmp 23) 0, type := 28, pos := "law.go:76", after := #[{ on := 13, ground := Ground.data }], guard := none }) (v := .agg E) rfl (by kernel_rfl) (by kernel_rfl) (by kernel_rfl) (fun _ _ _ h => h)
      (Or.inl ⟨by rfl, by intro w hSw;  clear hSw; go_simp⟩) hHw1 ?_
    try simp only [Act.put, List.setIfInBounds_toArray, List.set_cons_zero, List.set_cons_succ]
    refine wpAnyH_take (i := 15) (oi := { dst := some 38, op := Op.extract (Operand.tmp 23) 1, type := 3, pos := "law.go:76", after := #[{ on := 13, ground := Ground.data }, { on := 18, ground := Ground.gcOnly Departure.lateStores }], guard := none }) (v := .int .i64 0) rfl (by kernel_rfl) (by kernel_rfl) (by kernel_rfl) (fun _ _ _ h => h)
      (Or.inl ⟨by rfl, by intro w hSw;  clear hSw; go_simp⟩) hHw1 ?_
    try simp only [Act.put, List.setIfInBounds_toArray, List.set_cons_zero, List.set_cons_succ]
    refine wpAnyH_take (i := 16) (oi := { dst := some 39, op := Op.extract (Operand.tmp 23) 2, type := 29, pos := "law.go:76", after := #[{ on := 13, ground := Ground.data }, { on := 19, ground := Ground.gcOnly Departure.lateStores }], guard := none }) (v := .int .i64 0) rfl (by kernel_rfl) (by kernel_rfl) (by kernel_rfl) (fun _ _ _ h => h)
      (Or.inl ⟨by rfl, by intro w hSw;  clear hSw; go_simp⟩) hHw1 ?_
    try simp only [Act.put, List.setIfInBounds_toArray, List.set_cons_zero, List.set_cons_succ]
    refine wpAnyH_ready (rs := [17]) (by kernel_rfl) (by simp) ?_
    refine AllReadyH.cons (o := { dst := some 9, op := Op.alloc 28, type := 0, pos := "law.go:76", after := #[], guard := none }) rfl (fun K hK => ?_) AllReadyH.nil
    go_simp
    obtain ⟨X, hX⟩ : ∃ X, X = wc.heap.size := ⟨_, rfl⟩
    obtain ⟨wx, hwx⟩ : ∃ y, y = wc.alloc (.cells #[.int .u8 0, .int .i64 0, .string ⟨#[]⟩, .slice none 0 0, .slice none 0 0, .bool false, .slice none 0 0, .int .i64 0] 28) := ⟨_, rfl⟩
    rw [← hwx, ← hX]
    have XX : Hid (Has wx X exZ 28) := Lib.hid (by rw [hwx, hX]; exact Has.new wc exZ _)
    have bx : Below wc.heap.size wc wx := by rw [hwx]; exact (Below.refl _ _).alloc (Nat.le_refl _) _
    have TAx := Lib.hid (TAc.out.below bx TAc.out.lt)
    have TBx := Lib.hid (TBc.out.below bx TBc.out.lt)
    have KDx : Hid (wx.cell? ⟨S1, i, none⟩ = some (.string sI) ∧ wx.cell? ⟨S1, k, none⟩ = some (.string sK)) := Lib.hid ⟨(World.cell?_of_block (a := ⟨S1, i, none⟩) (bx.block S1 TAc.out.lt)).trans KDc.out.1, (World.cell?_of_block (a := ⟨S1, k, none⟩) (bx.block S1 TAc.out.lt)).trans KDc.out.2⟩
    have BBx : Hid (Below w.heap.size w wx) := Lib.hid (BBc.out.trans (bx.mono BBc.out.size))
    have IXX : Hid (IsXS wx (fun k => k < X) cs x) := Lib.hid (IsXS.mono (IsXS.keep (IsXS.mono IX.out (S' := fun k => k < X) fun k _ h2 => by rw [hX]; exact h2) bx.size fun k _ h2 => bx.block k h2) fun k h1 _ => h1)
    have HWX : Hid (w.heap.size ≤ X) := Lib.hid (by rw [hX]; exact BBc.out.size)
    have HSX : Hid (S1 + 1 < X) := Lib.hid (by rw [hX]; exact TBc.out.lt)
    clear bx hwx hX
    refine hK.out _ _ KDx.out (fun hHw2 => ?_)
    clear hK K hHw1
    try simp only [Act.put, List.setIfInBounds_toArray, List.set_cons_zero, List.set_cons_succ]
    refine wpAnyH_ready (rs := [18]) (by kernel_rfl) (by simp) ?_
    refine AllReadyH.cons (o := { dst := none, op := Op.store 28 (Operand.tmp 9) (Operand.tmp 37), type := 0, pos := "law.go:76", after := #[{ on := 17, ground := Ground.data }, { on := 14, ground := Ground.data }, { on := 12, ground := Ground.chain }, { on := 0, ground := Ground.phase }, { on := 1, ground := Ground.phase }, { on := 2, ground := Ground.phase }, { on := 3, ground := Ground.phase }, { on := 4, ground := Ground.phase }, { on := 5, ground := Ground.phase }, { on := 6, ground := Ground.phase }, { on := 7, ground := Ground.phase }, { on := 8, ground := Ground.phase }, { on := 9, ground := Ground.phase }, { on := 10, ground := Ground.phase }, { on := 11, ground := Ground.phase }, { on := 12, ground := Ground.phase }, { on := 13, ground := Ground.phase }, { on := 14, ground := Ground.phase }, { on := 15, ground := Ground.textOnly Departure.lateStores }, { on := 16, ground := Ground.textOnly Departure.lateStores }, { on := 17, ground := Ground.phase }], guard := none }) rfl (fun K hK => ?_) AllReadyH.nil
    first | rw [if_pos (by rfl)] | skip
    refine wp_store_row 28 (.tmp 9) (.tmp 37) rfl X E rfl rfl 28 exZ.toArray XX.out (by rw [HE.out, List.size_toArray, CSL.out]; exact info_ex) (by rw [HE.out, List.size_toArray, List.size_toArray, CSL.out]; rfl) (by rw [HE.out]; exact CSO.out) ?_
    obtain ⟨wz, hwz⟩ : ∃ y, y = wx.setRow X E := ⟨_, rfl⟩
    rw [← hwz]
    have XZ : Hid (Has wz X cs 28) := Lib.hid (by rw [hwz, HE.out]; exact XX.out.row _)
    have TAz : Hid (Has wz S1 sgsV 9) := Lib.hid (by rw [hwz]; exact TAx.out.rowOther (by have := HSX.out; omega) _)
    have TBz : Hid (Has wz (S1 + 1) intsV 3) := Lib.hid (by rw [hwz]; exact TBx.out.rowOther (by have := HSX.out; omega) _)
    have IZ : Hid (IsXS wz (fun k => k ≠ X) cs x) := Lib.hid (by rw [hwz]; exact IsXS.keep (IsXS.mono IXX.out (S' := fun k => k ≠ X) fun k h1 _ => by omega) (by simp) fun k h1 h2 => setRow_other _ _ _ _ h1)
    have BBz : Hid (Below w.heap.size w wz) := Lib.hid (by rw [hwz]; exact below_setRow BBx.out HWX.out _)
    have KDz : Hid (wz.cell? ⟨S1, i, none⟩ = some (.string sI) ∧ wz.cell? ⟨S1, k, none⟩ = some (.string sK)) := Lib.hid (by rw [HSI.out, HSK.out]; exact ⟨TAz.out.cellAt (sgsV_get i HI.out), TAz.out.cellAt (sgsV_get k HK.out)⟩)
    clear hwz
    refine hK.out _ _ KDz.out (fun hHw3 => ?_)
    clear hK K hHw2
    try simp only [Act.put]
    refine wpAnyH_take (i := 19) (oi := { dst := some 10, op := Op.assign (Operand.tmp 38), type := 3, pos := "law.go:76", after := #[{ on := 15, ground := Ground.data }, { on := 18, ground := Ground.chain }, { on := 0, ground := Ground.phase }, { on := 1, ground := Ground.phase }, { on := 2, ground := Ground.phase }, { on := 3, ground := Ground.phase }, { on := 4, ground := Ground.phase }, { on := 5, ground := Ground.phase }, { on := 6, ground := Ground.phase }, { on := 7, ground := Ground.phase }, { on := 8, ground := Ground.phase }, { on := 9, ground := Ground.phase }, { on := 10, ground := Ground.phase }, { on := 11, ground := Ground.phase }, { on := 12, ground := Ground.phase }, { on := 13, ground := Ground.phase }, { on := 14, ground := Ground.phase }, { on := 15, ground := Ground.phase }, { on := 16, ground := Ground.textOnly Departure.lateStores }, { on := 17, ground := Ground.phase }, { on := 18, ground := Ground.phase }], guard := none }) (v := .int .i64 0) rfl (by kernel_rfl) (by kernel_rfl) (by kernel_rfl) (fun _ _ _ h => h)
      (Or.inl ⟨by rfl, by intro w hSw;  clear hSw; go_simp⟩) hHw3 ?_
    try simp only [Act.put, List.setIfInBounds_toArray, List.set_cons_zero, List.set_cons_succ]
    refine wpAnyH_take (i := 20) (oi := { dst := some 11, op := Op.assign (Operand.tmp 39), type := 29, pos := "law.go:76", after := #[{ on := 16, ground := Ground.data }, { on := 19, ground := Ground.chain }, { on := 0, ground := Ground.phase }, { on := 1, ground := Ground.phase }, { on := 2, ground := Ground.phase }, { on := 3, ground := Ground.phase }, { on := 4, ground := Ground.phase }, { on := 5, ground := Ground.phase }, { on := 6, ground := Ground.phase }, { on := 7, ground := Ground.phase }, { on := 8, ground := Ground.phase }, { on := 9, ground := Ground.phase }, { on := 10, ground := Ground.phase }, { on := 11, ground := Ground.phase }, { on := 12, ground := Ground.phase }, { on := 13, ground := Ground.phase }, { on := 14, ground := Ground.phase }, { on := 15, ground := Ground.phase }, { on := 16, ground := Ground.phase }, { on := 17, ground := Ground.phase }, { on := 18, ground := Ground.phase }, { on := 19, ground := Ground.phase }], guard := none }) (v := .int .i64 0) rfl (by kernel_rfl) (by kernel_rfl) (by kernel_rfl) (fun _ _ _ h => h)
      (Or.inl ⟨by rfl, by intro w hSw;  clear hSw; go_simp⟩) hHw3 ?_
    try simp only [Act.put, List.setIfInBounds_toArray, List.set_cons_zero, List.set_cons_succ]
    refine wpAnyH_done (by kernel_rfl) ?_ _
    clear hHw3
    obtain ⟨y, z, hkz, hcase⟩ := shape_kids HSH.out
    obtain ⟨g1, c1, s6, _, _, kk⟩ := IZ.out.kids (by rw [hkz]; simp)
    obtain ⟨Cy, ry, iy⟩ := kk 0 y (by rw [hkz]; rfl)
    obtain ⟨Cz, rz, iz⟩ := kk 1 z (by rw [hkz]; rfl)
    have a0 : wz.cell? ⟨X, 0, none⟩ = some (.int .u8 15) := by have := XZ.out.cellAt (i := 0) IZ.out.heads.1; rw [shape_kind HSH.out] at this; exact this
    have a2 : wz.cell? ⟨X, 2, none⟩ = some (.string ⟨x.text.toArray⟩) := XZ.out.cellAt (i := 2) IZ.out.heads.2.2.1
    have a6 : wz.cell? ⟨X, 6, none⟩ = some (.slice (some ⟨g1, 0, none⟩) 2 c1) := by have := XZ.out.cellAt (i := 6) s6; rw [hkz] at this; exact this
    have a7 : wz.cell? ⟨g1, 2, none⟩ = some (.string ⟨y.text.toArray⟩) := ry 2 _ iy.heads.2.2.1
    have a8 : wz.cell? ⟨g1, 10, none⟩ = some (.string ⟨z.text.toArray⟩) := rz 2 _ iz.heads.2.2.1
    have b1 := KDz.out.1
    have b2 := KDz.out.2
    have n1 : wz.cell? ⟨S1 + 1, i, none⟩ = some (.int .i64 (strN i : Int)) := TBz.out.cellAt (intsV_get i HI.out)
    have n2 : wz.cell? ⟨S1 + 1, k, none⟩ = some (.int .i64 (strN k : Int)) := TBz.out.cellAt (intsV_get k HK.out)
    have HX1 : sgB i = ⟨(sgN i).toArray⟩ := rfl
    have hLP : leftP i k = (decide (strN k < strN i) || (strN i == strN k && sgN i != [47, 47] && sgN i != [43, 43])) := rfl
    obtain ⟨nI, hnI⟩ : ∃ n, n = strN i := ⟨_, rfl⟩
    obtain ⟨nK, hnK⟩ : ∃ n, n = strN k := ⟨_, rfl⟩
    rw [← hnI] at n1 hLP
    rw [← hnK] at n2 hLP
    have hsl : sgN i = sI.data.toList := by rw [HSI.out]; rfl
    rw [hsl] at hLP
    have HCASE : Hid ((leftP i k = true ∧ (⟨x.text.toArray⟩ : ByteArray) = sK ∧ (⟨y.text.toArray⟩ : ByteArray) = sI ∧ (⟨z.text.toArray⟩ : ByteArray) = ⟨#[99]⟩) ∨ (leftP i k = false ∧ (⟨x.text.toArray⟩ : ByteArray) = sI ∧ (⟨z.text.toArray⟩ : ByteArray) = sK ∧ (⟨y.text.toArray⟩ : ByteArray) = ⟨#[97]⟩)) := Lib.hid (by
      rcases hcase with ⟨h1, h2, h3, h4⟩ | ⟨h1, h2, h3, h4⟩
      · exact .inl ⟨h1, by rw [h2, HSK.out]; rfl, by rw [h3, HSI.out]; rfl, by rw [h4]⟩
      · exact .inr ⟨h1, by rw [h2, HSI.out]; rfl, by rw [h3, HSK.out]; rfl, by rw [h4]⟩)
    obtain ⟨tx, htx⟩ : ∃ b : ByteArray, b = ⟨x.text.toArray⟩ := ⟨_, rfl⟩
    obtain ⟨ty, hty⟩ : ∃ b : ByteArray, b = ⟨y.text.toArray⟩ := ⟨_, rfl⟩
    obtain ⟨tz, htz⟩ : ∃ b : ByteArray, b = ⟨z.text.toArray⟩ := ⟨_, rfl⟩
    rw [← htx] at a2 HCASE
    rw [← hty] at a7 HCASE
    rw [← htz] at a8 HCASE
    have HLPF := Lib.hid hLP
    clear hkz hcase s6 kk ry iy rz iz htx hty htz hnI hnK hsl HX1 hLP KDz XZ TAz TBz IZ
    by_cases hgt : nK < nI
    · have hd : decide ((nK : Int) < (nI : Int)) = true := by simp; omega
      have hLV : leftP i k = true := by rw [HLPF.out]; simp [hgt]
      rcases HCASE.out with ⟨hl, h2, h3, h4⟩ | ⟨hl, h2, h3, h4⟩
      · rw [h2] at a2
        rw [h3] at a7
        rw [h4] at a8
        clear hl h2 h3 h4 hLV HCASE HLPF HSA HSC HSD HSE HPC HSH q1 q2 q3 q4
        go_wp2_with fail
        go_quiet (fail)
        go_wp2_with fail
        go_quiet (fail)
        go_wp2_with fail
        go_ret
        exact ⟨rfl, below_drewN (below_drewN BBz.out _) _⟩
      · rw [hLV] at hl; cases hl
    · have hd : decide ((nK : Int) < (nI : Int)) = false := by simp; omega
      by_cases heq : nI = nK
      · subst heq
        by_cases hs1 : sI = ⟨#[47, 47]⟩
        · have hLV : leftP i k = false := by rw [HLPF.out, hs1]; simp
          rw [hs1] at b1 HCASE
          rcases HCASE.out with ⟨hl, h2, h3, h4⟩ | ⟨hl, h2, h3, h4⟩
          · rw [hLV] at hl; cases hl
          · rw [h2] at a2
            rw [h3] at a8
            rw [h4] at a7
            clear hl h2 h3 h4 hLV HCASE HLPF HSA HSC HSD HSE HPC HSH q1 q2 q3 q4
            go_wp2_with fail
            go_quiet (fail)
            go_wp2_with fail
            go_quiet (fail)
            go_wp2_with fail
            go_ret
            exact ⟨rfl, below_drewN (below_drewN BBz.out _) _⟩
        · by_cases hs2 : sI = ⟨#[43, 43]⟩
          · have hLV : leftP i k = false := by rw [HLPF.out, hs2]; simp
            rw [hs2] at b1 HCASE
            rcases HCASE.out with ⟨hl, h2, h3, h4⟩ | ⟨hl, h2, h3, h4⟩
            · rw [hLV] at hl; cases hl
            · rw [h2] at a2
              rw [h3] at a8
              rw [h4] at a7
              clear hl h2 h3 h4 hLV HCASE HLPF HSA HSC HSD HSE HPC HSH q1 q2 q3 q4
              go_wp2_with fail
              go_quiet (fail)
              go_wp2_with fail
              go_quiet (fail)
              go_wp2_with fail
              go_ret
              exact ⟨rfl, below_drewN (below_drewN BBz.out _) _⟩
          · have hm1 : ¬ sI.toList = [47, 47] := fun e => hs1 (ba_of (by rw [ByteArray.toList_eq] at e; exact e))
            have hm2 : ¬ sI.toList = [43, 43] := fun e => hs2 (ba_of (by rw [ByteArray.toList_eq] at e; exact e))
            have hm3 : (sI.toList == [47, 47]) = false := beq_eq_false_iff_ne.2 hm1
            have hm4 : (sI.toList == [43, 43]) = false := beq_eq_false_iff_ne.2 hm2
            have hm5 : (sI.toList != [47, 47]) = true := bne_iff_ne.2 hm1
            have hm6 : (sI.toList != [43, 43]) = true := bne_iff_ne.2 hm2
            have hLV : leftP i k = true := by rw [HLPF.out]; simp; exact ⟨fun h => hs1 (ba_of h), fun h => hs2 (ba_of h)⟩
            rcases HCASE.out with ⟨hl, h2, h3, h4⟩ | ⟨hl, h2, h3, h4⟩
            · rw [h2] at a2
              rw [h3] at a7
              rw [h4] at a8
              clear hl h2 h3 h4 hLV HCASE HLPF HSA HSC HSD HSE HPC HSH q1 q2 q3 q4
              go_wp2_with fail
              go_quiet (fail)
              go_wp2_with fail
              go_quiet (fail)
              go_wp2_with fail
              go_ret
              exact ⟨rfl, below_drewN (below_drewN BBz.out _) _⟩
            · rw [hLV] at hl; cases hl
      · have hni : ¬ (nI : Int) = (nK : Int) := by omega
        have hni2 : decide ((nI : Int) = (nK : Int)) = false := by simp; omega
        have hLV : leftP i k = false := by rw [HLPF.out]; simp [hgt, heq]
        rcases HCASE.out with ⟨hl, h2, h3, h4⟩ | ⟨hl, h2, h3, h4⟩
        · rw [hLV] at hl; cases hl
        · rw [h2] at a2
          rw [h3] at a8
          rw [h4] at a7
          clear hl h2 h3 h4 hLV HCASE HLPF HSA HSC HSD HSE HPC HSH q1 q2 q3 q4
          go_wp2_with fail
          go_quiet (fail)
          go_wp2_with fail
          go_quiet (fail)
          go_wp2_with fail
          go_ret
          exact ⟨rfl, below_drewN (below_drewN BBz.out _) _⟩
  · go_simp
    obtain ⟨X, hX⟩ : ∃ X, X = wd.heap.size := ⟨_, rfl⟩
    obtain ⟨wx, hwx⟩ : ∃ y, y = wd.alloc (.cells #[.int .u8 0, .int .i64 0, .string ⟨#[]⟩, .slice none 0 0, .slice none 0 0, .bool false, .slice none 0 0, .int .i64 0] 28) := ⟨_, rfl⟩
    rw [← hwx, ← hX]
    have XX : Hid (Has wx X exZ 28) := Lib.hid (by rw [hwx, hX]; exact Has.new wd exZ _)
    have bx : Below wd.heap.size wd wx := by rw [hwx]; exact (Below.refl _ _).alloc (Nat.le_refl _) _
    have TAx := Lib.hid (TA.out.below bx TA.out.lt)
    have TBx := Lib.hid (TB.out.below bx TB.out.lt)
    have KDx : Hid (wx.cell? ⟨S1, i, none⟩ = some (.string sI) ∧ wx.cell? ⟨S1, k, none⟩ = some (.string sK)) := Lib.hid ⟨(World.cell?_of_block (a := ⟨S1, i, none⟩) (bx.block S1 TA.out.lt)).trans KD.out.1, (World.cell?_of_block (a := ⟨S1, k, none⟩) (bx.block S1 TA.out.lt)).trans KD.out.2⟩
    have BBx : Hid (Below w.heap.size w wx) := Lib.hid (BB.out.trans (bx.mono BB.out.size))
    have LDx := Lib.hid (LD.out.below bx LD.out.size)
    have LPDx := Lib.hid (LPD.out.below bx LPD.out.lt)
    have HWX : Hid (w.heap.size ≤ X) := Lib.hid (by rw [hX]; exact BB.out.size)
    have HSX : Hid (S1 + 1 < X) := Lib.hid (by rw [hX]; exact TB.out.lt)
    clear bx hwx hX
    refine hK.out _ _ KDx.out (fun hHw1 => ?_)
    clear hK K hHeld
    try simp only [Act.put, List.setIfInBounds_toArray, List.set_cons_zero, List.set_cons_succ]
    refine wpAnyH_ready (rs := [12]) (by kernel_rfl) (by simp) ?_
    refine AllReadyH.cons (o := { dst := some 36, op := Op.call { callee := Callee.value (Operand.func 7), args := #[Operand.tmp 35], argTypes := #[9] }, type := 30, pos := "law.go:76", after := #[{ on := 11, ground := Ground.data }], guard := none }) rfl (fun K hK => ?_) AllReadyH.nil
    have HQ := Lib.hid (HPC.out wx LDx.out LPDx.out)
    go_simp
    refine HQ.out.mono ?_
    rintro e wc ⟨cs, rfl, ix, bc⟩
    have TAc := Lib.hid (TAx.out.below bc TAx.out.lt)
    have TBc := Lib.hid (TBx.out.below bc TBx.out.lt)
    have KDc : Hid (wc.cell? ⟨S1, i, none⟩ = some (.string sI) ∧ wc.cell? ⟨S1, k, none⟩ = some (.string sK)) := Lib.hid ⟨(World.cell?_of_block (a := ⟨S1, i, none⟩) (bc.block S1 TAx.out.lt)).trans KDx.out.1, (World.cell?_of_block (a := ⟨S1, k, none⟩) (bc.block S1 TAx.out.lt)).trans KDx.out.2⟩
    have BBc : Hid (Below w.heap.size w wc) := Lib.hid (BBx.out.trans (bc.mono BBx.out.size))
    have XC := Lib.hid (XX.out.below bc XX.out.lt)
    have IXX : Hid (IsXS wc (fun k => k ≠ X) cs x) := Lib.hid (IsXS.mono ix fun k h1 _ => by have := XX.out.lt; omega)
    have CSL := Lib.hid ix.len
    have CSO := Lib.hid ix.one
    obtain ⟨E, hE⟩ : ∃ E, E = cs.toArray := ⟨_, rfl⟩
    rw [← hE]
    have HE := Lib.hid hE
    clear ix bc hE HQ
    try go_wp2_with fail
    refine hK.out _ _ KDc.out (fun hHw2 => ?_)
    clear hK K hHw1
    try simp only [Act.put, List.setIfInBounds_toArray, List.set_cons_zero, List.set_cons_succ]
    refine wpAnyH_take (i := 13) (oi := { dst := some 23, op := Op.move (Operand.tmp 36), type := 30, pos := "law.go:76", after := #[{ on := 12, ground := Ground.data }], guard := none }) (v := .tuple #[.agg E, .int .i64 0, .int .i64 0]) rfl (by kernel_rfl) (by kernel_rfl) (by kernel_rfl) (fun _ _ _ h => h)
      (Or.inl ⟨by rfl, by intro w hSw;  clear hSw; go_simp⟩) hHw2 ?_
    try simp only [Act.put, List.setIfInBounds_toArray, List.set_cons_zero, List.set_cons_succ]
    refine wpAnyH_take (i := 14) (oi := { dst := some 37, op := Op.extract (Operand.tmp 23) 0, type := 28, pos := "law.go:76", after := #[{ on := 13, ground := Ground.data }], guard := none }) (v := .agg E) rfl (by kernel_rfl) (by kernel_rfl) (by kernel_rfl) (fun _ _ _ h => h)
      (Or.inl ⟨by rfl, by intro w hSw;  clear hSw; go_simp⟩) hHw2 ?_
    try simp only [Act.put, List.setIfInBounds_toArray, List.set_cons_zero, List.set_cons_succ]
    refine wpAnyH_take (i := 15) (oi := { dst := some 38, op := Op.extract (Operand.tmp 23) 1, type := 3, pos := "law.go:76", after := #[{ on := 13, ground := Ground.data }, { on := 18, ground := Ground.gcOnly Departure.lateStores }], guard := none }) (v := .int .i64 0) rfl (by kernel_rfl) (by kernel_rfl) (by kernel_rfl) (fun _ _ _ h => h)
      (Or.inl ⟨by rfl, by intro w hSw;  clear hSw; go_simp⟩) hHw2 ?_
    try simp only [Act.put, List.setIfInBounds_toArray, List.set_cons_zero, List.set_cons_succ]
    refine wpAnyH_take (i := 16) (oi := { dst := some 39, op := Op.extract (Operand.tmp 23) 2, type := 29, pos := "law.go:76", after := #[{ on := 13, ground := Ground.data }, { on := 19, ground := Ground.gcOnly Departure.lateStores }], guard := none }) (v := .int .i64 0) rfl (by kernel_rfl) (by kernel_rfl) (by kernel_rfl) (fun _ _ _ h => h)
      (Or.inl ⟨by rfl, by intro w hSw;  clear hSw; go_simp⟩) hHw2 ?_
    try simp only [Act.put, List.setIfInBounds_toArray, List.set_cons_zero, List.set_cons_succ]
    refine wpAnyH_ready (rs := [18]) (by kernel_rfl) (by simp) ?_
    refine AllReadyH.cons (o := { dst := none, op := Op.store 28 (Operand.tmp 9) (Operand.tmp 37), type := 0, pos := "law.go:76", after := #[{ on := 17, ground := Ground.data }, { on := 14, ground := Ground.data }, { on := 12, ground := Ground.chain }, { on := 0, ground := Ground.phase }, { on := 1, ground := Ground.phase }, { on := 2, ground := Ground.phase }, { on := 3, ground := Ground.phase }, { on := 4, ground := Ground.phase }, { on := 5, ground := Ground.phase }, { on := 6, ground := Ground.phase }, { on := 7, ground := Ground.phase }, { on := 8, ground := Ground.phase }, { on := 9, ground := Ground.phase }, { on := 10, ground := Ground.phase }, { on := 11, ground := Ground.phase }, { on := 12, ground := Ground.phase }, { on := 13, ground := Ground.phase }, { on := 14, ground := Ground.phase }, { on := 15, ground := Ground.textOnly Departure.lateStores }, { on := 16, ground := Ground.textOnly Departure.lateStores }, { on := 17, ground := Ground.phase }], guard := none }) rfl (fun K hK => ?_) AllReadyH.nil
    first | rw [if_pos (by rfl)] | skip
    refine wp_store_row 28 (.tmp 9) (.tmp 37) rfl X E rfl rfl 28 exZ.toArray XC.out (by rw [HE.out, List.size_toArray, CSL.out]; exact info_ex) (by rw [HE.out, List.size_toArray, List.size_toArray, CSL.out]; rfl) (by rw [HE.out]; exact CSO.out) ?_
    obtain ⟨wz, hwz⟩ : ∃ y, y = wc.setRow X E := ⟨_, rfl⟩
    rw [← hwz]
    have XZ : Hid (Has wz X cs 28) := Lib.hid (by rw [hwz, HE.out]; exact XC.out.row _)
    have TAz : Hid (Has wz S1 sgsV 9) := Lib.hid (by rw [hwz]; exact TAc.out.rowOther (by have := HSX.out; omega) _)
    have TBz : Hid (Has wz (S1 + 1) intsV 3) := Lib.hid (by rw [hwz]; exact TBc.out.rowOther (by have := HSX.out; omega) _)
    have IZ : Hid (IsXS wz (fun k => k ≠ X) cs x) := Lib.hid (by rw [hwz]; exact IsXS.keep (IsXS.mono IXX.out (S' := fun k => k ≠ X) fun k h1 _ => by omega) (by simp) fun k h1 h2 => setRow_other _ _ _ _ h1)
    have BBz : Hid (Below w.heap.size w wz) := Lib.hid (by rw [hwz]; exact below_setRow BBc.out HWX.out _)
    have KDz : Hid (wz.cell? ⟨S1, i, none⟩ = some (.string sI) ∧ wz.cell? ⟨S1, k, none⟩ = some (.string sK)) := Lib.hid (by rw [HSI.out, HSK.out]; exact ⟨TAz.out.cellAt (sgsV_get i HI.out), TAz.out.cellAt (sgsV_get k HK.out)⟩)
    clear hwz
    refine hK.out _ _ KDz.out (fun hHw3 => ?_)
    clear hK K hHw2
    try simp only [Act.put]
    refine wpAnyH_take (i := 19) (oi := { dst := some 10, op := Op.assign (Operand.tmp 38), type := 3, pos := "law.go:76", after := #[{ on := 15, ground := Ground.data }, { on := 18, ground := Ground.chain }, { on := 0, ground := Ground.phase }, { on := 1, ground := Ground.phase }, { on := 2, ground := Ground.phase }, { on := 3, ground := Ground.phase }, { on := 4, ground := Ground.phase }, { on := 5, ground := Ground.phase }, { on := 6, ground := Ground.phase }, { on := 7, ground := Ground.phase }, { on := 8, ground := Ground.phase }, { on := 9, ground := Ground.phase }, { on := 10, ground := Ground.phase }, { on := 11, ground := Ground.phase }, { on := 12, ground := Ground.phase }, { on := 13, ground := Ground.phase }, { on := 14, ground := Ground.phase }, { on := 15, ground := Ground.phase }, { on := 16, ground := Ground.textOnly Departure.lateStores }, { on := 17, ground := Ground.phase }, { on := 18, ground := Ground.phase }], guard := none }) (v := .int .i64 0) rfl (by kernel_rfl) (by kernel_rfl) (by kernel_rfl) (fun _ _ _ h => h)
      (Or.inl ⟨by rfl, by intro w hSw;  clear hSw; go_simp⟩) hHw3 ?_
    try simp only [Act.put, List.setIfInBounds_toArray, List.set_cons_zero, List.set_cons_succ]
    refine wpAnyH_take (i := 20) (oi := { dst := some 11, op := Op.assign (Operand.tmp 39), type := 29, pos := "law.go:76", after := #[{ on := 16, ground := Ground.data }, { on := 19, ground := Ground.chain }, { on := 0, ground := Ground.phase }, { on := 1, ground := Ground.phase }, { on := 2, ground := Ground.phase }, { on := 3, ground := Ground.phase }, { on := 4, ground := Ground.phase }, { on := 5, ground := Ground.phase }, { on := 6, ground := Ground.phase }, { on := 7, ground := Ground.phase }, { on := 8, ground := Ground.phase }, { on := 9, ground := Ground.phase }, { on := 10, ground := Ground.phase }, { on := 11, ground := Ground.phase }, { on := 12, ground := Ground.phase }, { on := 13, ground := Ground.phase }, { on := 14, ground := Ground.phase }, { on := 15, ground := Ground.phase }, { on := 16, ground := Ground.phase }, { on := 17, ground := Ground.phase }, { on := 18, ground := Ground.phase }, { on := 19, ground := Ground.phase }], guard := none }) (v := .int .i64 0) rfl (by kernel_rfl) (by kernel_rfl) (by kernel_rfl) (fun _ _ _ h => h)
      (Or.inl ⟨by rfl, by intro w hSw;  clear hSw; go_simp⟩) hHw3 ?_
    try simp only [Act.put, List.setIfInBounds_toArray, List.set_cons_zero, List.set_cons_succ]
    refine wpAnyH_done (by kernel_rfl) ?_ _
    clear hHw3
    obtain ⟨y, z, hkz, hcase⟩ := shape_kids HSH.out
    obtain ⟨g1, c1, s6, _, _, kk⟩ := IZ.out.kids (by rw [hkz]; simp)
    obtain ⟨Cy, ry, iy⟩ := kk 0 y (by rw [hkz]; rfl)
    obtain ⟨Cz, rz, iz⟩ := kk 1 z (by rw [hkz]; rfl)
    have a0 : wz.cell? ⟨X, 0, none⟩ = some (.int .u8 15) := by have := XZ.out.cellAt (i := 0) IZ.out.heads.1; rw [shape_kind HSH.out] at this; exact this
    have a2 : wz.cell? ⟨X, 2, none⟩ = some (.string ⟨x.text.toArray⟩) := XZ.out.cellAt (i := 2) IZ.out.heads.2.2.1
    have a6 : wz.cell? ⟨X, 6, none⟩ = some (.slice (some ⟨g1, 0, none⟩) 2 c1) := by have := XZ.out.cellAt (i := 6) s6; rw [hkz] at this; exact this
    have a7 : wz.cell? ⟨g1, 2, none⟩ = some (.string ⟨y.text.toArray⟩) := ry 2 _ iy.heads.2.2.1
    have a8 : wz.cell? ⟨g1, 10, none⟩ = some (.string ⟨z.text.toArray⟩) := rz 2 _ iz.heads.2.2.1
    have b1 := KDz.out.1
    have b2 := KDz.out.2
    have n1 : wz.cell? ⟨S1 + 1, i, none⟩ = some (.int .i64 (strN i : Int)) := TBz.out.cellAt (intsV_get i HI.out)
    have n2 : wz.cell? ⟨S1 + 1, k, none⟩ = some (.int .i64 (strN k : Int)) := TBz.out.cellAt (intsV_get k HK.out)
    have HX1 : sgB i = ⟨(sgN i).toArray⟩ := rfl
    have hLP : leftP i k = (decide (strN k < strN i) || (strN i == strN k && sgN i != [47, 47] && sgN i != [43, 43])) := rfl
    obtain ⟨nI, hnI⟩ : ∃ n, n = strN i := ⟨_, rfl⟩
    obtain ⟨nK, hnK⟩ : ∃ n, n = strN k := ⟨_, rfl⟩
    rw [← hnI] at n1 hLP
    rw [← hnK] at n2 hLP
    have hsl : sgN i = sI.data.toList := by rw [HSI.out]; rfl
    rw [hsl] at hLP
    have HCASE : Hid ((leftP i k = true ∧ (⟨x.text.toArray⟩ : ByteArray) = sK ∧ (⟨y.text.toArray⟩ : ByteArray) = sI ∧ (⟨z.text.toArray⟩ : ByteArray) = ⟨#[99]⟩) ∨ (leftP i k = false ∧ (⟨x.text.toArray⟩ : ByteArray) = sI ∧ (⟨z.text.toArray⟩ : ByteArray) = sK ∧ (⟨y.text.toArray⟩ : ByteArray) = ⟨#[97]⟩)) := Lib.hid (by
      rcases hcase with ⟨h1, h2, h3, h4⟩ | ⟨h1, h2, h3, h4⟩
      · exact .inl ⟨h1, by rw [h2, HSK.out]; rfl, by rw [h3, HSI.out]; rfl, by rw [h4]⟩
      · exact .inr ⟨h1, by rw [h2, HSI.out]; rfl, by rw [h3, HSK.out]; rfl, by rw [h4]⟩)
    obtain ⟨tx, htx⟩ : ∃ b : ByteArray, b = ⟨x.text.toArray⟩ := ⟨_, rfl⟩
    obtain ⟨ty, hty⟩ : ∃ b : ByteArray, b = ⟨y.text.toArray⟩ := ⟨_, rfl⟩
    obtain ⟨tz, htz⟩ : ∃ b : ByteArray, b = ⟨z.text.toArray⟩ := ⟨_, rfl⟩
    rw [← htx] at a2 HCASE
    rw [← hty] at a7 HCASE
    rw [← htz] at a8 HCASE
    have HLPF := Lib.hid hLP
    clear hkz hcase s6 kk ry iy rz iz htx hty htz hnI hnK hsl HX1 hLP KDz XZ TAz TBz IZ
    by_cases hgt : nK < nI
    · have hd : decide ((nK : Int) < (nI : Int)) = true := by simp; omega
      have hLV : leftP i k = true := by rw [HLPF.out]; simp [hgt]
      rcases HCASE.out with ⟨hl, h2, h3, h4⟩ | ⟨hl, h2, h3, h4⟩
      · rw [h2] at a2
        rw [h3] at a7
        rw [h4] at a8
        clear hl h2 h3 h4 hLV HCASE HLPF HSA HSC HSD HSE HPC HSH q1 q2 q3 q4
        go_wp2_with fail
        go_quiet (fail)
        go_wp2_with fail
        go_quiet (fail)
        go_wp2_with fail
        go_ret
        exact ⟨rfl, below_drewN (below_drewN BBz.out _) _⟩
      · rw [hLV] at hl; cases hl
    · have hd : decide ((nK : Int) < (nI : Int)) = false := by simp; omega
      by_cases heq : nI = nK
      · subst heq
        by_cases hs1 : sI = ⟨#[47, 47]⟩
        · have hLV : leftP i k = false := by rw [HLPF.out, hs1]; simp
          rw [hs1] at b1 HCASE
          rcases HCASE.out with ⟨hl, h2, h3, h4⟩ | ⟨hl, h2, h3, h4⟩
          · rw [hLV] at hl; cases hl
          · rw [h2] at a2
            rw [h3] at a8
            rw [h4] at a7
            clear hl h2 h3 h4 hLV HCASE HLPF HSA HSC HSD HSE HPC HSH q1 q2 q3 q4
            go_wp2_with fail
            go_quiet (fail)
            go_wp2_with fail
            go_quiet (fail)
            go_wp2_with fail
            go_ret
            exact ⟨rfl, below_drewN (below_drewN BBz.out _) _⟩
        · by_cases hs2 : sI = ⟨#[43, 43]⟩
          · have hLV : leftP i k = false := by rw [HLPF.out, hs2]; simp
            rw [hs2] at b1 HCASE
            rcases HCASE.out with ⟨hl, h2, h3, h4⟩ | ⟨hl, h2, h3, h4⟩
            · rw [hLV] at hl; cases hl
            · rw [h2] at a2
              rw [h3] at a8
              rw [h4] at a7
              clear hl h2 h3 h4 hLV HCASE HLPF HSA HSC HSD HSE HPC HSH q1 q2 q3 q4
              go_wp2_with fail
              go_quiet (fail)
              go_wp2_with fail
              go_quiet (fail)
              go_wp2_with fail
              go_ret
              exact ⟨rfl, below_drewN (below_drewN BBz.out _) _⟩
          · have hm1 : ¬ sI.toList = [47, 47] := fun e => hs1 (ba_of (by rw [ByteArray.toList_eq] at e; exact e))
            have hm2 : ¬ sI.toList = [43, 43] := fun e => hs2 (ba_of (by rw [ByteArray.toList_eq] at e; exact e))
            have hm3 : (sI.toList == [47, 47]) = false := beq_eq_false_iff_ne.2 hm1
            have hm4 : (sI.toList == [43, 43]) = false := beq_eq_false_iff_ne.2 hm2
            have hm5 : (sI.toList != [47, 47]) = true := bne_iff_ne.2 hm1
            have hm6 : (sI.toList != [43, 43]) = true := bne_iff_ne.2 hm2
            have hLV : leftP i k = true := by rw [HLPF.out]; simp; exact ⟨fun h => hs1 (ba_of h), fun h => hs2 (ba_of h)⟩
            rcases HCASE.out with ⟨hl, h2, h3, h4⟩ | ⟨hl, h2, h3, h4⟩
            · rw [h2] at a2
              rw [h3] at a7
              rw [h4] at a8
              clear hl h2 h3 h4 hLV HCASE HLPF HSA HSC HSD HSE HPC HSH q1 q2 q3 q4
              go_wp2_with fail
              go_quiet (fail)
              go_wp2_with fail
              go_quiet (fail)
              go_wp2_with fail
              go_ret
              exact ⟨rfl, below_drewN (below_drewN BBz.out _) _⟩
            · rw [hLV] at hl; cases hl
      · have hni : ¬ (nI : Int) = (nK : Int) := by omega
        have hni2 : decide ((nI : Int) = (nK : Int)) = false := by simp; omega
        have hLV : leftP i k = false := by rw [HLPF.out]; simp [hgt, heq]
        rcases HCASE.out with ⟨hl, h2, h3, h4⟩ | ⟨hl, h2, h3, h4⟩
        · rw [hLV] at hl; cases hl
        · rw [h2] at a2
          rw [h3] at a8
          rw [h4] at a7
          clear hl h2 h3 h4 hLV HCASE HLPF HSA HSC HSD HSE HPC HSH q1 q2 q3 q4
          go_wp2_with fail
          go_quiet (fail)
          go_wp2_with fail
          go_quiet (fail)
          go_wp2_with fail
          go_ret
          exact ⟨rfl, below_drewN (below_drewN BBz.out _) _⟩
theorem u8_bounds {n : Int} (h : (Lit.int .u8 n).wf = true) : 0 ≤ n ∧ n < 256 := by
  simp only [Lit.wf, Bool.and_eq_true, decide_eq_true_eq] at h
  have hmin : IntKind.u8.min = 0 := rfl
  have hmax : IntKind.u8.max = 255 := rfl
  omega
theorem walk_ParseOrder (w : World) (p0 : Int) (hp0 : (Lit.int .u8 p0).wf = true) (q0 : Int) (hq0 : (Lit.int .u8 q0).wf = true) (hl : LaidL w ∧ LaidP w) :
    Calls Tryd.prog 3 #[.int .u8 p0, .int .u8 q0] w fun e w' => e = .returned (.bool true) ∧ Below w.heap.size w w' := by
  obtain ⟨p, rfl⟩ : ∃ n : Nat, p0 = (n : Int) := ⟨p0.toNat, by have := u8_bounds hp0; omega⟩
  obtain ⟨q, rfl⟩ : ∃ n : Nat, q0 = (n : Int) := ⟨q0.toNat, by have := u8_bounds hq0; omega⟩
  exact walk_nat w p q (by have := u8_bounds hp0; omega) (by have := u8_bounds hq0; omega) hl.1 hl.2
end Go.Proofs.YtjggfjoodoidhaaDoor

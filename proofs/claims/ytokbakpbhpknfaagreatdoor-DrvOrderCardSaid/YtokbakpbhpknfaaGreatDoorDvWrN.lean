/-
  A derivation's text: the contract of the program's writer. Conditions: it has at most 1000 texts, each of at most 10^6 bytes.
-/
import Derived.Test.YtokbakpbhpknfaaGreatDoorDvLisN
import Derived.Deep.RegionHeld3
namespace Go.Proofs.YtokbakpbhpknfaaGreatDoor
open Go.RowKit
set_option linter.unusedVariables false

/-- The text of a derivation with these needs. -/
def dtextB (s0 : ByteArray) (ld l2 : List ByteArray) (s3 s4 : ByteArray) : List UInt8 := dtext ⟨s0.data.toList, [], lsts l2, s3.data.toList, s4.data.toList⟩ (lsts ld)
def dparts (s0 : ByteArray) (ld l2 : List ByteArray) (s3 s4 : ByteArray) : List ByteArray := [bs (dquote s0.data.toList), bs (dlist (lsts ld)), bs (dlist (lsts l2)), bs (dquote s3.data.toList), bs (dquote s4.data.toList)]
theorem dparts_join (s0 : ByteArray) (ld l2 : List ByteArray) (s3 s4 : ByteArray) : dopen ++ (Lib.join ((dparts s0 ld l2 s3 s4).map (·.data.toList)) [44] ++ [41]) = dtextB s0 ld l2 s3 s4 := by
  show dopen ++ (([44].intercalate ((dparts s0 ld l2 s3 s4).map (·.data.toList))) ++ [41]) = _
  rw [joinD_inter]
  simp [dparts, joinD, dtextB, dtext, bs]
theorem quote_size (s : ByteArray) (h : s.size ≤ 1000000) : (dquote s.data.toList).length ≤ 2000002 := by
  have := dquote_len s.data.toList
  have e : s.data.toList.length = s.size := by simp
  omega
theorem list_size (l : List ByteArray) (hn : l.length ≤ 1000) (hs : ∀ s ∈ l, s.size ≤ 1000000) : (dlist (lsts l)).length ≤ 10000000002 := by
  have := joinQ_len l hn hs
  unfold dlist; simp only [List.length_cons, List.length_append, List.length_nil]; omega
theorem dtextB_len (s0 : ByteArray) (ld l2 : List ByteArray) (s3 s4 : ByteArray) (hn : ld.length ≤ 1000) (hs : ∀ s ∈ ld, s.size ≤ 1000000) (hn2 : l2.length ≤ 1000) (hs2 : ∀ s ∈ l2, s.size ≤ 1000000)
    (z0 : s0.size ≤ 1000000) (z3 : s3.size ≤ 1000000) (z4 : s4.size ≤ 1000000) : (dtextB s0 ld l2 s3 s4).length ≤ 30000000000 := by
  have := quote_size s0 z0
  have := quote_size s3 z3
  have := quote_size s4 z4
  have := list_size ld hn hs
  have := list_size l2 hn2 hs2
  unfold dtextB dtext dopen
  simp only [List.length_cons, List.length_append, List.length_nil]
  omega

set_option maxRecDepth 100000 in
set_option maxHeartbeats 20000000 in
theorem written_any (s0 s3 s4 : ByteArray) (a1 a2 ad : Option Addr) (n1 c1 n2 c2 nd cd : Nat) (l2 ld : List ByteArray) (w : World) (h2 : IsS w a2 n2 c2 l2) (hd : IsS w ad nd cd ld) (hn2 : n2 ≤ 1000) (hnd : nd ≤ 1000)
    (z2 : ∀ s ∈ l2, s.size ≤ 1000000) (zd : ∀ s ∈ ld, s.size ≤ 1000000) (z0 : s0.size ≤ 1000000) (z3 : s3.size ≤ 1000000) (z4 : s4.size ≤ 1000000) :
    Calls Tryz.prog 23 #[.agg #[.string s0, .slice a1 n1 c1, .slice a2 n2 c2, .string s3, .string s4], .slice ad nd cd] w fun e w' => e = .returned (.string (bs (dtextB s0 ld l2 s3 s4))) ∧ Below w.heap.size w w' := by
  have hlen := dtextB_len s0 ld l2 s3 s4 (by rw [hd.length]; exact hnd) zd (by rw [h2.length]; exact hn2) z2 z0 z3 z4
  have hjoin := dparts_join s0 ld l2 s3 s4
  obtain ⟨L, hL⟩ : ∃ L, L = dparts s0 ld l2 s3 s4 := ⟨_, rfl⟩
  obtain ⟨Q0, hQ0⟩ : ∃ q, q = bs (dquote s0.data.toList) := ⟨_, rfl⟩
  obtain ⟨QD, hQD⟩ : ∃ q, q = bs (dlist (lsts ld)) := ⟨_, rfl⟩
  obtain ⟨Q2, hQ2⟩ : ∃ q, q = bs (dlist (lsts l2)) := ⟨_, rfl⟩
  obtain ⟨Q3, hQ3⟩ : ∃ q, q = bs (dquote s3.data.toList) := ⟨_, rfl⟩
  obtain ⟨Q4, hQ4⟩ : ∃ q, q = bs (dquote s4.data.toList) := ⟨_, rfl⟩
  have hLl : L = [Q0, QD, Q2, Q3, Q4] := by rw [hL, hQ0, hQD, hQ2, hQ3, hQ4]; rfl
  rw [← hL] at hjoin
  have k0 := fun w => quoted_any s0 w (by omega)
  rw [← hQ0] at k0
  have kd := fun (w : World) (h : IsS w ad nd cd ld) => listed_any ad nd cd ld w h hnd zd
  rw [← hQD] at kd
  have k2 := fun (w : World) (h : IsS w a2 n2 c2 l2) => listed_any a2 n2 c2 l2 w h hn2 z2
  rw [← hQ2] at k2
  have k3 := fun w => quoted_any s3 w (by omega)
  rw [← hQ3] at k3
  have k4 := fun w => quoted_any s4 w (by omega)
  rw [← hQ4] at k4
  have K0 := Lib.hid k0
  have KD := Lib.hid kd
  have K2 := Lib.hid k2
  have K3 := Lib.hid k3
  have K4 := Lib.hid k4
  have HJ := Lib.hid hjoin
  have HLL := Lib.hid hLl
  have HLEN := Lib.hid hlen
  have I2 := Lib.hid h2
  have ID := Lib.hid hd
  clear k0 kd k2 k3 k4 hL hQ0 hQD hQ2 hQ3 hQ4 hLl hjoin h2 hd z2 zd hlen
  go_enter Tryz.func23, Tryz.ntmps23
  go_upto_region 1 with fail
  obtain ⟨w1, hw1⟩ : ∃ w1, w1 = w.alloc (.cells #[.string s0, .slice a1 n1 c1, .slice a2 n2 c2, .string s3, .string s4] 24) := ⟨_, rfl⟩
  have g1 : Has w1 w.heap.size [.string s0, .slice a1 n1 c1, .slice a2 n2 c2, .string s3, .string s4] 24 := by rw [hw1]; exact Has.new w _ _
  have bl1 : Below w.heap.size w w1 := by rw [hw1]; exact (Below.refl _ _).alloc (Nat.le_refl _) _
  rw [← hw1]
  obtain ⟨G, hG⟩ : ∃ G, G = w.heap.size := ⟨_, rfl⟩
  rw [← hG] at g1 bl1 ⊢
  have HG := Lib.hid hG
  have G1 := Lib.hid g1
  have B1 := Lib.hid bl1
  clear hw1 g1 bl1 hG
  refine wp_region_held_drew (S := fun W => Has W G [.string s0, .slice a1 n1 c1, .slice a2 n2 c2, .string s3, .string s4] 24) (by kernel_rfl) G1.out.drew (fun hHeld => ?_)
  obtain ⟨wd, hwd⟩ : ∃ wd, wd = w1.drew := ⟨_, rfl⟩
  have BD : Hid (Below G w wd) := Lib.hid (by rw [hwd]; exact B1.out.drew)
  have GD : Hid (Has wd G [.string s0, .slice a1 n1 c1, .slice a2 n2 c2, .string s3, .string s4] 24) := Lib.hid (by rw [hwd]; exact G1.out.drew)
  rw [← hwd] at hHeld ⊢
  clear hwd G1 B1
  refine wpAnyH_take (i := 0) (oi := { dst := some 6, op := Op.fieldAddr 24 (Operand.tmp 2) 0, type := 0, pos := "text.go:20", after := #[], guard := none }) (v := .pointer (some ⟨G, 0, none⟩)) rfl (by kernel_rfl) (by kernel_rfl) (by kernel_rfl) (fun _ _ _ h => h)
    (Or.inl ⟨by rfl, by intro w hSw;  clear hSw; go_simp⟩) hHeld ?_
  try simp only [Act.put, List.setIfInBounds_toArray, List.set_cons_zero, List.set_cons_succ]
  refine wpAnyH_take (i := 1) (oi := { dst := some 7, op := Op.load 9 (Operand.tmp 6), type := 9, pos := "text.go:20", after := #[{ on := 0, ground := Ground.data }], guard := none }) (v := .string s0) rfl (by kernel_rfl) (by kernel_rfl) (by kernel_rfl) (fun _ _ _ h => h)
    (Or.inl ⟨by rfl, by intro w hSw; have hc9 := hSw.cellAt (i := 0) rfl; clear hSw; go_simp⟩) hHeld ?_
  try simp only [Act.put, List.setIfInBounds_toArray, List.set_cons_zero, List.set_cons_succ]
  refine wpAnyH_take (i := 3) (oi := { dst := some 9, op := Op.move (Operand.tmp 1), type := 22, pos := "text.go:20", after := #[], guard := none }) (v := .slice ad nd cd) rfl (by kernel_rfl) (by kernel_rfl) (by kernel_rfl) (fun _ _ _ h => h)
    (Or.inl ⟨by rfl, by intro w hSw;  clear hSw; go_simp⟩) hHeld ?_
  try simp only [Act.put, List.setIfInBounds_toArray, List.set_cons_zero, List.set_cons_succ]
  refine wpAnyH_take (i := 5) (oi := { dst := some 11, op := Op.fieldAddr 24 (Operand.tmp 2) 2, type := 0, pos := "text.go:20", after := #[], guard := none }) (v := .pointer (some ⟨G, 2, none⟩)) rfl (by kernel_rfl) (by kernel_rfl) (by kernel_rfl) (fun _ _ _ h => h)
    (Or.inl ⟨by rfl, by intro w hSw;  clear hSw; go_simp⟩) hHeld ?_
  try simp only [Act.put, List.setIfInBounds_toArray, List.set_cons_zero, List.set_cons_succ]
  refine wpAnyH_take (i := 6) (oi := { dst := some 12, op := Op.load 22 (Operand.tmp 11), type := 22, pos := "text.go:20", after := #[{ on := 5, ground := Ground.data }], guard := none }) (v := .slice a2 n2 c2) rfl (by kernel_rfl) (by kernel_rfl) (by kernel_rfl) (fun _ _ _ h => h)
    (Or.inl ⟨by rfl, by intro w hSw; have hc9 := hSw.cellAt (i := 2) rfl; clear hSw; go_simp⟩) hHeld ?_
  try simp only [Act.put, List.setIfInBounds_toArray, List.set_cons_zero, List.set_cons_succ]
  refine wpAnyH_take (i := 8) (oi := { dst := some 14, op := Op.fieldAddr 24 (Operand.tmp 2) 3, type := 0, pos := "text.go:20", after := #[], guard := none }) (v := .pointer (some ⟨G, 3, none⟩)) rfl (by kernel_rfl) (by kernel_rfl) (by kernel_rfl) (fun _ _ _ h => h)
    (Or.inl ⟨by rfl, by intro w hSw;  clear hSw; go_simp⟩) hHeld ?_
  try simp only [Act.put, List.setIfInBounds_toArray, List.set_cons_zero, List.set_cons_succ]
  refine wpAnyH_take (i := 9) (oi := { dst := some 15, op := Op.load 9 (Operand.tmp 14), type := 9, pos := "text.go:20", after := #[{ on := 8, ground := Ground.data }], guard := none }) (v := .string s3) rfl (by kernel_rfl) (by kernel_rfl) (by kernel_rfl) (fun _ _ _ h => h)
    (Or.inl ⟨by rfl, by intro w hSw; have hc9 := hSw.cellAt (i := 3) rfl; clear hSw; go_simp⟩) hHeld ?_
  try simp only [Act.put, List.setIfInBounds_toArray, List.set_cons_zero, List.set_cons_succ]
  refine wpAnyH_take (i := 11) (oi := { dst := some 17, op := Op.fieldAddr 24 (Operand.tmp 2) 4, type := 0, pos := "text.go:20", after := #[], guard := none }) (v := .pointer (some ⟨G, 4, none⟩)) rfl (by kernel_rfl) (by kernel_rfl) (by kernel_rfl) (fun _ _ _ h => h)
    (Or.inl ⟨by rfl, by intro w hSw;  clear hSw; go_simp⟩) hHeld ?_
  try simp only [Act.put, List.setIfInBounds_toArray, List.set_cons_zero, List.set_cons_succ]
  refine wpAnyH_take (i := 12) (oi := { dst := some 18, op := Op.load 9 (Operand.tmp 17), type := 9, pos := "text.go:20", after := #[{ on := 11, ground := Ground.data }], guard := none }) (v := .string s4) rfl (by kernel_rfl) (by kernel_rfl) (by kernel_rfl) (fun _ _ _ h => h)
    (Or.inl ⟨by rfl, by intro w hSw; have hc9 := hSw.cellAt (i := 4) rfl; clear hSw; go_simp⟩) hHeld ?_
  try simp only [Act.put, List.setIfInBounds_toArray, List.set_cons_zero, List.set_cons_succ]
  refine wpAnyH_ready (rs := [2]) (by kernel_rfl) (by simp) ?_
  refine AllReadyH.cons (o := { dst := some 8, op := Op.call { callee := Callee.value (Operand.func 47), args := #[Operand.tmp 7], argTypes := #[9] }, type := 9, pos := "text.go:20", after := #[{ on := 1, ground := Ground.data }], guard := none }) rfl (fun K hK => ?_) AllReadyH.nil
  go_simp
  refine (K0.out wd).mono ?_
  rintro e w2 ⟨rfl, b2⟩
  have B2 : Hid (Below G w w2) := Lib.hid (BD.out.trans (b2.mono (Nat.le_of_lt GD.out.lt)))
  have G2 := Lib.hid (GD.out.below b2 GD.out.lt)
  clear b2
  go_wp2_with fail
  refine hK.out _ _ G2.out (fun hHeld2 => ?_)
  clear hK K hHeld BD GD
  try simp only [Act.put, List.setIfInBounds_toArray, List.set_cons_zero, List.set_cons_succ]
  refine wpAnyH_ready (rs := [4]) (by kernel_rfl) (by simp) ?_
  refine AllReadyH.cons (o := { dst := some 10, op := Op.call { callee := Callee.value (Operand.func 48), args := #[Operand.tmp 9], argTypes := #[22] }, type := 9, pos := "text.go:20", after := #[{ on := 3, ground := Ground.data }, { on := 2, ground := Ground.chain }], guard := none }) rfl (fun K hK => ?_) AllReadyH.nil
  go_simp
  refine (KD.out w2 (ID.out.later (by rw [← HG.out]; exact B2.out))).mono ?_
  rintro e w3 ⟨rfl, b3⟩
  have B3 : Hid (Below G w w3) := Lib.hid (B2.out.trans (b3.mono (Nat.le_of_lt G2.out.lt)))
  have G3 := Lib.hid (G2.out.below b3 G2.out.lt)
  clear b3
  go_wp2_with fail
  refine hK.out _ _ G3.out (fun hHeld3 => ?_)
  clear hK K hHeld2 B2 G2
  try simp only [Act.put, List.setIfInBounds_toArray, List.set_cons_zero, List.set_cons_succ]
  refine wpAnyH_ready (rs := [7]) (by kernel_rfl) (by simp) ?_
  refine AllReadyH.cons (o := { dst := some 13, op := Op.call { callee := Callee.value (Operand.func 48), args := #[Operand.tmp 12], argTypes := #[22] }, type := 9, pos := "text.go:20", after := #[{ on := 6, ground := Ground.data }, { on := 4, ground := Ground.chain }], guard := none }) rfl (fun K hK => ?_) AllReadyH.nil
  go_simp
  refine (K2.out w3 (I2.out.later (by rw [← HG.out]; exact B3.out))).mono ?_
  rintro e w4 ⟨rfl, b4⟩
  have B4 : Hid (Below G w w4) := Lib.hid (B3.out.trans (b4.mono (Nat.le_of_lt G3.out.lt)))
  have G4 := Lib.hid (G3.out.below b4 G3.out.lt)
  clear b4
  go_wp2_with fail
  refine hK.out _ _ G4.out (fun hHeld4 => ?_)
  clear hK K hHeld3 B3 G3
  try simp only [Act.put, List.setIfInBounds_toArray, List.set_cons_zero, List.set_cons_succ]
  refine wpAnyH_ready (rs := [10]) (by kernel_rfl) (by simp) ?_
  refine AllReadyH.cons (o := { dst := some 16, op := Op.call { callee := Callee.value (Operand.func 47), args := #[Operand.tmp 15], argTypes := #[9] }, type := 9, pos := "text.go:20", after := #[{ on := 9, ground := Ground.data }, { on := 7, ground := Ground.chain }], guard := none }) rfl (fun K hK => ?_) AllReadyH.nil
  go_simp
  refine (K3.out w4).mono ?_
  rintro e w5 ⟨rfl, b5⟩
  have B5 : Hid (Below G w w5) := Lib.hid (B4.out.trans (b5.mono (Nat.le_of_lt G4.out.lt)))
  have G5 := Lib.hid (G4.out.below b5 G4.out.lt)
  clear b5
  go_wp2_with fail
  refine hK.out _ _ G5.out (fun hHeld5 => ?_)
  clear hK K hHeld4 B4 G4
  try simp only [Act.put, List.setIfInBounds_toArray, List.set_cons_zero, List.set_cons_succ]
  refine wpAnyH_ready (rs := [13]) (by kernel_rfl) (by simp) ?_
  refine AllReadyH.cons (o := { dst := some 19, op := Op.call { callee := Callee.value (Operand.func 47), args := #[Operand.tmp 18], argTypes := #[9] }, type := 9, pos := "text.go:20", after := #[{ on := 12, ground := Ground.data }, { on := 10, ground := Ground.chain }], guard := none }) rfl (fun K hK => ?_) AllReadyH.nil
  go_simp
  refine (K4.out w5).mono ?_
  rintro e w6 ⟨rfl, b6⟩
  have B6 : Hid (Below G w w6) := Lib.hid (B5.out.trans (b6.mono (Nat.le_of_lt G5.out.lt)))
  have G6 := Lib.hid (G5.out.below b6 G5.out.lt)
  clear b6
  go_wp2_with fail
  refine hK.out _ _ G6.out (fun hHeld6 => ?_)
  clear hK K hHeld5 B5 G5
  try simp only [Act.put, List.setIfInBounds_toArray, List.set_cons_zero, List.set_cons_succ]
  refine wpAnyH_ready (rs := [14]) (by kernel_rfl) (by simp) ?_
  refine AllReadyH.cons (o := { dst := some 20, op := Op.buildSlice 22 5 #[(0, Operand.tmp 8), (1, Operand.tmp 10), (2, Operand.tmp 13), (3, Operand.tmp 16), (4, Operand.tmp 19)], type := 22, pos := "text.go:20", after := #[{ on := 2, ground := Ground.data }, { on := 4, ground := Ground.data }, { on := 7, ground := Ground.data }, { on := 10, ground := Ground.data }, { on := 13, ground := Ground.data }], guard := none }) rfl (fun K hK => ?_) AllReadyH.nil
  go_simp
  refine hK.out _ _ (G6.out.alloc _) (fun hHeld7 => ?_)
  clear hK K hHeld6
  try simp only [Act.put, List.setIfInBounds_toArray, List.set_cons_zero, List.set_cons_succ]
  refine wpAnyH_take (i := 15) (oi := { dst := some 5, op := Op.assign (Operand.tmp 20), type := 22, pos := "text.go:20", after := #[{ on := 14, ground := Ground.data }, { on := 13, ground := Ground.chain }, { on := 0, ground := Ground.phase }, { on := 1, ground := Ground.phase }, { on := 2, ground := Ground.phase }, { on := 3, ground := Ground.phase }, { on := 4, ground := Ground.phase }, { on := 5, ground := Ground.phase }, { on := 6, ground := Ground.phase }, { on := 7, ground := Ground.phase }, { on := 8, ground := Ground.phase }, { on := 9, ground := Ground.phase }, { on := 10, ground := Ground.phase }, { on := 11, ground := Ground.phase }, { on := 12, ground := Ground.phase }, { on := 13, ground := Ground.phase }, { on := 14, ground := Ground.phase }], guard := none }) (v := .slice (some ⟨w6.heap.size, 0, none⟩) 5 5) rfl (by kernel_rfl) (by kernel_rfl) (by kernel_rfl) (fun _ _ _ h => h)
    (Or.inl ⟨by rfl, by intro w hSw;  clear hSw; go_simp⟩) hHeld7 ?_
  try simp only [Act.put, List.setIfInBounds_toArray, List.set_cons_zero, List.set_cons_succ]
  refine wpAnyH_done (by kernel_rfl) ?_ _
  clear hHeld7
  obtain ⟨w7, hw7⟩ : ∃ w7, w7 = w6.alloc (.cells #[.string Q0, .string QD, .string Q2, .string Q3, .string Q4] 9) := ⟨_, rfl⟩
  obtain ⟨g, hg⟩ : ∃ g, g = w6.heap.size := ⟨_, rfl⟩
  have H7 : Has w7 g (L.map Value.string) 9 := by rw [hw7, HLL.out, hg]; exact Has.new w6 [.string Q0, .string QD, .string Q2, .string Q3, .string Q4] 9
  have B7 : Hid (Below G w w7) := Lib.hid (by rw [hw7]; exact B6.out.alloc (Nat.le_of_lt G6.out.lt) _)
  obtain ⟨X, hX⟩ : ∃ X : ByteArray, X = ⟨(Lib.join (L.map (·.data.toList)) [44]).toArray⟩ := ⟨_, rfl⟩
  have hXs : X.size ≤ 30000000000 := by
    have h1 : X.size = (Lib.join (L.map (·.data.toList)) [44]).length := by rw [hX]; show (Lib.join (L.map (·.data.toList)) [44]).toArray.size = _; simp
    have h2 := congrArg List.length HJ.out
    have := HLEN.out
    simp only [List.length_append] at h2
    omega
  have HX := Lib.hid hX
  have hk : Calls Tryz.prog 35 #[.slice (some ⟨g, 0, none⟩) 5 5, .string ⟨#[44]⟩] w7 fun e w' => e = .returned (.string X) ∧ Below w7.heap.size w7 w' := by
    have h := Tryz.strings_Join g 0 5 L ⟨#[44]⟩ w7 (fun j x hx => by
      rw [Nat.zero_add]
      rw [H7.cellAt (i := j) (v := .string x) (by rw [List.getElem?_map, hx]; rfl)]) H7.lt (by rw [HLL.out]; show 5 ≤ _; omega) (by rw [HLL.out]; show 5 ≤ 5; omega) (by
        have h1 : X.size = (Lib.join (L.map (·.data.toList)) [44]).length := by rw [hX]; show (Lib.join (L.map (·.data.toList)) [44]).toArray.size = _; simp
        show (Lib.join (L.map (·.data.toList)) [44]).length ≤ _
        omega)
    have hl5 : L.length = 5 := by rw [HLL.out]; rfl
    rw [hl5] at h
    rw [hX]; exact h
  have HK := Lib.hid hk
  rw [← hw7, ← hg]
  clear hk hX hw7 hg H7 B6 G6
  go_wp2_with fail
  refine HK.out.mono ?_
  rintro e w8 ⟨rfl, b8⟩
  have B8 : Hid (Below G w w8) := Lib.hid (B7.out.trans (b8.mono (by rw [HG.out]; exact B7.out.size)))
  clear b8 HK
  have hz7 : (⟨#[68, 101, 114, 105, 118, 101, 40]⟩ : ByteArray).size = 7 := rfl
  have hz1 : (⟨#[41]⟩ : ByteArray).size = 1 := rfl
  have hz8 : ((⟨#[68, 101, 114, 105, 118, 101, 40]⟩ : ByteArray) ++ X).size = 7 + X.size := by rw [ByteArray.size_append]; rfl
  go_wp2_with fail
  go_ret
  refine ⟨?_, by rw [← HG.out]; exact B8.out⟩
  rw [← HJ.out, HX.out]
  have he : (((⟨#[68, 101, 114, 105, 118, 101, 40]⟩ : ByteArray) ++ (⟨(Lib.join (L.map (·.data.toList)) [44]).toArray⟩ : ByteArray)) ++ ⟨#[41]⟩) = bs (dopen ++ (Lib.join (L.map (·.data.toList)) [44] ++ [41])) := by
    apply ByteArray.ext; apply Array.toList_inj.1
    simp [bs, dopen]
  rw [← he]; rfl
end Go.Proofs.YtokbakpbhpknfaaGreatDoor

namespace Go.Proofs.YtokbakpbhpknfaaGreatDoor
open Go.RowKit
set_option linter.unusedVariables false

set_option maxRecDepth 100000 in
set_option maxHeartbeats 20000000 in
theorem rtext_any (s0 s3 s4 : ByteArray) (a1 a2 ad : Option Addr) (n1 c1 n2 c2 nd cd : Nat) (l2 ld : List ByteArray) (w : World) (h2 : IsS w a2 n2 c2 l2) (hd : IsS w ad nd cd ld) (hn2 : n2 ≤ 1000) (hnd : nd ≤ 1000)
    (z2 : ∀ s ∈ l2, s.size ≤ 1000000) (zd : ∀ s ∈ ld, s.size ≤ 1000000) (z0 : s0.size ≤ 1000000) (z3 : s3.size ≤ 1000000) (z4 : s4.size ≤ 1000000) :
    Calls Tryz.prog 30 #[.agg #[.string s0, .slice a1 n1 c1, .slice a2 n2 c2, .string s3, .string s4], .slice ad nd cd] w fun e w' => e = .returned (.string (bs (dtextB s0 ld l2 s3 s4))) ∧ Below w.heap.size w w' := by
  obtain ⟨Q0, hQ0⟩ : ∃ q, q = bs (dquote s0.data.toList) := ⟨_, rfl⟩
  obtain ⟨QD, hQD⟩ : ∃ q, q = bs (dlist (lsts ld)) := ⟨_, rfl⟩
  obtain ⟨Q2, hQ2⟩ : ∃ q, q = bs (dlist (lsts l2)) := ⟨_, rfl⟩
  obtain ⟨Q3, hQ3⟩ : ∃ q, q = bs (dquote s3.data.toList) := ⟨_, rfl⟩
  obtain ⟨Q4, hQ4⟩ : ∃ q, q = bs (dquote s4.data.toList) := ⟨_, rfl⟩
  obtain ⟨P0, hP0⟩ : ∃ p, p = (⟨#[68, 101, 114, 105, 118, 101, 40]⟩ : ByteArray) ++ Q0 := ⟨_, rfl⟩
  have sP0 : P0.size = (⟨#[68, 101, 114, 105, 118, 101, 40]⟩ : ByteArray).size + Q0.size := by rw [hP0, ByteArray.size_append]
  obtain ⟨P1, hP1⟩ : ∃ p, p = P0 ++ (⟨#[44]⟩ : ByteArray) := ⟨_, rfl⟩
  have sP1 : P1.size = P0.size + (⟨#[44]⟩ : ByteArray).size := by rw [hP1, ByteArray.size_append]
  obtain ⟨P2, hP2⟩ : ∃ p, p = P1 ++ QD := ⟨_, rfl⟩
  have sP2 : P2.size = P1.size + QD.size := by rw [hP2, ByteArray.size_append]
  obtain ⟨P3, hP3⟩ : ∃ p, p = P2 ++ (⟨#[44]⟩ : ByteArray) := ⟨_, rfl⟩
  have sP3 : P3.size = P2.size + (⟨#[44]⟩ : ByteArray).size := by rw [hP3, ByteArray.size_append]
  obtain ⟨P4, hP4⟩ : ∃ p, p = P3 ++ Q2 := ⟨_, rfl⟩
  have sP4 : P4.size = P3.size + Q2.size := by rw [hP4, ByteArray.size_append]
  obtain ⟨P5, hP5⟩ : ∃ p, p = P4 ++ (⟨#[44]⟩ : ByteArray) := ⟨_, rfl⟩
  have sP5 : P5.size = P4.size + (⟨#[44]⟩ : ByteArray).size := by rw [hP5, ByteArray.size_append]
  obtain ⟨P6, hP6⟩ : ∃ p, p = P5 ++ Q3 := ⟨_, rfl⟩
  have sP6 : P6.size = P5.size + Q3.size := by rw [hP6, ByteArray.size_append]
  obtain ⟨P7, hP7⟩ : ∃ p, p = P6 ++ (⟨#[44]⟩ : ByteArray) := ⟨_, rfl⟩
  have sP7 : P7.size = P6.size + (⟨#[44]⟩ : ByteArray).size := by rw [hP7, ByteArray.size_append]
  obtain ⟨P8, hP8⟩ : ∃ p, p = P7 ++ Q4 := ⟨_, rfl⟩
  have sP8 : P8.size = P7.size + Q4.size := by rw [hP8, ByteArray.size_append]
  obtain ⟨P9, hP9⟩ : ∃ p, p = P8 ++ (⟨#[41]⟩ : ByteArray) := ⟨_, rfl⟩
  have sP9 : P9.size = P8.size + (⟨#[41]⟩ : ByteArray).size := by rw [hP9, ByteArray.size_append]
  have y0 : Q0.size ≤ 2000002 := by rw [hQ0, bs_size]; exact quote_size s0 z0
  have y3 : Q3.size ≤ 2000002 := by rw [hQ3, bs_size]; exact quote_size s3 z3
  have y4 : Q4.size ≤ 2000002 := by rw [hQ4, bs_size]; exact quote_size s4 z4
  have yd : QD.size ≤ 10000000002 := by rw [hQD, bs_size]; exact list_size ld (by rw [hd.length]; exact hnd) zd
  have y2 : Q2.size ≤ 10000000002 := by rw [hQ2, bs_size]; exact list_size l2 (by rw [h2.length]; exact hn2) z2
  have ec : (⟨#[44]⟩ : ByteArray).size = 1 := rfl
  have ee : (⟨#[41]⟩ : ByteArray).size = 1 := rfl
  have el : (⟨#[68, 101, 114, 105, 118, 101, 40]⟩ : ByteArray).size = 7 := rfl
  have hwhole : P9 = bs (dtextB s0 ld l2 s3 s4) := by
    rw [hP9, hP8, hP7, hP6, hP5, hP4, hP3, hP2, hP1, hP0, hQ0, hQD, hQ2, hQ3, hQ4]
    apply ByteArray.ext; apply Array.toList_inj.1
    simp [bs, dtextB, dtext, dopen]
  have HWH := Lib.hid hwhole
  have zP0 : P0.size ≤ 30000000000 := by omega
  have zP1 : P1.size ≤ 30000000000 := by omega
  have zP2 : P2.size ≤ 30000000000 := by omega
  have zP3 : P3.size ≤ 30000000000 := by omega
  have zP4 : P4.size ≤ 30000000000 := by omega
  have zP5 : P5.size ≤ 30000000000 := by omega
  have zP6 : P6.size ≤ 30000000000 := by omega
  have zP7 : P7.size ≤ 30000000000 := by omega
  have zP8 : P8.size ≤ 30000000000 := by omega
  have zP9 : P9.size ≤ 30000000000 := by omega
  have HP0 := Lib.hid hP0.symm
  have HP1 := Lib.hid hP1.symm
  have HP2 := Lib.hid hP2.symm
  have HP3 := Lib.hid hP3.symm
  have HP4 := Lib.hid hP4.symm
  have HP5 := Lib.hid hP5.symm
  have HP6 := Lib.hid hP6.symm
  have HP7 := Lib.hid hP7.symm
  have HP8 := Lib.hid hP8.symm
  have HP9 := Lib.hid hP9.symm
  clear hwhole ec ee el sP0 hP0 sP1 hP1 sP2 hP2 sP3 hP3 sP4 hP4 sP5 hP5 sP6 hP6 sP7 hP7 sP8 hP8 sP9 hP9
  have k0 := fun w => rquote_any s0 w (by omega)
  rw [← hQ0] at k0
  have kd := fun (w : World) (h : IsS w ad nd cd ld) => rlist_any ad nd cd ld w h hnd zd
  rw [← hQD] at kd
  have k2 := fun (w : World) (h : IsS w a2 n2 c2 l2) => rlist_any a2 n2 c2 l2 w h hn2 z2
  rw [← hQ2] at k2
  have k3 := fun w => rquote_any s3 w (by omega)
  rw [← hQ3] at k3
  have k4 := fun w => rquote_any s4 w (by omega)
  rw [← hQ4] at k4
  have K0 := Lib.hid k0
  have KD := Lib.hid kd
  have K2 := Lib.hid k2
  have K3 := Lib.hid k3
  have K4 := Lib.hid k4
  have I2 := Lib.hid h2
  have ID := Lib.hid hd
  clear k0 kd k2 k3 k4 hQ0 hQD hQ2 hQ3 hQ4 h2 hd z2 zd
  go_enter Tryz.func30, Tryz.ntmps30
  go_upto_region 1 with fail
  obtain ⟨w1, hw1⟩ : ∃ w1, w1 = w.alloc (.cells #[.string s0, .slice a1 n1 c1, .slice a2 n2 c2, .string s3, .string s4] 24) := ⟨_, rfl⟩
  have g1 : Has w1 w.heap.size [.string s0, .slice a1 n1 c1, .slice a2 n2 c2, .string s3, .string s4] 24 := by rw [hw1]; exact Has.new w _ _
  have bl1 : Below w.heap.size w w1 := by rw [hw1]; exact (Below.refl _ _).alloc (Nat.le_refl _) _
  rw [← hw1]
  obtain ⟨G, hG⟩ : ∃ G, G = w.heap.size := ⟨_, rfl⟩
  rw [← hG] at g1 bl1 ⊢
  have HG := Lib.hid hG
  have G1 := Lib.hid g1
  have B1 := Lib.hid bl1
  clear hw1 g1 bl1 hG
  refine wp_region_held_drew (S := fun W => Has W G [.string s0, .slice a1 n1 c1, .slice a2 n2 c2, .string s3, .string s4] 24) (by kernel_rfl) G1.out.drew (fun hHeld => ?_)
  obtain ⟨wd, hwd⟩ : ∃ wd, wd = w1.drew := ⟨_, rfl⟩
  have BD : Hid (Below G w wd) := Lib.hid (by rw [hwd]; exact B1.out.drew)
  have GD : Hid (Has wd G [.string s0, .slice a1 n1 c1, .slice a2 n2 c2, .string s3, .string s4] 24) := Lib.hid (by rw [hwd]; exact G1.out.drew)
  rw [← hwd] at hHeld ⊢
  clear hwd G1 B1
  refine wpAnyH_take (i := 0) (oi := { dst := some 5, op := Op.fieldAddr 24 (Operand.tmp 2) 0, type := 0, pos := "ref.go:69", after := #[], guard := none }) (v := .pointer (some ⟨G, 0, none⟩)) rfl (by kernel_rfl) (by kernel_rfl) (by kernel_rfl) (fun _ _ _ h => h)
    (Or.inl ⟨by rfl, by intro w hSw;  clear hSw; go_simp⟩) hHeld ?_
  try simp only [Act.put, List.setIfInBounds_toArray, List.set_cons_zero, List.set_cons_succ]
  refine wpAnyH_take (i := 1) (oi := { dst := some 6, op := Op.load 9 (Operand.tmp 5), type := 9, pos := "ref.go:69", after := #[{ on := 0, ground := Ground.data }], guard := none }) (v := .string s0) rfl (by kernel_rfl) (by kernel_rfl) (by kernel_rfl) (fun _ _ _ h => h)
    (Or.inl ⟨by rfl, by intro w hSw; have hc9 := hSw.cellAt (i := 0) rfl; clear hSw; go_simp⟩) hHeld ?_
  try simp only [Act.put, List.setIfInBounds_toArray, List.set_cons_zero, List.set_cons_succ]
  refine wpAnyH_take (i := 5) (oi := { dst := some 10, op := Op.move (Operand.tmp 1), type := 22, pos := "ref.go:69", after := #[], guard := none }) (v := .slice ad nd cd) rfl (by kernel_rfl) (by kernel_rfl) (by kernel_rfl) (fun _ _ _ h => h)
    (Or.inl ⟨by rfl, by intro w hSw;  clear hSw; go_simp⟩) hHeld ?_
  try simp only [Act.put, List.setIfInBounds_toArray, List.set_cons_zero, List.set_cons_succ]
  refine wpAnyH_take (i := 9) (oi := { dst := some 14, op := Op.fieldAddr 24 (Operand.tmp 2) 2, type := 0, pos := "ref.go:69", after := #[], guard := none }) (v := .pointer (some ⟨G, 2, none⟩)) rfl (by kernel_rfl) (by kernel_rfl) (by kernel_rfl) (fun _ _ _ h => h)
    (Or.inl ⟨by rfl, by intro w hSw;  clear hSw; go_simp⟩) hHeld ?_
  try simp only [Act.put, List.setIfInBounds_toArray, List.set_cons_zero, List.set_cons_succ]
  refine wpAnyH_take (i := 10) (oi := { dst := some 15, op := Op.load 22 (Operand.tmp 14), type := 22, pos := "ref.go:69", after := #[{ on := 9, ground := Ground.data }], guard := none }) (v := .slice a2 n2 c2) rfl (by kernel_rfl) (by kernel_rfl) (by kernel_rfl) (fun _ _ _ h => h)
    (Or.inl ⟨by rfl, by intro w hSw; have hc9 := hSw.cellAt (i := 2) rfl; clear hSw; go_simp⟩) hHeld ?_
  try simp only [Act.put, List.setIfInBounds_toArray, List.set_cons_zero, List.set_cons_succ]
  refine wpAnyH_take (i := 14) (oi := { dst := some 19, op := Op.fieldAddr 24 (Operand.tmp 2) 3, type := 0, pos := "ref.go:69", after := #[], guard := none }) (v := .pointer (some ⟨G, 3, none⟩)) rfl (by kernel_rfl) (by kernel_rfl) (by kernel_rfl) (fun _ _ _ h => h)
    (Or.inl ⟨by rfl, by intro w hSw;  clear hSw; go_simp⟩) hHeld ?_
  try simp only [Act.put, List.setIfInBounds_toArray, List.set_cons_zero, List.set_cons_succ]
  refine wpAnyH_take (i := 15) (oi := { dst := some 20, op := Op.load 9 (Operand.tmp 19), type := 9, pos := "ref.go:69", after := #[{ on := 14, ground := Ground.data }], guard := none }) (v := .string s3) rfl (by kernel_rfl) (by kernel_rfl) (by kernel_rfl) (fun _ _ _ h => h)
    (Or.inl ⟨by rfl, by intro w hSw; have hc9 := hSw.cellAt (i := 3) rfl; clear hSw; go_simp⟩) hHeld ?_
  try simp only [Act.put, List.setIfInBounds_toArray, List.set_cons_zero, List.set_cons_succ]
  refine wpAnyH_take (i := 19) (oi := { dst := some 24, op := Op.fieldAddr 24 (Operand.tmp 2) 4, type := 0, pos := "ref.go:69", after := #[], guard := none }) (v := .pointer (some ⟨G, 4, none⟩)) rfl (by kernel_rfl) (by kernel_rfl) (by kernel_rfl) (fun _ _ _ h => h)
    (Or.inl ⟨by rfl, by intro w hSw;  clear hSw; go_simp⟩) hHeld ?_
  try simp only [Act.put, List.setIfInBounds_toArray, List.set_cons_zero, List.set_cons_succ]
  refine wpAnyH_take (i := 20) (oi := { dst := some 25, op := Op.load 9 (Operand.tmp 24), type := 9, pos := "ref.go:69", after := #[{ on := 19, ground := Ground.data }], guard := none }) (v := .string s4) rfl (by kernel_rfl) (by kernel_rfl) (by kernel_rfl) (fun _ _ _ h => h)
    (Or.inl ⟨by rfl, by intro w hSw; have hc9 := hSw.cellAt (i := 4) rfl; clear hSw; go_simp⟩) hHeld ?_
  try simp only [Act.put, List.setIfInBounds_toArray, List.set_cons_zero, List.set_cons_succ]
  refine wpAnyH_ready (rs := [2]) (by kernel_rfl) (by simp) ?_
  refine AllReadyH.cons (o := { dst := some 7, op := Op.call { callee := Callee.value (Operand.func 54), args := #[Operand.tmp 6], argTypes := #[9] }, type := 9, pos := "ref.go:69", after := #[{ on := 1, ground := Ground.data }], guard := none }) rfl (fun K hK => ?_) AllReadyH.nil
  go_simp
  refine (K0.out wd).mono ?_
  rintro e w2 ⟨rfl, b2⟩
  have B2 : Hid (Below G w w2) := Lib.hid (BD.out.trans (b2.mono (Nat.le_of_lt GD.out.lt)))
  have G2 := Lib.hid (GD.out.below b2 GD.out.lt)
  clear b2
  go_wp2_with fail
  refine hK.out _ _ G2.out (fun hHeld2 => ?_)
  clear hK K hHeld BD GD
  try simp only [Act.put, List.setIfInBounds_toArray, List.set_cons_zero, List.set_cons_succ]
  refine wpAnyH_take (i := 3) (oi := { dst := some 8, op := Op.binOp BinOp.add 9 (Operand.const (Value.string { data := #[68, 101, 114, 105, 118, 101, 40] })) (Operand.tmp 7) 9, type := 9, pos := "ref.go:69", after := #[{ on := 2, ground := Ground.data }], guard := none }) (v := .string P0) rfl (by kernel_rfl) (by kernel_rfl) (by kernel_rfl) (fun _ _ _ h => h)
    (Or.inl ⟨by rfl, by intro w hSw; have hp9 := HP0.out; clear hSw; go_simp; omega⟩) hHeld2 ?_
  try simp only [Act.put, List.setIfInBounds_toArray, List.set_cons_zero, List.set_cons_succ]
  refine wpAnyH_take (i := 4) (oi := { dst := some 9, op := Op.binOp BinOp.add 9 (Operand.tmp 8) (Operand.const (Value.string { data := #[44] })) 9, type := 9, pos := "ref.go:69", after := #[{ on := 3, ground := Ground.data }], guard := none }) (v := .string P1) rfl (by kernel_rfl) (by kernel_rfl) (by kernel_rfl) (fun _ _ _ h => h)
    (Or.inl ⟨by rfl, by intro w hSw; have hp9 := HP1.out; clear hSw; go_simp; omega⟩) hHeld2 ?_
  try simp only [Act.put, List.setIfInBounds_toArray, List.set_cons_zero, List.set_cons_succ]
  refine wpAnyH_ready (rs := [6]) (by kernel_rfl) (by simp) ?_
  refine AllReadyH.cons (o := { dst := some 11, op := Op.call { callee := Callee.value (Operand.func 55), args := #[Operand.tmp 10], argTypes := #[22] }, type := 9, pos := "ref.go:69", after := #[{ on := 5, ground := Ground.data }, { on := 2, ground := Ground.chain }], guard := none }) rfl (fun K hK => ?_) AllReadyH.nil
  go_simp
  refine (KD.out w2 (ID.out.later (by rw [← HG.out]; exact B2.out))).mono ?_
  rintro e w3 ⟨rfl, b3⟩
  have B3 : Hid (Below G w w3) := Lib.hid (B2.out.trans (b3.mono (Nat.le_of_lt G2.out.lt)))
  have G3 := Lib.hid (G2.out.below b3 G2.out.lt)
  clear b3
  go_wp2_with fail
  refine hK.out _ _ G3.out (fun hHeld3 => ?_)
  clear hK K hHeld2 B2 G2
  try simp only [Act.put, List.setIfInBounds_toArray, List.set_cons_zero, List.set_cons_succ]
  refine wpAnyH_take (i := 7) (oi := { dst := some 12, op := Op.binOp BinOp.add 9 (Operand.tmp 9) (Operand.tmp 11) 9, type := 9, pos := "ref.go:69", after := #[{ on := 4, ground := Ground.data }, { on := 6, ground := Ground.data }], guard := none }) (v := .string P2) rfl (by kernel_rfl) (by kernel_rfl) (by kernel_rfl) (fun _ _ _ h => h)
    (Or.inl ⟨by rfl, by intro w hSw; have hp9 := HP2.out; clear hSw; go_simp; omega⟩) hHeld3 ?_
  try simp only [Act.put, List.setIfInBounds_toArray, List.set_cons_zero, List.set_cons_succ]
  refine wpAnyH_take (i := 8) (oi := { dst := some 13, op := Op.binOp BinOp.add 9 (Operand.tmp 12) (Operand.const (Value.string { data := #[44] })) 9, type := 9, pos := "ref.go:69", after := #[{ on := 7, ground := Ground.data }], guard := none }) (v := .string P3) rfl (by kernel_rfl) (by kernel_rfl) (by kernel_rfl) (fun _ _ _ h => h)
    (Or.inl ⟨by rfl, by intro w hSw; have hp9 := HP3.out; clear hSw; go_simp; omega⟩) hHeld3 ?_
  try simp only [Act.put, List.setIfInBounds_toArray, List.set_cons_zero, List.set_cons_succ]
  refine wpAnyH_ready (rs := [11]) (by kernel_rfl) (by simp) ?_
  refine AllReadyH.cons (o := { dst := some 16, op := Op.call { callee := Callee.value (Operand.func 55), args := #[Operand.tmp 15], argTypes := #[22] }, type := 9, pos := "ref.go:69", after := #[{ on := 10, ground := Ground.data }, { on := 6, ground := Ground.chain }], guard := none }) rfl (fun K hK => ?_) AllReadyH.nil
  go_simp
  refine (K2.out w3 (I2.out.later (by rw [← HG.out]; exact B3.out))).mono ?_
  rintro e w4 ⟨rfl, b4⟩
  have B4 : Hid (Below G w w4) := Lib.hid (B3.out.trans (b4.mono (Nat.le_of_lt G3.out.lt)))
  have G4 := Lib.hid (G3.out.below b4 G3.out.lt)
  clear b4
  go_wp2_with fail
  refine hK.out _ _ G4.out (fun hHeld4 => ?_)
  clear hK K hHeld3 B3 G3
  try simp only [Act.put, List.setIfInBounds_toArray, List.set_cons_zero, List.set_cons_succ]
  refine wpAnyH_take (i := 12) (oi := { dst := some 17, op := Op.binOp BinOp.add 9 (Operand.tmp 13) (Operand.tmp 16) 9, type := 9, pos := "ref.go:69", after := #[{ on := 8, ground := Ground.data }, { on := 11, ground := Ground.data }], guard := none }) (v := .string P4) rfl (by kernel_rfl) (by kernel_rfl) (by kernel_rfl) (fun _ _ _ h => h)
    (Or.inl ⟨by rfl, by intro w hSw; have hp9 := HP4.out; clear hSw; go_simp; omega⟩) hHeld4 ?_
  try simp only [Act.put, List.setIfInBounds_toArray, List.set_cons_zero, List.set_cons_succ]
  refine wpAnyH_take (i := 13) (oi := { dst := some 18, op := Op.binOp BinOp.add 9 (Operand.tmp 17) (Operand.const (Value.string { data := #[44] })) 9, type := 9, pos := "ref.go:69", after := #[{ on := 12, ground := Ground.data }], guard := none }) (v := .string P5) rfl (by kernel_rfl) (by kernel_rfl) (by kernel_rfl) (fun _ _ _ h => h)
    (Or.inl ⟨by rfl, by intro w hSw; have hp9 := HP5.out; clear hSw; go_simp; omega⟩) hHeld4 ?_
  try simp only [Act.put, List.setIfInBounds_toArray, List.set_cons_zero, List.set_cons_succ]
  refine wpAnyH_ready (rs := [16]) (by kernel_rfl) (by simp) ?_
  refine AllReadyH.cons (o := { dst := some 21, op := Op.call { callee := Callee.value (Operand.func 54), args := #[Operand.tmp 20], argTypes := #[9] }, type := 9, pos := "ref.go:69", after := #[{ on := 15, ground := Ground.data }, { on := 11, ground := Ground.chain }], guard := none }) rfl (fun K hK => ?_) AllReadyH.nil
  go_simp
  refine (K3.out w4).mono ?_
  rintro e w5 ⟨rfl, b5⟩
  have B5 : Hid (Below G w w5) := Lib.hid (B4.out.trans (b5.mono (Nat.le_of_lt G4.out.lt)))
  have G5 := Lib.hid (G4.out.below b5 G4.out.lt)
  clear b5
  go_wp2_with fail
  refine hK.out _ _ G5.out (fun hHeld5 => ?_)
  clear hK K hHeld4 B4 G4
  try simp only [Act.put, List.setIfInBounds_toArray, List.set_cons_zero, List.set_cons_succ]
  refine wpAnyH_take (i := 17) (oi := { dst := some 22, op := Op.binOp BinOp.add 9 (Operand.tmp 18) (Operand.tmp 21) 9, type := 9, pos := "ref.go:69", after := #[{ on := 13, ground := Ground.data }, { on := 16, ground := Ground.data }], guard := none }) (v := .string P6) rfl (by kernel_rfl) (by kernel_rfl) (by kernel_rfl) (fun _ _ _ h => h)
    (Or.inl ⟨by rfl, by intro w hSw; have hp9 := HP6.out; clear hSw; go_simp; omega⟩) hHeld5 ?_
  try simp only [Act.put, List.setIfInBounds_toArray, List.set_cons_zero, List.set_cons_succ]
  refine wpAnyH_take (i := 18) (oi := { dst := some 23, op := Op.binOp BinOp.add 9 (Operand.tmp 22) (Operand.const (Value.string { data := #[44] })) 9, type := 9, pos := "ref.go:69", after := #[{ on := 17, ground := Ground.data }], guard := none }) (v := .string P7) rfl (by kernel_rfl) (by kernel_rfl) (by kernel_rfl) (fun _ _ _ h => h)
    (Or.inl ⟨by rfl, by intro w hSw; have hp9 := HP7.out; clear hSw; go_simp; omega⟩) hHeld5 ?_
  try simp only [Act.put, List.setIfInBounds_toArray, List.set_cons_zero, List.set_cons_succ]
  refine wpAnyH_ready (rs := [21]) (by kernel_rfl) (by simp) ?_
  refine AllReadyH.cons (o := { dst := some 26, op := Op.call { callee := Callee.value (Operand.func 54), args := #[Operand.tmp 25], argTypes := #[9] }, type := 9, pos := "ref.go:69", after := #[{ on := 20, ground := Ground.data }, { on := 16, ground := Ground.chain }], guard := none }) rfl (fun K hK => ?_) AllReadyH.nil
  go_simp
  refine (K4.out w5).mono ?_
  rintro e w6 ⟨rfl, b6⟩
  have B6 : Hid (Below G w w6) := Lib.hid (B5.out.trans (b6.mono (Nat.le_of_lt G5.out.lt)))
  have G6 := Lib.hid (G5.out.below b6 G5.out.lt)
  clear b6
  go_wp2_with fail
  refine hK.out _ _ G6.out (fun hHeld6 => ?_)
  clear hK K hHeld5 B5 G5
  try simp only [Act.put, List.setIfInBounds_toArray, List.set_cons_zero, List.set_cons_succ]
  refine wpAnyH_take (i := 22) (oi := { dst := some 27, op := Op.binOp BinOp.add 9 (Operand.tmp 23) (Operand.tmp 26) 9, type := 9, pos := "ref.go:69", after := #[{ on := 18, ground := Ground.data }, { on := 21, ground := Ground.data }], guard := none }) (v := .string P8) rfl (by kernel_rfl) (by kernel_rfl) (by kernel_rfl) (fun _ _ _ h => h)
    (Or.inl ⟨by rfl, by intro w hSw; have hp9 := HP8.out; clear hSw; go_simp; omega⟩) hHeld6 ?_
  try simp only [Act.put, List.setIfInBounds_toArray, List.set_cons_zero, List.set_cons_succ]
  refine wpAnyH_take (i := 23) (oi := { dst := some 28, op := Op.binOp BinOp.add 9 (Operand.tmp 27) (Operand.const (Value.string { data := #[41] })) 9, type := 9, pos := "ref.go:69", after := #[{ on := 22, ground := Ground.data }], guard := none }) (v := .string P9) rfl (by kernel_rfl) (by kernel_rfl) (by kernel_rfl) (fun _ _ _ h => h)
    (Or.inl ⟨by rfl, by intro w hSw; have hp9 := HP9.out; clear hSw; go_simp; omega⟩) hHeld6 ?_
  try simp only [Act.put, List.setIfInBounds_toArray, List.set_cons_zero, List.set_cons_succ]
  refine wpAnyH_take (i := 24) (oi := { dst := some 4, op := Op.assign (Operand.tmp 28), type := 9, pos := "ref.go:69", after := #[{ on := 23, ground := Ground.data }, { on := 21, ground := Ground.chain }, { on := 0, ground := Ground.phase }, { on := 1, ground := Ground.phase }, { on := 2, ground := Ground.phase }, { on := 3, ground := Ground.phase }, { on := 4, ground := Ground.phase }, { on := 5, ground := Ground.phase }, { on := 6, ground := Ground.phase }, { on := 7, ground := Ground.phase }, { on := 8, ground := Ground.phase }, { on := 9, ground := Ground.phase }, { on := 10, ground := Ground.phase }, { on := 11, ground := Ground.phase }, { on := 12, ground := Ground.phase }, { on := 13, ground := Ground.phase }, { on := 14, ground := Ground.phase }, { on := 15, ground := Ground.phase }, { on := 16, ground := Ground.phase }, { on := 17, ground := Ground.phase }, { on := 18, ground := Ground.phase }, { on := 19, ground := Ground.phase }, { on := 20, ground := Ground.phase }, { on := 21, ground := Ground.phase }, { on := 22, ground := Ground.phase }, { on := 23, ground := Ground.phase }], guard := none }) (v := .string P9) rfl (by kernel_rfl) (by kernel_rfl) (by kernel_rfl) (fun _ _ _ h => h)
    (Or.inl ⟨by rfl, by intro w hSw;  clear hSw; go_simp⟩) hHeld6 ?_
  try simp only [Act.put, List.setIfInBounds_toArray, List.set_cons_zero, List.set_cons_succ]
  refine wpAnyH_done (by kernel_rfl) ?_ _
  clear hHeld6
  go_wp2_with fail
  go_ret
  exact ⟨by rw [HWH.out]; rfl, by rw [← HG.out]; exact B6.out⟩
end Go.Proofs.YtokbakpbhpknfaaGreatDoor

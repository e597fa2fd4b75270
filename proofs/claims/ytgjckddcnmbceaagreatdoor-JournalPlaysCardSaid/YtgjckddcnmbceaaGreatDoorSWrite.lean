/-
  The contract of the device's Write. Conditions: the device; 256 bytes that lie in old memory or in a row of bytes.
-/
import Derived.Test.YtgjckddcnmbceaaGreatDoorSNew
import Derived.Great.BuildSlice
import Derived.Great.FillDense
namespace Go.Proofs.YtgjckddcnmbceaaGreatDoor
open Go.RowKit
set_option linter.unusedVariables false

theorem begin_to {pb bd bl : Nat} {v : Value} {n ops fall : Nat} {off : Bool} {w : World} (hb : Has w pb (boxL bd bl v n ops fall off) 72) (ho : ops < 9223372036854775807) (E : Int) (O : Bool) (hE : E = if ops + 1 = fall then 14 else 0) (hO : O = (off || decide (ops + 1 = fall))) :
    Calls Tryz.prog 48 #[.pointer (some ⟨pb, 0, none⟩)] w fun e w' => e = .returned (.int .i64 E) ∧ Has w' pb (boxL bd bl v n (ops + 1) fall O) 72 ∧ But w.heap.size pb w w' := by
  subst hE hO
  exact begin_any pb bd bl v n ops fall off w hb ho
theorem has_yes {pb bd : Nat} {w : World} {i n : Nat} (hc : w.cell? ⟨pb, 0, none⟩ = some (.slice (some ⟨bd, 0, none⟩) n n)) (hn : n ≤ 8192) (hi : i < n) :
    Calls Tryz.prog 67 #[.pointer (some ⟨pb, 0, none⟩), .int .i64 (i : Int)] w fun e w' => e = .returned (.bool true) ∧ w = w' := by
  have h := has_any pb bd w (i : Int) n hc hn
  rw [decide_eq_true (show (0 : Int) ≤ (i : Int) by omega), decide_eq_true (show (i : Int) < (n : Int) by omega)] at h
  exact h
theorem has_not {pb bd : Nat} {w : World} {i : Int} {n : Nat} (hc : w.cell? ⟨pb, 0, none⟩ = some (.slice (some ⟨bd, 0, none⟩) n n)) (hn : n ≤ 8192) (hi : i < 0 ∨ (n : Int) ≤ i) :
    Calls Tryz.prog 67 #[.pointer (some ⟨pb, 0, none⟩), .int .i64 i] w fun e w' => e = .returned (.bool false) ∧ w = w' := by
  have h := has_any pb bd w i n hc hn
  rw [show (decide (0 ≤ i) && decide (i < (n : Int))) = false by simp; omega] at h
  exact h
theorem ownsRow_below {w w' : World} {B size n : Nat} {e : TypeId} {v : Value} {xs : List Value} (h : w.ownsRow B e size v n xs) (hb : Below w.heap.size w w') : w'.ownsRow B e size v n xs :=
  ownsRow_kp (ts := []) (B := 0) h (Kp.of_below hb) (by simp)
theorem has_grown {w w' : World} {row : Option Nat} {b : Nat} {L : List Value} {t : TypeId} (h : Has w b L t) (hg : w.grownBy w' row) (hne : some b ≠ row) : Has w' b L t := (hg.block b h.lt hne).trans h
theorem wpList_build_to {P : Program} {ops : Array Oper} {rest : List Oper} {o : Oper} {a : Act} {w : World} {Q : Exit → Act → World → Prop} (hg : o.guard = none) (t : TypeId) (parts : Array (Nat × Operand)) (ho : o.op = .build t parts)
    (cs : Array Value) (hb : P.built t (parts.map fun (i, x) => (i, a.eval x)).toList = some cs)
    (h : wpList P ops Q rest (a.put o.dst (.agg cs)) w) : wpList P ops Q (o :: rest) a w :=
  wpList_build hg t parts ho (by rw [hb]; rfl) (by rw [hb]; exact h)
theorem wcells_length {x : Wr} (h : x.2.length = 256) : (wcells x).length = 257 := by simp [wcells, h]
theorem wcells_one (x : Wr) : ∀ v ∈ wcells x, v.oneCell' = true := by
  intro v hv
  rcases List.mem_cons.1 hv with rfl | hv
  · rfl
  · exact bv_one _ v hv
theorem wcells_lay (i : Nat) (p : List UInt8) (hp : p.length = 256) : splice (wcells (i, zer 256)) 1 (p.map bv) = wcells (i, p) := by
  have hl : (wcells (i, zer 256)).length = 257 := wcells_length (List.length_replicate ..)
  unfold splice
  rw [show 1 + (p.map bv).length = 257 by rw [List.length_map, hp], List.drop_eq_nil_of_le (Nat.le_of_eq hl), List.append_nil]
  rfl
theorem fill_any {s : Nat} (hs : 0 < s) {l Z : List Value} (hl : l.length = s) :
    Instr.fill (fun i => some (i * s, s)) ((Array.range (1 * s)).map ((Value.agg Z.toArray).cells[· % (Value.agg Z.toArray).cells.size]!)) [(0, .agg l.toArray)] = some l.toArray := by
  have h := Great.fill_whole (s := s) hs [Value.agg l.toArray] ((Array.range (1 * s)).map ((Value.agg Z.toArray).cells[· % (Value.agg Z.toArray).cells.size]!)) (by intro v hv; simp at hv; subst hv; simpa [Value.cells] using hl) (by simp)
  simpa [Value.cells] using h
theorem fill_one {l Z : List Value} (hl : l.length = 257) :
    Instr.fill (fun i => some (i * 257, 257)) ((Array.range (1 * 257)).map ((Value.agg Z.toArray).cells[· % (Value.agg Z.toArray).cells.size]!)) [(0, .agg l.toArray)] = some l.toArray := fill_any (by decide) hl
/-- Memory that a device's calls leave alone: old, or a row of bytes. -/
def Safe (w : World) (B b : Nat) : Prop := b < w.heap.size ∧ (b < B ∨ ∃ X, Has w b X 5)
theorem Safe.kp {w w' : World} {B b : Nat} (h : Safe w B b) (hk : Kp devT B w w') : w'.heap[b]? = w.heap[b]? :=
  hk.block b h.1 (h.2.imp id fun ⟨X, hX⟩ cs t fr hc => by
    have e := hc.symm.trans (show w.heap[b]? = some (.cells X.toArray 5 (0, 0)) from hX)
    simp only [Option.some.injEq, Obj.cells.injEq] at e
    rw [e.2.1]; decide)

/-- Behind a Write that isn't refused. -/
def WriteP (B pb bd bl n : Nat) (D L : List UInt8) (way : List Wr) (ops fall : Nat) (i : Nat) (p : List UInt8) (w : World) (e : Ending) (w' : World) : Prop :=
  ∃ v', e = .returned (.int .i64 (if ops + 1 = fall then 14 else 0)) ∧ Dev w' B pb bd bl v' n D (splice L (256 * i) p) (way ++ [(i, p)]) (ops + 1) fall (decide (ops + 1 = fall)) ∧ Kp devT B w w'

set_option maxRecDepth 100000 in
set_option maxHeartbeats 8000000 in
theorem write_ok {w : World} {B pb bd bl : Nat} {v : Value} {n : Nat} {D L : List UInt8} {way : List Wr} {ops fall : Nat} (h : Dev w B pb bd bl v n D L way ops fall false) (i : Nat) (hi : i < n) (b off0 cap : Nat) (p : List UInt8) (hp : p.length = 256)
    (hsrc : ∀ j, j < 256 → w.cell? ⟨b, off0 + j, none⟩ = some (bv (p.getD j 0))) (hs : Safe w B b) (ho : ops < 4611686018427387904) (hw : way.length ≤ 100000) (hBw : B ≤ w.heap.size) :
    Calls Tryz.prog 55 #[.pointer (some ⟨pb, 0, none⟩), .int .i64 (i : Int), .slice (some ⟨b, off0, none⟩) 256 cap] w (WriteP B pb bd bl n D L way ops fall i p w) := by
  obtain ⟨E, hE⟩ : ∃ E : Int, E = if ops + 1 = fall then 14 else 0 := ⟨_, rfl⟩
  obtain ⟨Of, hO⟩ : ∃ Of : Bool, Of = (false || decide (ops + 1 = fall)) := ⟨_, rfl⟩
  have HBEG := Lib.hid (begin_to h.box (by omega) E Of hE hO)
  have HYES := Lib.hid (has_yes (i := i) (h.box.cellAt (i := 0) rfl) h.room hi)
  have c5 := h.box.cellAt (i := 5) rfl
  have HE := Lib.hid hE
  have HO := Lib.hid hO
  have HH := Lib.hid h
  have HP := Lib.hid hp
  have HSRC0 := Lib.hid hsrc
  have HS := Lib.hid hs
  have HBW := Lib.hid hBw
  have hin : (i : Int) < (n : Int) := by omega
  clear h hp hsrc hs hE hO hBw
  obtain ⟨Z0, hZ0⟩ : ∃ Z0, Z0 = (wcells (0, zer 256)).toArray := ⟨_, rfl⟩
  obtain ⟨W0, hW0⟩ : ∃ W0, W0 = (wcells (i, zer 256)).toArray := ⟨_, rfl⟩
  have hz := zeroW
  rw [← hZ0] at hz
  have HBU : Hid (Tryz.prog.built 77 [(0, .int .i64 (i : Int))] = some W0) := Lib.hid (by rw [hW0]; exact builtW (i : Int))
  have HZ0 := Lib.hid hZ0
  have HW0 := Lib.hid hW0
  have IW : Hid ((Tryz.prog.info? 77).map (·.size) = some W0.size) := Lib.hid (by rw [hW0, List.size_toArray, wcells_length (by simp [zer])]; kernel_rfl)
  have IZ : Hid (Z0.size = W0.size) := Lib.hid (by rw [hW0, hZ0, List.size_toArray, List.size_toArray, wcells_length (by simp [zer]), wcells_length (by simp [zer])])
  have IO : Hid (W0.all (·.oneCell') = true) := Lib.hid (by rw [hW0]; exact all_oneCell_toArray (wcells_one _))
  clear hZ0 hW0
  go_enter Tryz.func55, Tryz.ntmps55
  go_wp2_with (first | (go_at_call 67; refine HYES.out.mono ?_; rintro e w' ⟨rfl, rfl⟩))
  refine HBEG.out.mono ?_
  rintro e w1 ⟨rfl, hx1, hb1⟩
  have H1 := Lib.hid hx1
  have B1 := Lib.hid hb1
  clear hx1 hb1 c5 HBEG HYES
  obtain ⟨H, hH⟩ : ∃ H, H = w1.heap.size := ⟨_, rfl⟩
  obtain ⟨w2, hw2⟩ : ∃ w2, w2 = w1.alloc (.cells Z0 77) := ⟨_, rfl⟩
  have G2 : Hid (w2.heap[H]? = some (.cells Z0 77 (0, 0))) := Lib.hid (by rw [hw2, hH]; exact heap_alloc_new _ _)
  have hB2 : Below H w1 w2 := by rw [hw2, hH]; exact (Below.refl _ _).alloc (Nat.le_refl _) _
  obtain ⟨w2', hw2'⟩ : ∃ x, x = w2.setRow H W0 := ⟨_, rfl⟩
  have X2 : Hid (w2'.heap[H]? = some (.cells (wcells (i, zer 256)).toArray 77 (0, 0))) := Lib.hid (by rw [hw2', ← HW0.out]; exact setRow_heap _ _ _ _ _ _ G2.out)
  have B2 : Hid (Below H w1 w2') := Lib.hid (by rw [hw2']; exact below_setRow hB2 (Nat.le_refl _) _)
  go_upto_region 11 with (first
    | (refine wpList_build_to rfl 77 _ rfl W0 ((congrArg (Tryz.prog.built 77) (show _ = [(0, Value.int .i64 (i : Int))] from by simp only [List.map_toArray, List.map_cons, List.map_nil]; rfl)).trans HBU.out) ?_)
    | (rw [← hw2, ← hH]; refine wpList_store_row rfl 77 _ _ rfl H W0 rfl rfl 77 Z0 G2.out IW.out IZ.out IO.out ?_))
  rw [← hw2']
  have HHH := Lib.hid hH
  clear hz hw2 hw2' hB2 G2
  obtain ⟨X, hX⟩ : ∃ X, X = p.map bv := ⟨_, rfl⟩
  have HU := Lib.hid infoU
  have HXL : Hid (X.length = Nat.min 256 256) := Lib.hid (by rw [hX, List.length_map, HP.out]; rfl)
  have HFT : Hid (1 + X.length ≤ (wcells (i, zer 256)).length) := Lib.hid (by rw [hX, List.length_map, HP.out, wcells_length (by simp [zer])]; exact Nat.le_refl _)
  have HON : Hid (∀ v ∈ X, v.oneCell' = true) := Lib.hid (by rw [hX]; exact bv_one _)
  have hbp : b ≠ pb := by
    rcases HS.out.2 with h0 | ⟨Y, hY⟩
    · have := HH.out.pbB; omega
    · exact has_type hY HH.out.box (by decide)
  have hcell1 : ∀ w' : World, w'.heap[b]? = w.heap[b]? → ∀ j u, X[j]? = some u → w'.cell? ((⟨b, off0, none⟩ : Addr).add j) = some u := by
    intro w' hw' j u hj
    have hjl : j < 256 := by have := (List.getElem?_eq_some_iff.1 hj).1; rw [hX, List.length_map, HP.out] at this; exact this
    rw [Addr.add_mid, World.cell?_of_block (w := w) hw', HSRC0.out j hjl, ← hj, hX, map_bv_get _ _ (by rw [HP.out]; exact hjl)]
  have HC1 := Lib.hid hcell1
  have K1 : Hid (w1.heap[b]? = w.heap[b]?) := Lib.hid (B1.out.block b HS.out.1 hbp)
  have K2 : Hid (w2'.heap[b]? = w.heap[b]?) := Lib.hid ((B2.out.block b (by rw [hH]; exact Nat.lt_of_lt_of_le HS.out.1 B1.out.size)).trans K1.out)
  have HX := Lib.hid hX
  clear hX hcell1
  have HSR2 := Lib.hid (HC1.out w2' K2.out)
  clear hH
  go_upto_region 12 with (refine wpList_copy_but rfl (.tmp 27) (.tmp 28) 33 33 rfl 5 Tryz.underlying33 HU.out (some ⟨H, 1, none⟩) (some ⟨b, off0, none⟩) 256 256 256 cap rfl rfl H 1 (wcells (i, zer 256)) 77 X2.out X HXL.out (fun _ => ⟨rfl, _, rfl, HSR2.out⟩) HFT.out HON.out ?_; intro w3 hg3 hb3)
  obtain ⟨WC, hWC⟩ : ∃ WC, WC = wcells (i, p) := ⟨_, rfl⟩
  have X3 : Hid (Has w3 H WC 77) := Lib.hid (by
    have h := hg3.out
    rw [HX.out, wcells_lay i p HP.out] at h
    rw [hWC]; exact h)
  have B3 : Hid (Below H w1 w3) := Lib.hid (B2.out.trans ((hb3.out.mono (B2.out.size |> fun h => by rw [HHH.out]; exact h)).below (Nat.le_refl _)))
  clear hg3 hb3 X2 B2 K2 HSR2
  have HWCL : Hid (WC.length = 1 * 257) := Lib.hid (by rw [hWC, wcells_length HP.out])
  have HONEW : Hid (∀ u ∈ WC, u.oneCell' = true) := Lib.hid (by rw [hWC]; exact wcells_one _)
  have IWC : Hid ((Tryz.prog.info? 77).map (·.size) = some WC.length) := Lib.hid (by rw [HWCL.out]; kernel_rfl)
  obtain ⟨iW, zW, hi0, hi1, hi2, hi3, hi4⟩ := infoW_z
  have HI0 := Lib.hid hi0
  have HI1 := Lib.hid hi1
  have HI2 := Lib.hid hi2
  have HI3 := Lib.hid hi3
  have HI4 := Lib.hid hi4.1
  have HFILL : Hid (Instr.fill (fun i => some (i * 257, 257)) ((Array.range (1 * 257)).map (zW.cells[· % zW.cells.size]!)) [(0, .agg WC.toArray)] = some WC.toArray) := Lib.hid (by rw [hi4.2]; exact fill_one (by rw [HWCL.out]))
  have HP3 : Hid (Has w3 pb (boxL bd bl v n (ops + 1) fall Of) 72) := Lib.hid (H1.out.below B3.out (by rw [HHH.out]; exact H1.out.lt))
  have HWR1 : Hid (w1.ownsRow B 77 257 v way.length (wayV way)) := Lib.hid (ownsRow_but HH.out.wrs B1.out (Nat.le_refl _) (own_type HH.out.wrs HH.out.box (by decide)))
  have HWR3 : Hid (w3.ownsRow B 77 257 v way.length (wayV way)) := Lib.hid (ownsRow_below (w := w1) HWR1.out (by rw [← HHH.out]; exact B3.out))
  have HPH : Hid (H ≠ pb) := Lib.hid (by have := H1.out.lt; rw [← HHH.out] at this; omega)
  have HNP : Hid (some pb ≠ v.ownBlock) := Lib.hid (Ne.symm (own_type HH.out.wrs HH.out.box (by decide)))
  have HNV : Hid (some H ≠ v.ownBlock) := Lib.hid (fun e => by have := (HWR1.out.lt H e.symm).2; rw [← HHH.out] at this; omega)
  have HWCE := Lib.hid hWC
  clear hi0 hi1 hi2 hi3 hi4 hWC
  have HL1 : Hid (Has w1 bl (L.map bv) 75) := Lib.hid (HH.out.lat.but B1.out HH.out.lat.lt (has_type HH.out.lat HH.out.box (by decide)))
  have HD1 : Hid (Has w1 bd (D.map bv) 75) := Lib.hid (HH.out.dur.but B1.out HH.out.dur.lt (has_type HH.out.dur HH.out.box (by decide)))
  have HL3 : Hid (Has w3 bl (L.map bv) 75) := Lib.hid (HL1.out.below B3.out (by rw [HHH.out]; exact HL1.out.lt))
  have HD3 : Hid (Has w3 bd (D.map bv) 75) := Lib.hid (HD1.out.below B3.out (by rw [HHH.out]; exact HD1.out.lt))
  have HNL : Hid (some bl ≠ v.ownBlock) := Lib.hid (Ne.symm (own_type HH.out.wrs HH.out.lat (by decide)))
  have HND : Hid (some bd ≠ v.ownBlock) := Lib.hid (Ne.symm (own_type HH.out.wrs HH.out.dur (by decide)))
  have HNB : Hid (some b ≠ v.ownBlock) := Lib.hid (by
    rcases HS.out.2 with h0 | ⟨Y, hY⟩
    · intro e; have := (HH.out.wrs.lt b e.symm).1; omega
    · exact Ne.symm (own_type HH.out.wrs hY (by decide)))
  have HBP : Hid (b ≠ pb) := Lib.hid hbp
  have K3 : Hid (w3.heap[b]? = w.heap[b]?) := Lib.hid ((B3.out.block b (by rw [HHH.out]; exact Nat.lt_of_lt_of_le HS.out.1 B1.out.size)).trans K1.out)
  have HB3 : Hid (b < w3.heap.size) := Lib.hid (Nat.lt_of_lt_of_le HS.out.1 (Nat.le_trans B1.out.size B3.out.size))
  have KP3 : Hid (Kp devT B w w3) := Lib.hid ((Kp.of_but B1.out HH.out.pbB HH.out.box (by decide)).trans (Kp.of_below (by rw [← HHH.out]; exact B3.out)))
  have HF6 : Hid (i * 256 + X.length ≤ (L.map bv).length) := Lib.hid (by rw [HXL.out, List.length_map, Nat.mul_comm]; exact fits HH.out.ll hi (Nat.le_refl _))
  clear hbp
  refine wp_region_held_drew (S := fun W => Has W H WC 77) (by kernel_rfl) X3.out.drew (fun hHeld => ?_)
  refine wpAnyH_take (i := 0) (oi := { dst := some 30, op := Op.move (Operand.tmp 0), type := 24, pos := "sector.go:81", after := #[], guard := none }) (v := .pointer (some ⟨pb, 0, none⟩)) rfl (by kernel_rfl) (by kernel_rfl) (by kernel_rfl) (fun _ _ _ h => h)
    (Or.inl ⟨by rfl, by intro w hSw;  clear hSw; go_simp⟩) hHeld ?_
  try simp only [Act.put, List.setIfInBounds_toArray, List.set_cons_zero, List.set_cons_succ]
  refine wpAnyH_take (i := 1) (oi := { dst := some 31, op := Op.move (Operand.tmp 0), type := 24, pos := "sector.go:81", after := #[], guard := none }) (v := .pointer (some ⟨pb, 0, none⟩)) rfl (by kernel_rfl) (by kernel_rfl) (by kernel_rfl) (fun _ _ _ h => h)
    (Or.inl ⟨by rfl, by intro w hSw;  clear hSw; go_simp⟩) hHeld ?_
  try simp only [Act.put, List.setIfInBounds_toArray, List.set_cons_zero, List.set_cons_succ]
  refine wpAnyH_take (i := 2) (oi := { dst := some 32, op := Op.nilCheck (Operand.tmp 31), type := 0, pos := "sector.go:81", after := #[{ on := 1, ground := Ground.data }], guard := none }) (v := .pointer (some ⟨pb, 0, none⟩)) rfl (by kernel_rfl) (by kernel_rfl) (by kernel_rfl) (fun _ _ _ h => h)
    (Or.inl ⟨by rfl, by intro w hSw;  clear hSw; go_simp⟩) hHeld ?_
  try simp only [Act.put, List.setIfInBounds_toArray, List.set_cons_zero, List.set_cons_succ]
  refine wpAnyH_take (i := 3) (oi := { dst := some 33, op := Op.fieldAddr 72 (Operand.tmp 32) 2, type := 0, pos := "sector.go:81", after := #[{ on := 2, ground := Ground.data }], guard := none }) (v := .pointer (some ⟨pb, 2, none⟩)) rfl (by kernel_rfl) (by kernel_rfl) (by kernel_rfl) (fun _ _ _ h => h)
    (Or.inl ⟨by rfl, by intro w hSw;  clear hSw; go_simp⟩) hHeld ?_
  try simp only [Act.put, List.setIfInBounds_toArray, List.set_cons_zero, List.set_cons_succ]
  refine wpAnyH_take (i := 5) (oi := { dst := some 35, op := Op.load 77 (Operand.tmp 8), type := 77, pos := "sector.go:81", after := #[], guard := none }) rfl (by kernel_rfl) (by kernel_rfl) (by kernel_rfl) (fun _ _ _ h => h)
    (yieldsIf_load_mid (by rfl) 77 (.tmp 8) rfl H (0) rfl WC _ (fun _ h => (fun j u hj => by rw [Nat.zero_add]; exact Has.cellAt h hj)) Tryz.underlying77 rfl IWC.out) hHeld ?_
  try simp only [Act.put, List.setIfInBounds_toArray, List.set_cons_zero, List.set_cons_succ]
  refine wpAnyH_ready (rs := [4, 6]) (by kernel_rfl) (by simp) ?_
  refine AllReadyH.cons (o := { dst := some 34, op := Op.load 65 (Operand.tmp 33), type := 65, pos := "sector.go:81", after := #[{ on := 3, ground := Ground.data }], guard := none }) rfl (fun K hK => ?_) (AllReadyH.cons (o := { dst := some 36, op := Op.buildSlice 65 1 #[(0, Operand.tmp 35)], type := 65, pos := "sector.go:81", after := #[{ on := 5, ground := Ground.data }], guard := none }) rfl (fun K hK => ?_) AllReadyH.nil)
  · have hcl := (HP3.out.drew).cellAt (i := 2) rfl
    go_simp
    clear hcl
    refine hK.out _ _ X3.out.drew (fun hHeld1 => ?_)
    clear hK K hHeld
    try simp only [Act.put, List.setIfInBounds_toArray, List.set_cons_zero, List.set_cons_succ]
    refine wpAnyH_ready (rs := [6]) (by kernel_rfl) (by simp) ?_
    refine AllReadyH.cons (o := { dst := some 36, op := Op.buildSlice 65 1 #[(0, Operand.tmp 35)], type := 65, pos := "sector.go:81", after := #[{ on := 5, ground := Ground.data }], guard := none }) rfl (fun K hK => ?_) AllReadyH.nil
    rw [if_pos (by rfl)]
    refine wp_buildSlice 65 77 1 _ rfl WC.toArray iW zW Tryz.underlying65 HI0.out HI1.out (by rw [HI2.out]; decide) (by rw [HI2.out]; decide) (by rw [HI2.out]; refine Eq.trans (congrArg _ ?_) HFILL.out; simp [Act.eval]) ?_
    obtain ⟨w4, hw4⟩ : ∃ w4, w4 = w3.drew.alloc (.cells WC.toArray 77) := ⟨_, rfl⟩
    have S4 : w3.drew.heap.size = w3.heap.size := rfl
    rw [← hw4, S4]
    have n4 := Lib.hid (show Has w4 w3.heap.size WC 77 by rw [hw4]; exact Has.new w3.drew WC _)
    have b4 := Lib.hid (show Below w3.heap.size w3 w4 by rw [hw4]; exact ((Below.refl _ _).drew).alloc (Nat.le_refl _) _)
    clear hw4 S4
    refine hK.out _ _ (X3.out.below b4.out X3.out.lt) (fun hHeld2 => ?_)
    clear hK K hHeld1
    try simp only [Act.put, List.setIfInBounds_toArray, List.set_cons_zero, List.set_cons_succ]
    refine wpAnyH_ready (rs := [7]) (by kernel_rfl) (by simp) ?_
    refine AllReadyH.cons (o := { dst := some 37, op := Op.call { callee := Callee.builtin Builtin.append, args := #[Operand.tmp 34, Operand.tmp 36], argTypes := #[65, 65] }, type := 65, pos := "sector.go:81", after := #[{ on := 4, ground := Ground.data }, { on := 6, ground := Ground.data }], guard := none }) rfl (fun K hK => ?_) AllReadyH.nil
    rw [if_pos (by rfl)]
    have ow4 := ownsRow_below HWR3.out b4.out
    refine wp_append_lies _ (.tmp 34) (.tmp 36) 65 rfl B 77 iW zW 257 264 Tryz.underlying65 HI0.out HI1.out HI2.out HI3.out HI4.out (by omega) v way.length (wayV way) rfl ow4 ⟨w3.heap.size, 0, none⟩ 1 1 WC rfl HWCL.out (fun j u hj => by rw [Addr.add_lit, Nat.zero_add]; exact n4.out.cellAt hj) HONEW.out (by omega) (by unfold maxLen; omega) (by omega) (Nat.le_trans HBW.out (Nat.le_trans B1.out.size (Nat.le_trans B3.out.size (Nat.le_of_lt n4.out.lt)))) _ rfl (fun ga capa w5 h5o h5g h5b h5s => ?_)
    have h5 : Has w5 H WC 77 := has_grown (X3.out.below b4.out X3.out.lt) h5g HNV.out
    have H5O := Lib.hid h5o
    have H5G := Lib.hid h5g
    have P5 := Lib.hid (has_grown (HP3.out.below b4.out HP3.out.lt) h5g HNP.out)
    clear h5o h5g h5b h5s ow4
    refine hK.out _ _ h5 (fun hHeld3 => ?_)
    clear hK K hHeld2 h5
    try simp only [Act.put, List.setIfInBounds_toArray, List.set_cons_zero, List.set_cons_succ]
    refine wpAnyH_take (i := 8) (oi := { dst := some 38, op := Op.nilCheck (Operand.tmp 30), type := 0, pos := "sector.go:81", after := #[{ on := 0, ground := Ground.data }, { on := 0, ground := Ground.phase }, { on := 1, ground := Ground.phase }, { on := 2, ground := Ground.phase }, { on := 3, ground := Ground.phase }, { on := 4, ground := Ground.phase }, { on := 5, ground := Ground.phase }, { on := 6, ground := Ground.phase }, { on := 7, ground := Ground.phase }], guard := none }) (v := .pointer (some ⟨pb, 0, none⟩)) rfl (by kernel_rfl) (by kernel_rfl) (by kernel_rfl) (fun _ _ _ h => h)
      (Or.inl ⟨by rfl, by intro w hSw;  clear hSw; go_simp⟩) hHeld3 ?_
    try simp only [Act.put, List.setIfInBounds_toArray, List.set_cons_zero, List.set_cons_succ]
    refine wpAnyH_take (i := 9) (oi := { dst := some 39, op := Op.fieldAddr 72 (Operand.tmp 38) 2, type := 0, pos := "sector.go:81", after := #[{ on := 8, ground := Ground.data }, { on := 0, ground := Ground.phase }, { on := 1, ground := Ground.phase }, { on := 2, ground := Ground.phase }, { on := 3, ground := Ground.phase }, { on := 4, ground := Ground.phase }, { on := 5, ground := Ground.phase }, { on := 6, ground := Ground.phase }, { on := 7, ground := Ground.phase }], guard := none }) (v := .pointer (some ⟨pb, 2, none⟩)) rfl (by kernel_rfl) (by kernel_rfl) (by kernel_rfl) (fun _ _ _ h => h)
      (Or.inl ⟨by rfl, by intro w hSw;  clear hSw; go_simp⟩) hHeld3 ?_
    try simp only [Act.put, List.setIfInBounds_toArray, List.set_cons_zero, List.set_cons_succ]
    refine wpAnyH_ready (rs := [10]) (by kernel_rfl) (by simp) ?_
    refine AllReadyH.cons (o := { dst := none, op := Op.store 65 (Operand.tmp 39) (Operand.tmp 37), type := 0, pos := "sector.go:81", after := #[{ on := 9, ground := Ground.data }, { on := 7, ground := Ground.data }, { on := 7, ground := Ground.chain }, { on := 0, ground := Ground.phase }, { on := 1, ground := Ground.phase }, { on := 2, ground := Ground.phase }, { on := 3, ground := Ground.phase }, { on := 4, ground := Ground.phase }, { on := 5, ground := Ground.phase }, { on := 6, ground := Ground.phase }, { on := 7, ground := Ground.phase }], guard := none }) rfl (fun K hK => ?_) AllReadyH.nil
    have hcell5 := P5.out.cellAt (i := 2) rfl
    have hfrz5 := P5.out.frozen 2
    go_simp
    clear hcell5 hfrz5
    refine hK.out _ _ (hHeld3.setOther (a := ⟨pb, 2, none⟩) HPH.out _) (fun hHeld4 => ?_)
    clear hK K hHeld3
    try simp only [Act.put]
    refine wpAnyH_done (by kernel_rfl) ?_ _
    clear hHeld4
    obtain ⟨w6, hw6⟩ : ∃ w6, w6 = w5.setCell ⟨pb, 2, none⟩ (.slice (some ⟨ga, 0, none⟩) (way.length + 1) capa) := ⟨_, rfl⟩
    rw [← hw6]
    have P6 : Hid (Has w6 pb (boxL bd bl (.slice (some ⟨ga, 0, none⟩) (way.length + 1) capa) n (ops + 1) fall Of) 72) := Lib.hid (by rw [hw6]; exact P5.out.set 2 _)
    have L6 : Hid (Has w6 bl (L.map bv) 75) := Lib.hid (by rw [hw6]; exact (has_grown (HL3.out.below b4.out HL3.out.lt) H5G.out HNL.out).setOther (a := ⟨pb, 2, none⟩) (has_type HH.out.lat HH.out.box (by decide)) _)
    have D6 : Hid (Has w6 bd (D.map bv) 75) := Lib.hid (by rw [hw6]; exact (has_grown (HD3.out.below b4.out HD3.out.lt) H5G.out HND.out).setOther (a := ⟨pb, 2, none⟩) (has_type HH.out.dur HH.out.box (by decide)) _)
    have b65 : But w5.heap.size pb w5 w6 := by rw [hw6]; exact (But.refl _ _ _).setB 2 _
    have O6 : Hid (w6.ownsRow B 77 257 (.slice (some ⟨ga, 0, none⟩) (way.length + 1) capa) (way.length + 1) (wayV (way ++ [(i, p)]))) := Lib.hid (by
      have h := ownsRow_but H5O.out b65 (Nat.le_refl _) (own_type H5O.out P5.out (by decide))
      rw [wayV_snoc, ← HWCE.out]; exact h)
    have K6 : Hid (w6.heap[b]? = w.heap[b]?) := Lib.hid ((b65.block b (Nat.lt_of_lt_of_le HB3.out (Nat.le_trans b4.out.size H5G.out.size)) HBP.out).trans ((H5G.out.block b (Nat.lt_of_lt_of_le HB3.out b4.out.size) HNB.out).trans ((b4.out.block b HB3.out).trans K3.out)))
    have KP6 : Hid (Kp devT B w w6) := Lib.hid (KP3.out.trans ((Kp.of_below b4.out).trans ((Kp.grown H5G.out (ownsRow_below HWR3.out b4.out) (Nat.le_refl _) (by decide)).trans (Kp.of_but b65 HH.out.pbB P5.out (by decide)))))
    have HSR6 := Lib.hid (HC1.out w6 K6.out)
    have HG6 : Hid (w6.heap[bl]? = some (.cells (L.map bv).toArray 75 (0, 0))) := Lib.hid L6.out
    have c1 := P6.out.cellAt (i := 1) rfl
    clear hw6 b65
    go_wp2_with (refine wpList_copy_but rfl (.tmp 46) (.tmp 47) 33 33 rfl 5 Tryz.underlying33 HU.out (some ⟨bl, i * 256, none⟩) (some ⟨b, off0, none⟩) 256 256 256 cap rfl rfl bl (i * 256) (L.map bv) 75 HG6.out X HXL.out (fun _ => ⟨rfl, _, rfl, HSR6.out⟩) HF6.out HON.out ?_; intro w7 hg7 hb7)
    go_ret
    have l7 : Has w7 bl ((splice L (256 * i) p).map bv) 75 := by
      have h := hg7.out
      rw [HX.out, splice_map, Nat.mul_comm] at h
      exact h
    refine ⟨_, by rw [← HE.out]; rfl, ⟨P6.out.but hb7.out P6.out.lt (Ne.symm (has_type HH.out.lat HH.out.box (by decide))) |> fun h => by rw [HO.out, Bool.false_or] at h; exact h, D6.out.but hb7.out D6.out.lt HH.out.ne, l7, ?_, HH.out.dl, ?_, HH.out.good.snoc hi HP.out, HH.out.pbB, HH.out.bdB, HH.out.blB, HH.out.ne, HH.out.room⟩, KP6.out.trans (Kp.of_but hb7.out HH.out.blB L6.out (by decide))⟩
    · have h := ownsRow_but O6.out hb7.out (Nat.le_refl _) (own_type O6.out L6.out (by decide))
      rw [List.length_append]; exact h
    · rw [length_splice _ _ _ (fits HH.out.ll hi (Nat.le_of_eq HP.out)), HH.out.ll]
  · rw [if_pos (by rfl)]
    refine wp_buildSlice 65 77 1 _ rfl WC.toArray iW zW Tryz.underlying65 HI0.out HI1.out (by rw [HI2.out]; decide) (by rw [HI2.out]; decide) (by rw [HI2.out]; refine Eq.trans (congrArg _ ?_) HFILL.out; simp [Act.eval]) ?_
    obtain ⟨w4, hw4⟩ : ∃ w4, w4 = w3.drew.alloc (.cells WC.toArray 77) := ⟨_, rfl⟩
    have S4 : w3.drew.heap.size = w3.heap.size := rfl
    rw [← hw4, S4]
    have n4 := Lib.hid (show Has w4 w3.heap.size WC 77 by rw [hw4]; exact Has.new w3.drew WC _)
    have b4 := Lib.hid (show Below w3.heap.size w3 w4 by rw [hw4]; exact ((Below.refl _ _).drew).alloc (Nat.le_refl _) _)
    clear hw4 S4
    refine hK.out _ _ (X3.out.below b4.out X3.out.lt) (fun hHeld1 => ?_)
    clear hK K hHeld
    try simp only [Act.put, List.setIfInBounds_toArray, List.set_cons_zero, List.set_cons_succ]
    refine wpAnyH_ready (rs := [4]) (by kernel_rfl) (by simp) ?_
    refine AllReadyH.cons (o := { dst := some 34, op := Op.load 65 (Operand.tmp 33), type := 65, pos := "sector.go:81", after := #[{ on := 3, ground := Ground.data }], guard := none }) rfl (fun K hK => ?_) AllReadyH.nil
    have hcl := (HP3.out.below b4.out HP3.out.lt).cellAt (i := 2) rfl
    go_simp
    clear hcl
    refine hK.out _ _ (X3.out.below b4.out X3.out.lt) (fun hHeld2 => ?_)
    clear hK K hHeld1
    try simp only [Act.put, List.setIfInBounds_toArray, List.set_cons_zero, List.set_cons_succ]
    refine wpAnyH_ready (rs := [7]) (by kernel_rfl) (by simp) ?_
    refine AllReadyH.cons (o := { dst := some 37, op := Op.call { callee := Callee.builtin Builtin.append, args := #[Operand.tmp 34, Operand.tmp 36], argTypes := #[65, 65] }, type := 65, pos := "sector.go:81", after := #[{ on := 4, ground := Ground.data }, { on := 6, ground := Ground.data }], guard := none }) rfl (fun K hK => ?_) AllReadyH.nil
    rw [if_pos (by rfl)]
    have ow4 := ownsRow_below HWR3.out b4.out
    refine wp_append_lies _ (.tmp 34) (.tmp 36) 65 rfl B 77 iW zW 257 264 Tryz.underlying65 HI0.out HI1.out HI2.out HI3.out HI4.out (by omega) v way.length (wayV way) rfl ow4 ⟨w3.heap.size, 0, none⟩ 1 1 WC rfl HWCL.out (fun j u hj => by rw [Addr.add_lit, Nat.zero_add]; exact n4.out.cellAt hj) HONEW.out (by omega) (by unfold maxLen; omega) (by omega) (Nat.le_trans HBW.out (Nat.le_trans B1.out.size (Nat.le_trans B3.out.size (Nat.le_of_lt n4.out.lt)))) _ rfl (fun ga capa w5 h5o h5g h5b h5s => ?_)
    have h5 : Has w5 H WC 77 := has_grown (X3.out.below b4.out X3.out.lt) h5g HNV.out
    have H5O := Lib.hid h5o
    have H5G := Lib.hid h5g
    have P5 := Lib.hid (has_grown (HP3.out.below b4.out HP3.out.lt) h5g HNP.out)
    clear h5o h5g h5b h5s ow4
    refine hK.out _ _ h5 (fun hHeld3 => ?_)
    clear hK K hHeld2 h5
    try simp only [Act.put, List.setIfInBounds_toArray, List.set_cons_zero, List.set_cons_succ]
    refine wpAnyH_take (i := 8) (oi := { dst := some 38, op := Op.nilCheck (Operand.tmp 30), type := 0, pos := "sector.go:81", after := #[{ on := 0, ground := Ground.data }, { on := 0, ground := Ground.phase }, { on := 1, ground := Ground.phase }, { on := 2, ground := Ground.phase }, { on := 3, ground := Ground.phase }, { on := 4, ground := Ground.phase }, { on := 5, ground := Ground.phase }, { on := 6, ground := Ground.phase }, { on := 7, ground := Ground.phase }], guard := none }) (v := .pointer (some ⟨pb, 0, none⟩)) rfl (by kernel_rfl) (by kernel_rfl) (by kernel_rfl) (fun _ _ _ h => h)
      (Or.inl ⟨by rfl, by intro w hSw;  clear hSw; go_simp⟩) hHeld3 ?_
    try simp only [Act.put, List.setIfInBounds_toArray, List.set_cons_zero, List.set_cons_succ]
    refine wpAnyH_take (i := 9) (oi := { dst := some 39, op := Op.fieldAddr 72 (Operand.tmp 38) 2, type := 0, pos := "sector.go:81", after := #[{ on := 8, ground := Ground.data }, { on := 0, ground := Ground.phase }, { on := 1, ground := Ground.phase }, { on := 2, ground := Ground.phase }, { on := 3, ground := Ground.phase }, { on := 4, ground := Ground.phase }, { on := 5, ground := Ground.phase }, { on := 6, ground := Ground.phase }, { on := 7, ground := Ground.phase }], guard := none }) (v := .pointer (some ⟨pb, 2, none⟩)) rfl (by kernel_rfl) (by kernel_rfl) (by kernel_rfl) (fun _ _ _ h => h)
      (Or.inl ⟨by rfl, by intro w hSw;  clear hSw; go_simp⟩) hHeld3 ?_
    try simp only [Act.put, List.setIfInBounds_toArray, List.set_cons_zero, List.set_cons_succ]
    refine wpAnyH_ready (rs := [10]) (by kernel_rfl) (by simp) ?_
    refine AllReadyH.cons (o := { dst := none, op := Op.store 65 (Operand.tmp 39) (Operand.tmp 37), type := 0, pos := "sector.go:81", after := #[{ on := 9, ground := Ground.data }, { on := 7, ground := Ground.data }, { on := 7, ground := Ground.chain }, { on := 0, ground := Ground.phase }, { on := 1, ground := Ground.phase }, { on := 2, ground := Ground.phase }, { on := 3, ground := Ground.phase }, { on := 4, ground := Ground.phase }, { on := 5, ground := Ground.phase }, { on := 6, ground := Ground.phase }, { on := 7, ground := Ground.phase }], guard := none }) rfl (fun K hK => ?_) AllReadyH.nil
    have hcell5 := P5.out.cellAt (i := 2) rfl
    have hfrz5 := P5.out.frozen 2
    go_simp
    clear hcell5 hfrz5
    refine hK.out _ _ (hHeld3.setOther (a := ⟨pb, 2, none⟩) HPH.out _) (fun hHeld4 => ?_)
    clear hK K hHeld3
    try simp only [Act.put]
    refine wpAnyH_done (by kernel_rfl) ?_ _
    clear hHeld4
    obtain ⟨w6, hw6⟩ : ∃ w6, w6 = w5.setCell ⟨pb, 2, none⟩ (.slice (some ⟨ga, 0, none⟩) (way.length + 1) capa) := ⟨_, rfl⟩
    rw [← hw6]
    have P6 : Hid (Has w6 pb (boxL bd bl (.slice (some ⟨ga, 0, none⟩) (way.length + 1) capa) n (ops + 1) fall Of) 72) := Lib.hid (by rw [hw6]; exact P5.out.set 2 _)
    have L6 : Hid (Has w6 bl (L.map bv) 75) := Lib.hid (by rw [hw6]; exact (has_grown (HL3.out.below b4.out HL3.out.lt) H5G.out HNL.out).setOther (a := ⟨pb, 2, none⟩) (has_type HH.out.lat HH.out.box (by decide)) _)
    have D6 : Hid (Has w6 bd (D.map bv) 75) := Lib.hid (by rw [hw6]; exact (has_grown (HD3.out.below b4.out HD3.out.lt) H5G.out HND.out).setOther (a := ⟨pb, 2, none⟩) (has_type HH.out.dur HH.out.box (by decide)) _)
    have b65 : But w5.heap.size pb w5 w6 := by rw [hw6]; exact (But.refl _ _ _).setB 2 _
    have O6 : Hid (w6.ownsRow B 77 257 (.slice (some ⟨ga, 0, none⟩) (way.length + 1) capa) (way.length + 1) (wayV (way ++ [(i, p)]))) := Lib.hid (by
      have h := ownsRow_but H5O.out b65 (Nat.le_refl _) (own_type H5O.out P5.out (by decide))
      rw [wayV_snoc, ← HWCE.out]; exact h)
    have K6 : Hid (w6.heap[b]? = w.heap[b]?) := Lib.hid ((b65.block b (Nat.lt_of_lt_of_le HB3.out (Nat.le_trans b4.out.size H5G.out.size)) HBP.out).trans ((H5G.out.block b (Nat.lt_of_lt_of_le HB3.out b4.out.size) HNB.out).trans ((b4.out.block b HB3.out).trans K3.out)))
    have KP6 : Hid (Kp devT B w w6) := Lib.hid (KP3.out.trans ((Kp.of_below b4.out).trans ((Kp.grown H5G.out (ownsRow_below HWR3.out b4.out) (Nat.le_refl _) (by decide)).trans (Kp.of_but b65 HH.out.pbB P5.out (by decide)))))
    have HSR6 := Lib.hid (HC1.out w6 K6.out)
    have HG6 : Hid (w6.heap[bl]? = some (.cells (L.map bv).toArray 75 (0, 0))) := Lib.hid L6.out
    have c1 := P6.out.cellAt (i := 1) rfl
    clear hw6 b65
    go_wp2_with (refine wpList_copy_but rfl (.tmp 46) (.tmp 47) 33 33 rfl 5 Tryz.underlying33 HU.out (some ⟨bl, i * 256, none⟩) (some ⟨b, off0, none⟩) 256 256 256 cap rfl rfl bl (i * 256) (L.map bv) 75 HG6.out X HXL.out (fun _ => ⟨rfl, _, rfl, HSR6.out⟩) HF6.out HON.out ?_; intro w7 hg7 hb7)
    go_ret
    have l7 : Has w7 bl ((splice L (256 * i) p).map bv) 75 := by
      have h := hg7.out
      rw [HX.out, splice_map, Nat.mul_comm] at h
      exact h
    refine ⟨_, by rw [← HE.out]; rfl, ⟨P6.out.but hb7.out P6.out.lt (Ne.symm (has_type HH.out.lat HH.out.box (by decide))) |> fun h => by rw [HO.out, Bool.false_or] at h; exact h, D6.out.but hb7.out D6.out.lt HH.out.ne, l7, ?_, HH.out.dl, ?_, HH.out.good.snoc hi HP.out, HH.out.pbB, HH.out.bdB, HH.out.blB, HH.out.ne, HH.out.room⟩, KP6.out.trans (Kp.of_but hb7.out HH.out.blB L6.out (by decide))⟩
    · have h := ownsRow_but O6.out hb7.out (Nat.le_refl _) (own_type O6.out L6.out (by decide))
      rw [List.length_append]; exact h
    · rw [length_splice _ _ _ (fits HH.out.ll hi (Nat.le_of_eq HP.out)), HH.out.ll]

end Go.Proofs.YtgjckddcnmbceaaGreatDoor

/-
  What the parser's whole defers, and whole where nothing is at fault. Conditions: the parser's block.
-/
import Derived.Test.YtnajafnbickiiaaDoorPAll
import Derived.Tactics
import Derived.Tactics2
import Derived.Defers
import Derived.Recover
import Derived.Laws.Pointers
namespace Go.Proofs.YtnajafnbickiiaaDoor
open Go.RowKit
set_option linter.unusedVariables false

set_option maxHeartbeats 4000000 in
theorem catch_idle (a b c : Nat) (w : World) :
    CallsD Tryd.prog 13 #[.pointer (some ⟨a, 0, none⟩), .pointer (some ⟨b, 0, none⟩), .pointer (some ⟨c, 0, none⟩)] .returning w fun e u' w' => e = .returned (.tuple #[]) ∧ u' = .returning ∧ w' = w := by
  refine callsD_of_wpS Tryd.func13 rfl fun c₀ cs hu => ?_
  apply wpS_seq
  apply wpS_region
  simp [wpOpsS, go_sem, recoverD, hu, Tryd.ntmps13, Exit.thenS]
  refine wpS_of_wp ?_
  show Code.wp Tryd.prog _ _ { tmps := #[.pointer (some ⟨a, 0, none⟩), .pointer (some ⟨b, 0, none⟩), .pointer (some ⟨c, 0, none⟩), .nilIface, undef, undef, .nilIface, undef, undef, undef, undef, undef, undef, undef, undef, undef, undef, undef, undef, undef], defers := [] } w
  obtain ⟨Q, hQ⟩ : ∃ Q : Exit → Act → World → Prop, Q = fun e a' w' => bodyPostS Tryd.prog Tryd.f13 c₀ cs (fun e u' w' => e = .returned (.tuple #[]) ∧ u' = .returning ∧ w' = w) e a' (c₀ :: cs) w' := ⟨_, rfl⟩
  rw [← hQ]
  have HQ := Lib.hid hQ
  clear hQ
  go_wp2_with fail
  rw [HQ.out]
  cases c₀
  simp_all [bodyPostS, results, Tryd.results13]

theorem results_cells3 {fn : Func} {P : Program} {p q r : Tmp} {ty ty2 ty3 : TypeId} (h : fn.results = #[.cell p ty, .cell q ty2, .cell r ty3]) (tmps : Array Value) (w : World) (g : Nat) (t : TypeId) (cs : Array Value) (fr : Nat × Nat) (d : TypeDesc) (g2 g3 : Nat) (v v3 : Value)
    (hp : tmps.getD p undef = .pointer (some ⟨g, 0, none⟩)) (hg : w.heap[g]? = some (.cells cs t fr))
    (hu : P.underlying ty = some d) (hd : (match d with | .struct _ | .array _ _ => true | _ => false) = true) (hi : (P.info? ty).map (·.size) = some cs.size)
    (hq : tmps.getD q undef = .pointer (some ⟨g2, 0, none⟩)) (hl : (loadVar ty2 ⟨g2, 0, none⟩).run P w = .ok v w) (hr : tmps.getD r undef = .pointer (some ⟨g3, 0, none⟩)) (hl3 : (loadVar ty3 ⟨g3, 0, none⟩).run P w = .ok v3 w) :
    (results fn tmps).run P w = .ok (.tuple #[.agg cs, v, v3]) w := by
  have hp' : tmps[p]?.getD undef = .pointer (some ⟨g, 0, none⟩) := by simpa using hp
  have hq' : tmps[q]?.getD undef = .pointer (some ⟨g2, 0, none⟩) := by simpa using hq
  have hr' : tmps[r]?.getD undef = .pointer (some ⟨g3, 0, none⟩) := by simpa using hr
  simp [results, h, hp', hq', hr', asAddr, run_loadVar_row w g t ty cs fr d hg hu hd hi, hl, hl3]
theorem load_errno (w : World) (g : Nat) (x : Int) (h : Has w g [.int .i64 x] 29) : (loadVar 29 ⟨g, 0, none⟩).run Tryd.prog w = .ok (.int .i64 x) w := by
  have hc := h.cellAt (i := 0) rfl
  simp [loadVar, go_sem, hc]
theorem load_int (w : World) (g : Nat) (x : Int) (h : Has w g [.int .i64 x] 3) : (loadVar 3 ⟨g, 0, none⟩).run Tryd.prog w = .ok (.int .i64 x) w := by
  have hc := h.cellAt (i := 0) rfl
  simp [loadVar, go_sem, hc]
/-- The way out of whole behind a return. -/
theorem door_whole (R : Ending → World → Prop) (A : Nat) (a : Act) (w : World) (C : Array Value) (x y : Int) (hA : w.heap[A]? = some (.cells C 28 (0, 0))) (hC : (Tryd.prog.info? 28).map (·.size) = some C.size) (hP : Has w (A + 1) [.int .i64 x] 3) (hE : Has w (A + 2) [.int .i64 y] 29)
    (h2 : a.tmps.getD 2 undef = .pointer (some ⟨A, 0, none⟩)) (h3 : a.tmps.getD 3 undef = .pointer (some ⟨A + 1, 0, none⟩)) (h4 : a.tmps.getD 4 undef = .pointer (some ⟨A + 2, 0, none⟩))
    (hd : a.defers = [{ target := Target.fn (Fn.func 13) #[.pointer (some ⟨A, 0, none⟩), .pointer (some ⟨A + 1, 0, none⟩), .pointer (some ⟨A + 2, 0, none⟩)], args := #[] }])
    (hR : R (.returned (.tuple #[.agg C, .int .i64 x, .int .i64 y])) w) :
    bodyPostD Tryd.prog Tryd.f9 R Exit.ret a w := by
  show Leaves Tryd.prog Tryd.f9 a.tmps R a.defers .returning w
  rw [hd]
  refine leaves_cons (f := 13) (args := #[.pointer (some ⟨A, 0, none⟩), .pointer (some ⟨A + 1, 0, none⟩), .pointer (some ⟨A + 2, 0, none⟩)]) (by simp) (by simp [go_sem]) ?_
  refine (catch_idle A (A + 1) (A + 2) w).mono ?_
  rintro e u' w'' ⟨rfl, rfl, rfl⟩
  exact ⟨_, results_cells3 (fn := Tryd.f9) (p := 2) (q := 3) (r := 4) Tryd.results9 a.tmps _ A 28 C (0, 0) _ (A + 1) (A + 2) _ _ h2 hA Tryd.underlying28 rfl hC h3 (load_int _ _ _ hP) h4 (load_errno _ _ _ hE), hR⟩

/-- Behind the reading of a whole text. -/
def WholeX (pb : Nat) (w : World) (x : Ex) (e : Ending) (w' : World) : Prop :=
  ∃ cs, e = .returned (.tuple #[.agg cs.toArray, .int .i64 0, .int .i64 0]) ∧ IsX w' w.heap.size cs x ∧ But w.heap.size pb w w'

set_option maxRecDepth 100000 in
set_option maxHeartbeats 8000000 in
theorem whole_ok {w : World} {pb g off cap : Nat} {ts : List Tk} {rm : Int} (h : Ps w pb g off cap ts 0 rm) (n : Nat) (x : Ex) (t : Tk) (q : List Tk) (hp : pg n .expr 0 ts = .ok x (t :: q)) (hk : t.kind = 0) :
    Calls Tryd.prog 9 #[.pointer (some ⟨pb, 0, none⟩)] w (WholeX pb w x) := by
  have hmf : ∀ (fn : Fn) (first cap : Array Value) (w : World), (Instr.makeFunc fn first cap).run Tryd.prog w = .ok (.func fn first cap) w := fun _ _ _ _ => rfl
  have HEX := Lib.hid (fun (W : World) (hW : Ps W pb g off cap ts 0 rm) => (all_ok pb g rm n 0 (by omega)).expr W off cap ts x (t :: q) hW hp)
  have HH := Lib.hid h
  have HL : Hid (pb < w.heap.size ∧ g < w.heap.size) := Lib.hid ⟨h.row.lt, h.lt⟩
  have HKI := Lib.hid hk
  clear h hp hk
  go_enter_defers Tryd.func9, Tryd.ntmps9
  go_upto_region 2 with fail
  obtain ⟨G, hG⟩ : ∃ G, G = w.heap.size := ⟨_, rfl⟩
  rw [← hG]
  obtain ⟨x1, hx1⟩ : ∃ x, x = w.alloc (.cells #[.int .u8 0, .int .i64 0, .string ⟨#[]⟩, .slice none 0 0, .slice none 0 0, .bool false, .slice none 0 0, .int .i64 0] 28) := ⟨_, rfl⟩
  obtain ⟨x2, hx2⟩ : ∃ x, x = x1.alloc (.cells #[.int .i64 0] 3) := ⟨_, rfl⟩
  obtain ⟨x3, hx3⟩ : ∃ x, x = x2.alloc (.cells #[.int .i64 0] 29) := ⟨_, rfl⟩
  rw [← hx1, ← hx2, ← hx3]
  have e1 : x1.heap.size = G + 1 := by rw [hx1, hG]; simp
  have e2 : x2.heap.size = G + 2 := by rw [hx2]; simp [e1]
  have Z1 : Hid (Has x3 G exZ 28) := Lib.hid (by rw [hx3, hx2, hx1, hG]; exact ((Has.new w exZ _).alloc _).alloc _)
  have P1 : Hid (Has x3 (G + 1) [.int .i64 0] 3) := Lib.hid (by rw [hx3, hx2, ← e1]; exact (Has.new x1 [.int .i64 0] _).alloc _)
  have E1 : Hid (Has x3 (G + 2) [.int .i64 0] 29) := Lib.hid (by rw [hx3, ← e2]; exact Has.new x2 [.int .i64 0] _)
  have B1 : Hid (Below G w x3) := Lib.hid (by rw [hx3, hx2, hx1, hG]; exact (((Below.refl _ _).alloc (Nat.le_refl _) _).alloc (by simp) _).alloc (by simp; omega) _)
  have H1 := Lib.hid (HH.out.later (by rw [← hG]; exact B1.out))
  have HG := Lib.hid hG
  have HPG : Hid (pb < G ∧ g < G) := Lib.hid (by rw [hG]; exact HL.out)
  clear hx1 hx2 hx3 e1 e2 hG HH HL
  have HQ := Lib.hid (HEX.out x3 H1.out)
  have HLT := Lib.hid Z1.out.lt
  have HLT2 := Lib.hid E1.out.lt
  go_wp2_with fail
  refine HQ.out.mono ?_
  rintro e w4 ⟨cs, o4, c4, rfl, ix, bt, p4⟩
  have Z4 : Hid (Has w4 G exZ 28) := Lib.hid (Z1.out.but bt Z1.out.lt (by have := HPG.out; omega))
  have P4 : Hid (Has w4 (G + 1) [.int .i64 0] 3) := Lib.hid (P1.out.but bt P1.out.lt (by have := HPG.out; omega))
  have E4 : Hid (Has w4 (G + 2) [.int .i64 0] 29) := Lib.hid (E1.out.but bt E1.out.lt (by have := HPG.out; omega))
  have B4 : Hid (But G pb w w4) := Lib.hid ((But.of_below B1.out).trans (bt.mono (Nat.le_of_lt Z1.out.lt)))
  have H4 := Lib.hid p4
  obtain ⟨E, hE⟩ : ∃ E, E = cs.toArray := ⟨_, rfl⟩
  rw [← hE]
  have HE := Lib.hid hE
  have HEI : Hid ((Tryd.prog.info? 28).map (·.size) = some E.size) := Lib.hid (by rw [hE, List.size_toArray, ix.len]; exact info_ex)
  have HEO : Hid (E.all (·.oneCell') = true) := Lib.hid (by rw [hE]; exact ix.one)
  have HES : Hid (exZ.toArray.size = E.size) := Lib.hid (by rw [hE, List.size_toArray, List.size_toArray, ix.len]; rfl)
  have IX : Hid (IsXS w4 (fun k => G + 2 < k) cs x) := Lib.hid (IsXS.mono ix fun k h1 h2 => by have := HLT2.out; omega)
  clear ix bt p4 hE HQ H1 Z1 P1 E1 B1 HEX
  go_upto_region 3 with (refine wpList_store_row rfl 28 _ _ rfl G E rfl rfl 28 _ Z4.out HEI.out HES.out HEO.out ?_)
  obtain ⟨w5, hw5⟩ : ∃ y, y = w4.setRow G E := ⟨_, rfl⟩
  rw [← hw5]
  have Z5 : Hid (Has w5 G cs 28) := Lib.hid (by rw [hw5, HE.out]; exact Z4.out.row _)
  have P5 : Hid (Has w5 (G + 1) [.int .i64 0] 3) := Lib.hid (by rw [hw5]; exact P4.out.rowOther (by omega) _)
  have E5 : Hid (Has w5 (G + 2) [.int .i64 0] 29) := Lib.hid (by rw [hw5]; exact E4.out.rowOther (by omega) _)
  have B5 : Hid (But G pb w w5) := Lib.hid (by rw [hw5]; exact B4.out.setRow (.inl (Nat.le_refl _)) _)
  have H5 : Hid (Ps w5 pb g o4 c4 (t :: q) 0 rm) := Lib.hid (by rw [hw5]; exact H4.out.laterB (below_setRow (Below.refl G w4) (Nat.le_refl _) _) HPG.out.1 HPG.out.2)
  have I5 : Hid (IsXS w5 (fun k => G + 2 < k) cs x) := Lib.hid (by rw [hw5]; exact IX.out.keep (by simp) fun k h1 h2 => setRow_other _ _ _ _ (by omega))
  clear hw5 Z4 P4 E4 B4 H4 IX
  have y0 : w5.cell? ⟨pb, 0, none⟩ = some (.slice (some ⟨g, o4, none⟩) (t :: q).length c4) := H5.out.row.cellAt (i := 0) rfl
  have z2 : w5.cell? ⟨g, o4, none⟩ = some (.int .u8 0) := by have := (H5.out.cell (i := 0) (t := t) rfl).1; rw [HKI.out] at this; simpa using this
  have hlen : (0 : Int) < ((t :: q).length : Int) := by rw [List.length_cons]; omega
  obtain ⟨nn, hnn⟩ : ∃ nn, nn = (t :: q).length := ⟨_, rfl⟩
  rw [← hnn] at y0 hlen
  clear hnn
  go_upto_region 5 with fail
  clear y0 z2 hlen
  have HEX : Hid (w5.heap[G]? = some (.cells E 28 (0, 0))) := Lib.hid (by rw [HE.out]; exact Z5.out)
  have HES2 : Hid (cs.toArray.size = E.size) := Lib.hid (by rw [HE.out])
  obtain ⟨w6, hw6⟩ : ∃ y, y = w5.setRow G E := ⟨_, rfl⟩
  have P6 : Hid (Has w6 (G + 1) [.int .i64 0] 3) := Lib.hid (by rw [hw6]; exact P5.out.rowOther (by omega) _)
  have E6 : Hid (Has w6 (G + 2) [.int .i64 0] 29) := Lib.hid (by rw [hw6]; exact E5.out.rowOther (by omega) _)
  have B6 : Hid (But G pb w w6) := Lib.hid (by rw [hw6]; exact B5.out.setRow (.inl (Nat.le_refl _)) _)
  have I6 : Hid (IsXS w6 (fun k => G + 2 < k) cs x) := Lib.hid (by rw [hw6]; exact I5.out.keep (by simp) fun k h1 h2 => setRow_other _ _ _ _ (by omega))
  have Z6 : Hid (w6.heap[G]? = some (.cells E 28 (0, 0))) := Lib.hid (by rw [hw6]; exact setRow_heap _ _ _ _ _ _ HEX.out)
  have HW6 := Lib.hid hw6
  have f1 := P6.out.frozen 0
  have f2 := E6.out.frozen 0
  have c1 := P6.out.cellAt (i := 0) rfl
  have c2 := E6.out.cellAt (i := 0) rfl
  clear hw6 P5 E5 B5 I5 H5
  go_wp2_with (first
    | (refine wpList_load_row rfl 28 _ rfl G rfl 28 E (0, 0) _ HEX.out Tryd.underlying28 rfl HEI.out ?_)
    | (refine wpList_store_row rfl 28 _ _ rfl G E rfl rfl 28 _ Z5.out HEI.out HES2.out HEO.out ?_; rw [← HW6.out]))
  have P7 : Has ((w6.setCell ⟨G + 1, 0, none⟩ (.int .i64 0)).setCell ⟨G + 1 + 1, 0, none⟩ (.int .i64 0)) (G + 1) [.int .i64 0] 3 := (P6.out.set 0 (.int .i64 0)).setOther (by show G + 1 ≠ G + 1 + 1; omega) _
  have E7 : Has ((w6.setCell ⟨G + 1, 0, none⟩ (.int .i64 0)).setCell ⟨G + 1 + 1, 0, none⟩ (.int .i64 0)) (G + 2) [.int .i64 0] 29 := (E6.out.setOther (by show G + 2 ≠ G + 1; omega) _).set 0 (.int .i64 0)
  have Z7 : ((w6.setCell ⟨G + 1, 0, none⟩ (.int .i64 0)).setCell ⟨G + 1 + 1, 0, none⟩ (.int .i64 0)).heap[G]? = some (.cells E 28 (0, 0)) := (heap_setCell_other _ _ _ _ (by show G ≠ G + 1 + 1; omega)).trans ((heap_setCell_other _ _ _ _ (by show G ≠ G + 1; omega)).trans Z6.out)
  refine door_whole _ G _ _ E 0 0 Z7 HEI.out P7 E7 rfl rfl rfl rfl ?_
  refine ⟨cs, by rw [HE.out], ?_, ?_⟩
  · rw [← HG.out]
    exact IsXS.mono (I6.out.keep (by simp [World.setCell]) fun k h1 h2 => (heap_setCell_other _ _ _ _ (by show k ≠ G + 1 + 1; omega)).trans (heap_setCell_other _ _ _ _ (by show k ≠ G + 1; omega))) fun k h1 _ => by omega
  · rw [← HG.out]
    exact (B6.out.setCell (p := ⟨G + 1, 0, none⟩) (.inl (by show G ≤ G + 1; omega)) _).setCell (p := ⟨G + 1 + 1, 0, none⟩) (.inl (by show G ≤ G + 1 + 1; omega)) _
end Go.Proofs.YtnajafnbickiiaaDoor

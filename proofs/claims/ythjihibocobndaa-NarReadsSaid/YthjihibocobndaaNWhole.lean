/-
  The contracts of the reader's whole and of nar's Read: the tree of an archive, or the error. Condition: what is read is no longer than 10^9 bytes.
-/
import Derived.Test.YthjihibocobndaaNCatch
namespace Go.Proofs.Ythjihibocobndaa
open Go.RowKit
set_option linter.unusedVariables false

theorem results_cells2 {fn : Func} {P : Program} {p q : Tmp} {ty ty2 : TypeId} (h : fn.results = #[.cell p ty, .cell q ty2]) (tmps : Array Value) (w : World) (g : Nat) (t : TypeId) (cs : Array Value) (fr : Nat × Nat) (d : TypeDesc) (g2 : Nat) (v : Value)
    (hp : tmps.getD p undef = .pointer (some ⟨g, 0, none⟩)) (hg : w.heap[g]? = some (.cells cs t fr))
    (hu : P.underlying ty = some d) (hd : (match d with | .struct _ | .array _ _ => true | _ => false) = true) (hi : (P.info? ty).map (·.size) = some cs.size)
    (hq : tmps.getD q undef = .pointer (some ⟨g2, 0, none⟩)) (hl : (loadVar ty2 ⟨g2, 0, none⟩).run P w = .ok v w) :
    (results fn tmps).run P w = .ok (.tuple #[.agg cs, v]) w := by
  have hp' : tmps[p]?.getD undef = .pointer (some ⟨g, 0, none⟩) := by simpa using hp
  have hq' : tmps[q]?.getD undef = .pointer (some ⟨g2, 0, none⟩) := by simpa using hq
  simp [results, h, hp', hq', asAddr, run_loadVar_row w g t ty cs fr d hg hu hd hi, hl]

theorem load_errno (w : World) (g : Nat) (x : Int) (h : Has w g [.int .i64 x] 29) : (loadVar 29 ⟨g, 0, none⟩).run Try.prog w = .ok (.int .i64 x) w := by
  have hc := h.cellAt (i := 0) rfl
  simp [loadVar, go_sem, hc]

/-- The way out of whole behind a fall. -/
theorem door_fell (R : Ending → World → Prop) (A : Nat) (a : Act) (w : World) (C : List Value) (x : Int) (hA : Has w A C 26) (hC : C.length = 5) (hE : Has w (A + 1) [.int .i64 x] 29)
    (h2 : a.tmps.getD 2 undef = .pointer (some ⟨A, 0, none⟩)) (h3 : a.tmps.getD 3 undef = .pointer (some ⟨A + 1, 0, none⟩))
    (hd : a.defers = [{ target := Target.fn (Fn.func 27) #[.pointer (some ⟨A, 0, none⟩), .pointer (some ⟨A + 1, 0, none⟩)], args := #[] }])
    (hR : R (.returned (.tuple #[.agg zeroL.toArray, .int .i64 3])) ((w.setRow A zeroL.toArray).setCell ⟨A + 1, 0, none⟩ (.int .i64 3))) :
    bodyPostD Try.prog Try.f19 R (Exit.panic Fell) a w := by
  show Leaves Try.prog Try.f19 a.tmps R a.defers (.panicking Fell) w
  rw [hd]
  refine leaves_cons (f := 27) (args := #[.pointer (some ⟨A, 0, none⟩), .pointer (some ⟨A + 1, 0, none⟩)]) (by simp) (by simp [go_sem]) ?_
  refine (catch_fell A w C x hA hC hE []).mono ?_
  rintro e u' w'' ⟨rfl, rfl, rfl⟩
  have hE1 : Has (w.setRow A zeroL.toArray) (A + 1) [.int .i64 x] 29 := hE.rowOther (by omega) _
  have hE2 : Has ((w.setRow A zeroL.toArray).setCell ⟨A + 1, 0, none⟩ (.int .i64 3)) (A + 1) [.int .i64 3] 29 := hE1.set 0 _
  have hA2 : Has ((w.setRow A zeroL.toArray).setCell ⟨A + 1, 0, none⟩ (.int .i64 3)) A zeroL 26 := (hA.row zeroL).setOther (by show A ≠ A + 1; omega) _
  exact ⟨_, results_cells2 (fn := Try.f19) (p := 2) (q := 3) Try.results19 a.tmps _ A 26 zeroL.toArray (0, 0) _ (A + 1) (.int .i64 3) h2 hA2 Try.underlying26 rfl zero_info h3 (load_errno _ _ _ hE2), hR⟩

/-- The way out of whole behind a return. -/
theorem door_done (R : Ending → World → Prop) (A : Nat) (a : Act) (w : World) (C : List Value) (x : Int) (hA : Has w A C 26) (hC : C.length = 5) (hE : Has w (A + 1) [.int .i64 x] 29)
    (h2 : a.tmps.getD 2 undef = .pointer (some ⟨A, 0, none⟩)) (h3 : a.tmps.getD 3 undef = .pointer (some ⟨A + 1, 0, none⟩))
    (hd : a.defers = [{ target := Target.fn (Fn.func 27) #[.pointer (some ⟨A, 0, none⟩), .pointer (some ⟨A + 1, 0, none⟩)], args := #[] }])
    (hR : R (.returned (.tuple #[.agg C.toArray, .int .i64 x])) w) :
    bodyPostD Try.prog Try.f19 R Exit.ret a w := by
  show Leaves Try.prog Try.f19 a.tmps R a.defers .returning w
  rw [hd]
  refine leaves_cons (f := 27) (args := #[.pointer (some ⟨A, 0, none⟩), .pointer (some ⟨A + 1, 0, none⟩)]) (by simp) (by simp [go_sem]) ?_
  refine (catch_idle A w).mono ?_
  rintro e u' w'' ⟨rfl, rfl, rfl⟩
  exact ⟨_, results_cells2 (fn := Try.f19) (p := 2) (q := 3) Try.results19 a.tmps _ A 26 C.toArray (0, 0) _ (A + 1) (.int .i64 x) h2 hA Try.underlying26 rfl (infoL hC) h3 (load_errno _ _ _ hE), hR⟩

/-- Behind the reading of a whole archive. -/
def Whole (rb : Nat) (w : World) (R0 : List UInt8) (e : Ending) (w' : World) : Prop :=
  But w.heap.size rb w w' ∧ match readL R0 with
    | none => e = .returned (.tuple #[.agg zeroL.toArray, .int .i64 3])
    | some t => ∃ n cs, e = .returned (.tuple #[.agg cs.toArray, .int .i64 0]) ∧ Stab w.heap.size [] w' n cs t

set_option maxRecDepth 100000 in
set_option maxHeartbeats 8000000 in
theorem whole_any (rb : Nat) (w0 : World) (R0 : List UInt8) (w : World) (hrd : Rd rb w0 R0 w) :
    Calls Try.prog 19 #[.pointer (some ⟨rb, 0, none⟩)] w (Whole rb w R0) := by
  have hmf : ∀ (fn : Fn) (first cap : Array Value) (w : World), (Instr.makeFunc fn first cap).run Try.prog w = .ok (.func fn first cap) w := fun _ _ _ _ => rfl
  have HRD := Lib.hid hrd
  have hrA0 := hrd.lt
  clear hrd
  go_enter_defers Try.func19, Try.ntmps19
  go_upto_region 2 with fail
  obtain ⟨A, hA⟩ : ∃ A, A = w.heap.size := ⟨_, rfl⟩
  rw [← hA] at hrA0 ⊢
  obtain ⟨x1, hx1⟩ : ∃ x1, x1 = w.alloc (.cells #[.int .u8 0, .bool false, .slice none 0 0, .slice none 0 0, .slice none 0 0] 26) := ⟨_, rfl⟩
  obtain ⟨w1, hx2⟩ : ∃ x2, x2 = x1.alloc (.cells #[.int .i64 0] 29) := ⟨_, rfl⟩
  rw [← hx1, ← hx2]
  have e1 : x1.heap.size = A + 1 := by rw [hx1, hA]; simp
  have G1 : Hid (Has w1 A zeroL 26) := Lib.hid (by rw [hx2, hx1, hA]; exact (Has.new w zeroL _).alloc _)
  have E1 : Hid (Has w1 (A + 1) [.int .i64 0] 29) := Lib.hid (by rw [hx2, ← e1]; exact Has.new x1 [.int .i64 0] _)
  have b1 : Below w.heap.size w w1 := by rw [hx2, hx1]; exact ((Below.refl _ _).alloc (Nat.le_refl _) _).alloc (by simp) _
  have BU1 : Hid (But w.heap.size rb w w1) := Lib.hid (But.of_below b1)
  have RD1 := Lib.hid (HRD.out.later b1)
  have HA := Lib.hid hA
  clear hA hx1 hx2 b1 e1 HRD
  have HK := Lib.hid (skip_1s rb w0 R0 ⟨#[110, 105, 120, 45, 97, 114, 99, 104, 105, 118, 101, 45, 49]⟩ sMagic rfl w1 RD1.out)
  go_wp2_with fail
  refine HK.out.mono ?_
  rintro e w2 ⟨hb, hm⟩
  have BU2 := Lib.hid (BU1.out.trans (hb.mono BU1.out.size))
  have G2 := Lib.hid (G1.out.but hb G1.out.lt (by omega))
  have E2 := Lib.hid (E1.out.but hb E1.out.lt (by omega))
  have HM := Lib.hid hm
  clear hb hm HK BU1 G1 E1 RD1
  cases ht : skipL [sMagic] R0 with
  | none =>
    have hm := HM.out
    rw [ht] at hm
    subst hm
    have HF : Hid (readL R0 = none) := Lib.hid (by unfold readL; rw [ht])
    clear HM ht
    go_wp2_with fail
    refine door_fell _ A _ w2 zeroL 0 G2.out rfl E2.out rfl rfl rfl ⟨?_, by rw [HF.out]⟩
    exact (BU2.out.setRow (.inl (by have := HA.out; omega)) _).setCell (p := ⟨A + 1, 0, none⟩) (.inl (by show w.heap.size ≤ A + 1; have := HA.out; omega)) _
  | some R1 =>
    have hm := HM.out
    rw [ht] at hm
    obtain ⟨v, rfl, hv, hr⟩ : ∃ v, e = .returned v ∧ noneV () v w2 ∧ Rd rb w0 R1 w2 := hm
    cases hv
    have RD2 := Lib.hid hr
    have HT1 := Lib.hid ht
    clear hr HM ht
    have HK := Lib.hid (rtree_any rb w0 17 0 rfl R1 w2 RD2.out)
    go_wp2_with fail
    refine HK.out.mono ?_
    rintro e w3 ⟨hb, hm⟩
    have BU3 := Lib.hid (BU2.out.trans (hb.mono BU2.out.size))
    have G3 := Lib.hid (G2.out.but hb G2.out.lt (by omega))
    have E3 := Lib.hid (E2.out.but hb E2.out.lt (by omega))
    have HE2 := Lib.hid E2.out.lt
    have HM := Lib.hid hm
    clear hb hm HK BU2 G2 E2 RD2
    cases ht : treeL 17 R1 with
    | none =>
      have hm := HM.out
      rw [ht] at hm
      subst hm
      have HF : Hid (readL R0 = none) := Lib.hid (by unfold readL; rw [HT1.out]; dsimp only; rw [ht])
      clear HM ht
      go_wp2_with fail
      refine door_fell _ A _ w3 zeroL 0 G3.out rfl E3.out rfl rfl rfl ⟨?_, by rw [HF.out]⟩
      exact (BU3.out.setRow (.inl (by have := HA.out; omega)) _).setCell (p := ⟨A + 1, 0, none⟩) (.inl (by show w.heap.size ≤ A + 1; have := HA.out; omega)) _
    | some q =>
      obtain ⟨t, R2⟩ := q
      have hm := HM.out
      rw [ht] at hm
      obtain ⟨v, rfl, ⟨n, cs, rfl, hst⟩, hr⟩ := hm
      have HT2 := Lib.hid ht
      have hT := hst w3 (Nat.le_refl _) (fun _ _ _ _ => rfl)
      have h5 := isT_five hT
      have hLI := Lib.hid (infoL h5)
      have hLS : Hid ((#[.int .u8 0, .bool false, .slice none 0 0, .slice none 0 0, .slice none 0 0] : Array Value).size = cs.toArray.size) := Lib.hid (by simp [h5])
      have hLO := Lib.hid (isT_one hT)
      have HGH : Hid (w3.heap[A]? = some (.cells #[.int .u8 0, .bool false, .slice none 0 0, .slice none 0 0, .slice none 0 0] 26 (0, 0))) := Lib.hid G3.out
      obtain ⟨w4, hw4⟩ : ∃ w4, w4 = w3.setRow A cs.toArray := ⟨_, rfl⟩
      have hb4 : But w3.heap.size A w3 w4 := by rw [hw4]; exact (But.refl _ _ _).setRow (.inr rfl) _
      have G4 : Hid (Has w4 A cs 26) := Lib.hid (by rw [hw4]; exact G3.out.row cs)
      have E4 := Lib.hid (E3.out.but hb4 E3.out.lt (by omega))
      have hA := HA.out
      have he2 := HE2.out
      have BU4 : Hid (But w.heap.size rb w w4) := Lib.hid (by rw [hw4]; exact BU3.out.setRow (.inl (by omega)) _)
      have ST4 : Hid (Stab w.heap.size [] w4 n cs t) := Lib.hid (fun w' h1 h2 => hst w' (Nat.le_trans hb4.size h1) (fun k hk1 hk2 _ =>
        (h2 k (by omega) (Nat.lt_of_lt_of_le hk2 hb4.size) (by simp)).trans (hb4.block k hk2 (by omega))))
      obtain ⟨aa, len, cap, hx, hB, hbel, h0, hR⟩ := hr.other hb4 hrA0
      have hlen := hB.length
      have HX4 := Lib.hid hx
      have HLEN := Lib.hid hlen
      have T4 : Hid (IsT w4 n cs t) := Lib.hid (ST4.out w4 (Nat.le_refl _) (fun _ _ _ _ => rfl))
      have HW4 := Lib.hid hw4
      have hc4 := hx.cellAt (i := 0) rfl
      have h5' := Lib.hid h5
      have HR9 := Lib.hid hR
      clear hst hr hT h5 HM ht hw4 hb4 BU3 G3 E3 hx hB hbel hlen hA he2 h0 hR
      by_cases hz : 0 < len
      · have hzi : (0 : Int) < (len : Int) := by omega
        have HF : Hid (readL R0 = none) := Lib.hid (by
          unfold readL; rw [HT1.out]; dsimp only; rw [HT2.out]; dsimp only
          rw [if_neg]
          rintro ⟨h1, _⟩
          have := HLEN.out
          rw [h1] at this
          simp at this; omega)
        go_wp2_with (refine wpList_store_row rfl 26 _ _ rfl A cs.toArray rfl rfl 26 _ HGH.out hLI.out hLS.out hLO.out ?_; rw [← HW4.out])
        refine (giveUp_any _).mono ?_
        rintro e wx ⟨rfl, rfl⟩
        go_wp2_with fail
        refine door_fell _ A _ w4 cs 0 G4.out h5'.out E4.out rfl rfl rfl ⟨?_, by rw [HF.out]⟩
        exact (BU4.out.setRow (.inl (by have := HA.out; omega)) _).setCell (p := ⟨A + 1, 0, none⟩) (.inl (by show w.heap.size ≤ A + 1; have := HA.out; omega)) _
      · obtain rfl : len = 0 := by omega
        have HK := Lib.hid (form_any n cs t w4 T4.out)
        go_wp2_with (first
          | (refine wpList_store_row rfl 26 _ _ rfl A cs.toArray rfl rfl 26 _ HGH.out hLI.out hLS.out hLO.out ?_; rw [← HW4.out])
          | (refine wpList_load_rowG (by rfl) 26 _ rfl A rfl 26 cs.toArray (0, 0) _ G4.out Try.underlying26 rfl hLI.out ?_))
        refine HK.out.mono ?_
        rintro e w5 ⟨rfl, b5⟩
        have G5 := Lib.hid (G4.out.below b5 G4.out.lt)
        have E5 := Lib.hid (E4.out.below b5 E4.out.lt)
        have BU5 := Lib.hid (BU4.out.trans (But.of_below (b5.mono BU4.out.size)))
        have ST5 : Hid (Stab w.heap.size [] w5 n cs t) := Lib.hid (fun w' h1 h2 => ST4.out w' (Nat.le_trans b5.size h1) (fun k hk1 hk2 _ => (h2 k hk1 (Nat.lt_of_lt_of_le hk2 b5.size) (by simp)).trans (b5.block k hk2)))
        clear b5 HK hc4
        cases hs : sizeT t with
        | none =>
          have HF : Hid (readL R0 = none) := Lib.hid (by
            unfold readL; rw [HT1.out]; dsimp only; rw [HT2.out]; dsimp only
            rw [if_neg]
            rintro ⟨_, h1⟩
            rw [hs] at h1; cases h1)
          clear hs
          simp only [Option.isSome_none]
          go_wp2_with fail
          refine (giveUp_any _).mono ?_
          rintro e wx ⟨rfl, rfl⟩
          go_wp2_with fail
          refine door_fell _ A _ w5 cs 0 G5.out h5'.out E5.out rfl rfl rfl ⟨?_, by rw [HF.out]⟩
          exact (BU5.out.setRow (.inl (by have := HA.out; omega)) _).setCell (p := ⟨A + 1, 0, none⟩) (.inl (by show w.heap.size ≤ A + 1; have := HA.out; omega)) _
        | some qq =>
          have HF : Hid (readL R0 = some t) := Lib.hid (by
            unfold readL; rw [HT1.out]; dsimp only; rw [HT2.out]; dsimp only
            rw [if_pos]
            exact ⟨List.eq_nil_of_length_eq_zero HLEN.out, by rw [hs]; rfl⟩)
          have hLS5 : Hid (cs.toArray.size = cs.toArray.size) := Lib.hid rfl
          have HG5 : Hid (w5.heap[A]? = some (.cells cs.toArray 26 (0, 0))) := Lib.hid G5.out
          have E6 : Has (w5.setRow A cs.toArray) (A + 1) [.int .i64 0] 29 := E5.out.rowOther (by omega) _
          have hce := E6.cellAt (i := 0) rfl
          have hfe := E6.frozen 0
          obtain ⟨w6, hw6⟩ : ∃ w6, w6 = w5.setRow A cs.toArray := ⟨_, rfl⟩
          rw [← hw6] at hce hfe E6
          have HW6 := Lib.hid hw6
          have HE6 := Lib.hid E6
          clear hs hw6 E6
          simp only [Option.isSome_some]
          go_wp2_with (first
            | (refine wpList_load_rowG (by rfl) 26 _ rfl A rfl 26 cs.toArray (0, 0) _ G5.out Try.underlying26 rfl hLI.out ?_)
            | (refine wpList_store_row rfl 26 _ _ rfl A cs.toArray rfl rfl 26 _ HG5.out hLI.out hLS5.out hLO.out ?_; rw [← HW6.out]))
          have hb6 : But w5.heap.size A w5 w6 := by rw [HW6.out]; exact (But.refl _ _ _).setRow (.inr rfl) _
          have G7 : Has (w6.setCell ⟨A + 1, 0, none⟩ (.int .i64 0)) A cs 26 := (by rw [HW6.out]; exact G5.out.row cs : Has w6 A cs 26).setOther (by show A ≠ A + 1; omega) _
          have E7 : Has (w6.setCell ⟨A + 1, 0, none⟩ (.int .i64 0)) (A + 1) [.int .i64 0] 29 := HE6.out.set 0 _
          have hb7 : But w6.heap.size (A + 1) w6 (w6.setCell ⟨A + 1, 0, none⟩ (.int .i64 0)) := (But.refl _ _ _).setB 0 _
          have hsame : ∀ k, k < w5.heap.size → (w6.setCell ⟨A + 1, 0, none⟩ (.int .i64 0)).heap[k]? = w5.heap[k]? := fun k hk => by
            by_cases hkA : k = A
            · subst hkA; exact (show _ = some (Obj.cells cs.toArray 26 (0, 0)) from G7).trans HG5.out.symm
            · by_cases hkE : k = A + 1
              · subst hkE; exact (show _ = some (Obj.cells #[.int .i64 0] 29 (0, 0)) from E7).trans (show w5.heap[A + 1]? = some (Obj.cells #[.int .i64 0] 29 (0, 0)) from E5.out).symm
              · exact (hb7.block k (Nat.lt_of_lt_of_le hk hb6.size) hkE).trans (hb6.block k hk hkA)
          refine door_done _ A _ _ cs 0 G7 h5'.out E7 rfl rfl rfl ⟨?_, ?_⟩
          · have hA := HA.out
            exact (BU5.out.trans ((⟨hb6.os, hb6.tape, hb6.output, hb6.size, fun k hk hne => by
              by_cases hkA : k = A
              · omega
              · exact hb6.block k (Nat.lt_of_lt_of_le hk BU5.out.size) hkA⟩ : But w.heap.size rb w5 w6))).setCell (p := ⟨A + 1, 0, none⟩) (.inl (by show w.heap.size ≤ A + 1; omega)) _
          · rw [HF.out]
            exact ⟨n, cs, rfl, fun w' h1 h2 => ST5.out w' (Nat.le_trans (Nat.le_trans hb6.size hb7.size) h1) (fun k hk1 hk2 _ => (h2 k hk1 (Nat.lt_of_lt_of_le hk2 (Nat.le_trans hb6.size hb7.size)) (by simp)).trans (hsame k hk2))⟩

end Go.Proofs.Ythjihibocobndaa

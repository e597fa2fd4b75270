/-
  The parser's sign: which sign between operands stands there. Conditions: the parser's block; parse.signs lies as the text lays it.
-/
import Derived.Test.YtnajafnbickiiaaDoorPOp
import Derived.Laws.Rows
namespace Go.Proofs.YtnajafnbickiiaaDoor
open Go.RowKit
set_option linter.unusedVariables false
set_option maxRecDepth 100000

theorem info_sgAll : (Tryd.prog.info? 80).map (·.size) = some sgAll.toArray.size := by kernel_rfl
theorem info_sg (g : List UInt8 × Nat × Bool) : (Tryd.prog.info? 74).map (·.size) = some (sgC g).toArray.size := by show _ = some 3; kernel_rfl
theorem idx_sg (k : Nat) (hk : k < 10) (w : World) : (Instr.index 80 (.agg sgAll.toArray) (.int .i64 (k : Int))).run Tryd.prog w = .ok (.agg (sgC (signsP.getD k ([], 0, false))).toArray) w := by
  have h : k = 0 ∨ k = 1 ∨ k = 2 ∨ k = 3 ∨ k = 4 ∨ k = 5 ∨ k = 6 ∨ k = 7 ∨ k = 8 ∨ k = 9 := by omega
  rcases h with rfl | rfl | rfl | rfl | rfl | rfl | rfl | rfl | rfl | rfl <;> (show (Instr.index _ _ _).run _ w = _; kernel_rfl)
theorem sign_hit (ts : List Tk) (k : Nat) (hk : k < 10) (hno : ∀ j, j < k → stT ts 0 (signsP.getD j ([], 0, false)).1 = false) (h : stT ts 0 (signsP.getD k ([], 0, false)).1 = true) : signT ts = some (signsP.getD k ([], 0, false)) := by
  have hl : signsP.length = 10 := rfl
  unfold signT
  rw [List.find?_eq_some_iff_getElem]
  refine ⟨h, k, by rw [hl]; exact hk, ?_, fun j hj => ?_⟩
  · rw [List.getD_eq_getElem?_getD, List.getElem?_eq_getElem (by rw [hl]; exact hk)]; rfl
  · have := hno j hj
    rw [List.getD_eq_getElem?_getD, List.getElem?_eq_getElem (by rw [hl]; omega)] at this
    simp only [Option.getD_some] at this
    rw [this]; rfl
theorem sign_no (ts : List Tk) (hno : ∀ j, j < 10 → stT ts 0 (signsP.getD j ([], 0, false)).1 = false) : signT ts = none := by
  have hl : signsP.length = 10 := rfl
  unfold signT
  rw [List.find?_eq_none]
  intro x hx
  obtain ⟨j, hj, rfl⟩ := List.mem_iff_getElem.1 hx
  have := hno j (by rw [hl] at hj; exact hj)
  rw [List.getD_eq_getElem?_getD, List.getElem?_eq_getElem hj] at this
  simp only [Option.getD_some] at this
  rw [this]; simp

set_option maxHeartbeats 4000000 in
theorem sign_any2 {w : World} {pb g off cap d : Nat} {ts : List Tk} {rm : Int} (h : Ps w pb g off cap ts d rm) :
    Calls Tryd.prog 47 #[.pointer (some ⟨pb, 0, none⟩)] w fun e w' => e = .returned (.agg (sgL ts).toArray) ∧ Below w.heap.size w w' := by
  have HH := Lib.hid h
  obtain ⟨t0, f0, hsg⟩ := h.laid.1
  obtain ⟨R, hR⟩ : ∃ R, R = sgAll.toArray := ⟨_, rfl⟩
  have HI := Lib.hid info_sgAll
  rw [← hR] at hsg HI
  have hlt : 2 < w.heap.size := (Array.getElem?_eq_some_iff.1 hsg).1
  have HR := Lib.hid hR
  obtain ⟨G, hG⟩ : ∃ G, G = w.heap.size := ⟨_, rfl⟩
  obtain ⟨w1, hw1⟩ : ∃ w1, w1 = w.alloc (.cells #[.string ⟨#[]⟩, .int .i64 0, .bool false] 74) := ⟨_, rfl⟩
  have Z1 : Hid (Has w1 G [.string ⟨#[]⟩, .int .i64 0, .bool false] 74) := Lib.hid (by rw [hw1, hG]; exact Has.new w _ _)
  have B1 : Hid (Below G w w1) := Lib.hid (by rw [hw1, hG]; exact (Below.refl _ _).alloc (Nat.le_refl _) _)
  have HSG : Hid (w1.heap[2]? = some (.cells R t0 f0)) := Lib.hid ((B1.out.block _ (by rw [hG]; exact hlt)).trans hsg)
  have HG := Lib.hid hG
  have HW1 := Lib.hid hw1
  clear h hsg hR hlt hw1 hG
  go_enter Tryd.func47, Tryd.ntmps47
  go_upto_region 1 with fail
  rw [← HW1.out, ← HG.out]
  clear HW1
  go_wp2_with (refine wpList_load_row rfl 80 _ rfl 2 rfl t0 R f0 _ HSG.out Tryd.underlying80 rfl HI.out ?_)
  go_loopw [6] (fun ii wr => ∃ k : Nat, k ≤ 10 ∧ ii = .int .i64 k ∧ Hid (Has wr G [.string ⟨#[]⟩, .int .i64 0, .bool false] 74) ∧ Hid (Below G w wr) ∧ Hid (∀ j, j < k → stT ts 0 (signsP.getD j ([], 0, false)).1 = false)) (fun ii _ => 10 - (intOf ii).toNat)
  case atStart => exact ⟨0, Nat.zero_le _, rfl, Z1, B1, Lib.hid (fun j hj => by omega)⟩
  case round =>
    clear Z1 B1 HSG
    obtain ⟨k, hk, rfl, hz, hb, hno⟩ := hrel
    by_cases hlt : k < 10
    · have hki : (k : Int) < 10 := by omega
      obtain ⟨sg, hs⟩ : ∃ sg, sg = signsP.getD k ([], 0, false) := ⟨_, rfl⟩
      obtain ⟨sb, hsb⟩ : ∃ sb : ByteArray, sb = ⟨sg.1.toArray⟩ := ⟨_, rfl⟩
      have hidx : ∀ w : World, (Instr.index 80 (.agg R) (.int .i64 (k : Int))).run Tryd.prog w = .ok (.agg #[.string sb, .int .i64 (sg.2.1 : Int), .bool sg.2.2]) w := fun w => by
        rw [HR.out, idx_sg k hlt w, ← hs, hsb]; rfl
      have hsl : sb.data.toList = sg.1 := by rw [hsb]
      obtain ⟨N, hN⟩ : ∃ N, N = wr.heap.size := ⟨_, rfl⟩
      obtain ⟨w2, hw2⟩ : ∃ w2, w2 = wr.alloc (.cells #[.string sb, .int .i64 (sg.2.1 : Int), .bool sg.2.2] 74) := ⟨_, rfl⟩
      have hb2 : Below N wr w2 := by rw [hw2, hN]; exact (Below.refl _ _).alloc (Nat.le_refl _) _
      have X2 : Hid (Has w2 N [.string sb, .int .i64 (sg.2.1 : Int), .bool sg.2.2] 74) := Lib.hid (by rw [hw2, hN]; exact Has.new wr _ _)
      have Z2 := Lib.hid (hz.out.below hb2 (by rw [hN]; exact hz.out.lt))
      have B2 : Hid (Below G w w2) := Lib.hid (hb.out.trans (hb2.mono (by rw [hN]; exact Nat.le_of_lt hz.out.lt)))
      have HST := Lib.hid (stands_any (HH.out.later (by rw [← HG.out]; exact B2.out)) 0 HH.out.ends.pos sb)
      have HSL := Lib.hid hsl
      have hsb0 := Lib.hid hsb
      have HS := Lib.hid hs
      have HN := Lib.hid hN
      have HW2 := Lib.hid hw2
      clear hs hsb hsl hN hw2 hb2 hz hb
      go_upto_region 4 with fail
      clear hidx
      rw [← HW2.out, ← HN.out]
      have y0 : w2.cell? ⟨N, 0, none⟩ = some (.string sb) := X2.out.cellAt (i := 0) rfl
      clear HW2
      go_wp2_with fail
      refine HST.out.mono ?_
      rintro e w3 ⟨rfl, b3⟩
      have X3 := Lib.hid (X2.out.below b3 X2.out.lt)
      have Z3 := Lib.hid (Z2.out.below b3 Z2.out.lt)
      have B3 : Hid (Below G w w3) := Lib.hid (B2.out.trans (b3.mono (Nat.le_of_lt Z2.out.lt)))
      clear y0 b3 X2 Z2 B2 HST
      rw [HSL.out]
      cases hst : stT ts 0 sg.1 with
      | true =>
        obtain ⟨E, hE⟩ : ∃ E, E = (sgC sg).toArray := ⟨_, rfl⟩
        have HE := Lib.hid hE
        have HEI : Hid ((Tryd.prog.info? 74).map (·.size) = some E.size) := Lib.hid (by rw [hE]; exact info_sg sg)
        have HEX : Hid (w3.heap[N]? = some (.cells E 74 (0, 0))) := Lib.hid (by rw [hE]; have := X3.out; rw [hsb0.out] at this; exact this)
        have HEO : Hid (E.all (·.oneCell') = true) := Lib.hid (by rw [hE]; exact all_oneCell_toArray (by intro v hv; simp [sgC] at hv; rcases hv with rfl | rfl | rfl <;> rfl))
        have HES : Hid (#[Value.string ⟨#[]⟩, .int .i64 0, .bool false].size = E.size) := Lib.hid (by rw [hE]; rfl)
        have SG : Hid (signT ts = some sg) := Lib.hid (by rw [HS.out]; exact sign_hit ts k hlt hno.out (by rw [← HS.out]; exact hst))
        clear hE X3 hst hno
        go_wp2_with (first
          | (refine wpList_load_row rfl 74 _ rfl N rfl 74 E (0, 0) _ HEX.out Tryd.underlying74 rfl HEI.out ?_)
          | (refine wpList_store_row rfl 74 _ _ rfl G E rfl rfl 74 _ Z3.out HEI.out HES.out HEO.out ?_))
        refine bodyPost_ret (results_cell_row (fn := Tryd.f47) (p := 2) (ty := 74) Tryd.results47 _ _ G 74 E (0, 0) _ rfl (setRow_heap _ _ _ _ _ _ Z3.out) Tryd.underlying74 rfl HEI.out) rfl ?_
        refine ⟨by rw [HE.out, sgL, SG.out]; rfl, ?_⟩
        rw [← HG.out]
        exact below_setRow B3.out (Nat.le_refl _) _
      | false =>
        have HNO2 : Hid (∀ j, j < k + 1 → stT ts 0 (signsP.getD j ([], 0, false)).1 = false) := Lib.hid (fun j hj => by
          by_cases hj2 : j < k
          · exact hno.out j hj2
          · obtain rfl : j = k := by omega
            rw [← HS.out]; exact hst)
        clear hst hno X3
        go_wp2_with fail
        go_roundw
        case rel => exact ⟨k + 1, by omega, by go_num, Z3, B3, HNO2⟩
        case measure => simp [intOf]; omega
    · obtain rfl : k = 10 := by omega
      have SN : Hid (signT ts = none) := Lib.hid (sign_no ts hno.out)
      clear hno
      obtain ⟨E, hE⟩ : ∃ E : Array Value, E = #[.string ⟨#[]⟩, .int .i64 0, .bool false] := ⟨_, rfl⟩
      have HE := Lib.hid hE
      have HEI : Hid ((Tryd.prog.info? 74).map (·.size) = some E.size) := Lib.hid (by rw [hE]; exact info_sg ([], 0, false))
      have HEO : Hid (E.all (·.oneCell') = true) := Lib.hid (by rw [hE]; exact all_oneCell_toArray (by intro v hv; simp at hv; rcases hv with rfl | rfl | rfl <;> rfl))
      have HES : Hid (#[Value.string ⟨#[]⟩, .int .i64 0, .bool false].size = E.size) := Lib.hid (by rw [hE])
      clear hE
      go_upto_region 7 with fail
      go_wp2_with (refine wpList_store_row rfl 74 _ _ rfl G E rfl (by rw [HE.out]; rfl) 74 _ hz.out HEI.out HES.out HEO.out ?_)
      refine bodyPost_ret (results_cell_row (fn := Tryd.f47) (p := 2) (ty := 74) Tryd.results47 _ _ G 74 E (0, 0) _ rfl (setRow_heap _ _ _ _ _ _ hz.out) Tryd.underlying74 rfl HEI.out) rfl ?_
      refine ⟨by rw [HE.out, sgL, SN.out], ?_⟩
      rw [← HG.out]
      exact below_setRow hb.out (Nat.le_refl _) _

end Go.Proofs.YtnajafnbickiiaaDoor

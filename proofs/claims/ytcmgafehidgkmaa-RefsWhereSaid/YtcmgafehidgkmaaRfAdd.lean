/-
  The contract of the search's add. Conditions: the path is at least 32 bytes; bounds on the number of paths.
-/
import Derived.Test.YtcmgafehidgkmaaRfSr
import Derived.Test.YtcmgafehidgkmaaParse
import Derived.Deep.LoopGhost
import Derived.StillTailTactics
import Derived.Test.YtcmgafehidgkmaaRfQuiet
import Derived.Lib.ConvBytes
namespace Go.Proofs.Ytcmgafehidgkmaa
open Go.RowKit
set_option linter.unusedVariables false

theorem info_tg : (Try.prog.info? 65).map (fun i => (i.zero, i.size, i.bytes)) = some (some (.agg #[.string ByteArray.empty, .bool false]), 2, 24) := by kernel_rfl
theorem zeroInt (w : World) : (zeroValue 3).run Try.prog w = .ok (.int .i64 0) w := by kernel_rfl
theorem info_dg (K : List UInt8) (h : K.length = 32) : (Try.prog.info? 63).map (·.size) = some (K.map Nam.bv).toArray.size := by rw [List.size_toArray, List.length_map, h]; kernel_rfl
/-- What a look-up answers. -/
theorem look_run {w : World} {mb n : Nat} {D : DataW Unit} (h : w.ownsMap Try.prog 63 (plainElem Try.prog 3) mb n D) {K : List UInt8} (hK : K.length = 32) :
    ∃ c : Int, D.atKey (kl K) (.lit (.int .i64 0)) = .lit (.int .i64 c) ∧ ∀ k, (Instr.lookup 54 (.map (some mb)) (.agg (K.map Nam.bv).toArray) true).run Try.prog (w.drewN k) = .ok (.tuple #[.int .i64 c, .bool (Go.Maps.has D (kl K))]) (w.drewN k) := by
  obtain ⟨v, ps, hrun, hv⟩ := h.look_ok lawD Try.underlying54 (zeroInt w) (plainElem_int Try.underlying3 (by decide)) (key_some hK)
  obtain ⟨c, rfl, hc, _⟩ := plainElem_int_inv Try.underlying3 hv
  have hc' := congrArg Prod.fst hc
  refine ⟨c, hc', fun k => ?_⟩
  have h2 : (w.drewN k).ownsMap Try.prog 63 (plainElem Try.prog 3) mb n D := h
  obtain ⟨v2, ps2, hrun2, hv2⟩ := h2.look_ok lawD Try.underlying54 (zeroInt _) (plainElem_int Try.underlying3 (by decide)) (key_some hK)
  obtain ⟨c2, rfl, hc2, _⟩ := plainElem_int_inv Try.underlying3 hv2
  have e : c2 = c := by
    have h3 := (congrArg Prod.fst hc2).symm.trans hc'
    simp only [DataW.lit.injEq, Lit.int.injEq, true_and] at h3
    exact h3
  rw [← e]; exact hrun2

/-- The first 32 bytes of a text, laid as bytes. -/
theorem conv32 (w : World) (x : ByteArray) (hx : 32 ≤ x.size) : ∃ (cap : Nat) (wB : World),
    (convert 9 22 (.string (x.extract 0 32))).run Try.prog w = .ok (.slice (some ⟨w.heap.size, 0, none⟩) 32 cap) wB ∧ wB.rangeAt w.heap.size 0 ((keyB x).map Nam.bv) ∧ wB.heap.size = w.heap.size + 1 ∧ Below w.heap.size w wB := by
  have hsz : (x.extract 0 32).size = 32 := by simp; omega
  have hk := keyB_len hx
  have hkb : (x.extract 0 32).data.toList = keyB x := by rw [Nam.ext_data]; simp [keyB]
  refine ⟨grownCap w 32 0 5, Lib.bytesWorld w 5 (x.extract 0 32), ?_, ?_, Lib.bytesWorld_size _ _ _, ?_⟩
  · have h := Lib.run_convert_string_bytes (P := Try.prog) w 9 22 5 (x.extract 0 32) Try.underlying9 Try.underlying22 Try.underlying5
    rw [hsz] at h; exact h
  · intro j v hj
    rw [Nat.zero_add]
    have hj2 : j < 32 := by
      have := List.getElem?_eq_some_iff.1 hj
      obtain ⟨h1, _⟩ := this
      simpa [hk] using h1
    have h := Lib.bytesWorld_cell w 5 (x.extract 0 32) j (by rw [hsz]; exact hj2)
    rw [h, hkb]
    rw [List.getElem?_map, List.getElem?_eq_getElem (by rw [hk]; exact hj2)] at hj
    rw [List.getD_eq_getElem?_getD, List.getElem?_eq_getElem (by rw [hk]; exact hj2)]
    exact hj
  · exact ⟨rfl, rfl, rfl, by rw [Lib.bytesWorld_size]; omega, fun k hk => Lib.bytesWorld_at_old w _ _ k hk⟩
theorem forget_world {Q : World → Prop} (W : World) (h : ∀ w1, w1 = W → Q w1) : Q W := h W rfl
theorem row_form2 {w : World} {base n size : Nat} {e : TypeId} {v : Value} {xs : List Value} (h : w.ownsRow base e size v n xs) : ∃ b c, v = .slice b n c := by
  rcases h.2 with ⟨rfl, rfl⟩ | ⟨g, cap, cur, rfl, _⟩
  · exact ⟨_, _, rfl⟩
  · exact ⟨_, _, rfl⟩
theorem idx_dg (K : List UInt8) (h : K.length = 32) (i : Nat) (hi : i < 32) (w : World) : (Instr.index 63 (.agg (K.map Nam.bv).toArray) (.int .i64 (i : Int))).run Try.prog w = .ok (.int .u8 ((K.getD i 0).toNat : Int)) w := by
  have h1 : (0 : Int) ≤ (i : Int) ∧ (i : Int) < ((32 : Nat) : Int) := by omega
  have hp : (part 5 (K.map Nam.bv).toArray ((i : Int).toNat * 1)).run Try.prog w = .ok (.int .u8 ((K.getD i 0).toNat : Int)) w := run_part_plain w (by kernel_rfl) (by
    rw [Int.toNat_natCast, Nat.mul_one, List.getElem?_toArray, List.getElem?_map, List.getElem?_eq_getElem (by omega), List.getD_eq_getElem?_getD, List.getElem?_eq_getElem (by omega)]; rfl)
  have hs : ∀ W, (sizeOf 5).run Try.prog W = .ok 1 W := Try.sizeOf5
  simp only [Instr.index, asIntOf, Sem.run_bind, Sem.run_pure, Result.andThen_ok, run_underlying Try.underlying63, if_pos h1, hs, hp]
theorem size32 (K : List UInt8) (h : K.length = 32) : (K.map Nam.bv).toArray.size = 32 := by simp [h]

set_option maxRecDepth 100000 in
set_option maxHeartbeats 4000000 in
theorem add_any (B s : Nat) (v : Value) (mb : Nat) (sg : List Bool) (D : DataW Unit) (ss : List ByteArray) (ms : List Bool) (w : World) (hS : Sr w B s v mb sg D ss ms) (hM : SrM sg D ss) (x : ByteArray) (hx : 32 ≤ x.size) (hBw : B ≤ w.heap.size) (hsl : ss.length ≤ 100000) :
    Calls Try.prog 32 #[.pointer (some ⟨s, 0, none⟩), .string x] w fun e w' => e = .returned (.tuple #[]) ∧ Oth s mb v w w' ∧ ∃ (v' : Value) (sg' : List Bool) (D' : DataW Unit), Sr w' B s v' mb sg' D' (addT ss ms x).1 (addT ss ms x).2 ∧ SrM sg' D' (addT ss ms x).1 ∧ ∀ g, v'.ownBlock = some g → v.ownBlock = some g ∨ w.heap.size ≤ g := by
  obtain ⟨i0, hi, hz0, hz1, hz2⟩ := info_parts info_tg
  have HI := Lib.hid hi
  have HZ0 := Lib.hid hz0
  have HZ1 := Lib.hid hz1
  have HZ2 := Lib.hid hz2
  clear hi hz0 hz1 hz2
  have hk := keyB_len hx
  have h2 : (32 : Int) ≤ (x.size : Int) := by omega
  have i3 := info_dg (keyB x) hk
  have i4 := Nam.one_bv (keyB x)
  have i5 := size32 (keyB x) hk
  obtain ⟨cap, wB, hcv, hra, hsz, hbB⟩ := conv32 w x hx
  have i6 : (Try.prog.info? 63).map (·.size) = some ((keyB x).map Nam.bv).length := by rw [i3]; simp
  obtain ⟨C, hC⟩ : ∃ C, C = ((keyB x).map Nam.bv).toArray := ⟨_, rfl⟩
  rw [← hC] at i3 i4 i5
  have HSZ := Lib.hid hsz
  have HRA := Lib.hid hra
  have HBB := Lib.hid hbB
  have I3 := Lib.hid i3
  have I4 := Lib.hid i4
  have I5 := Lib.hid i5
  have I6 := Lib.hid i6
  have HC := Lib.hid hC
  have HS := Lib.hid hS
  have HM := Lib.hid hM
  clear hra hbB hsz i3 i4 i5 i6 hC hS hM
  have hat : ∀ W, (Instr.arrayAt 63 (.slice (some ⟨w.heap.size, 0, none⟩) 32 cap)).run Try.prog W = .ok (.pointer (some ⟨w.heap.size, 0, none⟩)) W := fun W => by kernel_rfl
  go_enter Try.func32, Try.ntmps32
  go_wp2_with (first
    | (refine wpList_load_mid rfl 63 _ rfl w.heap.size 0 rfl ((keyB x).map Nam.bv) _ HRA.out Try.underlying63 rfl I6.out ?_; rw [← HC.out])
    | (refine wpList_store_row rfl 63 _ _ rfl wB.heap.size C rfl rfl 63 _ (heap_alloc_new wB _) I3.out I5.out.symm I4.out ?_
       refine forget_world (Q := fun W => wpList _ _ _ _ _ W) _ ?_
       intro w1 hw1
       have X1 : Hid (w1.heap[wB.heap.size]? = some (.cells C 63 (0, 0))) := Lib.hid (by rw [hw1]; exact setRow_heap _ _ _ _ _ _ (heap_alloc_new wB _))
       have B1 : Hid (Below wB.heap.size wB w1) := Lib.hid (by rw [hw1]; exact below_setRow ((Below.refl _ _).alloc (Nat.le_refl _) _) (Nat.le_refl _) _)
       clear hw1))
  have SB := HBB.out.trans (B1.out.mono HBB.out.size)
  have HS1 := Lib.hid (HS.out.below SB)
  have BB : Hid (Oth s mb v w w1) := Lib.hid (Oth.of_below SB)
  clear SB
  have hld : ∀ k, (Instr.loadAt 63 (.pointer (some ⟨wB.heap.size, 0, none⟩))).run Try.prog (w1.drewN k) = .ok (.agg C) (w1.drewN k) := fun k => by
    have h := run_loadAt_mid (P := Try.prog) (w1.drewN k) wB.heap.size 0 63 C.toList _ (fun j u hj => by
      have h2 : Has w1 wB.heap.size C.toList 63 := X1.out
      rw [Nat.zero_add]; exact h2.cellAt hj) Try.underlying63 rfl (by rw [I3.out]; simp)
    exact h
  have c0 := HS1.out.row.cellAt (i := 0) rfl
  have c1 := HS1.out.row.cellAt (i := 1) rfl
  obtain ⟨c, _, hlk⟩ := look_run HS1.out.map (keyB_len hx)
  rw [← HC.out] at hlk
  cases hb : Go.Maps.has D (kl (keyB x)) with
  | true =>
    rw [hb] at hlk
    have HYES := Lib.hid hb
    clear hb
    refine wp_region_quiet_lit (by kernel_rfl) (by kernel_rfl) ?_
    repeat (quiet_step (fail))
    refine quiet_ld (by rfl) _ _ rfl _ _ rfl hld ?_
    try simp only [Act.put, List.setIfInBounds_toArray, List.set_cons_zero, List.set_cons_succ]
    refine quiet_lk (by rfl) _ _ _ rfl _ _ _ rfl rfl hlk ?_
    try simp only [Act.put, List.setIfInBounds_toArray, List.set_cons_zero, List.set_cons_succ]
    repeat (quiet_step (fail))
    refine wpQuiet_nil ?_
    rintro _ ⟨nq, rfl⟩
    go_wp2_with fail
    refine bodyPost_ret (results_none rfl _ _ _) rfl ?_
    rw [HM.out.addT_old hx ms HYES.out]
    exact ⟨rfl, BB.out.trans ⟨rfl, rfl, rfl, Nat.le_refl _, fun _ _ _ _ _ => rfl⟩, v, sg, D, HS1.out.drewN nq, HM.out, fun g hg => .inl hg⟩
  | false =>
    rw [hb] at hlk
    have HNO := Lib.hid hb
    have HIM := Lib.hid HS1.out.map.isMap
    clear hb
    refine wp_region_quiet_lit (by kernel_rfl) (by kernel_rfl) ?_
    repeat (quiet_step (fail))
    refine quiet_ld (by rfl) _ _ rfl _ _ rfl hld ?_
    try simp only [Act.put, List.setIfInBounds_toArray, List.set_cons_zero, List.set_cons_succ]
    refine quiet_lk (by rfl) _ _ _ rfl _ _ _ rfl rfl hlk ?_
    try simp only [Act.put, List.setIfInBounds_toArray, List.set_cons_zero, List.set_cons_succ]
    repeat (quiet_step (fail))
    refine wpQuiet_nil ?_
    rintro _ ⟨nq, rfl⟩
    obtain ⟨w2, hw2⟩ : ∃ w2, w2 = w1.drewN nq := ⟨_, rfl⟩
    rw [← hw2]
    have hS2 : Sr w2 B s v mb sg D ss ms := by rw [hw2]; exact HS1.out.drewN nq
    have hB2 : Oth s mb v w w2 := by rw [hw2]; exact BB.out.trans ⟨rfl, rfl, rfl, Nat.le_refl _, fun _ _ _ _ _ => rfl⟩
    have hX2 : w2.heap[wB.heap.size]? = some (.cells C 63 (0, 0)) := by rw [hw2]; exact X1.out
    clear hw2 c0 c1 hld hlk
    clear HS1 X1
    have c0 := hS2.row.cellAt (i := 0) rfl
    have c1 := hS2.row.cellAt (i := 1) rfl
    have HX2 := Lib.hid hX2
    have HS2 := Lib.hid hS2
    have HB2 := Lib.hid hB2
    clear hX2 hS2 hB2
    obtain ⟨lv, lc, rfl⟩ := row_form2 HS2.out.own
    have hld : (Instr.loadAt 63 (.pointer (some ⟨wB.heap.size, 0, none⟩))).run Try.prog w2.drew = .ok (.agg C) w2.drew := by
      have h := run_loadAt_mid (P := Try.prog) w2.drew wB.heap.size 0 63 C.toList _ (fun j u hj => by
        have h2 : Has w2.drew wB.heap.size C.toList 63 := HX2.out
        rw [Nat.zero_add]; exact h2.cellAt hj) Try.underlying63 rfl (by rw [I3.out]; simp)
      exact h
    go_wp2_with fail
    refine wp_region_still_tail 10 (by kernel_rfl) (by kernel_rfl) ?_
    simp only [List.take_succ_cons, List.take_zero, List.drop_succ_cons, List.drop_zero]
    repeat still_step
    refine still_ld (by rfl) _ _ rfl _ _ rfl hld ?_
    try simp only [Act.put, List.setIfInBounds_toArray, List.set_cons_zero, List.set_cons_succ]
    repeat still_step
    refine wpStill_nil ?_
    refine wpList_mapUpdate_own _ rfl _ _ _ 54 rfl 63 3 lawD Try.underlying54 _ mb ss.length D rfl (show w2.drew.ownsMap _ _ _ mb ss.length D from HS2.out.map) (by unfold maxLen; omega) (.agg C) (.int .i64 (ss.length : Int)) (kl (keyB x)) rfl rfl (by rw [HC.out]; exact key_some hk) _ [] (plainElem_int Try.underlying3 (by simp only [Lit.wf, Bool.and_eq_true, decide_eq_true_eq]; exact ⟨by show (-9223372036854775808 : Int) ≤ _; omega, by show _ ≤ (9223372036854775807 : Int); omega⟩)) ?_
    intro w3 hm3 hg3
    have hg3' : w2.grownBy w3 (some mb) := ⟨hg3.os, hg3.tape, hg3.output, hg3.size, hg3.block⟩
    have HM3 := Lib.hid hm3
    have hsm : s ≠ mb := has_ne_map HS2.out.row HS2.out.map
    have hr3 : Has w3 s (.slice lv ss.length lc :: .map (some mb) :: sg.map Value.bool) 58 := (hg3'.block s HS2.out.row.lt (by simpa using hsm)).trans HS2.out.row
    have ho3 : w3.ownsRow B 65 2 (.slice lv ss.length lc) ss.length (tgC ss ms) := HS2.out.own.kept hg3' (.inr (own_ne_map HS2.out.own HS2.out.map))
    have hX3 : w3.heap[wB.heap.size]? = some (.cells C 63 (0, 0)) := (hg3'.block _ (Array.getElem?_eq_some_iff.1 HX2.out).1 (by
      intro e
      obtain ⟨es, clock, hb, _⟩ := HS2.out.map
      have e2 := Option.some.inj e
      rw [← e2, HX2.out] at hb; cases hb)).trans HX2.out
    have hb3 : Oth s mb (.slice lv ss.length lc) w w3 := HB2.out.trans (Oth.of_grown hg3' (.inr (.inl rfl)))
    have c0 := hr3.cellAt (i := 0) rfl
    have f0 := hr3.frozen 0
    have HR3 := Lib.hid hr3
    have HO3 := Lib.hid ho3
    have HX3 := Lib.hid hX3
    have HB3 := Lib.hid hb3
    have hBs := HS2.out.hs
    have hBm := HS2.out.hm
    have hsame := HS2.out.same
    have hlen := HS2.out.len
    clear hm3 hg3 hg3' hr3 ho3 hX3 hb3 hld HX2 HB2 HS HS2 c1
    have HBS : Hid (B ≤ w3.heap.size) := Lib.hid (by have := HB3.out.size; omega)
    go_wp2_with (at_builtin; go_must (refine wpList_append_lies _ rfl (.tmp 38) (.tmp 41) 55 rfl B 65 i0 (.agg #[.string ByteArray.empty, .bool false]) 2 24 Try.underlying55 HI.out HZ0.out HZ1.out HZ2.out rfl (by omega) _ ss.length (tgC ss ms) rfl (HO3.out.alloc _) ⟨w3.heap.size, 0, none⟩ 1 1 [.string x, .bool false] rfl rfl ?a1 ?a2 ?a3 ?a4 ?a5 ?a6 _ rfl ?a7))
    try (case a1 => (intro j u hj; rw [Addr.add_mid]; exact (Has.new w3 [.string x, .bool false] _).cellAt (by rw [Nat.zero_add]; exact hj)))
    try (case a2 => (intro u hu; simp only [List.mem_cons, List.not_mem_nil, or_false] at hu; rcases hu with rfl | rfl <;> rfl))
    try (case a3 => omega)
    try (case a4 => (unfold maxLen; omega))
    try (case a5 => omega)
    try (case a6 => (have := HBS.out; first | omega | (simp; omega)))
    intro g4 cap4 w4 hown hgrow hat4 hlt4
    have hr4 : Has w4 s (.slice lv ss.length lc :: .map (some mb) :: sg.map Value.bool) 58 := (hgrow.block s (HR3.out.alloc _).lt (fun e => own_ne HO3.out HR3.out (by decide) e.symm)).trans (HR3.out.alloc _)
    have hm4 := (HM3.out.alloc (.cells #[.string x, .bool false] 65)).kept hgrow (fun e => own_ne_map HO3.out HM3.out e.symm)
    have hX4 : Has w4 wB.heap.size C.toList 63 := by
      have h3 : Has w3 wB.heap.size C.toList 63 := HX3.out
      exact (hgrow.block _ (h3.alloc _).lt (fun e => own_ne HO3.out h3 (by decide) e.symm)).trans (h3.alloc _)
    have hb4 : Oth s mb (.slice lv ss.length lc) w w4 := HB3.out.trans ((Oth.of_below ((Below.refl _ _).alloc (Nat.le_refl _) _)).trans (Oth.of_grown hgrow (.inr (.inr rfl))))
    have hfr : ∀ k, (Value.slice (some ⟨g4, 0, none⟩) (ss.length + 1) cap4).ownBlock = some k → (Value.slice lv ss.length lc).ownBlock = some k ∨ w.heap.size ≤ k := by
      intro k hk
      have hk2 : g4 = k := by simpa [Value.ownBlock] using hk
      subst hk2
      rcases hat4 with h | h
      · exact .inl h
      · right; have := HB3.out.size; omega
    have hne : s ≠ wB.heap.size := by
      intro e; subst e
      have h1 := hr4
      have h2 := hX4
      unfold Has at h1 h2
      rw [h1] at h2
      injection h2 with h2; injection h2 with _ h2
      exact absurd h2 (by decide)
    have hgs : g4 ≠ s := by
      intro e; subst e
      exact own_ne hown hr4 (by decide) rfl
    have hsX : Has w4 wB.heap.size C.toList 63 := hX4
    have c0 := hr4.cellAt (i := 0) rfl
    have f0 := hr4.frozen 0
    have HR4 := Lib.hid hr4
    have HM4 := Lib.hid hm4
    have HO4 := Lib.hid hown
    have HX4 := Lib.hid hX4
    have HB4 := Lib.hid hb4
    have HNE := Lib.hid hne
    have HGS := Lib.hid hgs
    clear hr4 hm4 hown hX4 hb4 hgrow hat4 hlt4 HR3 HM3 HO3 HX3 HB3 hne hsX hgs hat
    go_wp2_with (first
      | (refine wpList_load_row rfl 63 _ rfl wB.heap.size rfl 63 C (0, 0) _ (HX4.out.setOther (a := ⟨s, 0, none⟩) (fun e => HNE.out e.symm) _) Try.underlying63 rfl I3.out ?_))
    obtain ⟨w5, hw5⟩ : ∃ w5, w5 = w4.setCell ⟨s, 0, none⟩ (.slice (some ⟨g4, 0, none⟩) (ss.length + 1) cap4) := ⟨_, rfl⟩
    rw [← hw5]
    have hS5 : Sr w5 B s (.slice (some ⟨g4, 0, none⟩) (ss.length + 1) cap4) mb sg (D.put (kl (keyB x)) (.lit (.int .i64 (ss.length : Int)))) (ss ++ [x]) (ms ++ [false]) := by
      rw [hw5]
      refine ⟨HR4.out.set 0 _, hlen, ?_, by simp [hsame], ?_, hBs, hBm⟩
      · rw [List.length_append, tgC_append x false hsame]
        exact HO4.out.kept (gset w4 ⟨s, 0, none⟩ _) (.inr (fun e => HGS.out (by simpa [Value.ownBlock] using e)))
      · rw [List.length_append]
        exact HM4.out.setCell (fun e => has_ne_map HR4.out HM4.out e.symm) _
    have hB5 : Oth s mb (.slice lv ss.length lc) w w5 := by rw [hw5]; exact HB4.out.trans (Oth.of_grown (gset w4 ⟨s, 0, none⟩ _) (.inl rfl))
    have HS5 := Lib.hid hS5
    have HB5 := Lib.hid hB5
    obtain ⟨D5, hD5⟩ : ∃ D5, D5 = D.put (kl (keyB x)) (.lit (.int .i64 (ss.length : Int))) := ⟨_, rfl⟩
    rw [← hD5] at HS5
    have HD5 := Lib.hid hD5
    obtain ⟨v5, hv5⟩ : ∃ v5, v5 = Value.slice (some ⟨g4, 0, none⟩) (ss.length + 1) cap4 := ⟨_, rfl⟩
    rw [← hv5] at HS5 hfr
    have HFR := Lib.hid hfr
    clear hw5 hS5 hB5 hv5 hD5 hfr HR4 HM4 HO4 HX4 HB4 HNE HGS c0 f0
    go_loopg [46] 33 (fun gk v46 wr => ∃ (i : Nat) (sg' : List Bool), gk = 33 - i ∧ i ≤ 32 ∧ v46 = .int .i64 i ∧ Sr wr B s v5 mb sg' D5 (ss ++ [x]) (ms ++ [false]) ∧ Oth s mb (.slice lv ss.length lc) w wr ∧ Hid (∀ b : UInt8, sg'.getD b.toNat false = true ↔ b ∈ (keyB x).take i ∨ sg.getD b.toNat false = true))
    case atStart => exact ⟨0, sg, rfl, Nat.zero_le _, rfl, HS5.out, HB5.out, Lib.hid (fun b => by simp)⟩
    case round =>
      obtain ⟨i, sg', rfl, hi32, rfl, hsr, hbr, hsg⟩ := hrel
      have HSR := Lib.hid hsr
      have HBR := Lib.hid hbr
      clear hsr hbr
      by_cases hlt : i < 32
      · have hii : (i : Int) < 32 := by omega
        obtain ⟨b, hb⟩ : ∃ b, b = (keyB x).getD i 0 := ⟨_, rfl⟩
        have hidx : ∀ W, (Instr.index 63 (.agg C) (.int .i64 (i : Int))).run Try.prog W = .ok (.int .u8 (b.toNat : Int)) W := fun W => by rw [HC.out, hb]; exact idx_dg _ hk i hlt W
        have hb1 := b.toNat_lt
        have hb2 : (b.toNat : Int) < 256 := by omega
        have hb0 : (0 : Int) ≤ (b.toNat : Int) := by omega
        have hlen' := HSR.out.len
        obtain ⟨u, hu⟩ : ∃ u, (sg'.map Value.bool)[b.toNat]? = some u := ⟨_, List.getElem?_eq_getElem (by rw [List.length_map, hlen']; exact hb1)⟩
        have hcell : wr.cell? ⟨s, b.toNat + 2, none⟩ = some u := HSR.out.row.cellAt (by rw [List.getElem?_cons_succ, List.getElem?_cons_succ]; exact hu)
        have hfrz := HSR.out.row.frozen (b.toNat + 2)
        rw [Nat.add_comm] at hcell hfrz
        have HSG : Hid (∀ c : UInt8, (sg'.set b.toNat true).getD c.toNat false = true ↔ c ∈ (keyB x).take (i + 1) ∨ sg.getD c.toNat false = true) := Lib.hid (fun c => by
          rw [sg_set b.toNat (by omega) c.toNat, hsg.out c, List.take_succ_eq_append_getElem (by rw [hk]; exact hlt), List.mem_append, List.mem_singleton]
          have he : (keyB x)[i]'(by rw [hk]; exact hlt) = b := by rw [hb, List.getD_eq_getElem?_getD, List.getElem?_eq_getElem (by rw [hk]; exact hlt)]; rfl
          rw [he]
          have h3 : c.toNat = b.toNat ↔ c = b := UInt8.toNat_inj
          rw [h3]
          constructor
          · rintro (h4 | h4 | h4)
            · exact .inl (.inr h4)
            · exact .inl (.inl h4)
            · exact .inr h4
          · rintro ((h4 | h4) | h4)
            · exact .inr (.inl h4)
            · exact .inl h4
            · exact .inr (.inr h4))
        clear hb hu hsg hlen'
        go_wp2_with fail
        go_roundg (33 - (i + 1))
        case rel => exact ⟨i + 1, sg'.set b.toNat true, rfl, by omega, by go_num, by have h3 := HSR.out.sign b.toNat; rw [Nat.add_comm] at h3; exact h3, HBR.out.trans (Oth.of_grown (gset wr ⟨s, 2 + b.toNat, none⟩ _) (.inl rfl)), HSG⟩
        case measure => omega
      · obtain rfl : i = 32 := by omega
        go_wp2_with fail
        first | go_end0 | (simp only [Exit.inBlock, Exit.then]; refine bodyPost_ret (results_none rfl _ _ _) rfl ?_)
        rw [HM.out.addT_new hx ms HNO.out]
        refine ⟨rfl, HBR.out, v5, sg', D5, HSR.out, ?_⟩
        refine ⟨?_, HFR.out⟩
        rw [HD5.out]
        exact HM.out.push (HIM.out) hx HNO.out (fun c => by rw [hsg.out c, List.take_of_length_le (by rw [hk]; exact Nat.le_refl _)])

end Go.Proofs.Ytcmgafehidgkmaa

/-
  The contract of the search's look. Conditions: bounds on the lengths; the bytes lie apart from the search.
-/
import Derived.Test.YtcmgafehidgkmaaRfAdd
import Derived.Test.YtcmgafehidgkmaaRfIn
namespace Go.Proofs.Ytcmgafehidgkmaa
open Go.RowKit
set_option linter.unusedVariables false

/-- A path has been met. -/
theorem Sr.meet {w : World} {B s g c : Nat} {mb : Nat} {sg : List Bool} {D : DataW Unit} {ss : List ByteArray} {ms : List Bool} (h : Sr w B s (.slice (some ⟨g, 0, none⟩) ss.length c) mb sg D ss ms) (i : Nat) :
    Sr (w.setCell ⟨g, i * 2 + 1, none⟩ (.bool true)) B s (.slice (some ⟨g, 0, none⟩) ss.length c) mb sg D ss (ms.set i true) ∧ w.grownBy (w.setCell ⟨g, i * 2 + 1, none⟩ (.bool true)) (some g) := by
  obtain ⟨h1, h2⟩ := h.own.stored (i * 2 + 1) (.bool true)
  have n1 : g ≠ s := fun e => own_ne h.own h.row (by decide) (by rw [e]; rfl)
  have n2 : g ≠ mb := fun e => own_ne_map h.own h.map (by rw [e]; rfl)
  refine ⟨⟨(h2.block s h.row.lt (by simpa using Ne.symm n1)).trans h.row, h.len, ?_, by rw [List.length_set]; exact h.same, h.map.kept h2 (by simpa using Ne.symm n2), h.hs, h.hm⟩, h2⟩
  rw [tgC_set i true h.same] at h1
  exact h1
theorem Sr.at_ {w : World} {B s g c : Nat} {mb : Nat} {sg : List Bool} {D : DataW Unit} {ss : List ByteArray} {ms : List Bool} (h : Sr w B s (.slice (some ⟨g, 0, none⟩) ss.length c) mb sg D ss ms) (i : Nat) (hi : i < ss.length) :
    w.cell? ⟨g, i * 2, none⟩ = some (.string (ss.getD i ⟨#[]⟩)) ∧ w.cell? ⟨g, i * 2 + 1, none⟩ = some (.bool (ms.getD i false)) ∧ w.frozen? ⟨g, i * 2 + 1, none⟩ = false :=
  ⟨by rw [h.own.cellAt (i * 2) (by omega)]; exact (tgC_at i h.same hi).1, by rw [h.own.cellAt (i * 2 + 1) (by omega)]; exact (tgC_at i h.same hi).2, h.own.frozenAt _⟩
/-- The places are told apart by their digests. -/
theorem SrM.place {sg : List Bool} {D : DataW Unit} {ss : List ByteArray} (h : SrM sg D ss) {K : Bts} (hK : K.length = 32) (hyes : Go.Maps.has D (kl K) = true) :
    ∃ j, j < ss.length ∧ keyB (ss.getD j ⟨#[]⟩) = K ∧ D.atKey (kl K) (.lit (.int .i64 0)) = .lit (.int .i64 (j : Int)) ∧ ∀ i, i < ss.length → keyB (ss.getD i ⟨#[]⟩) = K → i = j := by
  obtain ⟨x, hx, e⟩ := (h.has K hK).1 hyes
  obtain ⟨j, hj, hjx⟩ := List.getElem_of_mem hx
  have hg : ss.getD j ⟨#[]⟩ = x := by rw [List.getD_eq_getElem?_getD, List.getElem?_eq_getElem hj, ← hjx]; rfl
  have h1 := h.at_ j hj
  rw [hg, e] at h1
  refine ⟨j, hj, by rw [hg, e], h1, fun i hi hei => ?_⟩
  have h2 := h.at_ i hi
  rw [hei, h1] at h2
  simp only [DataW.lit.injEq, Lit.int.injEq, true_and] at h2
  omega
theorem SrM.noPlace {sg : List Bool} {D : DataW Unit} {ss : List ByteArray} (h : SrM sg D ss) {K : Bts} (hK : K.length = 32) (hno : Go.Maps.has D (kl K) = false) : ∀ i, i < ss.length → keyB (ss.getD i ⟨#[]⟩) ≠ K := by
  intro i hi e
  have := (h.has K hK).2 ⟨_, by rw [List.getD_eq_getElem?_getD, List.getElem?_eq_getElem hi]; exact List.getElem_mem hi, e⟩
  rw [hno] at this; cases this
theorem SrM.mem {sg : List Bool} {D : DataW Unit} {ss : List ByteArray} (h : SrM sg D ss) {i : Nat} (hi : i < ss.length) : (keyB (ss.getD i ⟨#[]⟩)).length = 32 ∧ ∀ x ∈ keyB (ss.getD i ⟨#[]⟩), sg.getD x.toNat false = true := by
  have hm : ss.getD i ⟨#[]⟩ ∈ ss := by rw [List.getD_eq_getElem?_getD, List.getElem?_eq_getElem hi]; exact List.getElem_mem hi
  exact ⟨keyB_len (h.long _ hm), fun x hx => (h.sign x).2 ⟨_, hm, hx⟩⟩

/-- What has been met in some bytes. -/
def MetIn (ss : List ByteArray) (ms ms' : List Bool) (p : Bts) : Prop := ∀ i, i < ss.length → (ms'.getD i false = true ↔ ms.getD i false = true ∨ keyB (ss.getD i ⟨#[]⟩) <:+: p)

theorem MetIn.start {sg : List Bool} {D : DataW Unit} {ss : List ByteArray} {ms : List Bool} (hM : SrM sg D ss) : MetIn ss ms ms [] := by
  intro i hi
  constructor
  · exact .inl
  · rintro (h | h)
    · exact h
    · rw [List.infix_nil] at h
      have := (hM.mem hi).1
      rw [h] at this; cases this
theorem take_snoc {p : Bts} {i : Nat} (h : i < p.length) : p.take (i + 1) = p.take i ++ [p.getD i 0] := by
  rw [List.take_succ_eq_append_getElem h, List.getD_eq_getElem?_getD, List.getElem?_eq_getElem h]; rfl
theorem MetIn.short {sg : List Bool} {D : DataW Unit} {ss : List ByteArray} {ms ms' : List Bool} {p : Bts} {i : Nat} (hM : SrM sg D ss) (h : MetIn ss ms ms' (p.take i)) (hi : i < p.length) (hr : runL (fun b => sg.getD b.toNat false) (p.take (i + 1)) < 32) : MetIn ss ms ms' (p.take (i + 1)) := by
  intro j hj
  rw [h j hj, take_snoc hi]
  rw [take_snoc hi] at hr
  obtain ⟨h1, h2⟩ := hM.mem hj
  rw [look_short h1 h2 hr]
theorem MetIn.none {sg : List Bool} {D : DataW Unit} {ss : List ByteArray} {ms ms' : List Bool} {p : Bts} {i : Nat} (hM : SrM sg D ss) (h : MetIn ss ms ms' (p.take i)) (hi : i < p.length) (h32 : 32 ≤ i + 1)
    (hno : ∀ j, j < ss.length → keyB (ss.getD j ⟨#[]⟩) ≠ lastN 32 (p.take (i + 1))) : MetIn ss ms ms' (p.take (i + 1)) := by
  intro j hj
  have hn := hno j hj
  rw [h j hj, take_snoc hi]
  rw [take_snoc hi] at hn
  obtain ⟨h1, _⟩ := hM.mem hj
  rw [look_long h1 (by simp; omega)]
  constructor
  · exact fun h => h.elim .inl (fun h => .inr (.inr h))
  · exact fun h => h.elim .inl (fun h => h.elim (fun e => absurd e hn) .inr)
theorem MetIn.hit {sg : List Bool} {D : DataW Unit} {ss : List ByteArray} {ms ms' : List Bool} {p : Bts} {i k : Nat} (hM : SrM sg D ss) (h : MetIn ss ms ms' (p.take i)) (hi : i < p.length) (h32 : 32 ≤ i + 1) (hk : k < ss.length) (hl : ms'.length = ss.length)
    (hyes : keyB (ss.getD k ⟨#[]⟩) = lastN 32 (p.take (i + 1))) (hone : ∀ j, j < ss.length → keyB (ss.getD j ⟨#[]⟩) = lastN 32 (p.take (i + 1)) → j = k) : MetIn ss ms (ms'.set k true) (p.take (i + 1)) := by
  intro j hj
  rw [sg_set k (by omega) j, h j hj]
  have h1 := hone j hj
  rw [take_snoc hi] at h1 hyes ⊢
  obtain ⟨h2, _⟩ := hM.mem hj
  rw [look_long h2 (by simp; omega)]
  constructor
  · rintro (e | e | e)
    · subst e; exact .inr (.inl hyes)
    · exact .inl e
    · exact .inr (.inr e)
  · rintro (e | e | e)
    · exact .inr (.inl e)
    · exact .inl (h1 e)
    · exact .inr (.inr e)

theorem grown_trans {w w' w'' : World} {row : Option Nat} (h : w.grownBy w' row) (h2 : w'.grownBy w'' row) : w.grownBy w'' row :=
  ⟨h2.os.trans h.os, h2.tape.trans h.tape, h2.output.trans h.output, Nat.le_trans h.size h2.size, fun i hi hr => (h2.block i (Nat.lt_of_lt_of_le hi h.size) hr).trans (h.block i hi hr)⟩
theorem slice32 (b off n cap i : Nat) (hi : 31 ≤ i) (h1 : i < n) (hc : n ≤ cap) (W : World) : (Instr.sliceAt 22 (.slice (some ⟨b, off, none⟩) n cap) (some (.int .i64 ((i : Int) + 1 - 32))) (some (.int .i64 ((i : Int) + 1))) none).run Try.prog W = .ok (.slice (some ⟨b, off + (i - 31), none⟩) 32 (cap - (i - 31))) W := by
  have hu : Try.prog.underlying 22 = some (.slice (Try.prog.elem 22)) := by kernel_rfl
  have hs : (sizeOf (Try.prog.elem 22)).run Try.prog W = .ok 1 W := by kernel_rfl
  rw [run_sliceAt_slice W _ _ _ _ _ hu, run_slice_lh W _ _ _ _ hu _ _ _ _ (by omega) (by omega) (by omega), hs, Result.andThen_ok]
  unfold sliced
  rw [if_neg (by omega), show ((i : Int) + 1 - 32).toNat = i - 31 by omega, show ((i : Int) + 1).toNat - (i - 31) = 32 by omega, Nat.mul_one]
  rw [Option.map_some, Addr.add_mid]

set_option maxRecDepth 100000 in
set_option maxHeartbeats 8000000 in
theorem look_any (B s : Nat) (v : Value) (mb : Nat) (sg : List Bool) (D : DataW Unit) (ss : List ByteArray) (ms : List Bool) (w : World) (hS : Sr w B s v mb sg D ss ms) (hM : SrM sg D ss) (hss : ss.length ≤ 100000)
    (a : Option Addr) (n cap : Nat) (p : List UInt8) (hB : IsB w a n cap p) (hn : n ≤ 140737488355328) (hfar : n ≠ 0 → ∀ b off, a = some ⟨b, off, none⟩ → v.ownBlock ≠ some b) :
    Calls Try.prog 21 #[.pointer (some ⟨s, 0, none⟩), .slice a n cap] w fun e w' => e = .returned (.tuple #[]) ∧ ∃ ms', Sr w' B s v mb sg D ss ms' ∧ MetIn ss ms ms' p ∧ w.grownBy w' v.ownBlock := by
  have hnl := hB.length
  have HNL := Lib.hid hnl
  have hcap := hB.room
  have hat := hB.at_
  have HM := Lib.hid hM
  have HS := Lib.hid hS
  have HF := Lib.hid hfar
  clear hS hB hnl hM hfar
  go_enter Try.func21, Try.ntmps21
  go_wp2_with fail
  go_loopg [4, 11] (n + 1) (fun gk v4 v11 wr => ∃ (i : Nat) (ms' : List Bool), gk = n + 1 - i ∧ i ≤ n ∧ v4 = .int .i64 (runL (fun b => sg.getD b.toNat false) (p.take i) : Nat) ∧ v11 = .int .i64 i ∧ Sr wr B s v mb sg D ss ms' ∧ MetIn ss ms ms' (p.take i) ∧ w.grownBy wr v.ownBlock)
  case atStart => exact ⟨0, ms, rfl, Nat.zero_le _, rfl, rfl, HS.out, MetIn.start HM.out, World.grownBy.refl _ _⟩
  case round =>
    obtain ⟨i, ms', rfl, hin, rfl, rfl, hsr, hmt, hgr⟩ := hrel
    have HSR := Lib.hid hsr
    have HMT := Lib.hid hmt
    have HGR := Lib.hid hgr
    clear hsr hmt hgr
    by_cases hlt : i < n
    · rcases hat with h0 | ⟨b, off, rfl, hb, hc⟩
      · omega
      have hii : (i : Int) < (n : Int) := by omega
      have hfb := HF.out (by omega) b off rfl
      obtain ⟨x, hx⟩ : ∃ x, x = p.getD i 0 := ⟨_, rfl⟩
      have c1 : wr.cell? ⟨b, off + i, none⟩ = some (.int .u8 (x.toNat : Int)) := by
        rw [hx]; exact HGR.out.cell (a := ⟨b, off + i, none⟩) (hc i hlt) (fun e => hfb e.symm)
      have hx1 := x.toNat_lt
      have hx2 : (x.toNat : Int) < 256 := by omega
      have hx0 : (0 : Int) ≤ (x.toNat : Int) := by omega
      obtain ⟨sb, hsb⟩ : ∃ sb, sb = sg.getD x.toNat false := ⟨_, rfl⟩
      have c2 : wr.cell? ⟨s, 2 + x.toNat, none⟩ = some (.bool sb) := by
        have h := HSR.out.row.cellAt (i := x.toNat + 2) (v := .bool sb) (by
          rw [List.getElem?_cons_succ, List.getElem?_cons_succ, List.getElem?_map, List.getElem?_eq_getElem (by rw [HSR.out.len]; exact hx1), hsb, List.getD_eq_getElem?_getD, List.getElem?_eq_getElem (by rw [HSR.out.len]; exact hx1)]; rfl)
        rw [Nat.add_comm] at h; exact h
      obtain ⟨r, hr⟩ : ∃ r, r = runL (fun b => sg.getD b.toNat false) (p.take i) := ⟨_, rfl⟩
      rw [← hr]
      have hrl := runL_le (fun b => sg.getD b.toNat false) (p.take i)
      rw [← hr, List.length_take] at hrl
      have HR := Lib.hid hr
      have HC := Lib.hid hc
      have HX := Lib.hid hx
      have HSB := Lib.hid hsb
      have HBB := Lib.hid hb
      have hil : i < p.length := by rw [HNL.out]; exact hlt
      have hsn := take_snoc hil
      clear hr hc hx hsb hb
      cases sb with
      | false =>
        have hr' : runL (fun b => sg.getD b.toNat false) (p.take (i + 1)) = 0 := by rw [hsn, ← HX.out]; exact runL_miss _ HSB.out.symm
        have HM' := Lib.hid (HMT.out.short HM.out hil (by rw [hr']; decide))
        have HR' := Lib.hid hr'
        clear hsn hr'
        go_wp2_with fail
        go_roundg (n + 1 - (i + 1))
        case rel => exact ⟨i + 1, ms', rfl, by omega, by rw [HR'.out]; rfl, by go_num, HSR.out, HM'.out, HGR.out⟩
        case measure => omega
      | true =>
        have hr' : runL (fun b => sg.getD b.toNat false) (p.take (i + 1)) = r + 1 := by rw [hsn, ← HX.out, HR.out]; exact runL_hit _ HSB.out.symm
        have hrn : (r : Int) + 1 ≤ 140737488355328 := by omega
        by_cases hs : r + 1 < 32
        · have hs' : (r : Int) + 1 < 32 := by omega
          have HM' := Lib.hid (HMT.out.short HM.out hil (by rw [hr']; exact hs))
          have HR' := Lib.hid hr'
          clear hsn hr'
          go_wp2_with fail
          go_roundg (n + 1 - (i + 1))
          case rel => exact ⟨i + 1, ms', rfl, by omega, by rw [HR'.out]; go_num, by go_num, HSR.out, HM'.out, HGR.out⟩
          case measure => omega
        · have hs' : ¬ (r : Int) + 1 < 32 := by omega
          have hi31 : 31 ≤ i := by omega
          have z0 : (0 : Int) ≤ (i : Int) + 1 := by omega
          have z1 : (32 : Int) ≤ (i : Int) + 1 := by omega
          have z3 : (i : Int) + 1 ≤ (n : Int) := by omega
          have z4 : ¬ cap = i - 31 := by omega
          have z5 : i + 1 - (i - 31) = 32 := by omega
          have z6 : (i : Int) + 1 ≤ (cap : Int) := by omega
          obtain ⟨K, hK⟩ : ∃ K, K = lastN 32 (p.take (i + 1)) := ⟨_, rfl⟩
          have htl : (p.take (i + 1)).length = i + 1 := by rw [List.length_take, HNL.out]; omega
          have hKl : K.length = 32 := by rw [hK]; unfold lastN; rw [List.length_drop, htl]; omega
          have hKe : K = (p.drop (i - 31)).take 32 := by
            rw [hK]; unfold lastN; rw [htl, List.drop_take, show i + 1 - 32 = i - 31 by omega, show i + 1 - (i - 31) = 32 by omega]
          have hra : wr.rangeAt b (off + (i - 31)) (K.map Nam.bv) := by
            intro j u hj
            have hj2 : j < 32 := by
              obtain ⟨h1, _⟩ := List.getElem?_eq_some_iff.1 hj
              simpa [hKl] using h1
            have h1 := HGR.out.cell (a := ⟨b, off + (i - 31 + j), none⟩) (HC.out (i - 31 + j) (by omega)) (fun e => hfb e.symm)
            rw [Nat.add_assoc, h1]
            rw [List.getElem?_map, hKe, List.getElem?_take, if_pos hj2, List.getElem?_drop, List.getElem?_eq_getElem (by rw [HNL.out]; omega)] at hj
            rw [List.getD_eq_getElem?_getD, List.getElem?_eq_getElem (by rw [HNL.out]; omega)]
            exact hj
          have hld : ∀ k, (Instr.loadAt 63 (.pointer (some ⟨b, off + (i - 31), none⟩))).run Try.prog (wr.drewN k) = .ok (.agg (K.map Nam.bv).toArray) (wr.drewN k) := fun k =>
            run_loadAt_mid (P := Try.prog) (wr.drewN k) b (off + (i - 31)) 63 (K.map Nam.bv) _ hra Try.underlying63 rfl (by rw [info_dg K hKl]; simp)
          have hat : ∀ k, (Instr.arrayAt 63 (.slice (some ⟨b, off + (i - 31), none⟩) 32 (cap - (i - 31)))).run Try.prog (wr.drewN k) = .ok (.pointer (some ⟨b, off + (i - 31), none⟩)) (wr.drewN k) := fun k => by kernel_rfl
          obtain ⟨c, hcat, hlk⟩ := look_run HSR.out.map hKl
          have HKE := Lib.hid hK
          have HKL := Lib.hid hKl
          have HCAT := Lib.hid hcat
          clear hK hKl hKe hra htl hcat hsn
          have w1 : IntKind.i64.wrap ((i : Int) + 1) = (i : Int) + 1 := IntWalk.i64_in _ (by omega)
          have w2 : IntKind.i64.wrap ((i : Int) + 1 - 32) = (i : Int) + 1 - 32 := IntWalk.i64_in _ (by omega)
          have d1 := HSR.out.row.cellAt (i := 1) rfl
          go_wp2_with fail
          refine wp_region_quiet_lit (by kernel_rfl) (by kernel_rfl) ?_
          repeat (quiet_step (fail))
          refine quiet_sl (by rfl) _ _ _ _ rfl _ _ _ _ rfl rfl rfl (fun k => slice32 b off n cap i hi31 hlt hcap.1 (wr.drewN k)) ?_
          try simp only [Act.put, List.setIfInBounds_toArray, List.set_cons_zero, List.set_cons_succ]
          refine quiet_arr (by rfl) _ _ rfl _ _ rfl hat ?_
          try simp only [Act.put, List.setIfInBounds_toArray, List.set_cons_zero, List.set_cons_succ]
          refine quiet_ld (by rfl) _ _ rfl _ _ rfl hld ?_
          try simp only [Act.put, List.setIfInBounds_toArray, List.set_cons_zero, List.set_cons_succ]
          refine quiet_lk (by rfl) _ _ _ rfl _ _ _ rfl rfl hlk ?_
          try simp only [Act.put, List.setIfInBounds_toArray, List.set_cons_zero, List.set_cons_succ]
          repeat (quiet_step (fail))
          refine wpQuiet_nil ?_
          rintro _ ⟨nq, rfl⟩
          obtain ⟨w2, hw2⟩ : ∃ w2, w2 = wr.drewN nq := ⟨_, rfl⟩
          rw [← hw2]
          have HS2 : Hid (Sr w2 B s v mb sg D ss ms') := Lib.hid (by rw [hw2]; exact HSR.out.drewN nq)
          have HG2 : Hid (w.grownBy w2 v.ownBlock) := Lib.hid (by rw [hw2]; exact ⟨HGR.out.os, HGR.out.tape, HGR.out.output, HGR.out.size, HGR.out.block⟩)
          have HR' := Lib.hid hr'
          clear hw2 hld hat hlk c1 c2 d1 hr' HSR HGR
          cases hyes : Go.Maps.has D (kl K) with
          | false =>
            have HM' := Lib.hid (HMT.out.none HM.out hil (by omega) (by rw [← HKE.out]; exact HM.out.noPlace HKL.out hyes))
            clear hyes
            go_wp2_with fail
            go_roundg (n + 1 - (i + 1))
            case rel => exact ⟨i + 1, ms', rfl, by omega, by rw [HR'.out]; go_num, by go_num, HS2.out, HM'.out, HG2.out⟩
            case measure => omega
          | true =>
            obtain ⟨j, hj, hjk, hja, hj1⟩ := HM.out.place HKL.out hyes
            obtain rfl : c = (j : Int) := by
              have h3 := HCAT.out.symm.trans hja
              simp only [DataW.lit.injEq, Lit.int.injEq, true_and] at h3
              exact h3
            obtain ⟨g, gc, rfl, _, _⟩ := HS2.out.own.form (by omega)
            have HM' := Lib.hid (HMT.out.hit HM.out hil (by omega) hj (HS2.out.same) (by rw [← HKE.out]; exact hjk) (by rw [← HKE.out]; exact hj1))
            obtain ⟨e1, e2, e3⟩ := HS2.out.at_ j hj
            have e0 := HS2.out.row.cellAt (i := 0) rfl
            have hjn : (j : Int) < (ss.length : Int) := by omega
            clear hyes hjk hja hj1 e1
            go_wp2_with fail
            obtain ⟨m1, m2⟩ := HS2.out.meet j
            go_roundg (n + 1 - (i + 1))
            case rel => exact ⟨i + 1, ms'.set j true, rfl, by omega, by rw [HR'.out]; go_num, by go_num, m1, HM'.out, grown_trans HG2.out m2⟩
            case measure => omega
    · obtain rfl : i = n := by omega
      have hii : ¬ (i : Int) < (i : Int) := by omega
      have HM' := Lib.hid HMT.out
      clear hat
      go_wp2_with fail
      first | go_end0 | (simp only [Exit.inBlock, Exit.then]; refine bodyPost_ret (results_none rfl _ _ _) rfl ?_)
      refine ⟨rfl, ms', HSR.out, ?_, HGR.out⟩
      have h3 := HM'.out
      rw [List.take_of_length_le (by rw [HNL.out]; exact Nat.le_refl _)] at h3
      exact h3

end Go.Proofs.Ytcmgafehidgkmaa

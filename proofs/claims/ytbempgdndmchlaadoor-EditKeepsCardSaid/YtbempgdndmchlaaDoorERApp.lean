/-
  The reference's At, of a tree that stays one whatever is done to some blocks: what it tells does, too.
-/
import Derived.Test.YtbempgdndmchlaaDoorEWou
import Derived.Test.YtbempgdndmchlaaDoorERAt
import Derived.Test.YtbempgdndmchlaaDoorERUnd
import Derived.Test.YtbempgdndmchlaaDoorEArg
import Derived.Test.YtbempgdndmchlaaDoorEAwake
import Derived.Test.YtbempgdndmchlaaDoorTRForm
import Derived.Test.YtbempgdndmchlaaDoorTGreat
import Derived.BigFrame
import Derived.Deep.Cut
namespace Go.Proofs.YtbempgdndmchlaaDoor
open Go.RowKit
set_option linter.unusedVariables false

def RAtS (F : List Nat) (r : Int ⊕ T) (w : World) (e : Ending) (w' : World) : Prop := ∃ n cs, e = .returned (.tuple #[.agg cs.toArray, .int .i64 (codeR r)]) ∧ Sta F w n cs (resT r) ∧ Below w.heap.size w w'

set_option maxRecDepth 100000 in
set_option maxHeartbeats 20000000 in
theorem rat_sta (F : List Nat) (n : Nat) (cs : List Value) (t : T) (s : ByteArray) (w : World) (ht : Sta F w n cs t) (hgood : Good t) :
    Calls Tryd.prog 15 #[.agg cs.toArray, .string s] w (RAtS F (atT s.data.toList t) w) := by
  have hI := Lib.hid (infoL (isT_five ht.self))
  have HT := Lib.hid ht
  have HGD := Lib.hid hgood
  obtain ⟨r, hr⟩ : ∃ r, r = atT s.data.toList t := ⟨_, rfl⟩
  rw [← hr]
  have HR := Lib.hid hr
  clear ht hgood hr
  go_enter Tryd.func15, Tryd.ntmps15
  go_upto_region 1 with fail
  obtain ⟨w1, hw1⟩ : ∃ w1, w1 = (w.alloc (.cells cs.toArray 26)).alloc (.cells #[.int .u8 0, .bool false, .slice none 0 0, .slice none 0 0, .slice none 0 0] 26) := ⟨_, rfl⟩
  have sz : (w.alloc (.cells cs.toArray 26)).heap.size = w.heap.size + 1 := by simp
  have r1 : Has w1 (w.heap.size + 1) zT 26 := by rw [hw1, ← sz]; exact Has.new _ zT _
  have g1 : Has w1 w.heap.size cs 26 := by rw [hw1]; exact (Has.new w cs _).alloc _
  have b1 : Below w.heap.size w w1 := by rw [hw1]; exact ((Below.refl _ _).alloc (Nat.le_refl _) _).alloc (by simp) _
  have s1 : w1.heap.size = w.heap.size + 1 + 1 := by rw [hw1]; simp
  rw [← hw1]
  obtain ⟨G, hG⟩ : ∃ G, G = w.heap.size := ⟨_, rfl⟩
  obtain ⟨R, hR⟩ : ∃ R, R = w.heap.size + 1 := ⟨_, rfl⟩
  rw [← hR] at r1 s1
  rw [← hG] at g1
  have hGR : G < R := by omega
  have hwG : w.heap.size ≤ G := by omega
  have hwR : w.heap.size ≤ R := by omega
  have hs1 : w1.heap.size = R + 1 := s1
  have HGS : Hid (G = w.heap.size) := Lib.hid hG
  rw [← hR, ← hG]
  have HK := Lib.hid (rsplit_any s w1)
  have R1 := Lib.hid r1
  have G1 := Lib.hid g1
  have B1 := Lib.hid b1
  have HZI : Hid ((Tryd.prog.info? 26).map (·.size) = some zT.toArray.size) := Lib.hid (by rw [info5]; rfl)
  have HZO : Hid (zT.toArray.all (·.oneCell') = true) := Lib.hid (all_oneCell_toArray (fun v hv => by
    simp only [zT, List.mem_cons, List.not_mem_nil, or_false] at hv
    rcases hv with rfl | rfl | rfl | rfl | rfl <;> rfl))
  clear hw1 sz r1 g1 b1 s1 hG hR
  go_wp2_with fail
  refine HK.out.mono ?_
  rintro e w2 ⟨⟨a, nl, cap, l, hIS, hlm, rfl, hge⟩, b2⟩
  have R2 := Lib.hid (R1.out.below b2 (by omega))
  have G2 := Lib.hid (G1.out.below b2 (by omega))
  have B2 := Lib.hid (B1.out.trans (b2.mono B1.out.size))
  have HIS := Lib.hid hIS
  have HGE : Hid (∀ x, a = some x → R < x.block) := Lib.hid (fun x hx => by have := hge x hx; omega)
  have HLM := Lib.hid hlm
  have hroom := hIS.room
  unfold maxLen at hroom
  clear b2 hIS hge hlm HK R1 G1 B1
  by_cases hsp : (splitT s.data.toList).2 = 0
  · have HF : Hid (findT l t = r) := Lib.hid (by rw [HR.out]; unfold atT; rw [if_pos hsp, mkB_of HLM.out])
    rw [hsp]
    clear hsp
    go_wp2_with fail
    go_loopw [8] (fun ii wr => ∃ (i n' : Nat) (cs' : List Value) (t' : T), i ≤ nl ∧ ii = .int .i64 i ∧ Has wr G cs' 26 ∧ Has wr R zT 26 ∧ Sta F w n' cs' t' ∧ findT (l.drop i) t' = r ∧ Below w.heap.size w wr ∧ IsS wr a nl cap l ∧ Good t') (fun ii _ => nl - (intOf ii).toNat)
    case atStart => exact ⟨0, n, cs, t, Nat.zero_le _, rfl, G2.out, R2.out, HT.out, by rw [List.drop_zero]; exact HF.out, B2.out, HIS.out, HGD.out⟩
    case round =>
      clear G2 R2 B2 HIS HF
      obtain ⟨i, n', cs', t', hi, rfl, hg, hr, hT, hfd, hbel, hIS, hgd⟩ := hrel
      by_cases hlt : i < nl
      · rcases hIS.at_ with h0 | ⟨b, off, rfl, hb, hc⟩
        · omega
        have hll : i < l.length := by rw [hIS.length]; exact hlt
        have hbR : R < b := HGE.out _ rfl
        obtain ⟨nm, hnm⟩ : ∃ nm, nm = l.getD i ⟨#[]⟩ := ⟨_, rfl⟩
        have hcn : wr.cell? ⟨b, off + i, none⟩ = some (.string nm) := by rw [hnm]; exact hc i hlt
        have hdrop : l.drop i = nm :: l.drop (i + 1) := by
          rw [hnm, List.getD_eq_getElem?_getD, List.getElem?_eq_getElem hll]; exact List.drop_eq_getElem_cons hll
        rw [hdrop] at hfd
        have HTT := Lib.hid (IsT.later hbel _ _ _ hT.self)
        have HTS := Lib.hid hT
        have h5 := isT_five hT.self
        cases n' with
        | zero => exact absurd hT.self (by simp [IsT])
        | succ m =>
        obtain ⟨k, x, d, ns, ks⟩ := t'
        obtain ⟨ad, nd, cd, an, nn, cn, ak, nk, ck, hcs, hB, hSS, hK⟩ := hT.self
        clear hT
        have cg0 : wr.cell? ⟨G, 0, none⟩ = some (.int .u8 (k.toNat : Int)) := hg.cellAt (i := 0) (by rw [hcs]; rfl)
        have cg4 : wr.cell? ⟨G, 4, none⟩ = some (.slice ak nk ck) := hg.cellAt (i := 4) (by rw [hcs]; rfl)
        have HCS := Lib.hid hcs
        have HXG := Lib.hid hg
        have HXR := Lib.hid hr
        have HBE := Lib.hid hbel
        have HIS := Lib.hid hIS
        have HKK := Lib.hid hK
        have HGD' := Lib.hid hgd
        have H5 := Lib.hid h5
        have hki : (i : Int) < (nl : Int) := by omega
        have hni : (i : Int) + 1 ≤ 9223372036854775807 := by omega
        rw [findT] at hfd
        have HFD := Lib.hid hfd
        have HLT := Lib.hid hlt
        have hbsz := hbel.size
        have HCN := Lib.hid hcn
        have HBS := Lib.hid hb
        clear hg hr hbel hIS hSS hK hB hc hnm hdrop hfd hgd h5 hcs hcn
        by_cases hk3 : k = 3
        · subst hk3
          have hfd2 : (if Lib.idxOfS ns nm < 0 ∨ (ks.length : Int) ≤ Lib.idxOfS ns nm then Sum.inl 6 else findT (l.drop (i + 1)) (ks.getD (Lib.idxOfS ns nm).toNat default)) = (r : Int ⊕ T) := by
            have := HFD.out; rwa [if_neg (by simp)] at this
          have hlens := HGD'.out.lens
          have hixl := idxOfS_lt ns nm
          have hixg := idxOfS_ge ns nm
          have HFI := Lib.hid (fun W (hb : IsT W (m + 1) cs' (.mk 3 x d ns ks)) => find_any (m + 1) cs' 3 x d ns ks nm W hb)
          obtain ⟨ix, hix⟩ : ∃ ix, ix = Lib.idxOfS ns nm := ⟨_, rfl⟩
          rw [← hix] at hfd2 hixl hixg
          have HIX := Lib.hid hix
          have HF2 := Lib.hid hfd2
          have HLK := HKK.out.length
          have hixk : ix < (nk : Int) := by omega
          clear hix hfd2 HFD hlens hixl
          have hu26 := Tryd.underlying26
          have hiL : (Tryd.prog.info? 26).map (·.size) = some cs'.length := by rw [info5, H5.out]
          go_upto_region 9 with fail
          refine wp_region_held_drew (S := fun W => Has W G cs' 26 ∧ W.cell? ⟨b, off + i, none⟩ = some (.string nm)) (by kernel_rfl) ⟨HXG.out.drew, HCN.out⟩ (fun hHeld => ?_)
          refine wpAnyH_take (i := 0) (oi := { dst := some 29, op := Op.load 26 (Operand.tmp 2), type := 26, pos := "ref.go:131", after := #[], guard := none }) rfl (by kernel_rfl) (by kernel_rfl) (by kernel_rfl) (fun _ _ _ h => h)
            (yieldsIf_load_mid (by rfl) 26 (.tmp 2) rfl G (0) rfl cs' _ (fun _ h => rangeAt_has h.1) hu26 rfl hiL) hHeld ?_
          try simp only [Act.put, List.setIfInBounds_toArray, List.set_cons_zero, List.set_cons_succ]
          refine wpAnyH_take (i := 1) (oi := { dst := some 30, op := Op.move (Operand.tmp 6), type := 23, pos := "ref.go:131", after := #[], guard := none }) (v := .slice (some ⟨b, off, none⟩) nl cap) rfl (by kernel_rfl) (by kernel_rfl) (by kernel_rfl) (fun _ _ _ h => h)
            (Or.inl ⟨by rfl, by intro w hSw; have hSd := hSw.2; clear hSw; go_simp⟩) hHeld ?_
          try simp only [Act.put, List.setIfInBounds_toArray, List.set_cons_zero, List.set_cons_succ]
          refine wpAnyH_take (i := 2) (oi := { dst := some 31, op := Op.move (Operand.tmp 8), type := 3, pos := "ref.go:131", after := #[], guard := none }) (v := .int .i64 (i : Int)) rfl (by kernel_rfl) (by kernel_rfl) (by kernel_rfl) (fun _ _ _ h => h)
            (Or.inl ⟨by rfl, by intro w hSw; have hSd := hSw.2; clear hSw; go_simp⟩) hHeld ?_
          try simp only [Act.put, List.setIfInBounds_toArray, List.set_cons_zero, List.set_cons_succ]
          refine wpAnyH_take (i := 3) (oi := { dst := some 32, op := Op.indexAddr 23 (Operand.tmp 30) (Operand.tmp 31), type := 0, pos := "ref.go:131", after := #[{ on := 1, ground := Ground.data }, { on := 2, ground := Ground.data }], guard := none }) (v := .pointer (some ⟨b, off + i, none⟩)) rfl (by kernel_rfl) (by kernel_rfl) (by kernel_rfl) (fun _ _ _ h => h)
            (Or.inl ⟨by rfl, by intro w hSw; have hSd := hSw.2; clear hSw; go_simp⟩) hHeld ?_
          try simp only [Act.put, List.setIfInBounds_toArray, List.set_cons_zero, List.set_cons_succ]
          refine wpAnyH_take (i := 4) (oi := { dst := some 33, op := Op.load 9 (Operand.tmp 32), type := 9, pos := "ref.go:131", after := #[{ on := 3, ground := Ground.data }], guard := none }) (v := .string nm) rfl (by kernel_rfl) (by kernel_rfl) (by kernel_rfl) (fun _ _ _ h => h)
            (Or.inl ⟨by rfl, by intro w hSw; have hSd := hSw.2; clear hSw; go_simp⟩) hHeld ?_
          try simp only [Act.put, List.setIfInBounds_toArray, List.set_cons_zero, List.set_cons_succ]
          refine wpAnyH_ready (rs := [5]) (by kernel_rfl) (by simp) ?_
          refine AllReadyH.cons (o := { dst := some 34, op := Op.call { callee := Callee.value (Operand.func 23), args := #[Operand.tmp 29, Operand.tmp 33], argTypes := #[26, 9] }, type := 3, pos := "ref.go:131", after := #[{ on := 0, ground := Ground.data }, { on := 4, ground := Ground.data }], guard := none }) rfl (fun K hK => ?_) AllReadyH.nil
          go_simp
          refine (HFI.out _ (IsT.later (w := wr) (below_drewT (Below.refl _ wr)) _ _ _ HTT.out)).mono ?_
          rintro e w9 ⟨rfl, b9⟩
          rw [← HIX.out]
          go_wp2_with fail
          have b9' : Below wr.heap.size wr w9 := ⟨b9.os.trans rfl, b9.tape.trans rfl, b9.output, b9.size, b9.block⟩
          have s9 : wr.heap.size ≤ w9.heap.size := b9'.size
          have hx9 : Has w9 G cs' 26 := HXG.out.below b9' HXG.out.lt
          have hc9 : w9.cell? ⟨b, off + i, none⟩ = some (.string nm) := (b9'.cell (p := ⟨b, off + i, none⟩) HBS.out).trans HCN.out
          refine hK.out _ _ ⟨hx9, hc9⟩ (fun hHeld2 => ?_)
          clear hK K hHeld HFI
          try simp only [Act.put, List.setIfInBounds_toArray, List.set_cons_zero, List.set_cons_succ]
          refine wpAnyH_take (i := 6) (oi := { dst := some 9, op := Op.assign (Operand.tmp 34), type := 3, pos := "ref.go:131", after := #[{ on := 5, ground := Ground.data }, { on := 5, ground := Ground.chain }, { on := 0, ground := Ground.phase }, { on := 1, ground := Ground.phase }, { on := 2, ground := Ground.phase }, { on := 3, ground := Ground.phase }, { on := 4, ground := Ground.phase }, { on := 5, ground := Ground.phase }], guard := none }) (v := .int .i64 ix) rfl (by kernel_rfl) (by kernel_rfl) (by kernel_rfl) (fun _ _ _ h => h)
            (Or.inl ⟨by rfl, by intro w hSw; have hSd := hSw.2; clear hSw; go_simp⟩) hHeld2 ?_
          try simp only [Act.put, List.setIfInBounds_toArray, List.set_cons_zero, List.set_cons_succ]
          refine wpAnyH_done (by kernel_rfl) ?_ _
          have HX9 := Lib.hid hx9
          have HR9 := Lib.hid (HXR.out.below b9' HXR.out.lt)
          have HB9 := Lib.hid (HBE.out.trans (b9'.mono hbsz))
          have HI9 := Lib.hid (HIS.out.later b9')
          have cx4 : w9.cell? ⟨G, 4, none⟩ = some (.slice ak nk ck) := hx9.cellAt (i := 4) (by rw [HCS.out]; rfl)
          clear hHeld2 hx9 hc9 b9 b9' hiL hu26 cg0 cg4
          by_cases hneg : ix < 0
          · have HRR : Hid (r = .inl 6) := Lib.hid (by have := HF2.out; rw [if_pos (.inl hneg)] at this; exact this.symm)
            go_wp2_with (refine wpList_store_row rfl 26 _ _ rfl R zT.toArray rfl rfl 26 _ HR9.out HZI.out rfl HZO.out ?_)
            refine bodyPost_ret (at_ret (fn := Tryd.f15) (p := 4) (u := 5) (ty := 26) Tryd.results15 _ _ R 26 zT.toArray (0, 0) _ rfl (setRow_heap _ _ _ _ _ _ HR9.out) Tryd.underlying26 rfl HZI.out) rfl ?_
            rw [HRR.out]
            exact ⟨1, zT, rfl, fun w' _ => isT_zero w', below_setRow HB9.out (by omega) _⟩
          · obtain ⟨j, rfl⟩ : ∃ j : Nat, ix = (j : Int) := ⟨ix.toNat, by omega⟩
            have hjn : j < nk := by omega
            have hf3 : findT (l.drop (i + 1)) (ks.getD j default) = r := by
              have := HF2.out
              rw [if_neg (by rw [HLK]; omega)] at this
              simpa using this
            have hjk2 : j < ks.length := by rw [HLK]; exact hjn
            have hts : Sta F w (m + 1) [.int .u8 ((3 : UInt8).toNat : Int), .bool x, .slice ad nd cd, .slice an nn cn, .slice ak nk ck] (.mk 3 x d ns ks) := by rw [← HCS.out]; exact HTS.out
            obtain ⟨bk, ok, e0, e1, e2, e3, e4, rfl, hbk, hrg, hRk⟩ := hts.kid hjk2
            have hrange : w9.rangeAt bk (ok + j * 5) [e0, e1, e2, e3, e4] := fun q v hv => (HB9.out.cell (p := ⟨bk, ok + j * 5 + q, none⟩) hbk).trans (hrg q v hv)
            have HGK : Hid (Good (ks.getD j default)) := Lib.hid (HGD'.out.kid j (by omega))
            obtain ⟨L5, hL5⟩ : ∃ L, L = [e0, e1, e2, e3, e4] := ⟨_, rfl⟩
            rw [← hL5] at hrange hRk
            have HRG := Lib.hid hrange
            have HRK := Lib.hid hRk
            have HLI := Lib.hid (infoL (isT_five hRk.self))
            have HL5 : Hid ((Tryd.prog.info? 26).map (·.size) = some L5.length) := Lib.hid (by rw [info5, isT_five hRk.self])
            have HLO := Lib.hid (isT_one hRk.self)
            have HLS : Hid (cs'.toArray.size = L5.toArray.size) := Lib.hid (by simp [H5.out, isT_five hRk.self])
            have HF3 := Lib.hid hf3
            have hjk : (j : Int) < (nk : Int) := by omega
            have hq1 : decide ((j : Int) < 0) = false := by simp
            have hq2 : ¬ (j : Int) < 0 := by omega
            clear hf3 hts hrg hbk hjk2 hrange hRk hL5 hneg hjn HLK
            go_wp2_with (first
              | (refine wpList_load_mid rfl 26 _ rfl bk (ok + j * 5) rfl L5 _ HRG.out Tryd.underlying26 rfl HL5.out ?_)
              | (refine wpList_store_row rfl 26 _ _ rfl G L5.toArray rfl rfl 26 _ HX9.out HLI.out HLS.out HLO.out ?_))
            go_roundw
            case rel =>
              refine ⟨i + 1, m, L5, _, by have := HLT.out; omega, by go_num, HX9.out.row L5, HR9.out.rowOther (by omega) _, HRK.out, HF3.out, below_setRow HB9.out (by omega) _, ?_, HGK.out⟩
              have hS := HI9.out
              refine ⟨hS.length, ?_, hS.nil, hS.room⟩
              rcases hS.at_ with h0 | ⟨b', off', he, hb', hc'⟩
              · exact .inl h0
              · cases he
                exact .inr ⟨b, off, rfl, by simpa using hb', fun q hq => (World.cell?_of_block (w := w9) (a := ⟨b, off + q, none⟩) (setRow_other _ _ _ _ (by show b ≠ G; omega))).trans (hc' q hq)⟩
            case measure =>
              have := HLT.out
              simp only [intOf]; omega
        · have HRR : Hid (r = .inl 8) := Lib.hid (by have := HFD.out; rw [if_pos hk3] at this; exact this.symm)
          obtain ⟨z, hz⟩ : ∃ z : Int, z = (k.toNat : Int) := ⟨_, rfl⟩
          rw [← hz] at cg0
          have hz3 : (z == 3) = false := by
            have : k.toNat ≠ 3 := fun h => hk3 (UInt8.toNat_inj.1 h)
            rw [beq_eq_false_iff_ne]; omega
          have hz3' : ¬ z = 3 := by simpa using hz3
          have hz4 : (z != 3) = true := by rw [bne_iff_ne]; exact hz3'
          clear hk3 HFD hz
          go_wp2_with (refine wpList_store_row rfl 26 _ _ rfl R zT.toArray rfl rfl 26 _ HXR.out HZI.out rfl HZO.out ?_)
          refine bodyPost_ret (at_ret (fn := Tryd.f15) (p := 4) (u := 5) (ty := 26) Tryd.results15 _ _ R 26 zT.toArray (0, 0) _ rfl (setRow_heap _ _ _ _ _ _ HXR.out) Tryd.underlying26 rfl HZI.out) rfl ?_
          rw [HRR.out]
          exact ⟨1, zT, rfl, fun w' _ => isT_zero w', below_setRow HBE.out (by omega) _⟩
      · obtain rfl : nl = i := by omega
        have HRR : Hid (r = .inr t') := Lib.hid (by
          have : l.drop nl = [] := List.drop_eq_nil_of_le (by rw [hIS.length]; exact Nat.le_refl _)
          rw [this] at hfd
          exact hfd.symm)
        have HCS := Lib.hid (infoL (isT_five hT.self))
        have HSS : Hid (zT.toArray.size = cs'.toArray.size) := Lib.hid (by simp [isT_five hT.self, zT])
        have HSO := Lib.hid (isT_one hT.self)
        have HXG := Lib.hid hg
        have HXR := Lib.hid hr
        have HBE := Lib.hid hbel
        have HTT := Lib.hid hT
        clear hg hr hbel hT hfd hIS hgd
        go_wp2_with (first
          | (refine wpList_load_row rfl 26 _ rfl G rfl 26 cs'.toArray (0, 0) _ HXG.out Tryd.underlying26 rfl HCS.out ?_)
          | (refine wpList_store_row rfl 26 _ _ rfl R cs'.toArray rfl rfl 26 _ HXR.out HCS.out HSS.out HSO.out ?_))
        refine bodyPost_ret (at_ret (fn := Tryd.f15) (p := 4) (u := 5) (ty := 26) Tryd.results15 _ _ R 26 cs'.toArray (0, 0) _ rfl (setRow_heap _ _ _ _ _ _ HXR.out) Tryd.underlying26 rfl HCS.out) rfl ?_
        rw [HRR.out]
        exact ⟨n', cs', rfl, HTT.out, below_setRow HBE.out (by omega) _⟩
  · have HRR : Hid (r = .inl (splitT s.data.toList).2) := Lib.hid (by rw [HR.out]; unfold atT; rw [if_neg hsp])
    obtain ⟨code, hcode⟩ : ∃ c, c = (splitT s.data.toList).2 := ⟨_, rfl⟩
    rw [← hcode] at HRR hsp ⊢
    have hne1 : (code != 0) = true := by rw [bne_iff_ne]; exact hsp
    have hne2 : (code == 0) = false := by rw [beq_eq_false_iff_ne]; exact hsp
    clear hcode hsp
    go_wp2_with (refine wpList_store_row rfl 26 _ _ rfl R zT.toArray rfl rfl 26 _ R2.out HZI.out rfl HZO.out ?_)
    refine bodyPost_ret (at_ret (fn := Tryd.f15) (p := 4) (u := 5) (ty := 26) Tryd.results15 _ _ R 26 zT.toArray (0, 0) _ rfl (setRow_heap _ _ _ _ _ _ R2.out) Tryd.underlying26 rfl HZI.out) rfl ?_
    rw [HRR.out]
    exact ⟨1, zT, rfl, fun w' _ => isT_zero w', below_setRow B2.out (by omega) _⟩

end Go.Proofs.YtbempgdndmchlaaDoor

namespace Go.Proofs.YtbempgdndmchlaaDoor
open Go.RowKit
set_option linter.unusedVariables false

/-- The names of a path, as the reference tells them. -/
theorem rsplitB (s : ByteArray) (w : World) : Calls Tryd.prog 22 #[.string s] w fun e w' => ∃ a k c l z, e = .returned (.tuple #[.slice a k c, .int .i64 z]) ∧ IsS w' a k c l ∧ Below w.heap.size w w' ∧
    ((z ≠ 0 ∧ z = (belN s.data.toList : Int) ∧ belN s.data.toList ≠ 0) ∨ (z = 0 ∧ belN s.data.toList = 1 ∧ l = []) ∨ (z = 0 ∧ belN s.data.toList = 0 ∧ l = nmE s.data.toList)) := by
  refine (rsplit_any s w).mono ?_
  rintro e w' ⟨⟨a, n, cap, l, hl, hm, rfl, _⟩, hb⟩
  refine ⟨a, n, cap, l, _, rfl, hl, hb, ?_⟩
  obtain ⟨L, hL⟩ : ∃ L, L = s.data.toList := ⟨_, rfl⟩
  rw [← hL] at hm ⊢
  unfold splitT at hm ⊢
  unfold belN
  by_cases h1 : 400 < L.length
  · rw [if_pos h1] at hm ⊢; rw [if_pos h1]; exact .inl ⟨by decide, rfl, by decide⟩
  · rw [if_neg h1] at hm ⊢
    rw [if_neg h1]
    by_cases h2 : L = []
    · rw [if_pos h2] at hm ⊢; rw [if_pos h2]; exact .inr (.inl ⟨rfl, rfl, List.map_eq_nil_iff.1 hm⟩)
    · rw [if_neg h2] at hm ⊢
      rw [if_neg h2]
      by_cases h3 : (pieces L).all tName = true
      · rw [if_pos h3] at hm ⊢; rw [if_pos h3]; exact .inr (.inr ⟨rfl, rfl, nmE_of hm⟩)
      · rw [if_neg h3] at hm ⊢; rw [if_neg h3]; exact .inl ⟨by decide, rfl, by decide⟩

/-- What is left when something was dropped has a size. -/
theorem drop_sized {t : T} (h : (sizeT t).isSome = true) {l : List ByteArray} (hn : ∀ x ∈ l, tName x.data.toList = true) (h0 : (chgR .drop l t).1 = 0) : (sizeT (chgR .drop l t).2).isSome = true := by
  have hex := exact_of h
  have hfr := chg_free .drop l t 1 (sizeN t) (bytesT t) 1 0 0
  have hc : cd (chgE .drop l 1 t (sizeN t) (bytesT t)) = 0 := by rw [hfr.1]; exact h0
  have h1 : (chgE .drop l 1 t (sizeN t) (bytesT t)).1 = 0 := by
    unfold cd at hc
    split at hc
    · exact absurd (by assumption) (drop_not2 l t 1 _ _)
    · exact hc
  have h2 := (hex.done (chg_done .drop (fun k hk => by cases hk) l hn t 1 _ _ hex.1 h1)).size
  rw [hfr.2] at h2
  exact h2

def oneCode (k : UInt8) (path src : ByteArray) (tt t : T) : Nat × T := oneR ⟨k, path, src, tt⟩ t

set_option maxRecDepth 100000 in
set_option maxHeartbeats 40000000 in
theorem rone_any (F : List Nat) (k : UInt8) (path src : ByteArray) (tt t : T) (w : World) (n : Nat) (cs : List Value) (m : Nat) (c0 c1 c2 c3 c4 : Value) (hF : ∀ g ∈ F, g < w.heap.size) (hsz : (sizeT t).isSome = true) (ht : Sta F w n cs t) (hx : Sta F w m [c0, c1, c2, c3, c4] tt) (hsm : Small tt) :
    Calls Tryd.prog 20 #[.agg cs.toArray, .agg #[.int .u8 (k.toNat : Int), .string path, .string src, c0, c1, c2, c3, c4]] w (CP F (oneR ⟨k, path, src, tt⟩ t) w) := by
  obtain ⟨⟨qx, qy⟩, hqs⟩ := Option.isSome_iff_exists.1 hsz
  obtain ⟨hfm, hhi, hsn, hby, _, _⟩ := (sizeT_iff t qx qy).1 hqs
  have HGOOD := Lib.hid (Good.of hqs)
  obtain ⟨E8, hE8⟩ : ∃ E8, E8 = ([.int .u8 (k.toNat : Int), .string path, .string src, c0, c1, c2, c3, c4] : List Value) := ⟨_, rfl⟩
  obtain ⟨P, hP⟩ : ∃ P, P = path.data.toList := ⟨_, rfl⟩
  obtain ⟨Q, hQ⟩ : ∃ Q, Q = src.data.toList := ⟨_, rfl⟩
  obtain ⟨RR, hRR⟩ : ∃ r, r = oneR ⟨k, path, src, tt⟩ t := ⟨_, rfl⟩
  have hRU : RR = if belN P ≠ 0 then (belN P, t) else if k = 1 then chgR .mk (nmE P) t else if k = 2 then (if (sizeT tt).isSome then chgR (.put tt) (nmE P) t else (3, t)) else if k = 3 then (if belN Q ≠ 0 then (belN Q, t) else moveR ⟨k, path, src, tt⟩ t) else if k = 4 then chgR .drop (nmE P) t else (3, t) := by rw [hRR, hP, hQ]; rfl
  rw [← hRR]
  have HRU := Lib.hid hRU
  have HE8 := Lib.hid hE8
  have HP := Lib.hid hP
  have HQ := Lib.hid hQ
  have HFF := Lib.hid hF
  have HSZ := Lib.hid hsz
  have HFM := Lib.hid hfm
  have HSN := Lib.hid hsn
  have HT := Lib.hid ht
  have HX := Lib.hid hx
  have HSM := Lib.hid hsm
  have HIC := Lib.hid (infoL (isT_five ht.self))
  have HOC := Lib.hid (isT_one ht.self)
  have HZC : Hid (zT.toArray.size = cs.toArray.size) := Lib.hid (by simp [zT, isT_five ht.self])
  have HI5 : Hid ((Tryd.prog.info? 26).map (·.size) = some ([c0, c1, c2, c3, c4] : List Value).length) := Lib.hid (by rw [info5]; rfl)
  clear hRR hRU hE8 hP hQ hF hsz hfm hhi hsn hby hqs ht hx hsm
  go_enter Tryd.func20, Tryd.ntmps20
  go_upto_region 1 with fail
  obtain ⟨w1, hw1⟩ : ∃ w1, w1 = ((w.alloc (.cells cs.toArray 26)).alloc (.cells #[.int .u8 (k.toNat : Int), .string path, .string src, c0, c1, c2, c3, c4] 41)).alloc (.cells #[.int .u8 0, .bool false, .slice none 0 0, .slice none 0 0, .slice none 0 0] 26) := ⟨_, rfl⟩
  have z1 : (w.alloc (.cells cs.toArray 26)).heap.size = w.heap.size + 1 := by simp
  have z2 : ((w.alloc (.cells cs.toArray 26)).alloc (.cells #[.int .u8 (k.toNat : Int), .string path, .string src, c0, c1, c2, c3, c4] 41)).heap.size = w.heap.size + 1 + 1 := by simp
  have gT : Has w1 w.heap.size cs 26 := by rw [hw1]; exact ((Has.new w cs _).alloc _).alloc _
  have gX : Has w1 (w.heap.size + 1) E8 41 := by rw [hw1, ← z1, HE8.out]; exact (Has.new _ ([.int .u8 (k.toNat : Int), .string path, .string src, c0, c1, c2, c3, c4] : List Value) _).alloc _
  have gR : Has w1 (w.heap.size + 1 + 1) zT 26 := by rw [hw1, ← z2]; exact Has.new _ zT _
  have b1 : Below w.heap.size w w1 := by rw [hw1]; exact (((Below.refl _ _).alloc (Nat.le_refl _) _).alloc (by simp) _).alloc (by simp; omega) _
  have s1 : w1.heap.size = w.heap.size + 1 + 1 + 1 := by rw [hw1]; simp
  rw [← hw1]
  have GX := Lib.hid gX
  have B1 := Lib.hid b1
  have S1 := Lib.hid s1
  have VTw1 : Hid (w1.heap[w.heap.size]? = some (.cells cs.toArray 26 (0, 0))) := Lib.hid (show _ from gT)
  have VRw1 : Hid (w1.heap[w.heap.size + 1 + 1]? = some (.cells zT.toArray 26 (0, 0))) := Lib.hid (show _ from gR)
  have BWw1 := Lib.hid b1
  have HFB : Hid (∀ g ∈ (w.heap.size + 1 + 1) :: F, g < w1.heap.size) := Lib.hid (fun g hg => by
    have := S1.out
    rcases List.mem_cons.1 hg with rfl | hg
    · omega
    · have := HFF.out g hg; omega)
  have HT1 : Hid (Sta ((w.heap.size + 1 + 1) :: F) w1 n cs t) := Lib.hid ((HT.out.more (fun g hg hlt => by
    rcases List.mem_cons.1 hg with rfl | hg
    · omega
    · exact hg)).later b1)
  have HX1 : Hid (Sta ((w.heap.size + 1 + 1) :: F) w1 m [c0, c1, c2, c3, c4] tt) := Lib.hid ((HX.out.more (fun g hg hlt => by
    rcases List.mem_cons.1 hg with rfl | hg
    · omega
    · exact hg)).later b1)
  have KX : Hid (∀ Y, Below w1.heap.size w1 Y → Y.cell? ⟨w.heap.size + 1, 0, none⟩ = some (.int .u8 (k.toNat : Int)) ∧ Y.cell? ⟨w.heap.size + 1, 1, none⟩ = some (.string path) ∧ Y.cell? ⟨w.heap.size + 1, 2, none⟩ = some (.string src) ∧ Y.rangeAt (w.heap.size + 1) 3 [c0, c1, c2, c3, c4]) := Lib.hid (fun Y hY => by
    have g := GX.out.below hY GX.out.lt
    refine ⟨g.cellAt (i := 0) (by rw [HE8.out]; rfl), g.cellAt (i := 1) (by rw [HE8.out]; rfl), g.cellAt (i := 2) (by rw [HE8.out]; rfl), fun j v hv => ?_⟩
    match j, hv with
    | 0, hv => cases hv; exact g.cellAt (i := 3) (by rw [HE8.out]; rfl)
    | 1, hv => cases hv; exact g.cellAt (i := 4) (by rw [HE8.out]; rfl)
    | 2, hv => cases hv; exact g.cellAt (i := 5) (by rw [HE8.out]; rfl)
    | 3, hv => cases hv; exact g.cellAt (i := 6) (by rw [HE8.out]; rfl)
    | 4, hv => cases hv; exact g.cellAt (i := 7) (by rw [HE8.out]; rfl)
    | j + 5, hv => simp at hv)
  have q1 := (KX.out w1 (Below.refl _ _)).2.1
  clear hw1 z1 z2 gT gX gR b1 s1
  have HSP := Lib.hid (rsplitB path w1)
  rw [← HP.out] at HSP
  go_wp2_with fail
  refine HSP.out.mono ?_
  rintro e w2 ⟨aw2, kw2, cpw2, lw2, z, rfl, hl, hb, hcase⟩
  have Bw2 := Lib.hid ((Below.refl w1.heap.size w1).trans (hb.mono (Below.refl w1.heap.size w1).size))
  have HLw2 := Lib.hid hl
  clear hb HSP q1
  have VTw2 : Hid (w2.heap[w.heap.size]? = some (.cells cs.toArray 26 (0, 0))) := Lib.hid ((Bw2.out.block _ (by have := S1.out; omega)).trans VTw1.out)
  have VRw2 : Hid (w2.heap[w.heap.size + 1 + 1]? = some (.cells zT.toArray 26 (0, 0))) := Lib.hid ((Bw2.out.block _ (by have := S1.out; omega)).trans VRw1.out)
  have BWw2 := Lib.hid (B1.out.trans (Bw2.out.mono B1.out.size))
  rcases hcase with ⟨hz0, hz1, hz2⟩ | ⟨rfl, hbn, rfl⟩ | ⟨rfl, hbn, rfl⟩
  · have HCR : Hid (RR.1 = belN P) := Lib.hid (by rw [HRU.out, if_pos hz2])
    have HC0 := Lib.hid hz2
    have HZ1 := Lib.hid hz1
    have hzn : (z != 0) = true := by rw [bne_iff_ne]; exact hz0
    have hze : (z == 0) = false := by rw [beq_eq_false_iff_ne]; exact hz0
    clear hl hz1 hz2
    go_wp2_with (first
      | (refine wpList_load_row rfl 26 _ rfl w.heap.size rfl 26 cs.toArray (0, 0) _ VTw2.out Tryd.underlying26 rfl HIC.out ?_)
      | (refine wpList_store_row rfl 26 _ _ rfl (w.heap.size + 1 + 1) cs.toArray rfl rfl 26 zT.toArray VRw2.out HIC.out HZC.out HOC.out ?_))
    refine bodyPost_ret (at_ret (fn := Tryd.f20) (p := 4) (u := 5) (ty := 26) Tryd.results20 _ _ (w.heap.size + 1 + 1) 26 cs.toArray (0, 0) _ rfl (setRow_heap _ _ _ _ _ _ VRw2.out) Tryd.underlying26 rfl HIC.out) rfl ?_
    exact ⟨n, cs, t, by rw [HCR.out, ← HZ1.out]; rfl, HT.out.go ((Fr.of_below BWw2.out).setRow (.inr (by omega)) _), fun h0 => absurd h0 (by rw [HCR.out]; first | decide | exact HC0.out), below_setRow BWw2.out (by omega) _⟩
  · obtain rfl : kw2 = 0 := by rw [← hl.length]; rfl
    have HCR : Hid (RR.1 = 1) := Lib.hid (by rw [HRU.out, hbn]; rfl)
    clear hl hbn
    go_wp2_with (first
      | (refine wpList_load_row rfl 26 _ rfl w.heap.size rfl 26 cs.toArray (0, 0) _ VTw2.out Tryd.underlying26 rfl HIC.out ?_)
      | (refine wpList_store_row rfl 26 _ _ rfl (w.heap.size + 1 + 1) cs.toArray rfl rfl 26 zT.toArray VRw2.out HIC.out HZC.out HOC.out ?_))
    refine bodyPost_ret (at_ret (fn := Tryd.f20) (p := 4) (u := 5) (ty := 26) Tryd.results20 _ _ (w.heap.size + 1 + 1) 26 cs.toArray (0, 0) _ rfl (setRow_heap _ _ _ _ _ _ VRw2.out) Tryd.underlying26 rfl HIC.out) rfl ?_
    exact ⟨n, cs, t, by rw [HCR.out]; rfl, HT.out.go ((Fr.of_below BWw2.out).setRow (.inr (by omega)) _), fun h0 => absurd h0 (by rw [HCR.out]; first | decide | exact HC0.out), below_setRow BWw2.out (by omega) _⟩
  · have HBP := Lib.hid hbn
    have hk0 : ¬ kw2 = 0 := by
      have := hl.length
      have h2 := List.length_pos_iff.2 (nmE_ne P)
      omega
    have HNP := Lib.hid (nmE_names hbn)
    have HRV : Hid (RR = if k = 1 then chgR .mk (nmE P) t else if k = 2 then (if (sizeT tt).isSome then chgR (.put tt) (nmE P) t else (3, t)) else if k = 3 then (if belN Q ≠ 0 then (belN Q, t) else moveR ⟨k, path, src, tt⟩ t) else if k = 4 then chgR .drop (nmE P) t else (3, t)) := Lib.hid (by rw [HRU.out, if_neg (by rw [hbn]; simp)])
    clear HRU hl hbn
    have qk := (KX.out w2 Bw2.out).1
    by_cases hk1 : k = 1
    · subst hk1
      have qk1 : w2.cell? ⟨w.heap.size + 1, 0, none⟩ = some (.int .u8 1) := qk
      have HCR : Hid (RR = chgR .mk (nmE P) t) := Lib.hid (by rw [HRV.out]; rfl)
      clear qk HRV
      have HCH := Lib.hid (show Calls Tryd.prog 32 #[.agg cs.toArray, .slice aw2 kw2 cpw2, .int .i64 0, .agg #[.int .u8 3, .bool false, .slice none 0 0, .slice none 0 0, .slice none 0 0]] w2 (CP ((w.heap.size + 1 + 1) :: F) (chgR .mk (nmE P) t) w2) from rchange_any .mk (nmE P) (nmE_ne _) ((w.heap.size + 1 + 1) :: F) t w2 n cs aw2 kw2 cpw2 1 [.int .u8 3, .bool false, .slice none 0 0, .slice none 0 0, .slice none 0 0] (fun g hg => Nat.lt_of_lt_of_le (HFB.out g hg) (Bw2.out).size) HFM.out HSN.out (HT1.out.later Bw2.out) HLw2.out (fun w' _ => isT_leaf w' 3))
      go_wp2_with (first
        | (refine wpList_load_row rfl 26 _ rfl w.heap.size rfl 26 cs.toArray (0, 0) _ VTw2.out Tryd.underlying26 rfl HIC.out ?_))
      refine HCH.out.mono ?_
      rintro e w9 ⟨m9, vs, tv, rfl, hv, htv, b9⟩
      have B9 := Lib.hid (Bw2.out.trans (b9.mono Bw2.out.size))
      have HV := Lib.hid hv
      have HTV := Lib.hid htv
      have HIV := Lib.hid (infoL (isT_five hv.self))
      have HOV := Lib.hid (isT_one hv.self)
      have HZV : Hid (zT.toArray.size = vs.toArray.size) := Lib.hid (by simp [zT, isT_five hv.self])
      clear hv htv b9 HCH
      have VTw9 : Hid (w9.heap[w.heap.size]? = some (.cells cs.toArray 26 (0, 0))) := Lib.hid ((B9.out.block _ (by have := S1.out; omega)).trans VTw1.out)
      have VRw9 : Hid (w9.heap[w.heap.size + 1 + 1]? = some (.cells zT.toArray 26 (0, 0))) := Lib.hid ((B9.out.block _ (by have := S1.out; omega)).trans VRw1.out)
      have BWw9 := Lib.hid (B1.out.trans (B9.out.mono B1.out.size))
      go_wp2_with (refine wpList_store_row rfl 26 _ _ rfl (w.heap.size + 1 + 1) vs.toArray rfl rfl 26 zT.toArray VRw9.out HIV.out HZV.out HOV.out ?_)
      refine bodyPost_ret (at_ret (fn := Tryd.f20) (p := 4) (u := 5) (ty := 26) Tryd.results20 _ _ (w.heap.size + 1 + 1) 26 vs.toArray (0, 0) _ rfl (setRow_heap _ _ _ _ _ _ VRw9.out) Tryd.underlying26 rfl HIV.out) rfl ?_
      exact ⟨m9, vs, tv, by rw [HCR.out]; rfl, (HV.out.go ((Fr.refl _ _).setRow (.inl (List.mem_cons_self ..)) _)).more (fun g hg _ => List.mem_cons_of_mem _ hg), fun h0 => by rw [HCR.out] at h0 ⊢; exact HTV.out h0, below_setRow BWw9.out (by omega) _⟩
    by_cases hk2 : k = 2
    · subst hk2
      have qk1 : w2.cell? ⟨w.heap.size + 1, 0, none⟩ = some (.int .u8 2) := qk
      clear qk
      have HFO := Lib.hid (rform_any m [c0, c1, c2, c3, c4] tt w2 (HX1.out.later Bw2.out).self HSM.out)
      go_wp2_with (refine wpList_load_mid rfl 26 _ rfl (w.heap.size + 1) 3 rfl [c0, c1, c2, c3, c4] _ (KX.out _ Bw2.out).2.2.2 Tryd.underlying26 rfl HI5.out ?_)
      refine HFO.out.mono ?_
      rintro e w3 ⟨rfl, b3⟩
      have Bw3 := Lib.hid (Bw2.out.trans (b3.mono Bw2.out.size))
      have BLw3 := Lib.hid (b3)
      clear b3 HFO qk1
      have VTw3 : Hid (w3.heap[w.heap.size]? = some (.cells cs.toArray 26 (0, 0))) := Lib.hid ((Bw3.out.block _ (by have := S1.out; omega)).trans VTw1.out)
      have VRw3 : Hid (w3.heap[w.heap.size + 1 + 1]? = some (.cells zT.toArray 26 (0, 0))) := Lib.hid ((Bw3.out.block _ (by have := S1.out; omega)).trans VRw1.out)
      have BWw3 := Lib.hid (B1.out.trans (Bw3.out.mono B1.out.size))
      cases hst : (sizeT tt).isSome with
      | false =>
        have HCR : Hid (RR.1 = 3) := Lib.hid (by rw [HRV.out]; simp [hst])
        clear hst
        go_wp2_with (first
          | (refine wpList_load_row rfl 26 _ rfl w.heap.size rfl 26 cs.toArray (0, 0) _ VTw3.out Tryd.underlying26 rfl HIC.out ?_)
          | (refine wpList_store_row rfl 26 _ _ rfl (w.heap.size + 1 + 1) cs.toArray rfl rfl 26 zT.toArray VRw3.out HIC.out HZC.out HOC.out ?_))
        refine bodyPost_ret (at_ret (fn := Tryd.f20) (p := 4) (u := 5) (ty := 26) Tryd.results20 _ _ (w.heap.size + 1 + 1) 26 cs.toArray (0, 0) _ rfl (setRow_heap _ _ _ _ _ _ VRw3.out) Tryd.underlying26 rfl HIC.out) rfl ?_
        exact ⟨n, cs, t, by rw [HCR.out]; rfl, HT.out.go ((Fr.of_below BWw3.out).setRow (.inr (by omega)) _), fun h0 => absurd h0 (by rw [HCR.out]; first | decide | exact HC0.out), below_setRow BWw3.out (by omega) _⟩
      | true =>
        have HCR : Hid (RR = chgR (.put tt) (nmE P) t) := Lib.hid (by rw [HRV.out]; simp [hst])
        clear hst
        have HCH := Lib.hid (show Calls Tryd.prog 32 #[.agg cs.toArray, .slice aw2 kw2 cpw2, .int .i64 1, .agg #[c0, c1, c2, c3, c4]] w3 (CP ((w.heap.size + 1 + 1) :: F) (chgR (.put tt) (nmE P) t) w3) from rchange_any (.put tt) (nmE P) (nmE_ne _) ((w.heap.size + 1 + 1) :: F) t w3 n cs aw2 kw2 cpw2 m [c0, c1, c2, c3, c4] (fun g hg => Nat.lt_of_lt_of_le (HFB.out g hg) (Bw3.out).size) HFM.out HSN.out (HT1.out.later Bw3.out) (HLw2.out.later BLw3.out) (HX1.out.later Bw3.out))
        go_wp2_with (first
          | (refine wpList_load_row rfl 26 _ rfl w.heap.size rfl 26 cs.toArray (0, 0) _ VTw3.out Tryd.underlying26 rfl HIC.out ?_)
          | (refine wpList_load_mid rfl 26 _ rfl (w.heap.size + 1) 3 rfl [c0, c1, c2, c3, c4] _ (KX.out _ Bw3.out).2.2.2 Tryd.underlying26 rfl HI5.out ?_))
        refine HCH.out.mono ?_
        rintro e w9 ⟨m9, vs, tv, rfl, hv, htv, b9⟩
        have B9 := Lib.hid (Bw3.out.trans (b9.mono Bw3.out.size))
        have HV := Lib.hid hv
        have HTV := Lib.hid htv
        have HIV := Lib.hid (infoL (isT_five hv.self))
        have HOV := Lib.hid (isT_one hv.self)
        have HZV : Hid (zT.toArray.size = vs.toArray.size) := Lib.hid (by simp [zT, isT_five hv.self])
        clear hv htv b9 HCH
        have VTw9 : Hid (w9.heap[w.heap.size]? = some (.cells cs.toArray 26 (0, 0))) := Lib.hid ((B9.out.block _ (by have := S1.out; omega)).trans VTw1.out)
        have VRw9 : Hid (w9.heap[w.heap.size + 1 + 1]? = some (.cells zT.toArray 26 (0, 0))) := Lib.hid ((B9.out.block _ (by have := S1.out; omega)).trans VRw1.out)
        have BWw9 := Lib.hid (B1.out.trans (B9.out.mono B1.out.size))
        go_wp2_with (refine wpList_store_row rfl 26 _ _ rfl (w.heap.size + 1 + 1) vs.toArray rfl rfl 26 zT.toArray VRw9.out HIV.out HZV.out HOV.out ?_)
        refine bodyPost_ret (at_ret (fn := Tryd.f20) (p := 4) (u := 5) (ty := 26) Tryd.results20 _ _ (w.heap.size + 1 + 1) 26 vs.toArray (0, 0) _ rfl (setRow_heap _ _ _ _ _ _ VRw9.out) Tryd.underlying26 rfl HIV.out) rfl ?_
        exact ⟨m9, vs, tv, by rw [HCR.out]; rfl, (HV.out.go ((Fr.refl _ _).setRow (.inl (List.mem_cons_self ..)) _)).more (fun g hg _ => List.mem_cons_of_mem _ hg), fun h0 => by rw [HCR.out] at h0 ⊢; exact HTV.out h0, below_setRow BWw9.out (by omega) _⟩
    by_cases hk4 : k = 4
    · subst hk4
      have qk1 : w2.cell? ⟨w.heap.size + 1, 0, none⟩ = some (.int .u8 4) := qk
      have HCR : Hid (RR = chgR .drop (nmE P) t) := Lib.hid (by rw [HRV.out]; rfl)
      clear qk HRV
      have HCH := Lib.hid (show Calls Tryd.prog 32 #[.agg cs.toArray, .slice aw2 kw2 cpw2, .int .i64 2, .agg #[.int .u8 0, .bool false, .slice none 0 0, .slice none 0 0, .slice none 0 0]] w2 (CP ((w.heap.size + 1 + 1) :: F) (chgR .drop (nmE P) t) w2) from rchange_any .drop (nmE P) (nmE_ne _) ((w.heap.size + 1 + 1) :: F) t w2 n cs aw2 kw2 cpw2 1 [.int .u8 0, .bool false, .slice none 0 0, .slice none 0 0, .slice none 0 0] (fun g hg => Nat.lt_of_lt_of_le (HFB.out g hg) (Bw2.out).size) HFM.out HSN.out (HT1.out.later Bw2.out) HLw2.out (fun w' _ => isT_zero w'))
      go_wp2_with (first
        | (refine wpList_load_row rfl 26 _ rfl w.heap.size rfl 26 cs.toArray (0, 0) _ VTw2.out Tryd.underlying26 rfl HIC.out ?_))
      refine HCH.out.mono ?_
      rintro e w9 ⟨m9, vs, tv, rfl, hv, htv, b9⟩
      have B9 := Lib.hid (Bw2.out.trans (b9.mono Bw2.out.size))
      have HV := Lib.hid hv
      have HTV := Lib.hid htv
      have HIV := Lib.hid (infoL (isT_five hv.self))
      have HOV := Lib.hid (isT_one hv.self)
      have HZV : Hid (zT.toArray.size = vs.toArray.size) := Lib.hid (by simp [zT, isT_five hv.self])
      clear hv htv b9 HCH
      have VTw9 : Hid (w9.heap[w.heap.size]? = some (.cells cs.toArray 26 (0, 0))) := Lib.hid ((B9.out.block _ (by have := S1.out; omega)).trans VTw1.out)
      have VRw9 : Hid (w9.heap[w.heap.size + 1 + 1]? = some (.cells zT.toArray 26 (0, 0))) := Lib.hid ((B9.out.block _ (by have := S1.out; omega)).trans VRw1.out)
      have BWw9 := Lib.hid (B1.out.trans (B9.out.mono B1.out.size))
      go_wp2_with (refine wpList_store_row rfl 26 _ _ rfl (w.heap.size + 1 + 1) vs.toArray rfl rfl 26 zT.toArray VRw9.out HIV.out HZV.out HOV.out ?_)
      refine bodyPost_ret (at_ret (fn := Tryd.f20) (p := 4) (u := 5) (ty := 26) Tryd.results20 _ _ (w.heap.size + 1 + 1) 26 vs.toArray (0, 0) _ rfl (setRow_heap _ _ _ _ _ _ VRw9.out) Tryd.underlying26 rfl HIV.out) rfl ?_
      exact ⟨m9, vs, tv, by rw [HCR.out]; rfl, (HV.out.go ((Fr.refl _ _).setRow (.inl (List.mem_cons_self ..)) _)).more (fun g hg _ => List.mem_cons_of_mem _ hg), fun h0 => by rw [HCR.out] at h0 ⊢; exact HTV.out h0, below_setRow BWw9.out (by omega) _⟩
    by_cases hk3 : k = 3
    rotate_left
    · have HCR : Hid (RR.1 = 3) := Lib.hid (by rw [HRV.out, if_neg hk1, if_neg hk2, if_neg hk3, if_neg hk4])
      obtain ⟨z, hz⟩ : ∃ z : Int, z = (k.toNat : Int) := ⟨_, rfl⟩
      rw [← hz] at qk
      have hne : ∀ j : UInt8, k ≠ j → z ≠ (j.toNat : Int) := fun j hj he => hj (UInt8.toNat_inj.1 (by omega))
      have n1 : ¬ z = 1 := hne 1 hk1
      have n2 : ¬ z = 2 := hne 2 hk2
      have n3 : ¬ z = 3 := hne 3 hk3
      have n4 : ¬ z = 4 := hne 4 hk4
      have e1 : (z == 1) = false := by rw [beq_eq_false_iff_ne]; exact n1
      have e2 : (z == 2) = false := by rw [beq_eq_false_iff_ne]; exact n2
      have e3 : (z == 3) = false := by rw [beq_eq_false_iff_ne]; exact n3
      have e4 : (z == 4) = false := by rw [beq_eq_false_iff_ne]; exact n4
      clear hk1 hk2 hk3 hk4 hz hne
      go_wp2_with (first
        | (refine wpList_load_row rfl 26 _ rfl w.heap.size rfl 26 cs.toArray (0, 0) _ VTw2.out Tryd.underlying26 rfl HIC.out ?_)
        | (refine wpList_store_row rfl 26 _ _ rfl (w.heap.size + 1 + 1) cs.toArray rfl rfl 26 zT.toArray VRw2.out HIC.out HZC.out HOC.out ?_))
      refine bodyPost_ret (at_ret (fn := Tryd.f20) (p := 4) (u := 5) (ty := 26) Tryd.results20 _ _ (w.heap.size + 1 + 1) 26 cs.toArray (0, 0) _ rfl (setRow_heap _ _ _ _ _ _ VRw2.out) Tryd.underlying26 rfl HIC.out) rfl ?_
      exact ⟨n, cs, t, by rw [HCR.out]; rfl, HT.out.go ((Fr.of_below BWw2.out).setRow (.inr (by omega)) _), fun h0 => absurd h0 (by rw [HCR.out]; first | decide | exact HC0.out), below_setRow BWw2.out (by omega) _⟩
    subst hk3
    have qk1 : w2.cell? ⟨w.heap.size + 1, 0, none⟩ = some (.int .u8 3) := qk
    have qs := (KX.out w2 Bw2.out).2.2.1
    have HRW : Hid (RR = if belN Q ≠ 0 then (belN Q, t) else moveR ⟨3, path, src, tt⟩ t) := Lib.hid (by rw [HRV.out]; rfl)
    clear qk HRV hk1 hk2 hk4
    have HSP := Lib.hid (rsplitB src w2)
    rw [← HQ.out] at HSP
    go_wp2_with fail
    refine HSP.out.mono ?_
    rintro e w3 ⟨aw3, kw3, cpw3, lw3, z, rfl, hl, hb, hcase⟩
    have Bw3 := Lib.hid (Bw2.out.trans (hb.mono Bw2.out.size))
    have HLw3 := Lib.hid hl
    have B23 := Lib.hid hb
    clear hb HSP qs qk1
    have VTw3 : Hid (w3.heap[w.heap.size]? = some (.cells cs.toArray 26 (0, 0))) := Lib.hid ((Bw3.out.block _ (by have := S1.out; omega)).trans VTw1.out)
    have VRw3 : Hid (w3.heap[w.heap.size + 1 + 1]? = some (.cells zT.toArray 26 (0, 0))) := Lib.hid ((Bw3.out.block _ (by have := S1.out; omega)).trans VRw1.out)
    have BWw3 := Lib.hid (B1.out.trans (Bw3.out.mono B1.out.size))
    rcases hcase with ⟨hz0, hz1, hz2⟩ | ⟨rfl, hbn, rfl⟩ | ⟨rfl, hbn, rfl⟩
    · have HCR : Hid (RR.1 = belN Q) := Lib.hid (by rw [HRW.out, if_pos hz2])
      have HC0 := Lib.hid hz2
      have HZ1 := Lib.hid hz1
      have hzn : (z != 0) = true := by rw [bne_iff_ne]; exact hz0
      have hze : (z == 0) = false := by rw [beq_eq_false_iff_ne]; exact hz0
      clear hl hz1 hz2
      go_wp2_with (first
        | (refine wpList_load_row rfl 26 _ rfl w.heap.size rfl 26 cs.toArray (0, 0) _ VTw3.out Tryd.underlying26 rfl HIC.out ?_)
        | (refine wpList_store_row rfl 26 _ _ rfl (w.heap.size + 1 + 1) cs.toArray rfl rfl 26 zT.toArray VRw3.out HIC.out HZC.out HOC.out ?_))
      refine bodyPost_ret (at_ret (fn := Tryd.f20) (p := 4) (u := 5) (ty := 26) Tryd.results20 _ _ (w.heap.size + 1 + 1) 26 cs.toArray (0, 0) _ rfl (setRow_heap _ _ _ _ _ _ VRw3.out) Tryd.underlying26 rfl HIC.out) rfl ?_
      exact ⟨n, cs, t, by rw [HCR.out, ← HZ1.out]; rfl, HT.out.go ((Fr.of_below BWw3.out).setRow (.inr (by omega)) _), fun h0 => absurd h0 (by rw [HCR.out]; first | decide | exact HC0.out), below_setRow BWw3.out (by omega) _⟩
    · obtain rfl : kw3 = 0 := by rw [← hl.length]; rfl
      have HCR : Hid (RR.1 = 1) := Lib.hid (by rw [HRW.out, hbn]; rfl)
      clear hl hbn
      go_wp2_with (first
        | (refine wpList_load_row rfl 26 _ rfl w.heap.size rfl 26 cs.toArray (0, 0) _ VTw3.out Tryd.underlying26 rfl HIC.out ?_)
        | (refine wpList_store_row rfl 26 _ _ rfl (w.heap.size + 1 + 1) cs.toArray rfl rfl 26 zT.toArray VRw3.out HIC.out HZC.out HOC.out ?_))
      refine bodyPost_ret (at_ret (fn := Tryd.f20) (p := 4) (u := 5) (ty := 26) Tryd.results20 _ _ (w.heap.size + 1 + 1) 26 cs.toArray (0, 0) _ rfl (setRow_heap _ _ _ _ _ _ VRw3.out) Tryd.underlying26 rfl HIC.out) rfl ?_
      exact ⟨n, cs, t, by rw [HCR.out]; rfl, HT.out.go ((Fr.of_below BWw3.out).setRow (.inr (by omega)) _), fun h0 => absurd h0 (by rw [HCR.out]; first | decide | exact HC0.out), below_setRow BWw3.out (by omega) _⟩
    have HBQ := Lib.hid hbn
    have hk03 : ¬ kw3 = 0 := by
      have := hl.length
      have h2 := List.length_pos_iff.2 (nmE_ne Q)
      omega
    have HNQ := Lib.hid (nmE_names hbn)
    have HRX : Hid (RR = moveR ⟨3, path, src, tt⟩ t) := Lib.hid (by rw [HRW.out, if_neg (by rw [hbn]; simp)])
    have HFD : Hid (atT src.data.toList t = findT (nmE Q) t) := Lib.hid (by rw [HQ.out]; exact at_names (by rw [← HQ.out]; exact hbn) t)
    clear HRW hl hbn
    have qs := (KX.out w3 Bw3.out).2.2.1
    have HAT := Lib.hid (rat_sta ((w.heap.size + 1 + 1) :: F) n cs t src w3 (HT1.out.later Bw3.out) HGOOD.out)
    rw [HFD.out] at HAT
    go_wp2_with (refine wpList_load_row rfl 26 _ rfl w.heap.size rfl 26 cs.toArray (0, 0) _ VTw3.out Tryd.underlying26 rfl HIC.out ?_)
    refine HAT.out.mono ?_
    rintro e w4 ⟨mk, ck, rfl, hsk, b4⟩
    have Bw4 := Lib.hid (Bw3.out.trans (b4.mono Bw3.out.size))
    have HSK := Lib.hid hsk
    have HIK := Lib.hid (infoL (isT_five hsk.self))
    have HOK := Lib.hid (isT_one hsk.self)
    have HZK : Hid (zT.toArray.size = ck.toArray.size) := Lib.hid (by simp [zT, isT_five hsk.self])
    obtain ⟨G10, hG10⟩ : ∃ G, G = w4.heap.size := ⟨_, rfl⟩
    obtain ⟨w5, hw5⟩ : ∃ X, X = (w4.alloc (.cells #[.int .u8 0, .bool false, .slice none 0 0, .slice none 0 0, .slice none 0 0] 26)).setRow w4.heap.size ck.toArray := ⟨_, rfl⟩
    have b5 : Below w4.heap.size w4 w5 := by rw [hw5]; exact below_setRow ((Below.refl _ _).alloc (Nat.le_refl _) _) (Nat.le_refl _) _
    have GC5 : Hid (Has w5 G10 ck 26) := Lib.hid (by rw [hw5, hG10]; exact setRow_heap _ _ _ _ _ _ (heap_alloc_new w4 _))
    have HW5 := Lib.hid hw5
    have HG10 := Lib.hid hG10
    have Bw5 := Lib.hid (Bw4.out.trans (b5.mono Bw4.out.size))
    have BL45 := Lib.hid b5
    have B34 := Lib.hid b4
    have BL25 := Lib.hid (B23.out.trans ((b4.trans (b5.mono b4.size)).mono B23.out.size))
    clear hsk b4 b5 hw5 hG10 HAT qs
    go_upto_region 22 with (refine wpList_store_row rfl 26 _ _ rfl w4.heap.size ck.toArray rfl rfl 26 _ (heap_alloc_new w4 _) HIK.out HZK.out HOK.out ?_)
    rw [← HW5.out, ← HG10.out]
    have VTw5 : Hid (w5.heap[w.heap.size]? = some (.cells cs.toArray 26 (0, 0))) := Lib.hid ((Bw5.out.block _ (by have := S1.out; omega)).trans VTw1.out)
    have VRw5 : Hid (w5.heap[w.heap.size + 1 + 1]? = some (.cells zT.toArray 26 (0, 0))) := Lib.hid ((Bw5.out.block _ (by have := S1.out; omega)).trans VRw1.out)
    have BWw5 := Lib.hid (B1.out.trans (Bw5.out.mono B1.out.size))
    cases hfd : findT (nmE Q) t with
    | inl c =>
      have hcc : c = 8 ∨ c = 6 := findT_code _ _ _ hfd
      have HCR : Hid (RR.1 = c.toNat) := Lib.hid (by rw [HRX.out]; unfold moveR; simp only; rw [← HQ.out, hfd])
      have HC0 : Hid (c.toNat ≠ 0) := Lib.hid (by omega)
      have HZ1 : Hid ((c.toNat : Int) = c) := Lib.hid (by omega)
      have hzn : (c != 0) = true := by rw [bne_iff_ne]; omega
      have hze : (c == 0) = false := by rw [beq_eq_false_iff_ne]; omega
      have hz0 : ¬ c = 0 := by omega
      rw [show codeR (.inl c : Int ⊕ T) = c from rfl]
      clear hcc
      go_wp2_with (first
        | (refine wpList_load_row rfl 26 _ rfl w.heap.size rfl 26 cs.toArray (0, 0) _ VTw5.out Tryd.underlying26 rfl HIC.out ?_)
        | (refine wpList_store_row rfl 26 _ _ rfl (w.heap.size + 1 + 1) cs.toArray rfl rfl 26 zT.toArray VRw5.out HIC.out HZC.out HOC.out ?_))
      refine bodyPost_ret (at_ret (fn := Tryd.f20) (p := 4) (u := 5) (ty := 26) Tryd.results20 _ _ (w.heap.size + 1 + 1) 26 cs.toArray (0, 0) _ rfl (setRow_heap _ _ _ _ _ _ VRw5.out) Tryd.underlying26 rfl HIC.out) rfl ?_
      exact ⟨n, cs, t, by rw [HCR.out, HZ1.out]; rfl, HT.out.go ((Fr.of_below BWw5.out).setRow (.inr (by omega)) _), fun h0 => absurd h0 (by rw [HCR.out]; first | decide | exact HC0.out), below_setRow BWw5.out (by omega) _⟩
    | inr kk =>
      rw [show codeR (.inr kk : Int ⊕ T) = 0 from rfl]
      have HRY : Hid (RR = if src = path then (0, t) else if undS Q P || undS P Q then (10, t) else if (chgR .drop (nmE Q) t).1 ≠ 0 then ((chgR .drop (nmE Q) t).1, t) else chgR (.put kk) (nmE P) (chgR .drop (nmE Q) t).2) := Lib.hid (by
        rw [HRX.out]; unfold moveR; simp only; rw [← HQ.out, hfd, ← HP.out])
      have HSK2 : Hid (Sta ((w.heap.size + 1 + 1) :: F) w3 mk ck kk) := Lib.hid (by have h := HSK.out; rw [hfd] at h; exact h)
      clear HRX hfd
      have q1 := (KX.out w5 Bw5.out).2.1
      have q2 := (KX.out w5 Bw5.out).2.2.1
      by_cases hsp : src = path
      · have h1 : (src.toList == path.toList) = true := by rw [hsp]; exact beq_self_eq_true _
        have HCR : Hid (RR = (0, t)) := Lib.hid (by rw [HRY.out, if_pos hsp])
        clear hsp HRY
        go_wp2_with (first
          | (refine wpList_load_row rfl 26 _ rfl w.heap.size rfl 26 cs.toArray (0, 0) _ VTw5.out Tryd.underlying26 rfl HIC.out ?_)
          | (refine wpList_store_row rfl 26 _ _ rfl (w.heap.size + 1 + 1) cs.toArray rfl rfl 26 zT.toArray VRw5.out HIC.out HZC.out HOC.out ?_))
        refine bodyPost_ret (at_ret (fn := Tryd.f20) (p := 4) (u := 5) (ty := 26) Tryd.results20 _ _ (w.heap.size + 1 + 1) 26 cs.toArray (0, 0) _ rfl (setRow_heap _ _ _ _ _ _ VRw5.out) Tryd.underlying26 rfl HIC.out) rfl ?_
        exact ⟨n, cs, t, by rw [HCR.out]; rfl, HT.out.go ((Fr.of_below BWw5.out).setRow (.inr (by omega)) _), fun _ => by rw [HCR.out], below_setRow BWw5.out (by omega) _⟩
      · have h1 : (src.toList == path.toList) = false := by rw [Lib.bytes_beq_false_iff]; exact hsp
        have HUA := Lib.hid (fun Y => rund_any src path Y)
        rw [← HQ.out, ← HP.out] at HUA
        have HUB := Lib.hid (fun Y => rund_any path src Y)
        rw [← HQ.out, ← HP.out] at HUB
        have HRZ : Hid (RR = if undS Q P || undS P Q then (10, t) else if (chgR .drop (nmE Q) t).1 ≠ 0 then ((chgR .drop (nmE Q) t).1, t) else chgR (.put kk) (nmE P) (chgR .drop (nmE Q) t).2) := Lib.hid (by rw [HRY.out, if_neg hsp])
        clear hsp HRY
        go_wp2_with fail
        refine (HUA.out _).mono ?_
        rintro e w6 ⟨rfl, rfl⟩
        cases hua : undS Q P with
        | true =>
          have HCR : Hid (RR.1 = 10) := Lib.hid (by rw [HRZ.out, hua]; rfl)
          clear hua
          go_wp2_with (first
            | (refine wpList_load_row rfl 26 _ rfl w.heap.size rfl 26 cs.toArray (0, 0) _ VTw5.out Tryd.underlying26 rfl HIC.out ?_)
            | (refine wpList_store_row rfl 26 _ _ rfl (w.heap.size + 1 + 1) cs.toArray rfl rfl 26 zT.toArray VRw5.out HIC.out HZC.out HOC.out ?_))
          refine bodyPost_ret (at_ret (fn := Tryd.f20) (p := 4) (u := 5) (ty := 26) Tryd.results20 _ _ (w.heap.size + 1 + 1) 26 cs.toArray (0, 0) _ rfl (setRow_heap _ _ _ _ _ _ VRw5.out) Tryd.underlying26 rfl HIC.out) rfl ?_
          exact ⟨n, cs, t, by rw [HCR.out]; rfl, HT.out.go ((Fr.of_below BWw5.out).setRow (.inr (by omega)) _), fun h0 => absurd h0 (by rw [HCR.out]; first | decide | exact HC0.out), below_setRow BWw5.out (by omega) _⟩
        | false =>
          go_wp2_with fail
          refine (HUB.out _).mono ?_
          rintro e w6 ⟨rfl, rfl⟩
          cases hub : undS P Q with
          | true =>
            have HCR : Hid (RR.1 = 10) := Lib.hid (by rw [HRZ.out, hua, hub]; rfl)
            clear hua hub
            go_wp2_with (first
              | (refine wpList_load_row rfl 26 _ rfl w.heap.size rfl 26 cs.toArray (0, 0) _ VTw5.out Tryd.underlying26 rfl HIC.out ?_)
              | (refine wpList_store_row rfl 26 _ _ rfl (w.heap.size + 1 + 1) cs.toArray rfl rfl 26 zT.toArray VRw5.out HIC.out HZC.out HOC.out ?_))
            refine bodyPost_ret (at_ret (fn := Tryd.f20) (p := 4) (u := 5) (ty := 26) Tryd.results20 _ _ (w.heap.size + 1 + 1) 26 cs.toArray (0, 0) _ rfl (setRow_heap _ _ _ _ _ _ VRw5.out) Tryd.underlying26 rfl HIC.out) rfl ?_
            exact ⟨n, cs, t, by rw [HCR.out]; rfl, HT.out.go ((Fr.of_below BWw5.out).setRow (.inr (by omega)) _), fun h0 => absurd h0 (by rw [HCR.out]; first | decide | exact HC0.out), below_setRow BWw5.out (by omega) _⟩
          | false =>
            have HRA : Hid (RR = if (chgR .drop (nmE Q) t).1 ≠ 0 then ((chgR .drop (nmE Q) t).1, t) else chgR (.put kk) (nmE P) (chgR .drop (nmE Q) t).2) := Lib.hid (by rw [HRZ.out, hua, hub]; rfl)
            obtain ⟨C, hC⟩ : ∃ c, c = chgR .drop (nmE Q) t := ⟨_, rfl⟩
            have HCC := Lib.hid hC
            have BLw5 := Lib.hid ((B34.out.trans (BL45.out.mono B34.out.size)))
            have HCH := Lib.hid (show Calls Tryd.prog 32 #[.agg cs.toArray, .slice aw3 kw3 cpw3, .int .i64 2, .agg #[.int .u8 0, .bool false, .slice none 0 0, .slice none 0 0, .slice none 0 0]] w5 (CP ((w.heap.size + 1 + 1) :: F) (chgR .drop (nmE Q) t) w5) from rchange_any .drop (nmE Q) (nmE_ne _) ((w.heap.size + 1 + 1) :: F) t w5 n cs aw3 kw3 cpw3 1 [.int .u8 0, .bool false, .slice none 0 0, .slice none 0 0, .slice none 0 0] (fun g hg => Nat.lt_of_lt_of_le (HFB.out g hg) (Bw5.out).size) HFM.out HSN.out (HT1.out.later Bw5.out) (HLw3.out.later BLw5.out) (fun w' _ => isT_zero w'))
            rw [← hC] at HCH HRA
            clear hua hub hC HRZ q1 q2
            go_wp2_with (refine wpList_load_row rfl 26 _ rfl w.heap.size rfl 26 cs.toArray (0, 0) _ VTw5.out Tryd.underlying26 rfl HIC.out ?_)
            refine HCH.out.mono ?_
            rintro e w7 ⟨m7, us, tu, rfl, hv, htv, b7⟩
            have Bw7 := Lib.hid (Bw5.out.trans (b7.mono Bw5.out.size))
            have HU := Lib.hid hv
            have HTU := Lib.hid htv
            have HIU := Lib.hid (infoL (isT_five hv.self))
            have HOU := Lib.hid (isT_one hv.self)
            have HZU : Hid (zT.toArray.size = us.toArray.size) := Lib.hid (by simp [zT, isT_five hv.self])
            obtain ⟨G12, hG12⟩ : ∃ G, G = w7.heap.size := ⟨_, rfl⟩
            obtain ⟨w8, hw8⟩ : ∃ X, X = (w7.alloc (.cells #[.int .u8 0, .bool false, .slice none 0 0, .slice none 0 0, .slice none 0 0] 26)).setRow w7.heap.size us.toArray := ⟨_, rfl⟩
            have b8 : Below w7.heap.size w7 w8 := by rw [hw8]; exact below_setRow ((Below.refl _ _).alloc (Nat.le_refl _) _) (Nat.le_refl _) _
            have GU8 : Hid (w8.heap[G12]? = some (.cells us.toArray 26 (0, 0))) := Lib.hid (by rw [hw8, hG12]; exact setRow_heap _ _ _ _ _ _ (heap_alloc_new w7 _))
            have HW8 := Lib.hid hw8
            have HG12 := Lib.hid hG12
            have Bw8 := Lib.hid (Bw7.out.trans (b8.mono Bw7.out.size))
            have BL58 := Lib.hid (b7.trans (b8.mono b7.size))
            have HU8 := Lib.hid (hv.later b8)
            clear hv htv b7 b8 hw8 hG12 HCH
            go_upto_region 29 with (refine wpList_store_row rfl 26 _ _ rfl w7.heap.size us.toArray rfl rfl 26 _ (heap_alloc_new w7 _) HIU.out HZU.out HOU.out ?_)
            rw [← HW8.out, ← HG12.out]
            have VTw8 : Hid (w8.heap[w.heap.size]? = some (.cells cs.toArray 26 (0, 0))) := Lib.hid ((Bw8.out.block _ (by have := S1.out; omega)).trans VTw1.out)
            have VRw8 : Hid (w8.heap[w.heap.size + 1 + 1]? = some (.cells zT.toArray 26 (0, 0))) := Lib.hid ((Bw8.out.block _ (by have := S1.out; omega)).trans VRw1.out)
            have BWw8 := Lib.hid (B1.out.trans (Bw8.out.mono B1.out.size))
            by_cases hC0 : C.1 = 0
            · rw [hC0]
              have hte := HTU.out hC0
              have HTE : Hid (Sta ((w.heap.size + 1 + 1) :: F) w8 m7 us C.2) := Lib.hid (by rw [← hte]; exact HU8.out)
              have HSZ2 : Hid ((sizeT C.2).isSome = true) := Lib.hid (by
                have h := drop_sized HSZ.out HNQ.out (by rw [← HCC.out]; exact hC0)
                rw [← HCC.out] at h
                exact h)
              have HCR : Hid (RR = chgR (.put kk) (nmE P) C.2) := Lib.hid (by rw [HRA.out, if_neg (by rw [hC0]; simp)])
              have HFM2 : Hid (fmA C.2 ∧ sizeN C.2 ≤ 4096) := Lib.hid (by
                obtain ⟨⟨qx, qy⟩, hqs⟩ := Option.isSome_iff_exists.1 HSZ2.out
                obtain ⟨h1, h2, h3, _⟩ := (sizeT_iff _ qx qy).1 hqs
                exact ⟨h1, h3⟩)
              have GC8 : Hid (w8.heap[G10]? = some (.cells ck.toArray 26 (0, 0))) := Lib.hid ((BL58.out.block _ GC5.out.lt).trans (show _ from GC5.out))
              have BLw8 := Lib.hid (BL25.out.trans (BL58.out.mono BL25.out.size))
              clear hte hC0
              have HCH := Lib.hid (show Calls Tryd.prog 32 #[.agg us.toArray, .slice aw2 kw2 cpw2, .int .i64 1, .agg ck.toArray] w8 (CP ((w.heap.size + 1 + 1) :: F) (chgR (.put kk) (nmE P) C.2) w8) from rchange_any (.put kk) (nmE P) (nmE_ne _) ((w.heap.size + 1 + 1) :: F) C.2 w8 m7 us aw2 kw2 cpw2 mk ck (fun g hg => Nat.lt_of_lt_of_le (HFB.out g hg) (Bw8.out).size) HFM2.out.1 HFM2.out.2 HTE.out (HLw2.out.later BLw8.out) (HSK2.out.later (BLw5.out.trans (BL58.out.mono BLw5.out.size))))
              go_wp2_with (first
                | (refine wpList_load_row rfl 26 _ rfl G12 rfl 26 us.toArray (0, 0) _ GU8.out Tryd.underlying26 rfl HIU.out ?_)
                | (refine wpList_load_row rfl 26 _ rfl G10 rfl 26 ck.toArray (0, 0) _ GC8.out Tryd.underlying26 rfl HIK.out ?_))
              refine HCH.out.mono ?_
              rintro e w9 ⟨m9, vs, tv, rfl, hv, htv, b9⟩
              have B9 := Lib.hid (Bw8.out.trans (b9.mono Bw8.out.size))
              have HV := Lib.hid hv
              have HTV := Lib.hid htv
              have HIV := Lib.hid (infoL (isT_five hv.self))
              have HOV := Lib.hid (isT_one hv.self)
              have HZV : Hid (zT.toArray.size = vs.toArray.size) := Lib.hid (by simp [zT, isT_five hv.self])
              clear hv htv b9 HCH
              have VTw9 : Hid (w9.heap[w.heap.size]? = some (.cells cs.toArray 26 (0, 0))) := Lib.hid ((B9.out.block _ (by have := S1.out; omega)).trans VTw1.out)
              have VRw9 : Hid (w9.heap[w.heap.size + 1 + 1]? = some (.cells zT.toArray 26 (0, 0))) := Lib.hid ((B9.out.block _ (by have := S1.out; omega)).trans VRw1.out)
              have BWw9 := Lib.hid (B1.out.trans (B9.out.mono B1.out.size))
              go_wp2_with (refine wpList_store_row rfl 26 _ _ rfl (w.heap.size + 1 + 1) vs.toArray rfl rfl 26 zT.toArray VRw9.out HIV.out HZV.out HOV.out ?_)
              refine bodyPost_ret (at_ret (fn := Tryd.f20) (p := 4) (u := 5) (ty := 26) Tryd.results20 _ _ (w.heap.size + 1 + 1) 26 vs.toArray (0, 0) _ rfl (setRow_heap _ _ _ _ _ _ VRw9.out) Tryd.underlying26 rfl HIV.out) rfl ?_
              exact ⟨m9, vs, tv, by rw [HCR.out]; rfl, (HV.out.go ((Fr.refl _ _).setRow (.inl (List.mem_cons_self ..)) _)).more (fun g hg _ => List.mem_cons_of_mem _ hg), fun h0 => by rw [HCR.out] at h0 ⊢; exact HTV.out h0, below_setRow BWw9.out (by omega) _⟩
            · have HC0 := Lib.hid hC0
              have HCR : Hid (RR.1 = C.1) := Lib.hid (by rw [HRA.out, if_pos hC0])
              have hzn : ((C.1 : Int) != 0) = true := by rw [bne_iff_ne]; omega
              have hz0 : ¬ (C.1 : Int) = 0 := by omega
              clear hC0
              go_wp2_with (first
                | (refine wpList_load_row rfl 26 _ rfl w.heap.size rfl 26 cs.toArray (0, 0) _ VTw8.out Tryd.underlying26 rfl HIC.out ?_)
                | (refine wpList_store_row rfl 26 _ _ rfl (w.heap.size + 1 + 1) cs.toArray rfl rfl 26 zT.toArray VRw8.out HIC.out HZC.out HOC.out ?_))
              refine bodyPost_ret (at_ret (fn := Tryd.f20) (p := 4) (u := 5) (ty := 26) Tryd.results20 _ _ (w.heap.size + 1 + 1) 26 cs.toArray (0, 0) _ rfl (setRow_heap _ _ _ _ _ _ VRw8.out) Tryd.underlying26 rfl HIC.out) rfl ?_
              exact ⟨n, cs, t, by rw [HCR.out]; rfl, HT.out.go ((Fr.of_below BWw8.out).setRow (.inr (by omega)) _), fun h0 => absurd h0 (by rw [HCR.out]; first | decide | exact HC0.out), below_setRow BWw8.out (by omega) _⟩

end Go.Proofs.YtbempgdndmchlaaDoor

namespace Go.Proofs.YtbempgdndmchlaaDoor
open Go.RowKit
set_option linter.unusedVariables false

theorem small_iff (k : UInt8) (x : Bool) (d : List UInt8) (ns : List ByteArray) (ks : List T) : Small (.mk k x d ns ks) ↔ (∀ s ∈ ns, s.size ≤ 140737488355328) ∧ (∀ t ∈ ks, Small t) ∧ d.length ≤ 140737488355328 ∧ ns.length * 16 ≤ 140737488355328 ∧ ks.length * 80 ≤ 140737488355328 := by
  constructor
  · rintro ⟨h1, h2, h3⟩
    refine ⟨fun s hs => ?_, fun t ht => ?_, h3⟩
    · obtain ⟨i, hi, rfl⟩ := List.getElem_of_mem hs
      have := h1 i hi
      rwa [List.getD_eq_getElem?_getD, List.getElem?_eq_getElem hi] at this
    · obtain ⟨i, hi, rfl⟩ := List.getElem_of_mem ht
      have := h2 i hi
      rwa [List.getD_eq_getElem?_getD, List.getElem?_eq_getElem hi] at this
  · rintro ⟨h1, h2, h3⟩
    refine .mk (fun i hi => ?_) (fun i hi => ?_) h3
    · rw [List.getD_eq_getElem?_getD, List.getElem?_eq_getElem hi]; exact h1 _ (List.getElem_mem hi)
    · rw [List.getD_eq_getElem?_getD, List.getElem?_eq_getElem hi]; exact h2 _ (List.getElem_mem hi)
theorem name_small {x : ByteArray} (h : tName x.data.toList = true) : x.size ≤ 140737488355328 := by
  have h1 : ¬ 80 < x.data.toList.length := fun h2 => by rw [tName_long h2] at h; cases h
  have h2 : x.data.toList.length = x.size := Array.length_toList
  omega
theorem small_empty : Small emptyDir := (small_iff ..).2 (by simp)
theorem kid_small (e : Ed) (h : ∀ k, e = .put k → Small k) : Small (kidE e) := by
  cases e with
  | mk => exact small_empty
  | put k => exact h k rfl
  | drop => exact small_zero
theorem chg_small (e : Ed) (he : ∀ k, e = .put k → Small k) : ∀ (l : List ByteArray), (∀ x ∈ l, tName x.data.toList = true) → ∀ t : T, fmA t → sizeN t ≤ 4096 → Small t → (chgR e l t).1 = 0 → Small (chgR e l t).2
  | [], _, t, _, _, _, h0 => by
    have : (chgR e [] t).1 = 8 := by unfold chgR; rw [chgE]; rfl
    omega
  | nm :: r, hn, .mk k x d ns ks, hf, hs, hsm, h0 => by
    have hnm := name_small (hn nm (List.mem_cons_self ..))
    by_cases hk : k = 3
    · subst hk
      obtain ⟨hl, hp, _⟩ := dir_pw hf
      have hsz := size_names hl hs
      obtain ⟨s1, s2, s3, s4, s5⟩ := (small_iff ..).1 hsm
      by_cases hr : r = []
      · subst hr
        have hw : ∀ e', (e' = .mk ∧ ¬ tkn ns nm = true) ∨ (∃ kk, e' = .put kk) → Small (kidE e') → Small (chgR e' [nm] (.mk 3 x d ns ks)).2 := fun e' h1 h2 => by
          rw [chgR_with hf e' h1]
          simp only
          rw [wth_all hl hp]
          split
          · refine (small_iff ..).2 ⟨s1, fun t ht => ?_, by simp, s4, by simpa using s5⟩
            rcases List.mem_or_eq_of_mem_set ht with h | h
            · exact s2 t h
            · rw [h]; exact h2
          · refine (small_iff ..).2 ⟨fun s hs => ?_, fun t ht => ?_, by simp, by simp; omega, by simp; omega⟩
            · simp only [List.mem_append, List.mem_cons] at hs
              rcases hs with hs | rfl | hs
              · exact s1 s (List.mem_of_mem_take hs)
              · exact hnm
              · exact s1 s (List.mem_of_mem_drop hs)
            · simp only [List.mem_append, List.mem_cons] at ht
              rcases ht with ht | rfl | ht
              · exact s2 t (List.mem_of_mem_take ht)
              · exact h2
              · exact s2 t (List.mem_of_mem_drop ht)
        cases e with
        | mk =>
          by_cases ht : tkn ns nm = true
          · rw [chgR_mk_there nm x d ns ks ht] at h0; cases h0
          · exact hw .mk (.inl ⟨rfl, ht⟩) small_empty
        | put kk => exact hw (.put kk) (.inr ⟨kk, rfl⟩) (he kk rfl)
        | drop =>
          by_cases ht : tkn ns nm = true
          · rw [chgR_drop hf ht]
            simp only
            rw [wou_all hl hp ht]
            refine (small_iff ..).2 ⟨fun s hs => ?_, fun t ht => ?_, by simp, by simp; omega, by simp; omega⟩
            · simp only [List.mem_append] at hs
              rcases hs with hs | hs
              · exact s1 s (List.mem_of_mem_take hs)
              · exact s1 s (List.mem_of_mem_drop hs)
            · simp only [List.mem_append] at ht
              rcases ht with ht | ht
              · exact s2 t (List.mem_of_mem_take ht)
              · exact s2 t (List.mem_of_mem_drop ht)
          · rw [chgR_drop_miss nm x d ns ks ht] at h0; cases h0
      · by_cases ht : tkn ns nm = true
        · rw [chgR_in e nm r hr x d ns ks ht] at h0 ⊢
          simp only at h0 ⊢
          have hi : plc ns nm < ks.length := by rw [← hl]; exact (tkn_spec ht).1
          have h1 := sizeNL_get hi
          rw [sizeN_mk] at hs
          rw [fmA_mk] at hf
          have hkid : Small (ks.getD (plc ns nm) default) := by
            rw [List.getD_eq_getElem?_getD, List.getElem?_eq_getElem hi]; exact s2 _ (List.getElem_mem hi)
          have ih := chg_small e he r (fun y hy => hn y (List.mem_cons_of_mem _ hy)) (ks.getD (plc ns nm) default) (fmL_getD hf.2 hi) (by omega) hkid h0
          refine (small_iff ..).2 ⟨s1, fun t ht => ?_, s3, s4, by simpa using s5⟩
          rcases List.mem_or_eq_of_mem_set ht with h | h
          · exact s2 t h
          · rw [h]; exact ih
        · rw [chgR_miss e nm r hr x d ns ks ht] at h0; cases h0
    · rw [chgR_not e nm r k hk x d ns ks] at h0; cases h0

theorem one_small (x : EdD) {t : T} (hs : (sizeT t).isSome = true) (hx : Small x.tree) (h0 : (oneR x t).1 = 0) : Small (oneR x t).2 := by
  obtain ⟨⟨qx, qy⟩, hqs⟩ := Option.isSome_iff_exists.1 hs
  obtain ⟨hfm, hhi, hsn, hby, _, _⟩ := (sizeT_iff t qx qy).1 hqs
  have hsm := (sizeT_get hs).2.2.1
  unfold oneR at h0 ⊢
  by_cases h1 : belN x.path.data.toList ≠ 0
  · rw [if_pos h1] at h0; exact absurd h0 h1
  rw [if_neg h1] at h0 ⊢
  have hn := nmE_names (show belN x.path.data.toList = 0 by simpa using h1)
  by_cases h2 : x.kind = 1
  · rw [if_pos h2] at h0 ⊢
    exact chg_small .mk (fun k h => by cases h) _ hn t hfm hsn hsm h0
  rw [if_neg h2] at h0 ⊢
  by_cases h3 : x.kind = 2
  · rw [if_pos h3] at h0 ⊢
    by_cases h4 : (sizeT x.tree).isSome = true
    · rw [if_pos h4] at h0 ⊢
      exact chg_small (.put x.tree) (fun k h => by cases h; exact hx) _ hn t hfm hsn hsm h0
    · rw [if_neg h4] at h0; cases h0
  rw [if_neg h3] at h0 ⊢
  by_cases h4 : x.kind = 3
  · rw [if_pos h4] at h0 ⊢
    by_cases h5 : belN x.src.data.toList ≠ 0
    · rw [if_pos h5] at h0; exact absurd h0 h5
    rw [if_neg h5] at h0 ⊢
    have hnq := nmE_names (show belN x.src.data.toList = 0 by simpa using h5)
    unfold moveR at h0 ⊢
    cases hf : findT (nmE x.src.data.toList) t with
    | inl c =>
      rw [hf] at h0
      have := findT_code _ _ _ hf
      simp only at h0
      omega
    | inr k =>
      rw [hf] at h0
      simp only at h0 ⊢
      by_cases h6 : x.src = x.path
      · rw [if_pos h6]; exact hsm
      rw [if_neg h6] at h0 ⊢
      by_cases h7 : (undS x.src.data.toList x.path.data.toList || undS x.path.data.toList x.src.data.toList) = true
      · rw [if_pos h7] at h0; cases h0
      rw [if_neg h7] at h0 ⊢
      by_cases h8 : (chgR .drop (nmE x.src.data.toList) t).1 ≠ 0
      · rw [if_pos h8] at h0; exact absurd h0 h8
      rw [if_neg h8] at h0 ⊢
      have h9 : (chgR .drop (nmE x.src.data.toList) t).1 = 0 := by simpa using h8
      have hds := drop_sized hs hnq h9
      obtain ⟨⟨rx, ry⟩, hrs⟩ := Option.isSome_iff_exists.1 hds
      obtain ⟨g1, g2, g3, _⟩ := (sizeT_iff _ rx ry).1 hrs
      exact chg_small (.put k) (fun k' h => by cases h; exact (findT_small _ _ _ hf hsm).1) _ hn _ g1 g3 (sizeT_get hds).2.2.1 h0
  rw [if_neg h4] at h0 ⊢
  by_cases h5 : x.kind = 4
  · rw [if_pos h5] at h0 ⊢
    exact chg_small .drop (fun k h => by cases h) _ hn t hfm hsn hsm h0
  rw [if_neg h5] at h0
  cases h0
end Go.Proofs.YtbempgdndmchlaaDoor

namespace Go.Proofs.YtbempgdndmchlaaDoor
open Go.RowKit
set_option linter.unusedVariables false

theorem ld_midG {P : Program} {ops : Array Oper} {rest : List Oper} {op : Oper} {a : Act} {w : World} {Q : Exit → Act → World → Prop} (hw : Region.wanted op (yielded ops a.tmps) = true) (ty : TypeId) (x : Operand) (ho : op.op = .load ty x)
    (b o : Nat) (hx : a.eval x = .pointer (some ⟨b, o, none⟩)) (cs : List Value) (d : TypeDesc) (hc : w.rangeAt b o cs)
    (hu : P.underlying ty = some d) (hd : d.isRow = true) (hi : (P.info? ty).map (·.size) = some cs.length)
    (h : wpList P ops Q rest (a.put op.dst (.agg cs.toArray)) w) : wpList P ops Q (op :: rest) a w :=
  BigFrame.wpList_want hw fun _ hK => wp_load_mid ty x ho b o hx cs d hc hu hd hi (hK _ _ h)

/-- The tree of an edit, in its cells. -/
theorem tree_cells {w : World} {m b o : Nat} {cs : List Value} {x : EdD} (h : IsX w m cs x) (hr : w.rangeAt b o cs) : ∃ ct, IsT w m ct x.tree ∧ w.rangeAt b (o + 3) ct := by
  obtain ⟨ct, rfl, hT⟩ := h
  refine ⟨ct, hT, fun j v hv => ?_⟩
  have := hr (3 + j) v (by rw [List.getElem?_append_right (by simp)]; simpa using hv)
  rw [Nat.add_assoc]
  exact this

set_option maxRecDepth 100000 in
set_option maxHeartbeats 8000000 in
theorem greatX_any {w : World} {m : Nat} {a : Option Addr} {n c : Nat} {l : List EdD} (h : IsXs w m a n c l) (mo : Int) (h0 : 0 ≤ mo) (h1 : mo ≤ 1000000) :
    Calls Tryd.prog 9 #[.slice a n c, .int .i64 mo] w fun e w' => (∃ g, e = .returned (.bool g)) ∧ Below w.heap.size w w' := by
  have HX := Lib.hid h
  have H0 := Lib.hid h0
  have H1 := Lib.hid h1
  clear h h0 h1
  go_enter Tryd.func9, Tryd.ntmps9
  go_wp2_with fail
  go_loopw [5] (fun vi wr => ∃ (i : Nat), i ≤ n ∧ vi = .int .i64 i ∧ Below w.heap.size w wr) (fun vi _ => n - (intOf vi).toNat)
  case atStart => exact ⟨0, Nat.zero_le _, rfl, Below.refl _ _⟩
  case round =>
    obtain ⟨i, hi, rfl, hbel⟩ := hrel
    have HBE := Lib.hid hbel
    clear hbel
    by_cases hlt : i < n
    · rcases HX.out.at_ with h0 | ⟨b, off, rfl, hb, hc⟩
      · omega
      obtain ⟨L, hX, hr0⟩ := hc i hlt
      obtain ⟨ct, hT, hrt⟩ := tree_cells (hX.later (Below.refl _ _)) hr0
      have HRANGE := Lib.hid (range_later hrt HBE.out hb)
      have HG := Lib.hid (great_any m ct _ wr (IsT.later HBE.out _ _ _ hT) mo H0.out H1.out)
      have HI5 : Hid ((Tryd.prog.info? 26).map (·.size) = some ct.length) := Lib.hid (by rw [info5, isT_five hT])
      have hki : (i : Int) < (n : Int) := by omega
      have hroom := HX.out.room
      unfold maxLen at hroom
      have hni : (i : Int) + 1 ≤ 9223372036854775807 := by omega
      have HLT := Lib.hid hlt
      clear hX hr0 hT hrt hc hroom
      by_cases h200 : 200 < i
      · have h2i : (200 : Int) < (i : Int) := by omega
        clear h200 hlt
        go_wp2_with fail
        go_ret
        exact ⟨⟨_, rfl⟩, HBE.out⟩
      · have h2i : ¬ (200 : Int) < (i : Int) := by omega
        clear h200
        go_wp2_with (refine ld_midG (by rfl) 26 _ rfl b (off + i * 8 + 3) rfl ct _ HRANGE.out Tryd.underlying26 rfl HI5.out ?_)
        refine HG.out.mono ?_
        rintro e w2 ⟨⟨g, rfl⟩, hb2⟩
        have B2 := Lib.hid (HBE.out.trans (hb2.mono HBE.out.size))
        clear hb2
        rcases Bool.eq_false_or_eq_true g with rfl | rfl
        · clear hlt
          go_wp2_with fail
          go_ret
          exact ⟨⟨_, rfl⟩, B2.out⟩
        · go_wp2_with fail
          go_roundw
          case rel => exact ⟨i + 1, by have := HLT.out; omega, by go_num, B2.out⟩
          case measure =>
            have := HLT.out
            simp only [intOf]; omega
    · have hki : ¬ (i : Int) < (n : Int) := by omega
      clear hlt
      go_wp2_with fail
      go_ret
      first | exact ⟨⟨_, rfl⟩, HBE.out⟩ | exact ⟨.inl rfl, HBE.out⟩

end Go.Proofs.YtbempgdndmchlaaDoor

namespace Go.Proofs.YtbempgdndmchlaaDoor
open Go.RowKit
set_option linter.unusedVariables false

def RunR (r : Nat × T) (w : World) (e : Ending) (w' : World) : Prop := ∃ m vs, e = .returned (.tuple #[.agg vs.toArray, .int .i64 (r.1 : Int)]) ∧ IsT w' m vs r.2 ∧ Below w.heap.size w w'

set_option maxRecDepth 100000 in
set_option maxHeartbeats 40000000 in
theorem rapply_any (n : Nat) (cs : List Value) (t : T) (w : World) (ht : IsT w n cs t) (hsm : Small t) (m : Nat) (a : Option Addr) (k c : Nat) (l : List EdD) (hl : IsXs w m a k c l) (hls : ∀ i, i < l.length → Small (l.getD i default).tree) :
    Calls Tryd.prog 12 #[.agg cs.toArray, .slice a k c] w (RunR (runR t l) w) := by
  obtain ⟨V, hV⟩ : ∃ V, V = runR t l := ⟨_, rfl⟩
  rw [← hV]
  have HV := Lib.hid hV
  have HT := Lib.hid ht
  have HSM := Lib.hid hsm
  have HL := Lib.hid hl
  have HLS := Lib.hid hls
  have HIC := Lib.hid (infoL (isT_five ht))
  have HIZ : Hid ((Tryd.prog.info? 26).map (·.size) = some zT.toArray.size) := Lib.hid (by rw [info5]; rfl)
  have HOZ : Hid (zT.toArray.all (·.oneCell') = true) := Lib.hid (isT_one (isT_zero w))
  clear hV ht hsm hl hls
  go_enter Tryd.func12, Tryd.ntmps12
  go_upto_region 1 with fail
  obtain ⟨w1, hw1⟩ : ∃ w1, w1 = (w.alloc (.cells cs.toArray 26)).alloc (.cells #[.int .u8 0, .bool false, .slice none 0 0, .slice none 0 0, .slice none 0 0] 26) := ⟨_, rfl⟩
  have z1 : (w.alloc (.cells cs.toArray 26)).heap.size = w.heap.size + 1 := by simp
  have gT : Has w1 w.heap.size cs 26 := by rw [hw1]; exact (Has.new w cs _).alloc _
  have gR : Has w1 (w.heap.size + 1) zT 26 := by rw [hw1, ← z1]; exact Has.new _ zT _
  have b1 : Below w.heap.size w w1 := by rw [hw1]; exact ((Below.refl _ _).alloc (Nat.le_refl _) _).alloc (by simp) _
  have s1 : w1.heap.size = w.heap.size + 1 + 1 := by rw [hw1]; simp
  rw [← hw1]
  have GT := Lib.hid gT
  have GR := Lib.hid gR
  have B1 := Lib.hid b1
  have S1 := Lib.hid s1
  have VT1 : Hid (w1.heap[w.heap.size]? = some (.cells cs.toArray 26 (0, 0))) := Lib.hid (show _ from gT)
  have HFO := Lib.hid (rform_any n cs t w1 (IsT.later b1 _ _ _ HT.out) HSM.out)
  clear hw1 z1 gT gR b1 s1
  go_wp2_with (refine wpList_load_row rfl 26 _ rfl w.heap.size rfl 26 cs.toArray (0, 0) _ VT1.out Tryd.underlying26 rfl HIC.out ?_)
  refine HFO.out.mono ?_
  rintro e w2 ⟨rfl, b2⟩
  have B2 := Lib.hid (B1.out.trans (b2.mono B1.out.size))
  have S2 : Hid (w.heap.size + 1 + 1 ≤ w2.heap.size) := Lib.hid (by have := S1.out; have := b2.size; omega)
  have GT2 := Lib.hid (GT.out.below b2 GT.out.lt)
  have GR2 := Lib.hid (GR.out.below b2 GR.out.lt)
  clear b2 HFO
  cases hst : (sizeT t).isSome with
  | false =>
    have HCR : Hid (V = (3, zeroT)) := Lib.hid (by rw [HV.out]; unfold runR; rw [hst]; rfl)
    clear hst
    have VR9 : Hid (w2.heap[w.heap.size + 1]? = some (.cells zT.toArray 26 (0, 0))) := Lib.hid (show _ from GR2.out)
    go_wp2_with (refine wpList_store_row rfl 26 _ _ rfl (w.heap.size + 1) zT.toArray rfl rfl 26 zT.toArray VR9.out HIZ.out rfl HOZ.out ?_)
    refine bodyPost_ret (at_ret (fn := Tryd.f12) (p := 4) (u := 5) (ty := 26) Tryd.results12 _ _ (w.heap.size + 1) 26 zT.toArray (0, 0) _ rfl (setRow_heap _ _ _ _ _ _ VR9.out) Tryd.underlying26 rfl HIZ.out) rfl ?_
    exact ⟨1, zT, by rw [HCR.out]; rfl, by rw [HCR.out]; exact isT_zero _, below_setRow B2.out (by omega) _⟩
  | true =>
    have HVF : Hid (V = foldR l t) := Lib.hid (by rw [HV.out]; unfold runR; rw [if_pos hst])
    have HST := Lib.hid hst
    clear hst HV
    go_wp2_with fail
    go_loopw [6] (fun vi wr => ∃ (i n' : Nat) (cs' : List Value) (t' : T), i ≤ k ∧ vi = .int .i64 i ∧ Below w.heap.size w wr ∧ w.heap.size + 1 + 1 ≤ wr.heap.size ∧ Has wr w.heap.size cs' 26 ∧ Has wr (w.heap.size + 1) zT 26 ∧ Sta [w.heap.size, w.heap.size + 1] wr n' cs' t' ∧ (sizeT t').isSome = true ∧ V = foldR (l.drop i) t') (fun vi _ => k - (intOf vi).toNat)
    case atStart => exact ⟨0, n, cs, t, Nat.zero_le _, rfl, B2.out, S2.out, GT2.out, GR2.out, (Sta.of HT.out (fun g hg => by simp only [List.mem_cons, List.not_mem_nil, or_false] at hg; omega)).later B2.out, HST.out, by rw [HVF.out]; rfl⟩
    case round =>
      obtain ⟨i, n', cs', t', hi, rfl, hbw, hsz, hg, hr, hst, hss, hfold⟩ := hrel
      have BW := Lib.hid hbw
      have SZ := Lib.hid hsz
      have GG := Lib.hid hg
      have RR := Lib.hid hr
      have ST := Lib.hid hst
      have SS := Lib.hid hss
      have FO := Lib.hid hfold
      have HI' := Lib.hid (infoL (isT_five hst.self))
      have HO' := Lib.hid (isT_one hst.self)
      have HZ' : Hid (zT.toArray.size = cs'.toArray.size) := Lib.hid (by simp [zT, isT_five hst.self])
      have VG : Hid (wr.heap[w.heap.size]? = some (.cells cs'.toArray 26 (0, 0))) := Lib.hid (show _ from hg)
      have VR : Hid (wr.heap[w.heap.size + 1]? = some (.cells zT.toArray 26 (0, 0))) := Lib.hid (show _ from hr)
      have hi5 : (Tryd.prog.info? 26).map (·.size) = some cs'.length := by rw [info5, isT_five hst.self]
      clear hbw hsz hg hr hst hss hfold GT2 GR2 B2 S2
      by_cases hlt : i < k
      · rcases HL.out.at_ with h0 | ⟨b, off, rfl, hb, hc⟩
        · omega
        obtain ⟨L, hX, hr0⟩ := hc i hlt
        have hll : i < l.length := by rw [HL.out.length]; exact hlt
        have hxs := HLS.out i hll
        have hdr : l.drop i = l.getD i default :: l.drop (i + 1) := by
          rw [List.drop_eq_getElem_cons hll]
          simp [List.getD, List.getElem?_eq_getElem hll]
        obtain ⟨x, hx⟩ : ∃ x, x = l.getD i default := ⟨_, rfl⟩
        rw [← hx] at hX hxs hdr
        obtain ⟨ct, rfl, hTX⟩ := hX
        obtain ⟨c0, c1, c2, c3, c4, rfl⟩ := five_list (isT_five hTX)
        have HXT := Lib.hid hTX
        have HXS := Lib.hid hxs
        have HRG : Hid (w.rangeAt b (off + i * 8) [.int .u8 (x.kind.toNat : Int), .string x.path, .string x.src, c0, c1, c2, c3, c4]) := Lib.hid hr0
        have HBL := Lib.hid hb
        obtain ⟨C, hC⟩ : ∃ C, C = oneR x t' := ⟨_, rfl⟩
        have HC := Lib.hid hC
        have HFV : Hid (V = if C.1 ≠ 0 then (C.1, zeroT) else if (sizeT C.2).isSome then foldR (l.drop (i + 1)) C.2 else (2, zeroT)) := Lib.hid (by rw [FO.out, hdr, foldR, ← hC])
        have HONE : Hid (∀ (F2 : List Nat) (Y : World), (∀ g ∈ F2, g < Y.heap.size) → (∀ g ∈ F2, w.heap.size ≤ g) → Below w.heap.size w Y → Sta F2 Y n' cs' t' → Calls Tryd.prog 20 #[.agg cs'.toArray, .agg #[.int .u8 (x.kind.toNat : Int), .string x.path, .string x.src, c0, c1, c2, c3, c4]] Y (CP F2 C Y)) := Lib.hid (fun F2 Y h1 h2 h3 h4 => by
          rw [HC.out]
          exact rone_any F2 x.kind x.path x.src x.tree t' Y n' cs' m c0 c1 c2 c3 c4 h1 SS.out h4 ((Sta.of HXT.out h2).later h3) HXS.out)
        have hii : (i : Int) < (k : Int) := by omega
        have hi0 : (0 : Int) ≤ (i : Int) := by omega
        have hroom := HL.out.room
        unfold maxLen at hroom
        have hni : (i : Int) + 1 ≤ 9223372036854775807 := by omega
        have HLT := Lib.hid hlt
        have hu8 := Tryd.underlying41
        have hi8 : (Tryd.prog.info? 41).map (·.size) = some ([.int .u8 (x.kind.toNat : Int), .string x.path, .string x.src, c0, c1, c2, c3, c4] : List Value).length := by kernel_rfl
        have hu26 := Tryd.underlying26
        have KP : Hid (∀ Y, Below wr.heap.size wr Y → Has Y w.heap.size cs' 26 ∧ Y.rangeAt b (off + i * 8) [.int .u8 (x.kind.toNat : Int), .string x.path, .string x.src, c0, c1, c2, c3, c4]) := Lib.hid (fun Y hY => ⟨GG.out.below hY GG.out.lt, fun q v hv => ((BW.out.trans (hY.mono BW.out.size)).cell (p := ⟨b, off + i * 8 + q, none⟩) HBL.out).trans (HRG.out q v hv)⟩)
        have HFB : Hid (∀ g ∈ [w.heap.size, w.heap.size + 1], g < wr.heap.size) := Lib.hid (fun g hg => by have := SZ.out; simp only [List.mem_cons, List.not_mem_nil, or_false] at hg; omega)
        have HFG : Hid (∀ g ∈ [w.heap.size, w.heap.size + 1], w.heap.size ≤ g) := Lib.hid (fun g hg => by simp only [List.mem_cons, List.not_mem_nil, or_false] at hg; omega)
        clear hc hr0 hxs hdr hx hTX hb hC hroom hlt hll
        go_upto_region 6 with fail
        refine wp_region_held_drew (S := fun Y => Has Y w.heap.size cs' 26 ∧ Y.rangeAt b (off + i * 8) [.int .u8 (x.kind.toNat : Int), .string x.path, .string x.src, c0, c1, c2, c3, c4]) (by kernel_rfl) (KP.out _ (Below.refl _ _).drew) (fun hHeld => ?_)
        refine wpAnyH_take (i := 0) (oi := { dst := some 20, op := Op.load 26 (Operand.tmp 2), type := 26, pos := "ref.go:126", after := #[], guard := none }) rfl (by kernel_rfl) (by kernel_rfl) (by kernel_rfl) (fun _ _ _ h => h)
          (yieldsIf_load_mid (by rfl) 26 (.tmp 2) rfl w.heap.size (0) rfl cs' _ (fun _ h => rangeAt_has h.1) hu26 rfl hi5) hHeld ?_
        try simp only [Act.put, List.setIfInBounds_toArray, List.set_cons_zero, List.set_cons_succ]
        refine wpAnyH_take (i := 1) (oi := { dst := some 21, op := Op.move (Operand.tmp 1), type := 27, pos := "ref.go:126", after := #[], guard := none }) (v := .slice (some ⟨b, off, none⟩) k c) rfl (by kernel_rfl) (by kernel_rfl) (by kernel_rfl) (fun _ _ _ h => h)
          (Or.inl ⟨by rfl, by intro w hSw;  clear hSw; go_simp⟩) hHeld ?_
        try simp only [Act.put, List.setIfInBounds_toArray, List.set_cons_zero, List.set_cons_succ]
        refine wpAnyH_take (i := 2) (oi := { dst := some 22, op := Op.move (Operand.tmp 6), type := 3, pos := "ref.go:126", after := #[], guard := none }) (v := .int .i64 (i : Int)) rfl (by kernel_rfl) (by kernel_rfl) (by kernel_rfl) (fun _ _ _ h => h)
          (Or.inl ⟨by rfl, by intro w hSw;  clear hSw; go_simp⟩) hHeld ?_
        try simp only [Act.put, List.setIfInBounds_toArray, List.set_cons_zero, List.set_cons_succ]
        refine wpAnyH_take (i := 3) (oi := { dst := some 23, op := Op.indexAddr 27 (Operand.tmp 21) (Operand.tmp 22), type := 0, pos := "ref.go:126", after := #[{ on := 1, ground := Ground.data }, { on := 2, ground := Ground.data }], guard := none }) (v := .pointer (some ⟨b, off + i * 8, none⟩)) rfl (by kernel_rfl) (by kernel_rfl) (by kernel_rfl) (fun _ _ _ h => h)
          (Or.inl ⟨by rfl, by intro w hSw;  clear hSw; go_simp⟩) hHeld ?_
        try simp only [Act.put, List.setIfInBounds_toArray, List.set_cons_zero, List.set_cons_succ]
        refine wpAnyH_take (i := 4) (oi := { dst := some 24, op := Op.load 41 (Operand.tmp 23), type := 41, pos := "ref.go:126", after := #[{ on := 3, ground := Ground.data }], guard := none }) rfl (by kernel_rfl) (by kernel_rfl) (by kernel_rfl) (fun _ _ _ h => h)
          (yieldsIf_load_mid (by rfl) 41 (.tmp 23) rfl b (off + i * 8) rfl [.int .u8 (x.kind.toNat : Int), .string x.path, .string x.src, c0, c1, c2, c3, c4] _ (fun _ h => h.2) hu8 rfl hi8) hHeld ?_
        try simp only [Act.put, List.setIfInBounds_toArray, List.set_cons_zero, List.set_cons_succ]
        refine wpAnyH_ready (rs := [5, 9]) (by kernel_rfl) (by simp) ?_
        refine AllReadyH.cons (o := { dst := some 25, op := Op.call { callee := Callee.value (Operand.func 20), args := #[Operand.tmp 20, Operand.tmp 24], argTypes := #[26, 41] }, type := 34, pos := "ref.go:126", after := #[{ on := 0, ground := Ground.data }, { on := 4, ground := Ground.data }], guard := none }) rfl (fun K hK => ?_) (AllReadyH.cons (o := { dst := some 7, op := Op.alloc 26, type := 0, pos := "ref.go:126", after := #[], guard := none }) rfl (fun K hK => ?_) AllReadyH.nil)
        · go_simp
          refine (HONE.out [w.heap.size, w.heap.size + 1] wr.drew (fun g hg => Nat.lt_of_lt_of_le (HFB.out g hg) ((Below.refl wr.heap.size wr).drew).size) HFG.out (BW.out.trans (((Below.refl wr.heap.size wr).drew).mono BW.out.size)) (ST.out.later ((Below.refl wr.heap.size wr).drew))).mono ?_
          rintro e7 w7 ⟨m7, vs, tt, rfl, hv, htt, b7⟩
          have B7 := Lib.hid (((Below.refl wr.heap.size wr).drew).trans (b7.mono ((Below.refl wr.heap.size wr).drew).size))
          have HV7 := Lib.hid hv
          have HTT := Lib.hid htt
          clear hv htt b7
          go_wp2_with fail
          refine hK.out _ _ (KP.out _ (B7.out)) (fun hHw1 => ?_)
          clear hK K hHeld
          try simp only [Act.put, List.setIfInBounds_toArray, List.set_cons_zero, List.set_cons_succ]
          refine wpAnyH_take (i := 6) (oi := { dst := some 19, op := Op.move (Operand.tmp 25), type := 34, pos := "ref.go:126", after := #[{ on := 5, ground := Ground.data }], guard := none }) (v := .tuple #[.agg vs.toArray, .int .i64 (C.1 : Int)]) rfl (by kernel_rfl) (by kernel_rfl) (by kernel_rfl) (fun _ _ _ h => h)
            (Or.inl ⟨by rfl, by intro w hSw;  clear hSw; go_simp⟩) hHw1 ?_
          try simp only [Act.put, List.setIfInBounds_toArray, List.set_cons_zero, List.set_cons_succ]
          refine wpAnyH_take (i := 7) (oi := { dst := some 26, op := Op.extract (Operand.tmp 19) 0, type := 26, pos := "ref.go:126", after := #[{ on := 6, ground := Ground.data }], guard := none }) (v := .agg vs.toArray) rfl (by kernel_rfl) (by kernel_rfl) (by kernel_rfl) (fun _ _ _ h => h)
            (Or.inl ⟨by rfl, by intro w hSw;  clear hSw; go_simp⟩) hHw1 ?_
          try simp only [Act.put, List.setIfInBounds_toArray, List.set_cons_zero, List.set_cons_succ]
          refine wpAnyH_take (i := 8) (oi := { dst := some 27, op := Op.extract (Operand.tmp 19) 1, type := 3, pos := "ref.go:126", after := #[{ on := 6, ground := Ground.data }, { on := 10, ground := Ground.gcOnly Departure.lateStores }], guard := none }) (v := .int .i64 (C.1 : Int)) rfl (by kernel_rfl) (by kernel_rfl) (by kernel_rfl) (fun _ _ _ h => h)
            (Or.inl ⟨by rfl, by intro w hSw;  clear hSw; go_simp⟩) hHw1 ?_
          try simp only [Act.put, List.setIfInBounds_toArray, List.set_cons_zero, List.set_cons_succ]
          refine wpAnyH_ready (rs := [9]) (by kernel_rfl) (by simp) ?_
          refine AllReadyH.cons (o := { dst := some 7, op := Op.alloc 26, type := 0, pos := "ref.go:126", after := #[], guard := none }) rfl (fun K hK => ?_) AllReadyH.nil
          go_simp
          obtain ⟨w8, hw8⟩ : ∃ X, X = w7.alloc (.cells #[.int .u8 0, .bool false, .slice none 0 0, .slice none 0 0, .slice none 0 0] 26) := ⟨_, rfl⟩
          have b8 : Below w7.heap.size w7 w8 := by rw [hw8]; exact (Below.refl _ _).alloc (Nat.le_refl _) _
          obtain ⟨U, hU⟩ : ∃ U, U = w7.heap.size := ⟨_, rfl⟩
          have GU : Hid (Has w8 U zT 26) := Lib.hid (by rw [hw8, hU]; exact Has.new _ zT _)
          have B8 := Lib.hid ((B7.out).trans (b8.mono (B7.out).size))
          have HU7 : Hid (w7.heap.size ≤ U) := Lib.hid (by rw [hU]; exact Nat.le_refl _)
          have F78 : Hid (Fr [w.heap.size, w.heap.size + 1] w7 w8) := Lib.hid (Fr.of_below b8)
          have HU1 : Hid (wr.heap.size ≤ U) := Lib.hid (by rw [hU]; exact (B7.out).size)
          first | rw [← hw8, ← hU] | rw [← hw8] | skip
          clear hw8 b8 hU
          refine hK.out _ _ (KP.out _ (B8.out)) (fun hHw2 => ?_)
          clear hK K hHw1
          try simp only [Act.put, List.setIfInBounds_toArray, List.set_cons_zero, List.set_cons_succ]
          refine wpAnyH_ready (rs := [10]) (by kernel_rfl) (by simp) ?_
          refine AllReadyH.cons (o := { dst := none, op := Op.store 26 (Operand.tmp 7) (Operand.tmp 26), type := 0, pos := "ref.go:126", after := #[{ on := 9, ground := Ground.data }, { on := 7, ground := Ground.data }, { on := 5, ground := Ground.chain }, { on := 0, ground := Ground.phase }, { on := 1, ground := Ground.phase }, { on := 2, ground := Ground.phase }, { on := 3, ground := Ground.phase }, { on := 4, ground := Ground.phase }, { on := 5, ground := Ground.phase }, { on := 6, ground := Ground.phase }, { on := 7, ground := Ground.phase }, { on := 8, ground := Ground.textOnly Departure.lateStores }, { on := 9, ground := Ground.phase }], guard := none }) rfl (fun K hK => ?_) AllReadyH.nil
          rw [if_pos (by rfl)]
          have HIV := Lib.hid (infoL (isT_five HV7.out.self))
          have HOV := Lib.hid (isT_one HV7.out.self)
          have HZV : Hid (zT.toArray.size = vs.toArray.size) := Lib.hid (by simp [zT, isT_five HV7.out.self])
          have HCV : Hid (cs'.toArray.size = vs.toArray.size) := Lib.hid (by rw [← HZ'.out]; exact HZV.out)
          have GU9 : Hid (Has w8 U zT 26) := Lib.hid GU.out
          refine wp_store_row 26 (.tmp 7) (.tmp 26) rfl U vs.toArray rfl rfl 26 zT.toArray (show _ from GU9.out) HIV.out HZV.out HOV.out ?_
          obtain ⟨w9, hw9⟩ : ∃ X, X = w8.setRow U vs.toArray := ⟨_, rfl⟩
          have B9 : Hid (Below wr.heap.size wr w9) := Lib.hid (by rw [hw9]; exact below_setRow B8.out HU1.out _)
          have GV : Hid (w9.heap[U]? = some (.cells vs.toArray 26 (0, 0))) := Lib.hid (by rw [hw9]; exact has_setRow GU9.out)
          have HV9 : Hid (Sta [w.heap.size, w.heap.size + 1] w9 m7 vs tt) := Lib.hid (by rw [hw9]; exact HV7.out.go ((F78.out).setRow (.inr HU7.out) _))
          rw [← hw9]
          clear hw9
          refine hK.out _ _ (KP.out _ (B9.out)) (fun hHw3 => ?_)
          clear hK K hHw2
          try simp only [Act.put]
          refine wpAnyH_take (i := 11) (oi := { dst := some 8, op := Op.assign (Operand.tmp 27), type := 3, pos := "ref.go:126", after := #[{ on := 8, ground := Ground.data }, { on := 10, ground := Ground.chain }, { on := 0, ground := Ground.phase }, { on := 1, ground := Ground.phase }, { on := 2, ground := Ground.phase }, { on := 3, ground := Ground.phase }, { on := 4, ground := Ground.phase }, { on := 5, ground := Ground.phase }, { on := 6, ground := Ground.phase }, { on := 7, ground := Ground.phase }, { on := 8, ground := Ground.phase }, { on := 9, ground := Ground.phase }, { on := 10, ground := Ground.phase }], guard := none }) (v := .int .i64 (C.1 : Int)) rfl (by kernel_rfl) (by kernel_rfl) (by kernel_rfl) (fun _ _ _ h => h)
            (Or.inl ⟨by rfl, by intro w hSw;  clear hSw; go_simp⟩) hHw3 ?_
          try simp only [Act.put, List.setIfInBounds_toArray, List.set_cons_zero, List.set_cons_succ]
          refine wpAnyH_done (by kernel_rfl) ?_ _
          clear hHw3
          have BW9 := Lib.hid (BW.out.trans (B9.out.mono BW.out.size))
          have GR9 := Lib.hid (RR.out.below B9.out RR.out.lt)
          have GG9 := Lib.hid (GG.out.below B9.out GG.out.lt)
          by_cases hC0 : C.1 = 0
          · rw [hC0]
            have HTE : Hid (tt = C.2) := Lib.hid (HTT.out hC0)
            have HSM9 : Hid (Small C.2) := Lib.hid (by have h := one_small x SS.out HXS.out (by rw [← HC.out]; exact hC0); rw [← HC.out] at h; exact h)
            have HFW : Hid (V = if (sizeT C.2).isSome then foldR (l.drop (i + 1)) C.2 else (2, zeroT)) := Lib.hid (by rw [HFV.out, if_neg (by rw [hC0]; simp)])
            have HS9 : Hid (Sta [w.heap.size, w.heap.size + 1] w9 m7 vs C.2) := Lib.hid (by rw [← HTE.out]; exact HV9.out)
            have HFO := Lib.hid (rform_any m7 vs C.2 w9 HS9.out.self HSM9.out)
            clear hC0 HFV
            go_wp2_with (refine wpList_load_row rfl 26 _ rfl U rfl 26 vs.toArray (0, 0) _ GV.out Tryd.underlying26 rfl HIV.out ?_)
            refine HFO.out.mono ?_
            rintro e w10 ⟨rfl, b10⟩
            have BW10 := Lib.hid (BW9.out.trans (b10.mono BW9.out.size))
            have GR10 := Lib.hid (GR9.out.below b10 GR9.out.lt)
            have GG10 : Hid (w10.heap[w.heap.size]? = some (.cells cs'.toArray 26 (0, 0))) := Lib.hid (show _ from GG9.out.below b10 GG9.out.lt)
            have GV10 : Hid (w10.heap[U]? = some (.cells vs.toArray 26 (0, 0))) := Lib.hid ((b10.block _ (Array.getElem?_eq_some_iff.1 GV.out).1).trans GV.out)
            have HS10 := Lib.hid (HS9.out.later b10)
            have SZ10 : Hid (w.heap.size + 1 + 1 ≤ w10.heap.size) := Lib.hid (Nat.le_trans SZ.out (Nat.le_trans B9.out.size b10.size))
            clear b10 HFO
            cases hsz : (sizeT C.2).isSome with
            | false =>
              have HCR : Hid (V = (2, zeroT)) := Lib.hid (by rw [HFW.out, hsz]; rfl)
              clear hsz
              have VR9 : Hid (w10.heap[w.heap.size + 1]? = some (.cells zT.toArray 26 (0, 0))) := Lib.hid (show _ from GR10.out)
              go_wp2_with (refine wpList_store_row rfl 26 _ _ rfl (w.heap.size + 1) zT.toArray rfl rfl 26 zT.toArray VR9.out HIZ.out rfl HOZ.out ?_)
              refine bodyPost_ret (at_ret (fn := Tryd.f12) (p := 4) (u := 5) (ty := 26) Tryd.results12 _ _ (w.heap.size + 1) 26 zT.toArray (0, 0) _ rfl (setRow_heap _ _ _ _ _ _ VR9.out) Tryd.underlying26 rfl HIZ.out) rfl ?_
              exact ⟨1, zT, by rw [HCR.out]; rfl, by rw [HCR.out]; exact isT_zero _, below_setRow BW10.out (by omega) _⟩
            | true =>
              have HCR : Hid (V = foldR (l.drop (i + 1)) C.2) := Lib.hid (by rw [HFW.out, if_pos hsz])
              have HSZ := Lib.hid hsz
              clear hsz
              go_wp2_with (first
                | (refine wpList_load_row rfl 26 _ rfl U rfl 26 vs.toArray (0, 0) _ GV10.out Tryd.underlying26 rfl HIV.out ?_)
                | (refine wpList_store_row rfl 26 _ _ rfl w.heap.size vs.toArray rfl rfl 26 cs'.toArray GG10.out HIV.out HCV.out HOV.out ?_))
              go_roundw
              case rel => exact ⟨i + 1, m7, vs, C.2, HLT.out, by go_num, below_setRow BW10.out (Nat.le_refl _) _, by simpa [World.setRow] using SZ10.out, has_setRow GG10.out, has_setRow_other GR10.out (by omega) _, HS10.out.go ((Fr.refl _ _).setRow (.inl (by simp)) _), HSZ.out, HCR.out⟩
              case measure => have := HLT.out; simp [intOf]; omega
          · have HCR : Hid (V = (C.1, zeroT)) := Lib.hid (by rw [HFV.out, if_pos hC0])
            have hC1 : ((C.1 : Int) == 0) = false := by rw [beq_eq_false_iff_ne]; omega
            have hC2 : ¬ (C.1 : Int) = 0 := by omega
            have hC3 : ((C.1 : Int) != 0) = true := by rw [bne_iff_ne]; exact hC2
            clear hC0
            have VR9 : Hid (w9.heap[w.heap.size + 1]? = some (.cells zT.toArray 26 (0, 0))) := Lib.hid (show _ from GR9.out)
            go_wp2_with (refine wpList_store_row rfl 26 _ _ rfl (w.heap.size + 1) zT.toArray rfl rfl 26 zT.toArray VR9.out HIZ.out rfl HOZ.out ?_)
            refine bodyPost_ret (at_ret (fn := Tryd.f12) (p := 4) (u := 5) (ty := 26) Tryd.results12 _ _ (w.heap.size + 1) 26 zT.toArray (0, 0) _ rfl (setRow_heap _ _ _ _ _ _ VR9.out) Tryd.underlying26 rfl HIZ.out) rfl ?_
            exact ⟨1, zT, by rw [HCR.out]; rfl, by rw [HCR.out]; exact isT_zero _, below_setRow BW9.out (by omega) _⟩
        · go_simp
          obtain ⟨w8, hw8⟩ : ∃ X, X = (wr.alloc (.cells #[.int .u8 0, .bool false, .slice none 0 0, .slice none 0 0, .slice none 0 0] 26)).drew := ⟨_, rfl⟩
          have b8 : Below wr.heap.size wr w8 := by rw [hw8]; exact ((Below.refl _ _).alloc (Nat.le_refl _) _).drew
          obtain ⟨U, hU⟩ : ∃ U, U = wr.heap.size := ⟨_, rfl⟩
          have GU : Hid (Has w8 U zT 26) := Lib.hid (by rw [hw8, hU]; exact (Has.new _ zT _).drew)
          have B8 := Lib.hid (((Below.refl wr.heap.size wr)).trans (b8.mono ((Below.refl wr.heap.size wr)).size))
          have HU1 : Hid (wr.heap.size ≤ U) := Lib.hid (by rw [hU]; exact ((Below.refl wr.heap.size wr)).size)
          first | rw [← hw8, ← hU] | rw [← hw8] | skip
          clear hw8 b8 hU
          refine hK.out _ _ (KP.out _ (B8.out)) (fun hHw1 => ?_)
          clear hK K hHeld
          try simp only [Act.put, List.setIfInBounds_toArray, List.set_cons_zero, List.set_cons_succ]
          refine wpAnyH_ready (rs := [5]) (by kernel_rfl) (by simp) ?_
          refine AllReadyH.cons (o := { dst := some 25, op := Op.call { callee := Callee.value (Operand.func 20), args := #[Operand.tmp 20, Operand.tmp 24], argTypes := #[26, 41] }, type := 34, pos := "ref.go:126", after := #[{ on := 0, ground := Ground.data }, { on := 4, ground := Ground.data }], guard := none }) rfl (fun K hK => ?_) AllReadyH.nil
          go_simp
          refine (HONE.out (U :: [w.heap.size, w.heap.size + 1]) w8 (fun g hg => (List.mem_cons.1 hg).elim (fun h => h ▸ GU.out.lt) (fun h => Nat.lt_of_lt_of_le (HFB.out g h) (B8.out).size)) (fun g hg => (List.mem_cons.1 hg).elim (fun h => by rw [h]; have := HU1.out; have := SZ.out; omega) (fun h => HFG.out g h)) (BW.out.trans ((B8.out).mono BW.out.size)) ((ST.out.more (fun g hg hlt => (List.mem_cons.1 hg).elim (fun h => absurd hlt (by rw [h]; have := HU1.out; omega)) id)).later (B8.out))).mono ?_
          rintro e7 w7 ⟨m7, vs, tt, rfl, hv, htt, b7⟩
          have B7 := Lib.hid ((B8.out).trans (b7.mono (B8.out).size))
          have HVU := Lib.hid hv
          have HV7 := Lib.hid (hv.more (fun g hg _ => List.mem_cons_of_mem _ hg))
          have B78 := Lib.hid b7
          have HTT := Lib.hid htt
          clear hv htt b7
          go_wp2_with fail
          refine hK.out _ _ (KP.out _ (B7.out)) (fun hHw2 => ?_)
          clear hK K hHw1
          try simp only [Act.put, List.setIfInBounds_toArray, List.set_cons_zero, List.set_cons_succ]
          refine wpAnyH_take (i := 6) (oi := { dst := some 19, op := Op.move (Operand.tmp 25), type := 34, pos := "ref.go:126", after := #[{ on := 5, ground := Ground.data }], guard := none }) (v := .tuple #[.agg vs.toArray, .int .i64 (C.1 : Int)]) rfl (by kernel_rfl) (by kernel_rfl) (by kernel_rfl) (fun _ _ _ h => h)
            (Or.inl ⟨by rfl, by intro w hSw;  clear hSw; go_simp⟩) hHw2 ?_
          try simp only [Act.put, List.setIfInBounds_toArray, List.set_cons_zero, List.set_cons_succ]
          refine wpAnyH_take (i := 7) (oi := { dst := some 26, op := Op.extract (Operand.tmp 19) 0, type := 26, pos := "ref.go:126", after := #[{ on := 6, ground := Ground.data }], guard := none }) (v := .agg vs.toArray) rfl (by kernel_rfl) (by kernel_rfl) (by kernel_rfl) (fun _ _ _ h => h)
            (Or.inl ⟨by rfl, by intro w hSw;  clear hSw; go_simp⟩) hHw2 ?_
          try simp only [Act.put, List.setIfInBounds_toArray, List.set_cons_zero, List.set_cons_succ]
          refine wpAnyH_take (i := 8) (oi := { dst := some 27, op := Op.extract (Operand.tmp 19) 1, type := 3, pos := "ref.go:126", after := #[{ on := 6, ground := Ground.data }, { on := 10, ground := Ground.gcOnly Departure.lateStores }], guard := none }) (v := .int .i64 (C.1 : Int)) rfl (by kernel_rfl) (by kernel_rfl) (by kernel_rfl) (fun _ _ _ h => h)
            (Or.inl ⟨by rfl, by intro w hSw;  clear hSw; go_simp⟩) hHw2 ?_
          try simp only [Act.put, List.setIfInBounds_toArray, List.set_cons_zero, List.set_cons_succ]
          refine wpAnyH_ready (rs := [10]) (by kernel_rfl) (by simp) ?_
          refine AllReadyH.cons (o := { dst := none, op := Op.store 26 (Operand.tmp 7) (Operand.tmp 26), type := 0, pos := "ref.go:126", after := #[{ on := 9, ground := Ground.data }, { on := 7, ground := Ground.data }, { on := 5, ground := Ground.chain }, { on := 0, ground := Ground.phase }, { on := 1, ground := Ground.phase }, { on := 2, ground := Ground.phase }, { on := 3, ground := Ground.phase }, { on := 4, ground := Ground.phase }, { on := 5, ground := Ground.phase }, { on := 6, ground := Ground.phase }, { on := 7, ground := Ground.phase }, { on := 8, ground := Ground.textOnly Departure.lateStores }, { on := 9, ground := Ground.phase }], guard := none }) rfl (fun K hK => ?_) AllReadyH.nil
          rw [if_pos (by rfl)]
          have HIV := Lib.hid (infoL (isT_five HV7.out.self))
          have HOV := Lib.hid (isT_one HV7.out.self)
          have HZV : Hid (zT.toArray.size = vs.toArray.size) := Lib.hid (by simp [zT, isT_five HV7.out.self])
          have HCV : Hid (cs'.toArray.size = vs.toArray.size) := Lib.hid (by rw [← HZ'.out]; exact HZV.out)
          have GU9 : Hid (Has w7 U zT 26) := Lib.hid (GU.out.below B78.out GU.out.lt)
          refine wp_store_row 26 (.tmp 7) (.tmp 26) rfl U vs.toArray rfl rfl 26 zT.toArray (show _ from GU9.out) HIV.out HZV.out HOV.out ?_
          obtain ⟨w9, hw9⟩ : ∃ X, X = w7.setRow U vs.toArray := ⟨_, rfl⟩
          have B9 : Hid (Below wr.heap.size wr w9) := Lib.hid (by rw [hw9]; exact below_setRow B7.out HU1.out _)
          have GV : Hid (w9.heap[U]? = some (.cells vs.toArray 26 (0, 0))) := Lib.hid (by rw [hw9]; exact has_setRow GU9.out)
          have HV9 : Hid (Sta [w.heap.size, w.heap.size + 1] w9 m7 vs tt) := Lib.hid (by rw [hw9]; exact (HVU.out.go ((Fr.refl _ _).setRow (.inl (List.mem_cons_self ..)) _)).more (fun g hg _ => List.mem_cons_of_mem _ hg))
          rw [← hw9]
          clear hw9
          refine hK.out _ _ (KP.out _ (B9.out)) (fun hHw3 => ?_)
          clear hK K hHw2
          try simp only [Act.put]
          refine wpAnyH_take (i := 11) (oi := { dst := some 8, op := Op.assign (Operand.tmp 27), type := 3, pos := "ref.go:126", after := #[{ on := 8, ground := Ground.data }, { on := 10, ground := Ground.chain }, { on := 0, ground := Ground.phase }, { on := 1, ground := Ground.phase }, { on := 2, ground := Ground.phase }, { on := 3, ground := Ground.phase }, { on := 4, ground := Ground.phase }, { on := 5, ground := Ground.phase }, { on := 6, ground := Ground.phase }, { on := 7, ground := Ground.phase }, { on := 8, ground := Ground.phase }, { on := 9, ground := Ground.phase }, { on := 10, ground := Ground.phase }], guard := none }) (v := .int .i64 (C.1 : Int)) rfl (by kernel_rfl) (by kernel_rfl) (by kernel_rfl) (fun _ _ _ h => h)
            (Or.inl ⟨by rfl, by intro w hSw;  clear hSw; go_simp⟩) hHw3 ?_
          try simp only [Act.put, List.setIfInBounds_toArray, List.set_cons_zero, List.set_cons_succ]
          refine wpAnyH_done (by kernel_rfl) ?_ _
          clear hHw3
          have BW9 := Lib.hid (BW.out.trans (B9.out.mono BW.out.size))
          have GR9 := Lib.hid (RR.out.below B9.out RR.out.lt)
          have GG9 := Lib.hid (GG.out.below B9.out GG.out.lt)
          by_cases hC0 : C.1 = 0
          · rw [hC0]
            have HTE : Hid (tt = C.2) := Lib.hid (HTT.out hC0)
            have HSM9 : Hid (Small C.2) := Lib.hid (by have h := one_small x SS.out HXS.out (by rw [← HC.out]; exact hC0); rw [← HC.out] at h; exact h)
            have HFW : Hid (V = if (sizeT C.2).isSome then foldR (l.drop (i + 1)) C.2 else (2, zeroT)) := Lib.hid (by rw [HFV.out, if_neg (by rw [hC0]; simp)])
            have HS9 : Hid (Sta [w.heap.size, w.heap.size + 1] w9 m7 vs C.2) := Lib.hid (by rw [← HTE.out]; exact HV9.out)
            have HFO := Lib.hid (rform_any m7 vs C.2 w9 HS9.out.self HSM9.out)
            clear hC0 HFV
            go_wp2_with (refine wpList_load_row rfl 26 _ rfl U rfl 26 vs.toArray (0, 0) _ GV.out Tryd.underlying26 rfl HIV.out ?_)
            refine HFO.out.mono ?_
            rintro e w10 ⟨rfl, b10⟩
            have BW10 := Lib.hid (BW9.out.trans (b10.mono BW9.out.size))
            have GR10 := Lib.hid (GR9.out.below b10 GR9.out.lt)
            have GG10 : Hid (w10.heap[w.heap.size]? = some (.cells cs'.toArray 26 (0, 0))) := Lib.hid (show _ from GG9.out.below b10 GG9.out.lt)
            have GV10 : Hid (w10.heap[U]? = some (.cells vs.toArray 26 (0, 0))) := Lib.hid ((b10.block _ (Array.getElem?_eq_some_iff.1 GV.out).1).trans GV.out)
            have HS10 := Lib.hid (HS9.out.later b10)
            have SZ10 : Hid (w.heap.size + 1 + 1 ≤ w10.heap.size) := Lib.hid (Nat.le_trans SZ.out (Nat.le_trans B9.out.size b10.size))
            clear b10 HFO
            cases hsz : (sizeT C.2).isSome with
            | false =>
              have HCR : Hid (V = (2, zeroT)) := Lib.hid (by rw [HFW.out, hsz]; rfl)
              clear hsz
              have VR9 : Hid (w10.heap[w.heap.size + 1]? = some (.cells zT.toArray 26 (0, 0))) := Lib.hid (show _ from GR10.out)
              go_wp2_with (refine wpList_store_row rfl 26 _ _ rfl (w.heap.size + 1) zT.toArray rfl rfl 26 zT.toArray VR9.out HIZ.out rfl HOZ.out ?_)
              refine bodyPost_ret (at_ret (fn := Tryd.f12) (p := 4) (u := 5) (ty := 26) Tryd.results12 _ _ (w.heap.size + 1) 26 zT.toArray (0, 0) _ rfl (setRow_heap _ _ _ _ _ _ VR9.out) Tryd.underlying26 rfl HIZ.out) rfl ?_
              exact ⟨1, zT, by rw [HCR.out]; rfl, by rw [HCR.out]; exact isT_zero _, below_setRow BW10.out (by omega) _⟩
            | true =>
              have HCR : Hid (V = foldR (l.drop (i + 1)) C.2) := Lib.hid (by rw [HFW.out, if_pos hsz])
              have HSZ := Lib.hid hsz
              clear hsz
              go_wp2_with (first
                | (refine wpList_load_row rfl 26 _ rfl U rfl 26 vs.toArray (0, 0) _ GV10.out Tryd.underlying26 rfl HIV.out ?_)
                | (refine wpList_store_row rfl 26 _ _ rfl w.heap.size vs.toArray rfl rfl 26 cs'.toArray GG10.out HIV.out HCV.out HOV.out ?_))
              go_roundw
              case rel => exact ⟨i + 1, m7, vs, C.2, HLT.out, by go_num, below_setRow BW10.out (Nat.le_refl _) _, by simpa [World.setRow] using SZ10.out, has_setRow GG10.out, has_setRow_other GR10.out (by omega) _, HS10.out.go ((Fr.refl _ _).setRow (.inl (by simp)) _), HSZ.out, HCR.out⟩
              case measure => have := HLT.out; simp [intOf]; omega
          · have HCR : Hid (V = (C.1, zeroT)) := Lib.hid (by rw [HFV.out, if_pos hC0])
            have hC1 : ((C.1 : Int) == 0) = false := by rw [beq_eq_false_iff_ne]; omega
            have hC2 : ¬ (C.1 : Int) = 0 := by omega
            have hC3 : ((C.1 : Int) != 0) = true := by rw [bne_iff_ne]; exact hC2
            clear hC0
            have VR9 : Hid (w9.heap[w.heap.size + 1]? = some (.cells zT.toArray 26 (0, 0))) := Lib.hid (show _ from GR9.out)
            go_wp2_with (refine wpList_store_row rfl 26 _ _ rfl (w.heap.size + 1) zT.toArray rfl rfl 26 zT.toArray VR9.out HIZ.out rfl HOZ.out ?_)
            refine bodyPost_ret (at_ret (fn := Tryd.f12) (p := 4) (u := 5) (ty := 26) Tryd.results12 _ _ (w.heap.size + 1) 26 zT.toArray (0, 0) _ rfl (setRow_heap _ _ _ _ _ _ VR9.out) Tryd.underlying26 rfl HIZ.out) rfl ?_
            exact ⟨1, zT, by rw [HCR.out]; rfl, by rw [HCR.out]; exact isT_zero _, below_setRow BW9.out (by omega) _⟩
      · obtain rfl : i = k := by omega
        have HCR : Hid (V = (0, t')) := Lib.hid (by rw [FO.out, List.drop_eq_nil_of_le (by rw [HL.out.length]; exact Nat.le_refl _)]; rfl)
        go_wp2_with (first
          | (refine wpList_load_row rfl 26 _ rfl w.heap.size rfl 26 cs'.toArray (0, 0) _ VG.out Tryd.underlying26 rfl HI'.out ?_)
          | (refine wpList_store_row rfl 26 _ _ rfl (w.heap.size + 1) cs'.toArray rfl rfl 26 zT.toArray VR.out HI'.out HZ'.out HO'.out ?_))
        refine bodyPost_ret (at_ret (fn := Tryd.f12) (p := 4) (u := 5) (ty := 26) Tryd.results12 _ _ (w.heap.size + 1) 26 cs'.toArray (0, 0) _ rfl (setRow_heap _ _ _ _ _ _ VR.out) Tryd.underlying26 rfl HI'.out) rfl ?_
        exact ⟨n', cs', by rw [HCR.out]; rfl, by rw [HCR.out]; exact (ST.out.go ((Fr.refl _ _).setRow (.inl (by simp)) _)).self, below_setRow BW.out (by omega) _⟩

end Go.Proofs.YtbempgdndmchlaaDoor

/-
  What stands at a path: the program's At, where it tells of an error. Conditions: a global's kind; that there is an error.
-/
import Derived.Test.YtmgfgldabjgmmaaDoorTSize
import Derived.Test.YtmgfgldabjgmmaaDoorTSplit
import Derived.Laws.ResultCell
import Derived.Laws.Rows
namespace Go.Proofs.YtmgfgldabjgmmaaDoor
open Go.RowKit
set_option linter.unusedVariables false

/-- What stands behind some names, or the error's number. -/
def findT : List ByteArray → T → Int ⊕ T
  | [], t => .inr t
  | nm :: r, .mk k x d ns ks => if k ≠ 3 then .inl 8 else if Lib.idxOfS ns nm < 0 ∨ (ks.length : Int) ≤ Lib.idxOfS ns nm then .inl 6 else findT r (ks.getD (Lib.idxOfS ns nm).toNat default)

def zT : List Value := [.int .u8 0, .bool false, .slice none 0 0, .slice none 0 0, .slice none 0 0]

theorem at_ret {fn : Func} {P : Program} {p u : Tmp} {ty : TypeId} (h : fn.results = #[.cell p ty, .tmp u]) (tmps : Array Value) (w : World) (g : Nat) (t : TypeId) (cs : Array Value) (fr : Nat × Nat) (d : TypeDesc)
    (hp : tmps.getD p undef = .pointer (some ⟨g, 0, none⟩)) (hg : w.heap[g]? = some (.cells cs t fr))
    (hu : P.underlying ty = some d) (hd : (match d with | .struct _ | .array _ _ => true | _ => false) = true) (hi : (P.info? ty).map (·.size) = some cs.size) :
    (results fn tmps).run P w = .ok (.tuple #[.agg cs, tmps.getD u undef]) w := by
  have hp' : tmps[p]?.getD undef = .pointer (some ⟨g, 0, none⟩) := by simpa using hp
  simp [results, h, hp', asAddr, run_loadVar_row w g t ty cs fr d hg hu hd hi]

set_option maxRecDepth 100000 in
set_option maxHeartbeats 20000000 in
theorem at_err (n : Nat) (cs : List Value) (t : T) (s : ByteArray) (w : World) (ht : IsT w n cs t) (hm : MaxW w) (hmx : 0 < w.heap.size) (hs : (splitT s.data.toList).2 = 0) (code : Int)
    (hf : ∀ l : List ByteArray, l.map (·.data.toList) = (splitT s.data.toList).1 → findT l t = .inl code) :
    Calls Tryd.prog 20 #[.agg cs.toArray, .string s] w fun e w' => e = .returned (.tuple #[.agg zT.toArray, .int .i64 code]) ∧ Below w.heap.size w w' := by
  have hI := Lib.hid (infoL (isT_five ht))
  have HT := Lib.hid ht
  have HF := Lib.hid hf
  have HS := Lib.hid hs
  have HM := Lib.hid hm
  clear ht hf hs hm
  go_enter Tryd.func20, Tryd.ntmps20
  go_upto_region 1 with fail
  obtain ⟨w1, hw1⟩ : ∃ w1, w1 = (w.alloc (.cells cs.toArray 26)).alloc (.cells #[.int .u8 0, .bool false, .slice none 0 0, .slice none 0 0, .slice none 0 0] 26) := ⟨_, rfl⟩
  have sz : (w.alloc (.cells cs.toArray 26)).heap.size = w.heap.size + 1 := by simp
  have r1 : Has w1 (w.heap.size + 1) zT 26 := by rw [hw1, ← sz]; exact Has.new _ zT _
  have g1 : Has w1 w.heap.size cs 26 := by rw [hw1]; exact (Has.new w cs _).alloc _
  have b1 : Below w.heap.size w w1 := by rw [hw1]; exact ((Below.refl _ _).alloc (Nat.le_refl _) _).alloc (by simp) _
  have s1 : w1.heap.size = w.heap.size + 1 + 1 := by rw [hw1]; simp
  rw [← hw1]
  obtain ⟨G, hG⟩ : ∃ G, G = w.heap.size := ⟨_, rfl⟩
  obtain ⟨R, hR⟩ : ∃ R, R = w.heap.size + 1 := ⟨_, rfl⟩
  rw [← hR] at r1 s1
  rw [← hG] at g1
  have hGR : G < R := by omega
  have hwG : w.heap.size ≤ G := by omega
  have hwR : w.heap.size ≤ R := by omega
  have hs1 : w1.heap.size = R + 1 := s1
  rw [← hR, ← hG]
  have HK := Lib.hid (split_any s w1 (HM.out.below b1 hmx))
  have R1 := Lib.hid r1
  have G1 := Lib.hid g1
  have B1 := Lib.hid b1
  have HZI : Hid ((Tryd.prog.info? 26).map (·.size) = some zT.toArray.size) := Lib.hid (by rw [info5]; rfl)
  have HZO : Hid (zT.toArray.all (·.oneCell') = true) := Lib.hid (all_oneCell_toArray (fun v hv => by
    simp only [zT, List.mem_cons, List.not_mem_nil, or_false] at hv
    rcases hv with rfl | rfl | rfl | rfl | rfl <;> rfl))
  clear hw1 sz r1 g1 b1 s1 hG hR
  go_wp2_with fail
  refine HK.out.mono ?_
  rintro e w2 ⟨⟨a, nl, cap, l, hIS, hlm, rfl, hge⟩, b2⟩
  rw [HS.out]
  have R2 := Lib.hid (R1.out.below b2 (by omega))
  have G2 := Lib.hid (G1.out.below b2 (by omega))
  have B2 := Lib.hid (B1.out.trans (b2.mono B1.out.size))
  have HIS := Lib.hid hIS
  have HGE : Hid (∀ x, a = some x → R < x.block) := Lib.hid (fun x hx => by have := hge x hx; omega)
  have HFT := Lib.hid (HF.out l hlm)
  have hroom := hIS.room
  unfold maxLen at hroom
  clear b2 hIS hge hlm HK R1 G1 B1
  go_wp2_with fail
  go_loopw [22] (fun ii wr => ∃ (i n' : Nat) (cs' : List Value) (t' : T), i ≤ nl ∧ ii = .int .i64 i ∧ Has wr G cs' 26 ∧ Has wr R zT 26 ∧ IsT w n' cs' t' ∧ findT (l.drop i) t' = .inl code ∧ Below w.heap.size w wr ∧ IsS wr a nl cap l) (fun ii _ => nl - (intOf ii).toNat)
  case atStart => exact ⟨0, n, cs, t, Nat.zero_le _, rfl, G2.out, R2.out, HT.out, by rw [List.drop_zero]; exact HFT.out, B2.out, HIS.out⟩
  case round =>
    clear G2 R2 B2 HIS
    obtain ⟨i, n', cs', t', hi, rfl, hg, hr, hT, hfd, hbel, hIS⟩ := hrel
    by_cases hlt : i < nl
    · rcases hIS.at_ with h0 | ⟨b, off, rfl, hb, hc⟩
      · omega
      have hll : i < l.length := by rw [hIS.length]; exact hlt
      have hbR : R < b := HGE.out _ rfl
      obtain ⟨nm, hnm⟩ : ∃ nm, nm = l.getD i ⟨#[]⟩ := ⟨_, rfl⟩
      have hcn : wr.cell? ⟨b, off + i, none⟩ = some (.string nm) := by rw [hnm]; exact hc i hlt
      have hdrop : l.drop i = nm :: l.drop (i + 1) := by
        rw [hnm, List.getD_eq_getElem?_getD, List.getElem?_eq_getElem hll]; exact List.drop_eq_getElem_cons hll
      rw [hdrop] at hfd
      cases n' with
      | zero => exact absurd hT (by simp [IsT])
      | succ m =>
      obtain ⟨k, x, d, ns, ks⟩ := t'
      obtain ⟨ad, nd, cd, an, nn, cn, ak, nk, ck, rfl, hB, hSS, hK⟩ := hT
      have cg0 := hg.cellAt (i := 0) rfl
      have HXG := Lib.hid hg
      have HXR := Lib.hid hr
      have HBE := Lib.hid hbel
      have HIS := Lib.hid hIS
      have HSS := Lib.hid (hSS.later hbel)
      have HKK := Lib.hid hK
      have hki : (i : Int) < (nl : Int) := by omega
      have hni : (i : Int) + 1 ≤ 9223372036854775807 := by omega
      have hfd' := hfd
      rw [findT] at hfd'
      have HFD := Lib.hid hfd'
      have hbsz := hbel.size
      clear hg hr hbel hIS hSS hK hB hc hnm hdrop hfd hfd'
      by_cases hk3 : k = 3
      · subst hk3
        have hfd2 : (if Lib.idxOfS ns nm < 0 ∨ (ks.length : Int) ≤ Lib.idxOfS ns nm then Sum.inl 6 else findT (l.drop (i + 1)) (ks.getD (Lib.idxOfS ns nm).toNat default)) = (Sum.inl code : Int ⊕ T) := by
          have := HFD.out; rwa [if_neg (by simp)] at this
        have KI : Calls Tryd.prog 33 #[.slice an nn cn, .string nm] wr fun e w' => e = .returned (.int .i64 (Lib.idxOfS ns nm)) ∧ w' = wr := by
          rcases HSS.out.at_ with h0 | ⟨bn, on, rfl, _, hcn2⟩
          · subst h0
            have : ns = [] := List.eq_nil_of_length_eq_zero HSS.out.length
            subst this
            exact Tryd.slices_Index_string_empty an cn nm wr
          · have hnl := HSS.out.length
            have hrm := HSS.out.room
            unfold maxLen at hrm
            have K := Tryd.slices_Index_string bn on nn cn ns nm wr (by omega) (by omega) (fun j hj => hcn2 j (by omega))
            rw [List.take_of_length_le (by omega)] at K
            exact K
        have HKI := Lib.hid KI
        have cg3 := HXG.out.cellAt (i := 3) rfl
        have cg4 := HXG.out.cellAt (i := 4) rfl
        have HLK := HKK.out.length
        obtain ⟨ix, hix⟩ : ∃ ix, ix = Lib.idxOfS ns nm := ⟨_, rfl⟩
        rw [← hix] at hfd2
        have HIX := Lib.hid hix
        clear KI hix HFD
        by_cases hneg : ix < 0
        · have HCODE : Hid (code = 6) := Lib.hid (by rw [if_pos (.inl hneg)] at hfd2; cases hfd2; rfl)
          clear hfd2
          go_wp2_with fail
          refine HKI.out.mono ?_
          rintro e w3 ⟨rfl, rfl⟩
          rw [← HIX.out]
          go_wp2_with (refine wpList_store_row rfl 26 _ _ rfl R zT.toArray rfl rfl 26 _ HXR.out HZI.out rfl HZO.out ?_)
          refine bodyPost_ret (at_ret (fn := Tryd.f20) (p := 4) (u := 5) (ty := 26) Tryd.results20 _ _ R 26 zT.toArray (0, 0) _ rfl (setRow_heap _ _ _ _ _ _ HXR.out) Tryd.underlying26 rfl HZI.out) rfl ?_
          rw [HCODE.out]
          exact ⟨rfl, below_setRow HBE.out (by omega) _⟩
        · by_cases hbig : (nk : Int) ≤ ix
          · have HCODE : Hid (code = 6) := Lib.hid (by rw [if_pos (.inr (by rw [HLK]; exact hbig))] at hfd2; cases hfd2; rfl)
            clear hfd2
            go_wp2_with fail
            refine HKI.out.mono ?_
            rintro e w3 ⟨rfl, rfl⟩
            rw [← HIX.out]
            go_wp2_with (refine wpList_store_row rfl 26 _ _ rfl R zT.toArray rfl rfl 26 _ HXR.out HZI.out rfl HZO.out ?_)
            refine bodyPost_ret (at_ret (fn := Tryd.f20) (p := 4) (u := 5) (ty := 26) Tryd.results20 _ _ R 26 zT.toArray (0, 0) _ rfl (setRow_heap _ _ _ _ _ _ HXR.out) Tryd.underlying26 rfl HZI.out) rfl ?_
            rw [HCODE.out]
            exact ⟨rfl, below_setRow HBE.out (by omega) _⟩
          · obtain ⟨j, rfl⟩ : ∃ j : Nat, ix = (j : Int) := ⟨ix.toNat, by omega⟩
            have hjn : j < nk := by omega
            have hfd3 : findT (l.drop (i + 1)) (ks.getD j default) = .inl code := by rw [if_neg (by rw [HLK]; omega)] at hfd2; simpa using hfd2
            rcases HKK.out.at_ with h0 | ⟨bk, ok, rfl, hbk, hck⟩
            · omega
            obtain ⟨e0, e1, e2, e3, e4, hRk, k0, k1, k2, k3, k4⟩ := hck j hjn
            have hrange : wr.rangeAt bk (ok + j * 5) [e0, e1, e2, e3, e4] := fun q v hv => by
              rw [Nat.add_assoc]
              match q, hv with
              | 0, hv => cases hv; exact (HBE.out.cell (p := ⟨bk, ok + (j * 5 + 0), none⟩) hbk).trans k0
              | 1, hv => cases hv; exact (HBE.out.cell (p := ⟨bk, ok + (j * 5 + 1), none⟩) hbk).trans k1
              | 2, hv => cases hv; exact (HBE.out.cell (p := ⟨bk, ok + (j * 5 + 2), none⟩) hbk).trans k2
              | 3, hv => cases hv; exact (HBE.out.cell (p := ⟨bk, ok + (j * 5 + 3), none⟩) hbk).trans k3
              | 4, hv => cases hv; exact (HBE.out.cell (p := ⟨bk, ok + (j * 5 + 4), none⟩) hbk).trans k4
              | q + 5, hv => simp at hv
            obtain ⟨L5, hL5⟩ : ∃ L, L = [e0, e1, e2, e3, e4] := ⟨_, rfl⟩
            rw [← hL5] at hrange hRk
            have HRG := Lib.hid hrange
            have HRK := Lib.hid hRk
            have HLI := Lib.hid (infoL (isT_five hRk))
            have HL5 : Hid ((Tryd.prog.info? 26).map (·.size) = some L5.length) := Lib.hid (by rw [info5, isT_five hRk])
            have HLO := Lib.hid (isT_one hRk)
            have HLS : Hid ((#[.int .u8 3, .bool x, .slice ad nd cd, .slice an nn cn, .slice (some ⟨bk, ok, none⟩) nk ck] : Array Value).size = L5.toArray.size) := Lib.hid (by have := isT_five hRk; simp [this])
            have HF3 := Lib.hid hfd3
            have HLT := Lib.hid hlt
            have hjk : (j : Int) < (nk : Int) := by omega
            have hq1 : decide ((j : Int) < 0) = false := by simp
            have hq2 : decide ((nk : Int) ≤ (j : Int)) = false := by simp; omega
            have hq3 : ¬ nk ≤ j := by omega
            have hq4 : ¬ (nk : Int) ≤ (j : Int) := by omega
            clear hfd2 hfd3 hck k0 k1 k2 k3 k4 hrange hRk hL5 hneg hbig hjn HLK
            go_wp2_with fail
            refine HKI.out.mono ?_
            rintro e w3 ⟨rfl, rfl⟩
            rw [← HIX.out]
            go_wp2_with (first
              | (refine wpList_load_mid rfl 26 _ rfl bk (ok + j * 5) rfl L5 _ HRG.out Tryd.underlying26 rfl HL5.out ?_)
              | (refine wpList_store_row rfl 26 _ _ rfl G L5.toArray rfl rfl 26 _ HXG.out HLI.out HLS.out HLO.out ?_))
            go_roundw
            case rel =>
              refine ⟨i + 1, m, L5, _, by have := HLT.out; omega, by go_num, HXG.out.row L5, HXR.out.rowOther (by omega) _, HRK.out, HF3.out, below_setRow HBE.out (by omega) _, ?_⟩
              have hS := HIS.out
              refine ⟨hS.length, ?_, hS.nil, hS.room⟩
              rcases hS.at_ with h0 | ⟨b', off', he, hb', hc'⟩
              · exact .inl h0
              · cases he
                exact .inr ⟨b, off, rfl, by simpa using hb', fun q hq => (World.cell?_of_block (w := w3) (a := ⟨b, off + q, none⟩) (setRow_other _ _ _ _ (by show b ≠ G; omega))).trans (hc' q hq)⟩
            case measure =>
              have := HLT.out
              simp only [intOf]; omega
      · have HCODE : Hid (code = 8) := Lib.hid (by have := HFD.out; rw [if_pos hk3] at this; cases this; rfl)
        obtain ⟨z, hz⟩ : ∃ z : Int, z = (k.toNat : Int) := ⟨_, rfl⟩
        rw [← hz] at cg0
        have hz3 : (z == 3) = false := by
          have : k.toNat ≠ 3 := fun h => hk3 (UInt8.toNat_inj.1 h)
          rw [beq_eq_false_iff_ne]; omega
        have hz3' : ¬ z = 3 := by simpa using hz3
        have hz4 : (z != 3) = true := by rw [bne_iff_ne]; exact hz3'
        clear hk3 HFD hz
        go_wp2_with (refine wpList_store_row rfl 26 _ _ rfl R zT.toArray rfl rfl 26 _ HXR.out HZI.out rfl HZO.out ?_)
        refine bodyPost_ret (at_ret (fn := Tryd.f20) (p := 4) (u := 5) (ty := 26) Tryd.results20 _ _ R 26 zT.toArray (0, 0) _ rfl (setRow_heap _ _ _ _ _ _ HXR.out) Tryd.underlying26 rfl HZI.out) rfl ?_
        rw [HCODE.out]
        exact ⟨rfl, below_setRow HBE.out (by omega) _⟩
    · exfalso
      have : l.drop i = [] := List.drop_eq_nil_of_le (by rw [hIS.length]; omega)
      rw [this] at hfd
      cases hfd

end Go.Proofs.YtmgfgldabjgmmaaDoor

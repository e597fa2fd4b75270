/-
  What stands at a path: the program's At, all of it. Conditions: a global's kind; the names and lists are no longer than memory; at most a million parts.
-/
import Derived.Test.YtmgfgldabjgmmaaDoorTCopy
import Derived.Test.YtmgfgldabjgmmaaDoorTCount
namespace Go.Proofs.YtmgfgldabjgmmaaDoor
open Go.RowKit
set_option linter.unusedVariables false

theorem Flat.low {w : World} {B B' : Nat} {G : Nat → Option (List T)} {cs : List Value} {t : T} (h : Flat w B G cs t) (hB : B' ≤ B) : Flat w B' G cs t := by
  obtain ⟨k, x, d, ns, ks⟩ := t
  obtain ⟨vd, vn, ak, nk, ck, hcs, hd, hn, h1⟩ := h
  exact ⟨vd, vn, ak, nk, ck, hcs, owns_low hd hB, owns_low hn hB, h1⟩
theorem Closed.low {w : World} {B B' : Nat} {G : Nat → Option (List T)} {cs : List Value} {t : T} (h : Closed w B G cs t) (hB : B' ≤ B) : Closed w B' G cs t :=
  ⟨fun b ks hg => ⟨Nat.le_trans hB (h.1 b ks hg).1, by obtain ⟨L, hL, hF⟩ := (h.1 b ks hg).2; exact ⟨L, hL, fun i hi => (hF i hi).low hB⟩⟩, h.2.low hB⟩

/-- Something stands there: a copy of it. -/
def AtOk (x : T) (w : World) (e : Ending) (w' : World) : Prop := ∃ cs G, e = .returned (.tuple #[.agg cs.toArray, .int .i64 0]) ∧ Closed w' w.heap.size G cs x ∧ Below w.heap.size w w'

set_option maxRecDepth 100000 in
set_option maxHeartbeats 20000000 in
theorem at_ok (n : Nat) (cs : List Value) (t : T) (s : ByteArray) (w : World) (ht : IsT w n cs t) (hsm : Small t) (hN : sizeN t ≤ 1000000) (hm : MaxW w) (hmx : 0 < w.heap.size) (hs : (splitT s.data.toList).2 = 0) (x0 : T)
    (hf : ∀ l : List ByteArray, l.map (·.data.toList) = (splitT s.data.toList).1 → findT l t = .inr x0) :
    Calls Tryd.prog 20 #[.agg cs.toArray, .string s] w (AtOk x0 w) := by
  have hI := Lib.hid (infoL (isT_five ht))
  have HT := Lib.hid ht
  have HF := Lib.hid hf
  have HSMT := Lib.hid hsm
  have HNT := Lib.hid hN
  have HS := Lib.hid hs
  have HM := Lib.hid hm
  clear ht hf hs hm hsm hN
  go_enter Tryd.func20, Tryd.ntmps20
  go_upto_region 1 with fail
  obtain ⟨w1, hw1⟩ : ∃ w1, w1 = (w.alloc (.cells cs.toArray 26)).alloc (.cells #[.int .u8 0, .bool false, .slice none 0 0, .slice none 0 0, .slice none 0 0] 26) := ⟨_, rfl⟩
  have sz : (w.alloc (.cells cs.toArray 26)).heap.size = w.heap.size + 1 := by simp
  have r1 : Has w1 (w.heap.size + 1) zT 26 := by rw [hw1, ← sz]; exact Has.new _ zT _
  have g1 : Has w1 w.heap.size cs 26 := by rw [hw1]; exact (Has.new w cs _).alloc _
  have b1 : Below w.heap.size w w1 := by rw [hw1]; exact ((Below.refl _ _).alloc (Nat.le_refl _) _).alloc (by simp) _
  have s1 : w1.heap.size = w.heap.size + 1 + 1 := by rw [hw1]; simp
  rw [← hw1]
  obtain ⟨G, hG⟩ : ∃ G, G = w.heap.size := ⟨_, rfl⟩
  obtain ⟨R, hR⟩ : ∃ R, R = w.heap.size + 1 := ⟨_, rfl⟩
  rw [← hR] at r1 s1
  rw [← hG] at g1
  have hGR : G < R := by omega
  have hwG : w.heap.size ≤ G := by omega
  have hwR : w.heap.size ≤ R := by omega
  have hs1 : w1.heap.size = R + 1 := s1
  rw [← hR, ← hG]
  have HK := Lib.hid (split_any s w1 (HM.out.below b1 hmx))
  have R1 := Lib.hid r1
  have G1 := Lib.hid g1
  have B1 := Lib.hid b1
  have HZI : Hid ((Tryd.prog.info? 26).map (·.size) = some zT.toArray.size) := Lib.hid (by rw [info5]; rfl)
  have HZO : Hid (zT.toArray.all (·.oneCell') = true) := Lib.hid (all_oneCell_toArray (fun v hv => by
    simp only [zT, List.mem_cons, List.not_mem_nil, or_false] at hv
    rcases hv with rfl | rfl | rfl | rfl | rfl <;> rfl))
  clear hw1 sz r1 g1 b1 s1 hG hR
  go_wp2_with fail
  refine HK.out.mono ?_
  rintro e w2 ⟨⟨a, nl, cap, l, hIS, hlm, rfl, hge⟩, b2⟩
  rw [HS.out]
  have R2 := Lib.hid (R1.out.below b2 (by omega))
  have G2 := Lib.hid (G1.out.below b2 (by omega))
  have B2 := Lib.hid (B1.out.trans (b2.mono B1.out.size))
  have HIS := Lib.hid hIS
  have HGE : Hid (∀ x, a = some x → R < x.block) := Lib.hid (fun x hx => by have := hge x hx; omega)
  have HFT := Lib.hid (HF.out l hlm)
  have hroom := hIS.room
  unfold maxLen at hroom
  clear b2 hIS hge hlm HK R1 G1 B1
  go_wp2_with fail
  go_loopw [22] (fun ii wr => ∃ (i n' : Nat) (cs' : List Value) (t' : T), i ≤ nl ∧ ii = .int .i64 i ∧ Has wr G cs' 26 ∧ Has wr R zT 26 ∧ IsT w n' cs' t' ∧ findT (l.drop i) t' = .inr x0 ∧ Below w.heap.size w wr ∧ IsS wr a nl cap l ∧ Small t' ∧ sizeN t' ≤ 1000000) (fun ii _ => nl - (intOf ii).toNat)
  case atStart => exact ⟨0, n, cs, t, Nat.zero_le _, rfl, G2.out, R2.out, HT.out, by rw [List.drop_zero]; exact HFT.out, B2.out, HIS.out, HSMT.out, HNT.out⟩
  case round =>
    clear G2 R2 B2 HIS
    obtain ⟨i, n', cs', t', hi, rfl, hg, hr, hT, hfd, hbel, hIS, hsm', hN'⟩ := hrel
    by_cases hlt : i < nl
    · rcases hIS.at_ with h0 | ⟨b, off, rfl, hb, hc⟩
      · omega
      have hll : i < l.length := by rw [hIS.length]; exact hlt
      have hbR : R < b := HGE.out _ rfl
      obtain ⟨nm, hnm⟩ : ∃ nm, nm = l.getD i ⟨#[]⟩ := ⟨_, rfl⟩
      have hcn : wr.cell? ⟨b, off + i, none⟩ = some (.string nm) := by rw [hnm]; exact hc i hlt
      have hdrop : l.drop i = nm :: l.drop (i + 1) := by
        rw [hnm, List.getD_eq_getElem?_getD, List.getElem?_eq_getElem hll]; exact List.drop_eq_getElem_cons hll
      rw [hdrop] at hfd
      cases n' with
      | zero => exact absurd hT (by simp [IsT])
      | succ m =>
      obtain ⟨k, x, d, ns, ks⟩ := t'
      obtain ⟨ad, nd, cd, an, nn, cn, ak, nk, ck, rfl, hB, hSS, hK⟩ := hT
      have cg0 := hg.cellAt (i := 0) rfl
      have HXG := Lib.hid hg
      have HXR := Lib.hid hr
      have HBE := Lib.hid hbel
      have HIS := Lib.hid hIS
      have HSS := Lib.hid (hSS.later hbel)
      have HKK := Lib.hid hK
      have HSM' := Lib.hid hsm'
      have HN' := Lib.hid hN'
      have hki : (i : Int) < (nl : Int) := by omega
      have hni : (i : Int) + 1 ≤ 9223372036854775807 := by omega
      rw [findT] at hfd
      have HFD := Lib.hid hfd
      have hbsz := hbel.size
      clear hg hr hbel hIS hSS hK hB hc hnm hdrop hfd hsm' hN'
      by_cases hk3 : k = 3
      · subst hk3
        have hfd2 : (if Lib.idxOfS ns nm < 0 ∨ (ks.length : Int) ≤ Lib.idxOfS ns nm then Sum.inl 6 else findT (l.drop (i + 1)) (ks.getD (Lib.idxOfS ns nm).toNat default)) = (Sum.inr x0 : Int ⊕ T) := by
          have := HFD.out; rwa [if_neg (by simp)] at this
        have KI : Calls Tryd.prog 33 #[.slice an nn cn, .string nm] wr fun e w' => e = .returned (.int .i64 (Lib.idxOfS ns nm)) ∧ w' = wr := by
          rcases HSS.out.at_ with h0 | ⟨bn, on, rfl, _, hcn2⟩
          · subst h0
            have : ns = [] := List.eq_nil_of_length_eq_zero HSS.out.length
            subst this
            exact Tryd.slices_Index_string_empty an cn nm wr
          · have hnl := HSS.out.length
            have hrm := HSS.out.room
            unfold maxLen at hrm
            have K := Tryd.slices_Index_string bn on nn cn ns nm wr (by omega) (by omega) (fun j hj => hcn2 j (by omega))
            rw [List.take_of_length_le (by omega)] at K
            exact K
        have HKI := Lib.hid KI
        have cg3 := HXG.out.cellAt (i := 3) rfl
        have cg4 := HXG.out.cellAt (i := 4) rfl
        have HLK := HKK.out.length
        obtain ⟨ix, hix⟩ : ∃ ix, ix = Lib.idxOfS ns nm := ⟨_, rfl⟩
        rw [← hix] at hfd2
        have HIX := Lib.hid hix
        clear KI hix HFD
        have hneg : ¬ ix < 0 := fun h => by rw [if_pos (.inl h)] at hfd2; cases hfd2
        have hbig : ¬ (nk : Int) ≤ ix := fun h => by rw [if_pos (.inr (by rw [HLK]; exact h))] at hfd2; cases hfd2
        obtain ⟨j, rfl⟩ : ∃ j : Nat, ix = (j : Int) := ⟨ix.toNat, by omega⟩
        have hjn : j < nk := by omega
        have hfd3 : findT (l.drop (i + 1)) (ks.getD j default) = .inr x0 := by rw [if_neg (by rw [HLK]; omega)] at hfd2; simpa using hfd2
        rcases HKK.out.at_ with h0 | ⟨bk, ok, rfl, hbk, hck⟩
        · omega
        obtain ⟨e0, e1, e2, e3, e4, hRk, k0, k1, k2, k3, k4⟩ := hck j hjn
        have hrange : wr.rangeAt bk (ok + j * 5) [e0, e1, e2, e3, e4] := fun q v hv => by
          rw [Nat.add_assoc]
          match q, hv with
          | 0, hv => cases hv; exact (HBE.out.cell (p := ⟨bk, ok + (j * 5 + 0), none⟩) hbk).trans k0
          | 1, hv => cases hv; exact (HBE.out.cell (p := ⟨bk, ok + (j * 5 + 1), none⟩) hbk).trans k1
          | 2, hv => cases hv; exact (HBE.out.cell (p := ⟨bk, ok + (j * 5 + 2), none⟩) hbk).trans k2
          | 3, hv => cases hv; exact (HBE.out.cell (p := ⟨bk, ok + (j * 5 + 3), none⟩) hbk).trans k3
          | 4, hv => cases hv; exact (HBE.out.cell (p := ⟨bk, ok + (j * 5 + 4), none⟩) hbk).trans k4
          | q + 5, hv => simp at hv
        have HSK : Hid (Small (ks.getD j default)) := Lib.hid (HSM'.out.kid j (by omega))
        have HNK : Hid (sizeN (ks.getD j default) ≤ 1000000) := Lib.hid (by
          have h1 := HN'.out
          rw [sizeN_mk] at h1
          have := sizeNL_get (l := ks) (i := j) (by omega)
          omega)
        obtain ⟨L5, hL5⟩ : ∃ L, L = [e0, e1, e2, e3, e4] := ⟨_, rfl⟩
        rw [← hL5] at hrange hRk
        have HRG := Lib.hid hrange
        have HRK := Lib.hid hRk
        have HLI := Lib.hid (infoL (isT_five hRk))
        have HL5 : Hid ((Tryd.prog.info? 26).map (·.size) = some L5.length) := Lib.hid (by rw [info5, isT_five hRk])
        have HLO := Lib.hid (isT_one hRk)
        have HLS : Hid ((#[.int .u8 3, .bool x, .slice ad nd cd, .slice an nn cn, .slice (some ⟨bk, ok, none⟩) nk ck] : Array Value).size = L5.toArray.size) := Lib.hid (by have := isT_five hRk; simp [this])
        have HF3 := Lib.hid hfd3
        have HLT := Lib.hid hlt
        have hjk : (j : Int) < (nk : Int) := by omega
        have hq1 : decide ((j : Int) < 0) = false := by simp
        have hq2 : decide ((nk : Int) ≤ (j : Int)) = false := by simp; omega
        have hq3 : ¬ nk ≤ j := by omega
        have hq4 : ¬ (nk : Int) ≤ (j : Int) := by omega
        clear hfd2 hfd3 hck k0 k1 k2 k3 k4 hrange hRk hL5 hneg hbig hjn HLK
        go_wp2_with fail
        refine HKI.out.mono ?_
        rintro e w3 ⟨rfl, rfl⟩
        rw [← HIX.out]
        go_wp2_with (first
          | (refine wpList_load_mid rfl 26 _ rfl bk (ok + j * 5) rfl L5 _ HRG.out Tryd.underlying26 rfl HL5.out ?_)
          | (refine wpList_store_row rfl 26 _ _ rfl G L5.toArray rfl rfl 26 _ HXG.out HLI.out HLS.out HLO.out ?_))
        go_roundw
        case rel =>
          refine ⟨i + 1, m, L5, _, by have := HLT.out; omega, by go_num, HXG.out.row L5, HXR.out.rowOther (by omega) _, HRK.out, HF3.out, below_setRow HBE.out (by omega) _, ?_, HSK.out, HNK.out⟩
          have hS := HIS.out
          refine ⟨hS.length, ?_, hS.nil, hS.room⟩
          rcases hS.at_ with h0 | ⟨b', off', he, hb', hc'⟩
          · exact .inl h0
          · cases he
            exact .inr ⟨b, off, rfl, by simpa using hb', fun q hq => (World.cell?_of_block (w := w3) (a := ⟨b, off + q, none⟩) (setRow_other _ _ _ _ (by show b ≠ G; omega))).trans (hc' q hq)⟩
        case measure =>
          have := HLT.out
          simp only [intOf]; omega
      · exfalso
        have := HFD.out
        rw [if_pos hk3] at this
        cases this
    · obtain rfl : i = nl := by omega
      have hx : t' = x0 := by
        have : l.drop i = [] := List.drop_eq_nil_of_le (by rw [hIS.length]; omega)
        rw [this] at hfd
        cases hfd
        rfl
      subst hx
      have HCS := Lib.hid (infoL (isT_five hT))
      have HXG := Lib.hid hg
      have HXR := Lib.hid hr
      have HBE := Lib.hid hbel
      have HKC := Lib.hid (copy_any n' cs' t' wr (IsT.later hbel _ _ _ hT) hsm' hN')
      clear hg hr hbel hT hfd hIS hsm' hN'
      go_wp2_with (refine wpList_load_row rfl 26 _ rfl G rfl 26 cs'.toArray (0, 0) _ HXG.out Tryd.underlying26 rfl HCS.out ?_)
      refine HKC.out.mono ?_
      rintro e w4 ⟨cq, Gq, rfl, hcl, b4⟩
      have hRw : R < wr.heap.size := HXR.out.lt
      have HR4 := Lib.hid (HXR.out.below b4 hRw)
      have hf1 := flat_one hcl.2
      have HQI := Lib.hid (infoL hf1.1)
      have HQS : Hid (zT.toArray.size = cq.toArray.size) := Lib.hid (by simp [hf1.1, zT])
      have HQO := Lib.hid hf1.2
      have HCL := Lib.hid hcl
      have HB4 := Lib.hid (HBE.out.trans (b4.mono HBE.out.size))
      clear b4 hcl hf1 HKC
      go_wp2_with (refine wpList_store_row rfl 26 _ _ rfl R cq.toArray rfl rfl 26 _ HR4.out HQI.out HQS.out HQO.out ?_)
      refine bodyPost_ret (at_ret (fn := Tryd.f20) (p := 4) (u := 5) (ty := 26) Tryd.results20 _ _ R 26 cq.toArray (0, 0) _ rfl (setRow_heap _ _ _ _ _ _ HR4.out) Tryd.underlying26 rfl HQI.out) rfl ?_
      refine ⟨cq, Gq, rfl, (HCL.out.but ((But.refl _ _ _).setRow (.inr rfl) _) (far_has HR4.out (by decide) (by decide)) (fun ks hg => ?_)).low HBE.out.size, below_setRow HB4.out (by omega) _⟩
      have := (HCL.out.1 _ _ hg).1
      omega

set_option maxRecDepth 100000 in
set_option maxHeartbeats 20000000 in
theorem at_split (cs : List Value) (s : ByteArray) (w : World) (h5 : cs.length = 5) (hm : MaxW w) (hmx : 0 < w.heap.size) (code : Int) (hs : (splitT s.data.toList).2 = code) (hne : code ≠ 0) :
    Calls Tryd.prog 20 #[.agg cs.toArray, .string s] w fun e w' => e = .returned (.tuple #[.agg zT.toArray, .int .i64 code]) ∧ Below w.heap.size w w' := by
  have HS := Lib.hid hs
  have HM := Lib.hid hm
  have hne1 : (code != 0) = true := by rw [bne_iff_ne]; exact hne
  have hne2 : (code == 0) = false := by rw [beq_eq_false_iff_ne]; exact hne
  clear hs hm
  go_enter Tryd.func20, Tryd.ntmps20
  go_upto_region 1 with fail
  obtain ⟨w1, hw1⟩ : ∃ w1, w1 = (w.alloc (.cells cs.toArray 26)).alloc (.cells #[.int .u8 0, .bool false, .slice none 0 0, .slice none 0 0, .slice none 0 0] 26) := ⟨_, rfl⟩
  have sz : (w.alloc (.cells cs.toArray 26)).heap.size = w.heap.size + 1 := by simp
  have r1 : Has w1 (w.heap.size + 1) zT 26 := by rw [hw1, ← sz]; exact Has.new _ zT _
  have b1 : Below w.heap.size w w1 := by rw [hw1]; exact ((Below.refl _ _).alloc (Nat.le_refl _) _).alloc (by simp) _
  have s1 : w1.heap.size = w.heap.size + 1 + 1 := by rw [hw1]; simp
  rw [← hw1]
  obtain ⟨R, hR⟩ : ∃ R, R = w.heap.size + 1 := ⟨_, rfl⟩
  rw [← hR] at r1 s1 ⊢
  have hwR : w.heap.size ≤ R := by omega
  have HK := Lib.hid (split_any s w1 (HM.out.below b1 hmx))
  have R1 := Lib.hid r1
  have B1 := Lib.hid b1
  have HZI : Hid ((Tryd.prog.info? 26).map (·.size) = some zT.toArray.size) := Lib.hid (by rw [info5]; rfl)
  have HZO : Hid (zT.toArray.all (·.oneCell') = true) := Lib.hid (all_oneCell_toArray (fun v hv => by
    simp only [zT, List.mem_cons, List.not_mem_nil, or_false] at hv
    rcases hv with rfl | rfl | rfl | rfl | rfl <;> rfl))
  clear hw1 sz r1 b1 hR
  go_wp2_with fail
  refine HK.out.mono ?_
  rintro e w2 ⟨⟨a, nl, cap, l, hIS, hlm, rfl, hge⟩, b2⟩
  rw [HS.out]
  have R2 := Lib.hid (R1.out.below b2 (by omega))
  have B2 := Lib.hid (B1.out.trans (b2.mono B1.out.size))
  clear b2 hIS hge hlm HK R1 B1
  go_wp2_with (refine wpList_store_row rfl 26 _ _ rfl R zT.toArray rfl rfl 26 _ R2.out HZI.out rfl HZO.out ?_)
  refine bodyPost_ret (at_ret (fn := Tryd.f20) (p := 4) (u := 5) (ty := 26) Tryd.results20 _ _ R 26 zT.toArray (0, 0) _ rfl (setRow_heap _ _ _ _ _ _ R2.out) Tryd.underlying26 rfl HZI.out) rfl ?_
  exact ⟨rfl, below_setRow B2.out (by omega) _⟩

def mkB (l : List UInt8) : ByteArray := ⟨l.toArray⟩
theorem mkB_of {l : List ByteArray} {p : List (List UInt8)} (h : l.map (·.data.toList) = p) : l = p.map mkB := by
  subst h
  rw [List.map_map]
  have : (mkB ∘ fun x : ByteArray => x.data.toList) = id := by funext x; simp [mkB]
  rw [this]; simp

/-- What stands at a path, or the error's number. -/
def atT (s : List UInt8) (t : T) : Int ⊕ T := if (splitT s).2 = 0 then findT ((splitT s).1.map mkB) t else .inl (splitT s).2

theorem findT_small : ∀ (l : List ByteArray) (t x : T), findT l t = .inr x → Small t → Small x ∧ sizeN x ≤ sizeN t
  | [], t, x, h, hs => by rw [findT] at h; cases h; exact ⟨hs, Nat.le_refl _⟩
  | nm :: r, .mk k e d ns ks, x, h, hs => by
    rw [findT] at h
    split at h
    · cases h
    · split at h
      · cases h
      · rename_i h1 h2
        have hj : (Lib.idxOfS ns nm).toNat < ks.length := by omega
        have := findT_small r _ x h (hs.kid _ hj)
        have h3 := sizeNL_get hj
        rw [sizeN_mk]
        exact ⟨this.1, by omega⟩

theorem atT_small {s : List UInt8} {t x : T} (h : atT s t = .inr x) (hs : Small t) : Small x ∧ sizeN x ≤ sizeN t := by
  unfold atT at h
  split at h
  · exact findT_small _ _ _ h hs
  · cases h

/-- What At tells. -/
def AtPost (r : Int ⊕ T) (w : World) (e : Ending) (w' : World) : Prop := match r with
  | .inl c => e = .returned (.tuple #[.agg zT.toArray, .int .i64 c]) ∧ Below w.heap.size w w'
  | .inr x => AtOk x w e w'

theorem findT_code : ∀ (l : List ByteArray) (t : T) (c : Int), findT l t = .inl c → c = 8 ∨ c = 6
  | [], t, c, h => by rw [findT] at h; cases h
  | nm :: r, .mk k e d ns ks, c, h => by
    rw [findT] at h
    split at h
    · cases h; exact .inl rfl
    · split at h
      · cases h; exact .inr rfl
      · exact findT_code r _ c h

theorem splitT_code (s : List UInt8) : (splitT s).2 = 0 ∨ (splitT s).2 = 2 ∨ (splitT s).2 = 4 := by
  unfold splitT
  split
  · simp
  · split
    · simp
    · split <;> simp

theorem atT_code {s : List UInt8} {t : T} {c : Int} (h : atT s t = .inl c) : c = 2 ∨ c = 4 ∨ c = 6 ∨ c = 8 := by
  unfold atT at h
  split at h
  · have := findT_code _ _ _ h; omega
  · cases h
    have := splitT_code s; omega

theorem at_any (n : Nat) (cs : List Value) (t : T) (s : ByteArray) (w : World) (ht : IsT w n cs t) (hsm : Small t) (hN : sizeN t ≤ 1000000) (hm : MaxW w) (hmx : 0 < w.heap.size) :
    Calls Tryd.prog 20 #[.agg cs.toArray, .string s] w (AtPost (atT s.data.toList t) w) := by
  by_cases h0 : (splitT s.data.toList).2 = 0
  · cases hr : atT s.data.toList t with
    | inl c =>
      refine (at_err n cs t s w ht hm hmx h0 c (fun l hl => ?_)).mono fun e w' h => h
      unfold atT at hr
      rw [if_pos h0] at hr
      rw [mkB_of hl]; exact hr
    | inr x =>
      refine (at_ok n cs t s w ht hsm hN hm hmx h0 x (fun l hl => ?_)).mono fun e w' h => h
      unfold atT at hr
      rw [if_pos h0] at hr
      rw [mkB_of hl]; exact hr
  · have hr : atT s.data.toList t = .inl (splitT s.data.toList).2 := by unfold atT; rw [if_neg h0]
    rw [hr]
    exact (at_split cs s w (isT_five ht) hm hmx _ rfl h0).mono fun e w' h => h

end Go.Proofs.YtmgfgldabjgmmaaDoor

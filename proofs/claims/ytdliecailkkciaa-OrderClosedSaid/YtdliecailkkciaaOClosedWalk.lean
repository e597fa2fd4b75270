/-
  The walk of the law OrderClosed. Conditions: what memory bears.
-/
import Derived.Test.YtdliecailkkciaaOGreat
namespace Go.Proofs.Ytdliecailkkciaa
open Go.RowKit
set_option linter.unusedVariables false

theorem rch_in {ns : List ByteArray} {ks : List (List ByteArray)} {R mt : List ByteArray} (h : ∀ s, s ∈ mt ↔ Rch (finN ns ks) R s) (s : ByteArray) (hs : s ∈ risL mt) : s ∈ ns :=
  (fin_some ns ks s).1 ((h s).1 (risL_mem.1 hs)).isN
theorem rch_len {ns : List ByteArray} {ks : List (List ByteArray)} {R mt : List ByteArray} (h : ∀ s, s ∈ mt ↔ Rch (finN ns ks) R s) : (risL mt).length ≤ ns.length := nodup_len (risL_nodup mt) (rch_in h)
/-- What is closed is the closure of itself. -/
theorem rch_self {N : ByteArray → Option (List ByteArray)} {R mt mt' : List ByteArray} (h : ∀ s, s ∈ mt ↔ Rch N R s) (h' : ∀ s, s ∈ mt' ↔ Rch N (risL mt) s) : risL mt' = risL mt := by
  refine risL_ext (fun s => ?_)
  rw [h' s]
  constructor
  · intro hr
    induction hr with
    | root h1 h2 => exact risL_mem.1 h1
    | step h1 h2 h3 ih => exact (h _).2 (.step ((h _).1 ih) h2 h3)
  · intro hs
    exact .root (risL_mem.2 hs) ((h s).1 hs).isN
theorem rch_both {N : ByteArray → Option (List ByteArray)} {a b ma mb m : List ByteArray} (ha : ∀ s, s ∈ ma ↔ Rch N a s) (hb : ∀ s, s ∈ mb ↔ Rch N b s) (h : ∀ s, s ∈ m ↔ Rch N (a ++ b) s) : risL m = risL (risL ma ++ risL mb) := by
  refine risL_ext (fun s => ?_)
  rw [h s, List.mem_append, risL_mem, risL_mem, ha s, hb s]
  constructor
  · intro hr
    induction hr with
    | root h1 h2 => exact (List.mem_append.1 h1).imp (fun h => .root h h2) (fun h => .root h h2)
    | step h1 h2 h3 ih => exact ih.imp (fun h => .step h h2 h3) (fun h => .step h h2 h3)
  · have mono : ∀ (R R' : List ByteArray), (∀ t ∈ R, t ∈ R') → Rch N R s → Rch N R' s := by
      intro R R' hsub hr
      induction hr with
      | root h1 h2 => exact .root (hsub _ h1) h2
      | step h1 h2 h3 ih => exact .step ih h2 h3
    rintro (h1 | h1)
    · exact mono _ _ (fun t ht => List.mem_append_left _ ht) h1
    · exact mono _ _ (fun t ht => List.mem_append_right _ ht) h1
set_option maxRecDepth 100000 in
set_option maxHeartbeats 8000000 in
theorem walk_OrderClosed (w : World) (an : Option Addr) (nn cn : Nat) (ns : List ByteArray) (hS : IsS w an nn cn ns) (hsz : ∀ s ∈ ns, s.size ≤ 140737488355328) (hnl : ns.length ≤ 8796093022208) (ak : Option Addr) (nk ck : Nat) (ks : List (List ByteArray)) (hK : IsSS w ak nk ck ks) (hkz : ∀ l ∈ ks, (∀ s ∈ l, s.size ≤ 140737488355328) ∧ l.length ≤ 8796093022208)
    (aa : Option Addr) (na ca : Nat) (la : List ByteArray) (hA : IsS w aa na ca la) (haz : ∀ s ∈ la, s.size ≤ 140737488355328) (hal : la.length ≤ 8796093022208) (ab : Option Addr) (nb cb : Nat) (lb : List ByteArray) (hB : IsS w ab nb cb lb) (hbz : ∀ s ∈ lb, s.size ≤ 140737488355328) (hbl : lb.length ≤ 8796093022208) :
    Calls Try.prog 4 #[.slice an nn cn, .slice ak nk ck, .slice aa na ca, .slice ab nb cb] w fun e w' => e = .returned (.bool true) ∧ Below w.heap.size w w' := by
  obtain ⟨i0, hi0, hz0, hz1, hz2⟩ := info_parts info_str
  have HI := Lib.hid hi0
  have HZ0 := Lib.hid hz0
  have HZ1 := Lib.hid hz1
  have HZ2 := Lib.hid hz2
  obtain rfl : nn = ns.length := hS.length.symm
  obtain rfl : na = la.length := hA.length.symm
  obtain rfl : nb = lb.length := hB.length.symm
  have HS := Lib.hid hS
  have HK := Lib.hid hK
  have HA := Lib.hid hA
  have HB := Lib.hid hB
  have HSZ := Lib.hid hsz
  have HNL := Lib.hid hnl
  have HKZ := Lib.hid hkz
  have HAZ := Lib.hid haz
  have HBZ := Lib.hid hbz
  have h1 : (la.length : Int) ≤ 8796093022208 := by omega
  have h2 : (lb.length : Int) ≤ 8796093022208 := by omega
  clear hi0 hz0 hz1 hz2 hS hK hA hB hsz hnl hkz haz hbz hal hbl
  go_enter Try.func4, Try.ntmps4
  go_wp2_with fail
  refine (awake_any w).mono ?_
  rintro e w1 ⟨rfl, b1⟩
  have B1 := Lib.hid b1
  clear b1
  go_wp2_with fail
  refine (great_any w1 an ns.length cn HNL.out ak nk ck ks (HK.out.later B1.out) (fun l hl => (HKZ.out l hl).2)).mono ?_
  rintro e w2 ⟨u, rfl, hu, b2⟩
  have B2 : Hid (Below w.heap.size w w2) := Lib.hid (B1.out.trans (b2.mono B1.out.size))
  clear b2
  rcases hu with rfl | ⟨rfl, hgr⟩
  · go_wp2_with fail
    refine (awake_any w2).mono ?_
    rintro e w3 ⟨rfl, b3⟩
    have B3 : Hid (Below w.heap.size w w3) := Lib.hid (B2.out.trans (b3.mono B2.out.size))
    clear b3
    go_wp2_with fail
    go_ret
    exact ⟨rfl, B3.out⟩
  have HGR := Lib.hid hgr
  clear hgr
  by_cases hnk : ns.length = nk
  case neg =>
    have hne : ¬ (ns.length : Int) = (nk : Int) := by omega
    go_wp2_with fail
    refine (awake_any w2).mono ?_
    rintro e w3 ⟨rfl, b3⟩
    have B3 : Hid (Below w.heap.size w w3) := Lib.hid (B2.out.trans (b3.mono B2.out.size))
    clear b3
    go_wp2_with fail
    go_ret
    exact ⟨rfl, B3.out⟩
  subst hnk
  by_cases h30 : la.length + lb.length ≤ 30
  case neg =>
    have h30' : (30 : Int) < (la.length : Int) + (lb.length : Int) := by omega
    clear h30
    go_wp2_with fail
    refine (awake_any w2).mono ?_
    rintro e w3 ⟨rfl, b3⟩
    have B3 : Hid (Below w.heap.size w w3) := Lib.hid (B2.out.trans (b3.mono B2.out.size))
    clear b3
    go_wp2_with fail
    go_ret
    exact ⟨rfl, B3.out⟩
  have h30' : ¬ (30 : Int) < (la.length : Int) + (lb.length : Int) := by omega
  have H30 := Lib.hid h30
  have T1 : Hid (Told ns ks) := Lib.hid (Told.of (by have := HGR.out; omega) (by have := HGR.out; omega) (fun s hs => by have := HSZ.out s hs; unfold maxLen; omega) (fun l hl s hs => by have := (HKZ.out l hl).1 s hs; unfold maxLen; omega))
  clear h30
  go_wp2_with fail
  refine (new_law T1.out (HS.out.later B2.out) (HK.out.later B2.out)).mono ?_
  rintro e wa ⟨gb, rfl, hg, hb, _⟩
  have GA := Lib.hid hg
  have BA : Hid (Below w.heap.size w wa) := Lib.hid (B2.out.trans (hb.mono B2.out.size))
  clear hg hb
  go_wp2_with fail
  refine (closure_law T1.out GA.out (HA.out.later BA.out) (by have := H30.out; omega) (fun s hs => by have := HAZ.out s hs; unfold maxLen; omega)).mono ?_
  rintro e wb ⟨vx, mx, rfl, hmx, hox, hb⟩
  have MX := Lib.hid hmx
  have GB := Lib.hid (GA.out.later hb)
  have BB : Hid (Below w.heap.size w wb) := Lib.hid (BA.out.trans (hb.mono BA.out.size))
  have OX := Lib.hid (owns_down hox BA.out.size)
  have NX := Lib.hid (rch_len hmx)
  clear hmx hox hb
  go_wp2_with fail
  refine (closure_law T1.out GB.out (HB.out.later BB.out) (by have := H30.out; omega) (fun s hs => by have := HBZ.out s hs; unfold maxLen; omega)).mono ?_
  rintro e wc ⟨vy, my, rfl, hmy, hoy, hb⟩
  have MY := Lib.hid hmy
  have GC := Lib.hid (GB.out.later hb)
  have BC : Hid (Below w.heap.size w wc) := Lib.hid (BB.out.trans (hb.mono BB.out.size))
  have OX2 := Lib.hid (own_later OX.out hb)
  have OY := Lib.hid (owns_down hoy BB.out.size)
  have NY := Lib.hid (rch_len hmy)
  clear hmy hoy hb OX
  obtain ⟨xa, xc, rfl, hxs⟩ := owns_isS OX2.out
  obtain ⟨ya, yc, rfl, hys⟩ := owns_isS OY.out
  have XS := Lib.hid hxs
  have YS := Lib.hid hys
  clear hxs hys OX2 OY
  go_wp2_with (at_builtin; go_must (refine wpList_append_strs rfl (.tmp 50) (.tmp 51) 22 rfl wc.heap.size 9 i0 Try.underlying22 HI.out HZ0.out HZ1.out HZ2.out _ 0 [] rfl (World.ownsRow_nil _ _ _ _) aa _ ca la rfl (HA.out.later BC.out) ?a1 ?a2 ?a3))
  case a1 => have := H30.out; omega
  case a2 => exact Nat.le_refl _
  intro v1 wd how hgr
  have BD : Hid (Below wc.heap.size wc wd) := Lib.hid (below_grown (Below.refl _ _) (Nat.le_refl _) (World.ownsRow_nil wc wc.heap.size 9 1) hgr)
  have OD : Hid (wd.ownsRow wc.heap.size 9 1 v1 la.length (la.map Value.string)) := Lib.hid how
  clear how hgr
  go_wp2_with (at_builtin; go_must (refine wpList_append_strs rfl (.tmp 53) (.tmp 54) 22 rfl wc.heap.size 9 i0 Try.underlying22 HI.out HZ0.out HZ1.out HZ2.out _ la.length la rfl OD.out ab _ cb lb rfl (HB.out.later (BC.out.trans (BD.out.mono BC.out.size))) ?b1 ?b2 ?b3))
  case b1 => have := H30.out; omega
  case b2 => exact BD.out.size
  intro v2 we how hgr
  have BE : Hid (Below wc.heap.size wc we) := Lib.hid (below_grown BD.out BD.out.size OD.out hgr)
  have OE : Hid (we.ownsRow wc.heap.size 9 1 v2 (la ++ lb).length ((la ++ lb).map Value.string)) := Lib.hid (by rw [List.length_append, List.map_append]; exact how)
  clear how hgr BD OD
  obtain ⟨ll, hll⟩ : ∃ ll, ll = la ++ lb := ⟨_, rfl⟩
  rw [← hll] at OE
  have HLL := Lib.hid hll
  clear hll
  obtain ⟨la2, lc2, rfl, hls⟩ := owns_isS OE.out
  have LS := Lib.hid hls
  have XS2 := Lib.hid (XS.out.later BE.out)
  have YS2 := Lib.hid (YS.out.later BE.out)
  have GE := Lib.hid (GC.out.later BE.out)
  have BE2 : Hid (Below w.heap.size w we) := Lib.hid (BC.out.trans (BE.out.mono BC.out.size))
  clear hls OE XS YS GC GB GA
  go_wp2_with (at_builtin; go_must (refine wpList_append_strs rfl (.tmp 56) (.tmp 57) 22 rfl we.heap.size 9 i0 Try.underlying22 HI.out HZ0.out HZ1.out HZ2.out _ 0 [] rfl (World.ownsRow_nil _ _ _ _) xa _ xc (risL mx) rfl XS2.out ?c1 ?c2 ?c3))
  case c1 => have := NX.out; have := HGR.out; omega
  case c2 => exact Nat.le_refl _
  intro v3 wf how hgr
  have BF : Hid (Below we.heap.size we wf) := Lib.hid (below_grown (Below.refl _ _) (Nat.le_refl _) (World.ownsRow_nil we we.heap.size 9 1) hgr)
  have OF : Hid (wf.ownsRow we.heap.size 9 1 v3 (risL mx).length ((risL mx).map Value.string)) := Lib.hid how
  clear how hgr
  go_wp2_with (at_builtin; go_must (refine wpList_append_strs rfl (.tmp 59) (.tmp 60) 22 rfl we.heap.size 9 i0 Try.underlying22 HI.out HZ0.out HZ1.out HZ2.out _ (risL mx).length (risL mx) rfl OF.out ya _ yc (risL my) rfl (YS2.out.later BF.out) ?d1 ?d2 ?d3))
  case d1 => have := NX.out; have := NY.out; have := HGR.out; omega
  case d2 => exact BF.out.size
  intro v4 wg how hgr
  have BG : Hid (Below we.heap.size we wg) := Lib.hid (below_grown BF.out BF.out.size OF.out hgr)
  have OG : Hid (wg.ownsRow we.heap.size 9 1 v4 (risL mx ++ risL my).length ((risL mx ++ risL my).map Value.string)) := Lib.hid (by rw [List.length_append, List.map_append]; exact how)
  clear how hgr BF OF
  obtain ⟨lm, hlm⟩ : ∃ lm, lm = risL mx ++ risL my := ⟨_, rfl⟩
  rw [← hlm] at OG
  have HLM := Lib.hid hlm
  clear hlm
  obtain ⟨ba, bc, rfl, hbs⟩ := owns_isS OG.out
  have BS := Lib.hid hbs
  have XS3 := Lib.hid (XS2.out.later BG.out)
  have LS2 := Lib.hid (LS.out.later BG.out)
  have GG := Lib.hid (GE.out.later BG.out)
  have BG2 : Hid (Below w.heap.size w wg) := Lib.hid (BE2.out.trans (BG.out.mono BE2.out.size))
  clear hbs OG XS2 YS2 LS GE
  go_wp2_with fail
  refine (closure_law T1.out GG.out XS3.out (by have := NX.out; have := HGR.out; omega) (fun s hs => T1.out.size s (rch_in MX.out s hs))).mono ?_
  rintro e wh ⟨vz, mz, rfl, hmz, hoz, hb⟩
  have EZ := Lib.hid (rch_self MX.out hmz)
  obtain ⟨za, zc, rfl, hzs⟩ := owns_isS hoz
  have ZS := Lib.hid hzs
  have NZ := Lib.hid (rch_len hmz)
  have XS4 := Lib.hid (XS3.out.later hb)
  have LS3 := Lib.hid (LS2.out.later hb)
  have BS2 := Lib.hid (BS.out.later hb)
  have GH := Lib.hid (GG.out.later hb)
  have BH : Hid (Below w.heap.size w wh) := Lib.hid (BG2.out.trans (hb.mono BG2.out.size))
  clear hmz hoz hzs hb XS3 LS2 BS GG
  go_wp2_with fail
  refine (rfsame_any za xa _ _ zc xc (risL mz) (risL mx) wh ZS.out XS4.out (by have := NZ.out; have := HGR.out; omega) (by have := NX.out; have := HGR.out; omega)).mono ?_
  rintro e wi ⟨bq, rfl, hbt, hb⟩
  have hbt : bq = true := hbt.2 EZ.out
  subst hbt
  have LS4 := Lib.hid (LS3.out.later hb)
  have BS3 := Lib.hid (BS2.out.later hb)
  have GI := Lib.hid (GH.out.later hb)
  have BI : Hid (Below w.heap.size w wi) := Lib.hid (BH.out.trans (hb.mono BH.out.size))
  clear hb LS3 BS2 GH
  go_wp2_with fail
  refine (closure_law T1.out GI.out LS4.out (by have := H30.out; rw [HLL.out, List.length_append]; omega) (fun s hs => by
    rcases List.mem_append.1 (by rw [← HLL.out]; exact hs : s ∈ la ++ lb) with h | h
    · have := HAZ.out s h; unfold maxLen; omega
    · have := HBZ.out s h; unfold maxLen; omega)).mono ?_
  rintro e wj ⟨vq, mq, rfl, hmq, hoq, hb⟩
  have EQ := Lib.hid (rch_both MX.out MY.out (by rw [← HLL.out]; exact hmq))
  rw [← HLM.out] at EQ
  obtain ⟨qa, qc, rfl, hqs⟩ := owns_isS hoq
  have QS := Lib.hid hqs
  have NQ := Lib.hid (rch_len hmq)
  have BS4 := Lib.hid (BS3.out.later hb)
  have BJ : Hid (Below w.heap.size w wj) := Lib.hid (BI.out.trans (hb.mono BI.out.size))
  clear hmq hoq hqs hb BS3 GI
  go_wp2_with fail
  refine (rsort_any ba _ bc lm wj BS4.out (by rw [HLM.out, List.length_append]; have := NX.out; have := NY.out; have := HGR.out; omega)).mono ?_
  rintro e wk ⟨vr, out, rfl, hout, hor, hlr, hb⟩
  have hout : out = risL lm := risL_of hout
  subst hout
  obtain ⟨ra, rc, rfl, hrs⟩ := owns_isS hor
  have RS := Lib.hid hrs
  have QS2 := Lib.hid (QS.out.later hb)
  have NR := Lib.hid hlr
  have BK : Hid (Below w.heap.size w wk) := Lib.hid (BJ.out.trans (hb.mono BJ.out.size))
  clear hor hrs hlr hb
  go_wp2_with fail
  refine (rfsame_any qa ra _ _ qc rc (risL mq) (risL lm) wk QS2.out RS.out (by have := NQ.out; have := HGR.out; omega) (by have := NR.out; have := NX.out; have := NY.out; have := HGR.out; have h5 := congrArg List.length HLM.out; rw [List.length_append] at h5; omega)).mono ?_
  rintro e wl ⟨bq, rfl, hbt, hb⟩
  have hbt : bq = true := hbt.2 EQ.out
  subst hbt
  have BL : Hid (Below w.heap.size w wl) := Lib.hid (BK.out.trans (hb.mono BK.out.size))
  clear hb
  go_wp2_with fail
  go_ret
  exact ⟨rfl, BL.out⟩
end Go.Proofs.Ytdliecailkkciaa

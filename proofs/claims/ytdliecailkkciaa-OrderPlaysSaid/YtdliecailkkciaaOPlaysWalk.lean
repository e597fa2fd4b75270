/-
  The walk of the law OrderPlays. Conditions: what memory bears.
-/
import Derived.Test.YtdliecailkkciaaORUsers
import Derived.Test.YtdliecailkkciaaORClos
import Derived.Test.YtdliecailkkciaaOHas
import Derived.Test.YtdliecailkkciaaONewE
namespace Go.Proofs.Ytdliecailkkciaa
open Go.RowKit
set_option linter.unusedVariables false

theorem isS_lens {w : World} {a : Option Addr} {n c : Nat} {l : List ByteArray} (h : IsS w a n c l) : n = l.length := h.length.symm
theorem rch_sub {ns : List ByteArray} {ks : List (List ByteArray)} {R o : List ByteArray} (h : ∀ s, s ∈ o ↔ Rch (finN ns ks) R s) (hp : o.Pairwise (fun x y => btsOf x < btsOf y)) : o.length ≤ ns.length :=
  nodup_len (ris_nodup hp) (fun s hs => (fin_some ns ks s).1 ((h s).1 hs).isN)
theorem use_sub {ns : List ByteArray} {ks : List (List ByteArray)} {x : ByteArray} {o : List ByteArray} (h : ∀ s, s ∈ o ↔ Need ns ks s x ∧ s ≠ x) (hp : o.Pairwise (fun x y => btsOf x < btsOf y)) : o.length ≤ ns.length :=
  nodup_len (ris_nodup hp) (fun s hs => ((h s).1 hs).1.mem)
set_option maxRecDepth 100000 in
set_option maxHeartbeats 8000000 in
theorem walk_OrderPlays (w : World) (an : Option Addr) (nn cn : Nat) (ns : List ByteArray) (hS : IsS w an nn cn ns) (hsz : ∀ s ∈ ns, s.size ≤ 140737488355328) (hnl : ns.length ≤ 8796093022208) (ak : Option Addr) (nk ck : Nat) (ks : List (List ByteArray)) (hK : IsSS w ak nk ck ks) (hkz : ∀ l ∈ ks, (∀ s ∈ l, s.size ≤ 140737488355328) ∧ l.length ≤ 8796093022208)
    (aa : Option Addr) (na ca : Nat) (la : List ByteArray) (hA : IsS w aa na ca la) (haz : ∀ s ∈ la, s.size ≤ 140737488355328) (hal : la.length ≤ 8796093022208) (x : ByteArray) (hx : x.size ≤ 140737488355328) :
    Calls Try.prog 3 #[.slice an nn cn, .slice ak nk ck, .slice aa na ca, .string x] w fun e w' => e = .returned (.bool true) ∧ Below w.heap.size w w' := by
  obtain rfl : nn = ns.length := hS.length.symm
  obtain rfl : na = la.length := hA.length.symm
  have HS := Lib.hid hS
  have HK := Lib.hid hK
  have HA := Lib.hid hA
  have HSZ := Lib.hid hsz
  have HNL := Lib.hid hnl
  have HKZ := Lib.hid hkz
  have HAZ := Lib.hid haz
  have h1 : (la.length : Int) ≤ 8796093022208 := by omega
  clear hS hK hA hsz hnl hkz haz hal hx
  go_enter Try.func3, Try.ntmps3
  go_wp2_with fail
  refine (awake_any w).mono ?_
  rintro e w1 ⟨rfl, b1⟩
  have B1 := Lib.hid b1
  clear b1
  go_wp2_with fail
  refine (great_any w1 an ns.length cn HNL.out ak nk ck ks (HK.out.later B1.out) (fun l hl => (HKZ.out l hl).2)).mono ?_
  rintro e w2 ⟨u, rfl, hu, b2⟩
  have B2 : Hid (Below w.heap.size w w2) := Lib.hid (B1.out.trans (b2.mono B1.out.size))
  clear b2
  rcases hu with rfl | ⟨rfl, hgr⟩
  · go_wp2_with fail
    refine (awake_any w2).mono ?_
    rintro e w3 ⟨rfl, b3⟩
    have B3 : Hid (Below w.heap.size w w3) := Lib.hid (B2.out.trans (b3.mono B2.out.size))
    clear b3
    go_wp2_with fail
    go_ret
    exact ⟨rfl, B3.out⟩
  have HGR := Lib.hid hgr
  clear hgr
  by_cases h30 : la.length ≤ 30
  case neg =>
    have h30' : (30 : Int) < (la.length : Int) := by omega
    clear h30
    go_wp2_with fail
    refine (awake_any w2).mono ?_
    rintro e w3 ⟨rfl, b3⟩
    have B3 : Hid (Below w.heap.size w w3) := Lib.hid (B2.out.trans (b3.mono B2.out.size))
    clear b3
    go_wp2_with fail
    go_ret
    exact ⟨rfl, B3.out⟩
  have h30' : ¬ (30 : Int) < (la.length : Int) := by omega
  have H30 := Lib.hid h30
  clear h30
  by_cases hnk : ns.length = nk
  case neg =>
    have hne : ((ns.length : Int) != (nk : Int)) = true := by rw [bne_iff_ne]; omega
    go_wp2_with fail
    refine (new_arg an ak ns.length cn nk ck w2 hnk).mono ?_
    rintro e w3 ⟨rfl, rfl⟩
    go_wp2_with fail
    go_ret
    exact ⟨rfl, B2.out⟩
  subst hnk
  have T1 : Hid (Told ns ks) := Lib.hid (Told.of (by have := HGR.out; omega) (by have := HGR.out; omega) (fun s hs => by have := HSZ.out s hs; unfold maxLen; omega) (fun l hl s hs => by have := (HKZ.out l hl).1 s hs; unfold maxLen; omega))
  have HN60 : Hid (ns.length ≤ 60) := Lib.hid (by have := HGR.out; omega)
  go_wp2_with fail
  refine (new_law T1.out (HS.out.later B2.out) (HK.out.later B2.out)).mono ?_
  rintro e wa ⟨gb, rfl, hg, hb, _⟩
  have GA := Lib.hid hg
  have BA : Hid (Below w.heap.size w wa) := Lib.hid (B2.out.trans (hb.mono B2.out.size))
  clear hg hb
  go_wp2_with fail
  refine (sort_law T1.out GA.out).mono ?_
  rintro e wb ⟨hb, hr⟩
  have GB := Lib.hid (GA.out.later hb)
  have BB : Hid (Below w.heap.size w wb) := Lib.hid (BA.out.trans (hb.mono BA.out.size))
  have HTL : Hid ((topoL (risL ns) (finN ns ks)).length ≤ 60) := Lib.hid (by have := topo_len (risL ns) (finN ns ks); have := T1.out.len; omega)
  obtain ⟨T, hT⟩ : ∃ T, T = topoL (risL ns) (finN ns ks) := ⟨_, rfl⟩
  rw [← hT] at hr HTL
  have HT := Lib.hid hT
  clear hT
  rcases hr with ⟨hall, v1, rfl, how⟩ | ⟨hall, rfl⟩
  · obtain ⟨sa, sc, rfl, hss⟩ := owns_isS how
    have SB := Lib.hid hss
    have HALL := Lib.hid hall
    clear hb how hss hall
    go_wp2_with fail
    refine (rtopo_any wb an ns.length cn ns (HS.out.later BB.out) ak ck ks (HK.out.later BB.out) (by have := HN60.out; omega)).mono ?_
    rintro e wc ⟨u, v, rfl, hrsp, hb⟩
    have BC : Hid (Below w.heap.size w wc) := Lib.hid (BB.out.trans (hb.mono BB.out.size))
    have GC := Lib.hid (GB.out.later hb)
    have SC := Lib.hid (SB.out.later hb)
    rcases hrsp with ⟨rfl, _, how⟩ | ⟨_, _, hno⟩
    case inr => exact absurd (by rw [← HT.out]; exact HALL.out) hno
    rw [← HT.out] at how
    obtain ⟨ma, mc, rfl, hms⟩ := owns_isS how
    have MC := Lib.hid hms
    clear hb how hms GB SB
    go_wp2_with fail
    refine (rfsame_any sa ma _ _ sc mc T T wc SC.out MC.out (by have := HTL.out; omega) (by have := HTL.out; omega)).mono ?_
    rintro e wd ⟨bq, rfl, hbt, hb⟩
    have hbt : bq = true := hbt.2 rfl
    subst hbt
    have GD := Lib.hid (GC.out.later hb)
    have BD : Hid (Below w.heap.size w wd) := Lib.hid (BC.out.trans (hb.mono BC.out.size))
    clear hb GC SC MC
    go_wp2_with fail
    refine (names_any wd gb (risL ns) (finN ns ks) GD.out (by have := T1.out.len; omega)).mono ?_
    rintro e we ⟨v, rfl, how, hb⟩
    obtain ⟨va, vc, rfl, hvs⟩ := owns_isS how
    have VE := Lib.hid hvs
    have GE := Lib.hid (GD.out.later hb)
    have BE : Hid (Below w.heap.size w we) := Lib.hid (BD.out.trans (hb.mono BD.out.size))
    clear how hvs hb GD
    go_wp2_with fail
    refine (rsort_any an ns.length cn ns we (HS.out.later BE.out) (by have := HN60.out; omega)).mono ?_
    rintro e wf ⟨v, out, rfl, hout, how, hlo, hb⟩
    have hout : out = risL ns := risL_of hout
    subst hout
    obtain ⟨ra, rc, rfl, hrs⟩ := owns_isS how
    have RF := Lib.hid hrs
    have VF := Lib.hid (VE.out.later hb)
    have GF := Lib.hid (GE.out.later hb)
    have BF : Hid (Below w.heap.size w wf) := Lib.hid (BE.out.trans (hb.mono BE.out.size))
    clear how hrs hb hlo VE GE
    go_wp2_with fail
    refine (rfsame_any va ra _ _ vc rc (risL ns) (risL ns) wf VF.out RF.out (by have := T1.out.len; omega) (by have := T1.out.len; omega)).mono ?_
    rintro e wg ⟨bq, rfl, hbt, hb⟩
    have hbt : bq = true := hbt.2 rfl
    subst hbt
    have GG := Lib.hid (GF.out.later hb)
    have BG : Hid (Below w.heap.size w wg) := Lib.hid (BF.out.trans (hb.mono BF.out.size))
    clear hb GF RF VF
    go_wp2_with fail
    refine (closure_law T1.out GG.out (HA.out.later BG.out) (by have := H30.out; omega) (fun s hs => by have := HAZ.out s hs; unfold maxLen; omega)).mono ?_
    rintro e wh ⟨v, mx, rfl, hmx, how, hb⟩
    obtain ⟨xa, xc, rfl, hxs⟩ := owns_isS how
    have MX := Lib.hid hmx
    have XH := Lib.hid hxs
    have XL : Hid ((risL mx).length ≤ ns.length) := Lib.hid (rch_sub (fun s => by rw [risL_mem]; exact hmx s) (risL_inc mx))
    have GH := Lib.hid (GG.out.later hb)
    have BH : Hid (Below w.heap.size w wh) := Lib.hid (BG.out.trans (hb.mono BG.out.size))
    clear how hxs hmx hb GG
    go_wp2_with fail
    refine (rclosure_any wh an ns.length cn ns (HS.out.later BH.out) ak ck ks (HK.out.later BH.out) aa la.length ca la (HA.out.later BH.out) (by have := HN60.out; omega) (by have := H30.out; omega)).mono ?_
    rintro e wi ⟨v, o, rfl, ⟨hor, hom⟩, how, hb⟩
    obtain rfl : o = risL mx := ris_ext hor (risL_inc mx) (fun s => by rw [hom s, risL_mem, MX.out s])
    obtain ⟨ya, yc, rfl, hys⟩ := owns_isS how
    have YI := Lib.hid hys
    have XI := Lib.hid (XH.out.later hb)
    have GI := Lib.hid (GH.out.later hb)
    have BI : Hid (Below w.heap.size w wi) := Lib.hid (BH.out.trans (hb.mono BH.out.size))
    clear how hys hor hom hb GH XH
    go_wp2_with fail
    refine (rfsame_any xa ya _ _ xc yc (risL mx) (risL mx) wi XI.out YI.out (by have := XL.out; have := HN60.out; omega) (by have := XL.out; have := HN60.out; omega)).mono ?_
    rintro e wj ⟨bq, rfl, hbt, hb⟩
    have hbt : bq = true := hbt.2 rfl
    subst hbt
    have GJ := Lib.hid (GI.out.later hb)
    have BJ : Hid (Below w.heap.size w wj) := Lib.hid (BI.out.trans (hb.mono BI.out.size))
    clear hb GI XI YI
    go_wp2_with fail
    refine (users_law x T1.out GJ.out).mono ?_
    rintro e wk ⟨v, ul, rfl, hur, hum, how, hb⟩
    obtain ⟨ua, uc, rfl, hus⟩ := owns_isS how
    have UK := Lib.hid hus
    have UR := Lib.hid hur
    have UM := Lib.hid hum
    have UL := Lib.hid (use_sub hum hur)
    have BK : Hid (Below w.heap.size w wk) := Lib.hid (BJ.out.trans (hb.mono BJ.out.size))
    clear how hus hur hum hb GJ
    go_wp2_with fail
    refine (rusers_any wk an ns.length cn ns (HS.out.later BK.out) ak ck ks (HK.out.later BK.out) (by have := HN60.out; omega) x).mono ?_
    rintro e wl ⟨v, o, rfl, hor, hom, how, hb⟩
    obtain rfl : o = ul := ris_ext hor UR.out (fun s => by rw [hom s, UM.out s])
    obtain ⟨ta, tc, rfl, hts⟩ := owns_isS how
    have TL := Lib.hid hts
    have UL2 := Lib.hid (UK.out.later hb)
    have BL : Hid (Below w.heap.size w wl) := Lib.hid (BK.out.trans (hb.mono BK.out.size))
    clear how hts hor hom hb UK
    go_wp2_with fail
    refine (rfsame_any ua ta _ _ uc tc _ _ wl UL2.out TL.out (by have := UL.out; have := HN60.out; omega) (by have := UL.out; have := HN60.out; omega)).mono ?_
    rintro e wm ⟨bq, rfl, hbt, hb⟩
    have hbt : bq = true := hbt.2 rfl
    subst hbt
    have BM : Hid (Below w.heap.size w wm) := Lib.hid (BL.out.trans (hb.mono BL.out.size))
    clear hb
    go_wp2_with fail
    go_ret
    exact ⟨rfl, BM.out⟩
  · have HALL := Lib.hid hall
    clear hb hall
    go_wp2_with fail
    refine (rtopo_any wb an ns.length cn ns (HS.out.later BB.out) ak ck ks (HK.out.later BB.out) (by have := HN60.out; omega)).mono ?_
    rintro e wc ⟨u, v, rfl, hrsp, hb⟩
    have BC : Hid (Below w.heap.size w wc) := Lib.hid (BB.out.trans (hb.mono BB.out.size))
    have GC := Lib.hid (GB.out.later hb)
    rcases hrsp with ⟨rfl, hyes, _⟩ | ⟨rfl, rfl, hno⟩
    case inl => exact absurd (by rw [← HT.out] at hyes; exact hyes) HALL.out
    have SC : Hid (IsS wc none 0 0 []) := Lib.hid (isS_nil wc)
    have MC : Hid (IsS wc none 0 0 []) := Lib.hid (isS_nil wc)
    clear hb hno GB
    go_wp2_with fail
    refine (rfsame_any none none 0 0 0 0 [] [] wc SC.out MC.out (by omega) (by omega)).mono ?_
    rintro e wd ⟨bq, rfl, hbt, hb⟩
    have hbt : bq = true := hbt.2 rfl
    subst hbt
    have GD := Lib.hid (GC.out.later hb)
    have BD : Hid (Below w.heap.size w wd) := Lib.hid (BC.out.trans (hb.mono BC.out.size))
    clear hb GC SC MC
    go_wp2_with fail
    refine (names_any wd gb (risL ns) (finN ns ks) GD.out (by have := T1.out.len; omega)).mono ?_
    rintro e we ⟨v, rfl, how, hb⟩
    obtain ⟨va, vc, rfl, hvs⟩ := owns_isS how
    have VE := Lib.hid hvs
    have GE := Lib.hid (GD.out.later hb)
    have BE : Hid (Below w.heap.size w we) := Lib.hid (BD.out.trans (hb.mono BD.out.size))
    clear how hvs hb GD
    go_wp2_with fail
    refine (rsort_any an ns.length cn ns we (HS.out.later BE.out) (by have := HN60.out; omega)).mono ?_
    rintro e wf ⟨v, out, rfl, hout, how, hlo, hb⟩
    have hout : out = risL ns := risL_of hout
    subst hout
    obtain ⟨ra, rc, rfl, hrs⟩ := owns_isS how
    have RF := Lib.hid hrs
    have VF := Lib.hid (VE.out.later hb)
    have GF := Lib.hid (GE.out.later hb)
    have BF : Hid (Below w.heap.size w wf) := Lib.hid (BE.out.trans (hb.mono BE.out.size))
    clear how hrs hb hlo VE GE
    go_wp2_with fail
    refine (rfsame_any va ra _ _ vc rc (risL ns) (risL ns) wf VF.out RF.out (by have := T1.out.len; omega) (by have := T1.out.len; omega)).mono ?_
    rintro e wg ⟨bq, rfl, hbt, hb⟩
    have hbt : bq = true := hbt.2 rfl
    subst hbt
    have GG := Lib.hid (GF.out.later hb)
    have BG : Hid (Below w.heap.size w wg) := Lib.hid (BF.out.trans (hb.mono BF.out.size))
    clear hb GF RF VF
    go_wp2_with fail
    refine (closure_law T1.out GG.out (HA.out.later BG.out) (by have := H30.out; omega) (fun s hs => by have := HAZ.out s hs; unfold maxLen; omega)).mono ?_
    rintro e wh ⟨v, mx, rfl, hmx, how, hb⟩
    obtain ⟨xa, xc, rfl, hxs⟩ := owns_isS how
    have MX := Lib.hid hmx
    have XH := Lib.hid hxs
    have XL : Hid ((risL mx).length ≤ ns.length) := Lib.hid (rch_sub (fun s => by rw [risL_mem]; exact hmx s) (risL_inc mx))
    have GH := Lib.hid (GG.out.later hb)
    have BH : Hid (Below w.heap.size w wh) := Lib.hid (BG.out.trans (hb.mono BG.out.size))
    clear how hxs hmx hb GG
    go_wp2_with fail
    refine (rclosure_any wh an ns.length cn ns (HS.out.later BH.out) ak ck ks (HK.out.later BH.out) aa la.length ca la (HA.out.later BH.out) (by have := HN60.out; omega) (by have := H30.out; omega)).mono ?_
    rintro e wi ⟨v, o, rfl, ⟨hor, hom⟩, how, hb⟩
    obtain rfl : o = risL mx := ris_ext hor (risL_inc mx) (fun s => by rw [hom s, risL_mem, MX.out s])
    obtain ⟨ya, yc, rfl, hys⟩ := owns_isS how
    have YI := Lib.hid hys
    have XI := Lib.hid (XH.out.later hb)
    have GI := Lib.hid (GH.out.later hb)
    have BI : Hid (Below w.heap.size w wi) := Lib.hid (BH.out.trans (hb.mono BH.out.size))
    clear how hys hor hom hb GH XH
    go_wp2_with fail
    refine (rfsame_any xa ya _ _ xc yc (risL mx) (risL mx) wi XI.out YI.out (by have := XL.out; have := HN60.out; omega) (by have := XL.out; have := HN60.out; omega)).mono ?_
    rintro e wj ⟨bq, rfl, hbt, hb⟩
    have hbt : bq = true := hbt.2 rfl
    subst hbt
    have GJ := Lib.hid (GI.out.later hb)
    have BJ : Hid (Below w.heap.size w wj) := Lib.hid (BI.out.trans (hb.mono BI.out.size))
    clear hb GI XI YI
    go_wp2_with fail
    refine (users_law x T1.out GJ.out).mono ?_
    rintro e wk ⟨v, ul, rfl, hur, hum, how, hb⟩
    obtain ⟨ua, uc, rfl, hus⟩ := owns_isS how
    have UK := Lib.hid hus
    have UR := Lib.hid hur
    have UM := Lib.hid hum
    have UL := Lib.hid (use_sub hum hur)
    have BK : Hid (Below w.heap.size w wk) := Lib.hid (BJ.out.trans (hb.mono BJ.out.size))
    clear how hus hur hum hb GJ
    go_wp2_with fail
    refine (rusers_any wk an ns.length cn ns (HS.out.later BK.out) ak ck ks (HK.out.later BK.out) (by have := HN60.out; omega) x).mono ?_
    rintro e wl ⟨v, o, rfl, hor, hom, how, hb⟩
    obtain rfl : o = ul := ris_ext hor UR.out (fun s => by rw [hom s, UM.out s])
    obtain ⟨ta, tc, rfl, hts⟩ := owns_isS how
    have TL := Lib.hid hts
    have UL2 := Lib.hid (UK.out.later hb)
    have BL : Hid (Below w.heap.size w wl) := Lib.hid (BK.out.trans (hb.mono BK.out.size))
    clear how hts hor hom hb UK
    go_wp2_with fail
    refine (rfsame_any ua ta _ _ uc tc _ _ wl UL2.out TL.out (by have := UL.out; have := HN60.out; omega) (by have := UL.out; have := HN60.out; omega)).mono ?_
    rintro e wm ⟨bq, rfl, hbt, hb⟩
    have hbt : bq = true := hbt.2 rfl
    subst hbt
    have BM : Hid (Below w.heap.size w wm) := Lib.hid (BL.out.trans (hb.mono BL.out.size))
    clear hb
    go_wp2_with fail
    go_ret
    exact ⟨rfl, BM.out⟩
end Go.Proofs.Ytdliecailkkciaa

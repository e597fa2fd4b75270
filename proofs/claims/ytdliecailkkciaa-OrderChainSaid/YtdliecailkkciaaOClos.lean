/-
  Closure. Conditions: bounds on the graph and on the roots.
-/
import Derived.Test.YtdliecailkkciaaOKeys
import Derived.Test.YtdliecailkkciaaOAppS
import Derived.Deep.LoopGhost
import Derived.Deep.DeepMust
namespace Go.Proofs.Ytdliecailkkciaa
open Go.RowKit
set_option linter.unusedVariables false

theorem zeroU (w : World) : (zeroValue 59).run Try.prog w = .ok (.agg #[]) w := by kernel_rfl
/-- Closure's loop in memory. -/
structure CL (w wr : World) (N : ByteArray → Option (List ByteArray)) (R : List ByteArray) (mb : Nat) (lv : Value) (mt td : List ByteArray) : Prop where
  ci : CI N R mt td
  own : wr.ownsRow w.heap.size 9 1 lv td.length (td.map Value.string)
  map : MapV wr mb mt.length (setM mt)
  low : Below w.heap.size w wr
  size : ∀ s ∈ td, s.size ≤ maxLen
  len : td.length ≤ R.length + mt.length * 5000
theorem IsS.get {w : World} {a : Option Addr} {n c : Nat} {l : List ByteArray} (h : IsS w a n c l) : a = none → n = 0 ∧ c = 0 := h.nil
/-- What the graph's map tells. -/
theorem Gr.need {w wr : World} {gb : Nat} {G : List ByteArray} {N : ByteArray → Option (List ByteArray)} (h : Gr w gb G N) (hb : Below w.heap.size w wr) {s : ByteArray} (hs : s.size ≤ maxLen) :
    ∃ mb na nc, wr.cell? ⟨gb, 1, none⟩ = some (.map (some mb)) ∧ (Instr.lookup 45 (.map (some mb)) (.string s) false).run Try.prog wr = .ok (.slice na (getN N s).length nc) wr ∧ IsS wr na (getN N s).length nc (getN N s) := by
  obtain ⟨ga, gn, gc, mb, km, M, h1, h2, h3, h4, h5⟩ := h.ex
  obtain ⟨na, nc, hnv, hns⟩ : ∃ na nc, getV M s = .slice na (getN N s).length nc ∧ IsS w na (getN N s).length nc (getN N s) := by
    have h4 := h4 s
    have h5 := h5 s
    unfold getV getN
    cases hn : N s with
    | none =>
      rw [hn] at h4
      cases hm : M s with
      | none => exact ⟨none, 0, rfl, isS_nil w⟩
      | some u => rw [hm] at h4; cases h4
    | some l =>
      obtain ⟨a', n', c', h6, h7⟩ := h5 l hn
      rw [h6]
      obtain rfl : n' = l.length := h7.length.symm
      exact ⟨a', c', rfl, h7⟩
  refine ⟨mb, na, nc, (h1.below hb h1.lt).cellAt (i := 1) rfl, ?_, hns.later hb⟩
  rw [← hnv]
  exact (h3.below hb h3.lt).get Try.underlying45 (zeroS wr) hs
set_option maxRecDepth 100000 in
set_option maxHeartbeats 8000000 in
theorem closure_any (w : World) (gb : Nat) (G : List ByteArray) (N : ByteArray → Option (List ByteArray)) (ra : Option Addr) (rn rc : Nat) (R : List ByteArray) (h : Gr w gb G N) (hR : IsS w ra rn rc R) (hG : G.length ≤ 1000) (hL : ∀ s, (getN N s).length ≤ 5000) (hN : ∀ x, (N x).isSome = true → x ∈ G) (hsz : ∀ s ∈ R, s.size ≤ maxLen) (hsn : ∀ s t, t ∈ getN N s → t.size ≤ maxLen) (hrn : rn ≤ 100000) :
    Calls Try.prog 15 #[.pointer (some ⟨gb, 0, none⟩), .slice ra rn rc] w fun e w' => ∃ v mt, e = .returned v ∧ (∀ s, s ∈ mt ↔ Rch N R s) ∧ w'.ownsRow w.heap.size 9 1 v (risL mt).length ((risL mt).map Value.string) ∧ Below w.heap.size w w' := by
  obtain ⟨i0, hi0, hz0, hz1, hz2⟩ := info_parts info_str
  have HI := Lib.hid hi0
  have HZ0 := Lib.hid hz0
  have HZ1 := Lib.hid hz1
  have HZ2 := Lib.hid hz2
  have HGR := Lib.hid h
  have HR := Lib.hid hR
  have HG := Lib.hid hG
  have HLN := Lib.hid hL
  have HN := Lib.hid hN
  have HSZ := Lib.hid hsz
  have HSN := Lib.hid hsn
  have HRN := Lib.hid hrn
  obtain rfl : rn = R.length := hR.length.symm
  have HRE := Lib.hid hR.nil
  clear h hR hG hL hN hsz hsn hrn hi0 hz0 hz1 hz2
  have hmm := @run_makeMap Try.prog
  go_enter Try.func15, Try.ntmps15
  go_upto_region 4 with fail
  clear hmm
  obtain ⟨mb, hmb⟩ : ∃ mb, mb = w.heap.size := ⟨_, rfl⟩
  obtain ⟨w1, hw1⟩ : ∃ w1, w1 = w.alloc (.map #[] 0) := ⟨_, rfl⟩
  have M1 : Hid (MapV w1 mb 0 (fun _ => none)) := Lib.hid (by rw [hw1, hmb]; exact MapV.made w)
  have B1 : Hid (Below mb w w1) := Lib.hid (by rw [hw1, hmb]; exact (Below.refl _ _).alloc (Nat.le_refl _) _)
  have Z1 : Hid (w1.heap.size = mb + 1) := Lib.hid (by rw [hw1, hmb]; simp)
  have HMB := Lib.hid hmb
  rw [← hw1, ← hmb]
  clear hw1 hmb
  go_wp2_with fail
  refine (clone_any ra R.length rc R w1 (HR.out.later (by rw [← HMB.out]; exact B1.out)) HRN.out).mono ?_
  rintro e w2 ⟨v, rfl, how, hbw⟩
  have S2 : Hid (CL w w2 N R mb v [] R) := Lib.hid ⟨CI.start N R, owns_down how (by have := Z1.out; have := HMB.out; omega), by rw [setM_nil]; exact M1.out.below hbw M1.out.lt, (by rw [← HMB.out]; exact B1.out.trans (hbw.mono (by have := Z1.out; omega))), HSZ.out, by simp⟩
  clear how hbw
  go_wp2_with fail
  go_loopg [6] (tmC G.length 5000 0 R.length) (fun gk lv wr => ∃ mt td, Hid (gk = tmC G.length 5000 mt.length td.length) ∧ CL w wr N R mb lv mt td)
  case atStart => exact ⟨[], R, Lib.hid rfl, S2.out⟩
  case round =>
    clear S2
    obtain ⟨mt, td, HGK, hs⟩ := hrel
    have HS := Lib.hid hs
    have HMG : Hid (mt.length ≤ G.length) := Lib.hid (hs.ci.len HN.out)
    obtain ⟨la, lc, rfl, hls⟩ := owns_isS hs.own
    clear hs
    rcases List.eq_nil_or_concat td with htd | ⟨td', s, htd⟩
    · subst htd
      have hl0 : ¬ (0 : Int) < (([] : List ByteArray).length : Int) := by simp
      clear hls
      go_wp2_with fail
      refine (keys_any (some mb) wr).mono ?_
      rintro e w3 ⟨rfl, rfl⟩
      go_wp2_with fail
      refine (sorted_any mb mt.length mt wr HS.out.map (by have := HMG.out; have := HG.out; omega) HS.out.ci.nd).mono ?_
      rintro e w4 ⟨v, rfl, how, hb⟩
      have HO := Lib.hid how
      have HB := Lib.hid hb
      clear how hb
      go_wp2_with fail
      go_ret
      exact ⟨v, mt, rfl, HS.out.ci.ended, owns_down HO.out HS.out.low.size, HS.out.low.trans (HB.out.mono HS.out.low.size)⟩
    · rw [List.concat_eq_append] at htd
      obtain ⟨n, hn⟩ : ∃ n, n = td'.length := ⟨_, rfl⟩
      have htl : td.length = n + 1 := by rw [htd, hn]; simp
      have hget : td.getD n ⟨#[]⟩ = s := by rw [htd, hn]; simp [List.getD_eq_getElem?_getD]
      rcases hls.at_ with h0 | ⟨g, off, hla, hgl, hc⟩
      · omega
      have hc0 := hc n (by omega)
      rw [hget] at hc0
      have HSS : Hid (s.size ≤ maxLen) := Lib.hid (HS.out.size s (by rw [htd]; simp))
      have HOFF : Hid (off = 0) := Lib.hid (by
        rcases HS.out.own.2 with ⟨h1, _⟩ | ⟨g', cap', cur', h1, _⟩
        · rw [hla] at h1; cases h1
        · rw [hla] at h1; injection h1 with h2 h3 h4; injection h2 with h2; injection h2)
      obtain rfl := HOFF.out
      subst hla
      rw [Nat.zero_add] at hc0
      have HO1 : Hid (wr.ownsRow w.heap.size 9 1 (.slice (some ⟨g, 0, none⟩) n lc) td'.length (td'.map Value.string)) := Lib.hid (by
        have h1 := owns_take HS.out.own (m := n) (by omega)
        rw [htd, ← List.map_take, hn, List.take_left' (by simp)] at h1
        rw [hn]
        have h2 := h1
        simpa using h2)
      have HCI : Hid (CI N R mt (td' ++ [s])) := Lib.hid (by rw [← htd]; exact HS.out.ci)
      have HGK2 : Hid (gk = tmC G.length 5000 mt.length (n + 1)) := Lib.hid (by rw [HGK.out, htl])
      have HM := Lib.hid HS.out.map
      have HLOW := Lib.hid HS.out.low
      have HSZ2 : Hid (∀ t ∈ td', t.size ≤ maxLen) := Lib.hid (fun t ht => HS.out.size t (by rw [htd]; simp [ht]))
      have HLE : Hid (n + 1 ≤ R.length + mt.length * 5000) := Lib.hid (by rw [← htl]; exact HS.out.len)
      have hncap : n + 1 ≤ lc := by rw [← htl]; exact hls.room.1
      have HNT := Lib.hid hn
      rw [htl]
      clear HGK HS hls hc hn htd hget hgl
      have hl0 : (0 : Int) < ((n + 1 : Nat) : Int) := by omega
      have hki : (n : Int) < ((n + 1 : Nat) : Int) := by omega
      have hk0 : (0 : Int) ≤ (n : Int) := by omega
      have hkc : (n : Int) ≤ (lc : Int) := by omega
      have hkn : ((n + 1 : Nat) : Int) - 1 = (n : Int) := by omega
      have HCAP := Lib.hid hncap
      have hnb : (n : Int) ≤ 10000000 := by have := HLE.out; have := HRN.out; have := HMG.out; have := HG.out; omega
      have HB0 : Hid (Below wr.heap.size wr (wr.alloc (Obj.cells #[] 59))) := Lib.hid ((Below.refl _ _).alloc (Nat.le_refl _) _)
      clear hncap htl HOFF
      have hlk := HM.out.look Try.underlying58 (zeroU wr) HSS.out
      by_cases hmt : s ∈ mt
      · have e1 : setM mt s = some (.agg #[]) := if_pos hmt
        rw [e1] at hlk
        have hlk2 : (Instr.lookup 58 (.map (some mb)) (.string s) true).run Try.prog wr = .ok (.tuple #[.agg #[], .bool true]) wr := hlk
        have HCI2 := Lib.hid (HCI.out.drop (.inl hmt))
        clear hlk e1 hmt
        go_wp2_with fail
        go_roundg (tmC G.length 5000 mt.length n)
        case rel => exact ⟨mt, td', Lib.hid (by rw [HNT.out]), ⟨HCI2.out, own_later HO1.out HB0.out, HM.out.below HB0.out HM.out.lt, HLOW.out.trans (HB0.out.mono HLOW.out.size), HSZ2.out, (by have := HLE.out; have := HNT.out; omega)⟩⟩
        case measure => rw [HGK2.out]; exact tmC_drop _ _ _ _
      · have e1 : setM mt s = none := if_neg hmt
        rw [e1] at hlk
        have hlk2 : (Instr.lookup 58 (.map (some mb)) (.string s) true).run Try.prog wr = .ok (.tuple #[.agg #[], .bool false]) wr := hlk
        have HMT := Lib.hid hmt
        clear hlk e1 hmt
        go_wp2_with fail
        refine (has_any _ gb G N (HGR.out.later (HLOW.out.alloc HLOW.out.size _)) s HSS.out).mono ?_
        obtain ⟨wa, hwa⟩ : ∃ wa, wa = wr.alloc (Obj.cells #[] 59) := ⟨_, rfl⟩
        rw [← hwa]
        have BA : Hid (Below wr.heap.size wr wa) := Lib.hid (by rw [hwa]; exact HB0.out)
        have LA : Hid (Below w.heap.size w wa) := Lib.hid (HLOW.out.trans (BA.out.mono HLOW.out.size))
        have MA : Hid (MapV wa mb mt.length (setM mt)) := Lib.hid (HM.out.below BA.out HM.out.lt)
        have OA : Hid (wa.ownsRow w.heap.size 9 1 (.slice (some ⟨g, 0, none⟩) n lc) td'.length (td'.map Value.string)) := Lib.hid (own_later HO1.out BA.out)
        clear hwa
        rintro e w' ⟨rfl, rfl⟩
        obtain ⟨bb, hbb⟩ : ∃ bb, bb = (N s).isSome := ⟨_, rfl⟩
        have HBB := Lib.hid hbb
        rw [← hbb]
        clear hbb hlk2
        cases bb with
        | false =>
          have HCI2 := Lib.hid (HCI.out.drop (.inr HBB.out.symm))
          go_wp2_with fail
          go_roundg (tmC G.length 5000 mt.length n)
          case rel => exact ⟨mt, td', Lib.hid (by rw [HNT.out]), ⟨HCI2.out, OA.out, MA.out, LA.out, HSZ2.out, (by have := HLE.out; have := HNT.out; omega)⟩⟩
          case measure => rw [HGK2.out]; exact tmC_drop _ _ _ _
        | true =>
          have HCI2 := Lib.hid (HCI.out.add HMT.out HBB.out.symm)
          have HMG2 : Hid (mt.length + 1 ≤ G.length) := Lib.hid (by have := HCI2.out.len HN.out; simpa using this)
          obtain ⟨wp, hup, hm2, hg2, hz2⟩ := MA.out.put Try.underlying58 (by have := HMG.out; have := HG.out; unfold maxLen; omega) HSS.out (.agg #[])
          rw [setM_put] at hm2
          have LP : Hid (Below w.heap.size w wp) := Lib.hid (LA.out.grown hg2 LA.out.size (fun k hk => by
            simp only [Option.some.injEq] at hk
            rw [← hk, ← HMB.out]; exact Nat.le_refl _))
          have MP : Hid (MapV wp mb (mt ++ [s]).length (setM (mt ++ [s]))) := Lib.hid (by simpa using hm2)
          have OP : Hid (wp.ownsRow w.heap.size 9 1 (.slice (some ⟨g, 0, none⟩) n lc) td'.length (td'.map Value.string)) := Lib.hid (owns_stay OA.out (fun k hk => hg2.block k (OA.out.lt k hk).2 (fun e => mapv_ne OA.out MA.out (hk.trans e))))
          obtain ⟨nb, na, nc, hcell, hget, hns⟩ := HGR.out.need LP.out HSS.out
          have HNS := Lib.hid hns
          have HTL : Hid ((mt ++ [s]).length = mt.length + 1) := Lib.hid (by simp)
          clear hm2 hg2 hz2 hns
          go_wp2_with (at_builtin; go_must (refine wpList_append_strs rfl (.tmp 45) (.tmp 51) 22 rfl w.heap.size 9 i0 Try.underlying22 HI.out HZ0.out HZ1.out HZ2.out _ td'.length td' rfl OP.out na _ nc (getN N s) rfl HNS.out ?_ ?_ ?_))
          case refine_1 => have := HLE.out; have := HNT.out; have := HMG.out; have := HG.out; have := HRN.out; have := HLN.out s; omega
          case refine_2 => exact LP.out.size
          intro v' wq how hgr
          have OQ : Hid (wq.ownsRow w.heap.size 9 1 v' (td' ++ getN N s).length ((td' ++ getN N s).map Value.string)) := Lib.hid (by rw [List.length_append, List.map_append]; exact how)
          have LQ : Hid (Below w.heap.size w wq) := Lib.hid (below_grown LP.out LP.out.size OP.out hgr)
          have MQ : Hid (MapV wq mb (mt ++ [s]).length (setM (mt ++ [s]))) := Lib.hid (MP.out.kept hgr (fun e => mapv_ne OP.out MP.out e.symm))
          clear how hgr hcell hget hup
          go_wp2_with fail
          go_roundg (tmC G.length 5000 (mt.length + 1) (n + (getN N s).length))
          case rel => exact ⟨mt ++ [s], td' ++ getN N s, Lib.hid (by rw [HTL.out, List.length_append, HNT.out]), ⟨HCI2.out, OQ.out, MQ.out, LQ.out, (fun t ht => (List.mem_append.1 ht).elim (HSZ2.out t) (HSN.out s t)), (by rw [HTL.out, List.length_append]; have := HLE.out; have := HNT.out; have := HLN.out s; omega)⟩⟩
          case measure => rw [HGK2.out]; exact tmC_add (HLN.out s) HMG2.out
end Go.Proofs.Ytdliecailkkciaa

/-
  The contract of the program's Tree. Conditions: bounds on the numbers.
-/
import Derived.Test.YtcmgafehidgkmaaRfTodo
namespace Go.Proofs.Ytcmgafehidgkmaa
open Go.RowKit
set_option linter.unusedVariables false

theorem info_tree : (Try.prog.info? 30).map (fun i => (i.zero, i.size, i.bytes)) = some (some (.agg #[.int .u8 0, .bool false, .slice none 0 0, .slice none 0 0, .slice none 0 0]), 5, 80) := by kernel_rfl

/-- What the search holds stays while a row of another type grows. -/
theorem Sr.kept_row {w w' : World} {B s : Nat} {v : Value} {mb : Nat} {sg : List Bool} {D : DataW Unit} {ss : List ByteArray} {ms : List Bool} (h : Sr w B s v mb sg D ss ms) {B' n size : Nat} {e : TypeId} {v' : Value} {xs : List Value} (ho : w.ownsRow B' e size v' n xs) (h1 : e ≠ 65) (h2 : e ≠ 58) (hg : w.grownBy w' v'.ownBlock) : Sr w' B s v mb sg D ss ms :=
  ⟨(hg.block s h.row.lt (fun e => own_ne ho h.row h2 e.symm)).trans h.row, h.len, h.own.kept hg (own_two h.own ho (fun e => h1 e.symm)), h.same, h.map.kept hg (fun e => own_ne_map ho h.map e.symm), h.hs, h.hm⟩

set_option maxRecDepth 100000 in
set_option maxHeartbeats 8000000 in
theorem tree_any (n : Nat) (cs : List Value) (t : T) (a : Option Addr) (m cap : Nat) (l : List ByteArray) (w : World) (ht : IsT w n cs t) (hsm : Small t) (hcn : cntT t ≤ 1000) (hS : IsS w a m cap l) (hm : m ≤ 1000) :
    Calls Try.prog 14 #[.agg cs.toArray, .slice a m cap] w fun e w' => AnsPost (MetT t) l w e w' := by
  obtain ⟨i0, hi, hz0, hz1, hz2⟩ := info_parts info_tree
  have HI := Lib.hid hi
  have HZ0 := Lib.hid hz0
  have HZ1 := Lib.hid hz1
  have HZ2 := Lib.hid hz2
  have h5 := isT_five ht
  have HT := Lib.hid ht
  have HSM := Lib.hid hsm
  have HS := Lib.hid hS
  have hi5 : Hid ((Try.prog.info? 30).map (·.size) = some cs.toArray.size) := Lib.hid (by rw [List.size_toArray, h5]; kernel_rfl)
  obtain ⟨c0, c1, c2, c3, c4, rfl⟩ := five_list h5
  clear hi hz0 hz1 hz2 ht hsm hS h5
  go_enter Try.func14, Try.ntmps14
  go_wp2_with fail
  obtain ⟨w1, hw1⟩ : ∃ w1, w1 = w.alloc (.cells #[c0, c1, c2, c3, c4] 30) := ⟨_, rfl⟩
  have g1 : Has w1 w.heap.size [c0, c1, c2, c3, c4] 30 := by rw [hw1]; exact Has.new w _ _
  have b1 : Below w.heap.size w w1 := by rw [hw1]; exact (Below.refl _ _).alloc (Nat.le_refl _) _
  rw [← hw1]
  obtain ⟨B, hB⟩ : ∃ B, B = w.heap.size := ⟨_, rfl⟩
  have HB := Lib.hid hB
  rw [← hB] at g1 b1 ⊢
  have hs1 : B + 1 ≤ w1.heap.size := g1.lt
  have G1 := Lib.hid g1
  have B1 := Lib.hid b1
  clear hw1 g1 b1 hB
  refine (new_any a m cap l w1 (HS.out.later (by rw [← HB.out]; exact B1.out)) hm).mono ?_
  rintro e w2 ⟨s, v, mb, sg, D, out, rfl, ho, hs, hM, hgl, hb2⟩
  have HOUT := Lib.hid ho
  have HSR := Lib.hid hs
  have HM := Lib.hid hM
  have G2 := Lib.hid (G1.out.below hb2 G1.out.lt)
  have B2 : Hid (Below B w w2) := Lib.hid (B1.out.trans (hb2.mono (by omega)))
  have hs2 : B + 1 ≤ w2.heap.size := Nat.le_trans hs1 hb2.size
  clear ho hs hM hb2 G1 B1
  go_wp2_with (refine wpList_load_row rfl 30 _ rfl B rfl 30 #[c0, c1, c2, c3, c4] (0, 0) _ G2.out Try.underlying30 rfl hi5.out ?_)
  have hb3 : Below w2.heap.size w2 (w2.alloc (.cells #[c0, c1, c2, c3, c4] 30)) := (Below.refl _ _).alloc (Nat.le_refl _) _
  have HS3 := Lib.hid (HSR.out.below hb3)
  have HB3 := Lib.hid (B2.out.trans (hb3.mono (by omega)))
  have ho3 := World.ownsRow_lit (base := B) (size := 5) (e := 30) w2 #[c0, c1, c2, c3, c4] 1 (by omega) (by unfold maxLen; omega) rfl
  have HO3 := Lib.hid ho3
  have hs3 := Nat.le_trans hs2 hb3.size
  have htd : Tds w [t] [[c0, c1, c2, c3, c4]] := ⟨rfl, fun i hi => by
    obtain rfl : i = 0 := by simpa using hi
    exact ⟨rfl, HSM.out, n, HT.out⟩⟩
  have HTD := Lib.hid htd
  clear hb3 ho3 htd
  go_loopg [6] (cntT t + 1) (fun gk v6 wr => ∃ (ts : List T) (css : List (List Value)) (ms : List Bool), gk = cntL ts + 1 ∧ wr.ownsRow B 30 5 v6 ts.length css.flatten ∧ Tds w ts css ∧ Sr wr w1.heap.size s v mb sg D (gath out).1 ms ∧ Below B w wr ∧ cntL ts ≤ 1000 ∧ B + 1 ≤ wr.heap.size ∧ Hid (∀ i, i < (gath out).1.length → ((ms.getD i false = true ∨ MetL ts (keyB ((gath out).1.getD i ⟨#[]⟩))) ↔ MetT t (keyB ((gath out).1.getD i ⟨#[]⟩)))))
  case atStart => exact ⟨[t], [[c0, c1, c2, c3, c4]], (gath out).2, by rw [cntL_one], HO3.out, HTD.out, HS3.out, HB3.out, by rw [cntL_one]; exact hcn, hs3, Lib.hid (fun i hi => by rw [gath_none, metL_one]; simp)⟩
  case round =>
    clear HO3 HTD HS3 HB3
    obtain ⟨ts, css, ms, rfl, ho6, htd, hsr, hbr, hcl, hsz, hmt⟩ := hrel
    rcases List.eq_nil_or_concat ts with e | ⟨ts', x, e⟩
    · subst e
      obtain ⟨v6b, v6c, rfl⟩ := row_form2 ho6
      have HSQ := Lib.hid hsr
      have HBQ := Lib.hid hbr
      have HMT : Hid (∀ i, i < (gath out).1.length → (ms.getD i false = true ↔ MetT t (keyB ((gath out).1.getD i ⟨#[]⟩)))) := Lib.hid (fun i hi => by
        rw [← hmt.out i hi]
        exact ⟨.inl, fun h => h.elim id (fun h => absurd h metL_nil)⟩)
      clear ho6 htd hsr hbr hmt
      go_wp2_with fail
      refine (met_any w1.heap.size s v mb sg D _ ms wr HSQ.out (by omega)).mono ?_
      rintro e w9 ⟨v9, rfl, ho9, hb9⟩
      have HO9 := Lib.hid ho9
      have HB9 : Hid (Below B w w9) := Lib.hid (HBQ.out.trans (hb9.mono (by omega)))
      clear ho9 hb9
      go_wp2_with fail
      refine bodyPost_ret (results_tmp rfl _ _ _) rfl ?_
      have hll := HS.out.length
      refine ⟨_, metL (gath out).1 ms, rfl, met_ans HOUT.out HSQ.out.same HMT.out, owns_lower HO9.out (by rw [← HB.out]; omega), ?_, by rw [← HB.out]; exact HB9.out⟩
      have h1 := metL_le (gath out).1 ms
      omega
    · rw [List.concat_eq_append] at e
      subst e
      obtain ⟨css', c, rfl, htd', hc5, hxs, nx, hxT⟩ := htd.snoc
      obtain ⟨g, gc, rfl, hgB, _⟩ := ho6.form (by simp)
      cases nx with
      | zero => exact absurd hxT (by simp [IsT])
      | succ nx =>
        obtain ⟨k, ex, d, ns, ks⟩ := x
        obtain ⟨ad, nd, cd, an, nn, cn, ak, nk, ck, rfl, hB, hSn, hK⟩ := hxT
        obtain ⟨q, hq⟩ : ∃ q, q = ts'.length := ⟨_, rfl⟩
        have hql : (ts' ++ [T.mk k ex d ns ks]).length = q + 1 := by rw [hq]; simp
        rw [hql] at ho6 ⊢
        have hfl : css'.flatten.length = q * 5 := by rw [flat_len htd'.five, htd'.1, hq]
        have hat : ∀ j u, ([.int .u8 (k.toNat : Int), .bool ex, .slice ad nd cd, .slice an nn cn, .slice ak nk ck] : List Value)[j]? = some u → wr.cell? ⟨g, q * 5 + j, none⟩ = some u := by
          intro j u hj
          have hj5 : j < 5 := (List.getElem?_eq_some_iff.1 hj).1
          rw [ho6.cellAt (q * 5 + j) (by omega), List.flatten_append, List.getElem?_append_right (by omega), hfl, show q * 5 + j - q * 5 = j by omega]
          simpa using hj
        have e0 := hat 0 _ rfl
        have e1 := hat 1 _ rfl
        have e2 := hat 2 _ rfl
        have e3 := hat 3 _ rfl
        have e4 := hat 4 _ rfl
        rw [Nat.add_zero] at e0
        have hql2 : q + 1 ≤ 1000 := by have := cntL_len (ts' ++ [T.mk k ex d ns ks]); omega
        have hqi : (q : Int) < (q : Int) + 1 := by omega
        have hq0 : (0 : Int) < (q : Int) + 1 := by omega
        have HO6 := Lib.hid ho6
        have HTD' := Lib.hid htd'
        have HSQ := Lib.hid hsr
        have HBQ := Lib.hid hbr
        have HXS := Lib.hid hxs
        have HXB := Lib.hid hB
        have HXN := Lib.hid hSn
        have HXK := Lib.hid hK
        have HQ := Lib.hid hq
        have HFL := Lib.hid hfl
        clear ho6 htd htd' hsr hbr hxs hB hSn hK hat hql hq hfl
        go_upto_region 6 with fail
        obtain ⟨G, hG⟩ : ∃ G, G = wr.heap.size := ⟨_, rfl⟩
        obtain ⟨w4, hw4⟩ : ∃ w4, w4 = wr.alloc (.cells #[.int .u8 (k.toNat : Int), .bool ex, .slice ad nd cd, .slice an nn cn, .slice ak nk ck] 30) := ⟨_, rfl⟩
        rw [← hw4, ← hG]
        have hb4 : Below wr.heap.size wr w4 := by rw [hw4]; exact (Below.refl _ _).alloc (Nat.le_refl _) _
        have hg4 : Has w4 G [.int .u8 (k.toNat : Int), .bool ex, .slice ad nd cd, .slice an nn cn, .slice ak nk ck] 30 := by rw [hw4, hG]; exact Has.new wr _ _
        have HG4 := Lib.hid hg4
        have HS4 := Lib.hid (HSQ.out.below hb4)
        have HO4 := Lib.hid (own_later HO6.out hb4)
        have HB4 : Hid (Below B w w4) := Lib.hid (HBQ.out.trans (hb4.mono (by omega)))
        have hs4 : B + 1 ≤ w4.heap.size := Nat.le_trans hsz hb4.size
        have cg2 := hg4.cellAt (i := 2) rfl
        clear hw4 hG hb4 hg4 HSQ HO6 HBQ e0 e1 e2 e3 e4
        go_wp2_with fail
        refine (look_any w1.heap.size s v mb sg D _ ms w4 HS4.out HM.out (by omega) ad nd cd d (HXB.out.later (by rw [← HB.out]; exact HB4.out)) HXB.out.most (fun h0 b off e => by
          obtain ⟨b2, off2, e2, hb2⟩ := isB_block HXB.out h0
          rw [e] at e2
          injection e2 with e2
          injection e2 with e2
          rw [e2]; exact far_old HS4.out (by have := HB.out; omega))).mono ?_
        rintro e w5 ⟨rfl, ms5, hs5, hmt5, hg5⟩
        have HS5 := Lib.hid hs5
        have HMT5 := Lib.hid hmt5
        have HG5 : Hid (Has w5 G [.int .u8 (k.toNat : Int), .bool ex, .slice ad nd cd, .slice an nn cn, .slice ak nk ck] 30) := Lib.hid ((hg5.block G HG4.out.lt (fun e => own_ne HS4.out.own HG4.out (by decide) e.symm)).trans HG4.out)
        have HO5 := Lib.hid (HO4.out.kept hg5 (own_two HO4.out HS4.out.own (by decide)))
        have HB5 : Hid (Below B w w5) := Lib.hid (HB4.out.trans ⟨hg5.os, hg5.tape, hg5.output, hg5.size, fun j hj => hg5.block j (by omega) (fun e => far_old HS4.out (by omega) e.symm)⟩)
        have hz5 : B + 1 ≤ w5.heap.size := Nat.le_trans hs4 hg5.size
        have cg3 := HG5.out.cellAt (i := 3) rfl
        clear hs5 hmt5 hg5 HS4 HO4 HG4 HB4 cg2
        have hcv : ∀ (S : ByteArray) (W : World), (convert 9 22 (.string S)).run Try.prog W = .ok (.slice (some ⟨W.heap.size, 0, none⟩) S.size (grownCap W S.size 0 5)) (Lib.bytesWorld W 5 S) := fun S W =>
          Lib.run_convert_string_bytes W _ _ _ S Try.underlying9 Try.underlying22 Try.underlying5
        go_wp2_with fail
        clear cg3
        go_loopg [32] (nn + 1) (fun gk v32 wr => ∃ (j : Nat) (ms' : List Bool), gk = nn + 1 - j ∧ j ≤ nn ∧ v32 = .int .i64 j ∧ Sr wr w1.heap.size s v mb sg D (gath out).1 ms' ∧ Hid (∀ i, i < (gath out).1.length → (ms'.getD i false = true ↔ ms5.getD i false = true ∨ ∃ l, l < j ∧ keyB ((gath out).1.getD i ⟨#[]⟩) <:+: btsOf (ns.getD l ⟨#[]⟩))) ∧ Has wr G [.int .u8 (k.toNat : Int), .bool ex, .slice ad nd cd, .slice an nn cn, .slice ak nk ck] 30 ∧ wr.ownsRow B 30 5 (.slice (some ⟨g, 0, none⟩) (q + 1) gc) (q + 1) (css' ++ [([.int .u8 (k.toNat : Int), .bool ex, .slice ad nd cd, .slice an nn cn, .slice ak nk ck] : List Value)]).flatten ∧ Below B w wr ∧ B + 1 ≤ wr.heap.size)
        case atStart => exact ⟨0, ms5, rfl, Nat.zero_le _, rfl, HS5.out, Lib.hid (fun i hi => by simp), HG5.out, HO5.out, HB5.out, hz5⟩
        case round =>
          clear HS5 HG5 HO5 HB5
          obtain ⟨j, ms', rfl, hjn, rfl, hsr, hmt', hgr, hor, hbr, hzr⟩ := hrel
          have HSR' := Lib.hid hsr
          have HGR := Lib.hid hgr
          have HOR := Lib.hid hor
          have HBR := Lib.hid hbr
          have cg4 := hgr.cellAt (i := 4) rfl
          clear hsr hgr hor hbr
          by_cases hlt : j < nn
          · rcases HXN.out.at_ with h0 | ⟨b, off, rfl, hbb, hc⟩
            · omega
            have hjj : (j : Int) < (nn : Int) := by omega
            obtain ⟨y, hy⟩ : ∃ y, y = ns.getD j ⟨#[]⟩ := ⟨_, rfl⟩
            have c1' : wr.cell? ⟨b, off + j, none⟩ = some (.string y) := by
              rw [hy]; exact (HBR.out.cell (p := ⟨b, off + j, none⟩) (by rw [HB.out]; exact hbb)).trans (hc j hlt)
            have hil : j < ns.length := by rw [HXN.out.length]; exact hlt
            have hys : y.size ≤ 140737488355328 := by
              rw [hy]; cases HXS.out with | mk h1 _ _ => exact h1 j hil
            have HY := Lib.hid hy
            clear hy hc hbb cg4
            go_wp2_with fail
            obtain ⟨wB, hwB⟩ : ∃ wB, wB = Lib.bytesWorld wr 5 y := ⟨_, rfl⟩
            have hbB : Below wr.heap.size wr wB := by rw [hwB]; exact below_bytes wr y
            have hIB : IsB wB (some ⟨wr.heap.size, 0, none⟩) y.size (grownCap wr y.size 0 5) y.data.toList := by rw [hwB]; exact convY_isB wr y hys
            rw [← hwB]
            have HSB := Lib.hid (HSR'.out.below hbB)
            have HGB := Lib.hid (HGR.out.below hbB HGR.out.lt)
            have HOB := Lib.hid (own_later HOR.out hbB)
            have HBB : Hid (Below B w wB) := Lib.hid (HBR.out.trans (hbB.mono (by omega)))
            have hzB : B + 1 ≤ wB.heap.size := Nat.le_trans hzr hbB.size
            refine (look_any w1.heap.size s v mb sg D _ ms' wB HSB.out HM.out (by omega) _ _ _ y.data.toList hIB hys (fun h0 b off e => by
              have e2 : wr.heap.size = b := by injection e with e; injection e
              subst e2
              intro e3
              have := (HSR'.out.own.lt _ e3).2
              omega)).mono ?_
            rintro e w6 ⟨rfl, ms6, hs6, hmt6, hg6⟩
            have HS6 := Lib.hid hs6
            have HG6 := Lib.hid (show Has w6 G _ 30 from (hg6.block G HGB.out.lt (fun e => own_ne HSB.out.own HGB.out (by decide) e.symm)).trans HGB.out)
            have HO6 := Lib.hid (HOB.out.kept hg6 (own_two HOB.out HSB.out.own (by decide)))
            have HB6 : Hid (Below B w w6) := Lib.hid (HBB.out.trans ⟨hg6.os, hg6.tape, hg6.output, hg6.size, fun j hj => hg6.block j (by omega) (fun e => far_old HSB.out (by omega) e.symm)⟩)
            have hz6 : B + 1 ≤ w6.heap.size := Nat.le_trans hzB hg6.size
            have HMT6 : Hid (∀ i, i < (gath out).1.length → (ms6.getD i false = true ↔ ms5.getD i false = true ∨ ∃ l, l < j + 1 ∧ keyB ((gath out).1.getD i ⟨#[]⟩) <:+: btsOf (ns.getD l ⟨#[]⟩))) := Lib.hid (fun i hi => by
              rw [hmt6 i hi, hmt'.out i hi]
              constructor
              · rintro ((h | ⟨l, hl, h⟩) | h)
                · exact .inl h
                · exact .inr ⟨l, by omega, h⟩
                · exact .inr ⟨j, by omega, by rw [← HY.out]; exact h⟩
              · rintro (h | ⟨l, hl, h⟩)
                · exact .inl (.inl h)
                · by_cases e : l = j
                  · subst e; exact .inr (by rw [← HY.out] at h; exact h)
                  · exact .inl (.inr ⟨l, by omega, h⟩))
            have hroom := HXN.out.room
            unfold maxLen at hroom
            clear hwB hbB hIB hs6 hmt6 hg6 HSB HGB HOB HBB hmt' HSR' HGR HOR HBR c1'
            go_wp2_with fail
            go_roundg (nn + 1 - (j + 1))
            case rel => exact ⟨j + 1, ms6, rfl, by omega, by go_num, HS6.out, HMT6, HG6.out, HO6.out, HB6.out, hz6⟩
            case measure => omega
          · obtain rfl : j = nn := by omega
            have hjj : ¬ (j : Int) < (j : Int) := by omega
            obtain ⟨dss, hdt, hdr⟩ := kids_list HXK.out (fun i hi => by cases HXS.out with | mk _ h2 _ => exact h2 i hi)
            have hkl := HXK.out.length
            have hdl : dss.flatten.length = nk * 5 := by rw [flat_len hdt.five, hdt.1, hkl]
            have htk : (css' ++ [([.int .u8 (k.toNat : Int), .bool ex, .slice ad nd cd, .slice an j cn, .slice ak nk ck] : List Value)]).flatten.take (q * 5) = css'.flatten := by
              rw [List.flatten_append, ← HFL.out, List.take_left]
            have hot := own_take HOR.out (m := q) (by omega)
            rw [htk] at hot
            have hotd : wr.drew.ownsRow B 30 5 (.slice (some ⟨g, 0, none⟩) q gc) q css'.flatten := hot
            have HOTD := Lib.hid hotd
            have hsrc : nk = 0 ∨ ∃ b off, ak = some ⟨b, off, none⟩ ∧ wr.drew.rangeAt b off dss.flatten := hdr.imp id (fun ⟨b, off, e1, hb, h⟩ => ⟨b, off, e1, fun j u hj => (HBR.out.cell (p := ⟨b, off + j, none⟩) (by rw [HB.out]; exact hb)).trans (h j u hj)⟩)
            have HSRC := Lib.hid hsrc
            have HDT := Lib.hid hdt
            have HDL := Lib.hid hdl
            have hgc : q + 1 ≤ gc := by
              rcases HOR.out.2 with ⟨h, _⟩ | ⟨g', c', cur, h, _, _, hnc, _⟩
              · cases h
              · have h2 : gc = c' := by injection h
                omega
            have hgc0 : ¬ gc = 0 := by omega
            have hqg : (q : Int) ≤ (gc : Int) := by omega
            have cg4d : wr.drew.cell? ⟨G, 4, none⟩ = some (.slice ak nk ck) := cg4
            have hcl2 : 1 + cntL ks + cntL ts' = cntL (ts' ++ [T.mk k ex d ns ks]) := by rw [cntL_append, cntL_one, cntT_mk]; omega
            have hk1 := cntL_len ks
            have hnil := HXK.out.nil
            have HNIL := Lib.hid hnil
            clear hdt hdr hot hotd hsrc htk hdl hnil
            go_upto_region 12 with fail
            refine wp_region_still_tail 5 (by kernel_rfl) (by kernel_rfl) ?_
            simp only [List.take_succ_cons, List.take_zero, List.drop_succ_cons, List.drop_zero]
            repeat still_step
            refine wpStill_nil ?_
            change wpList _ _ _ _ _ wr.drew
            refine wpList_append_kids rfl (.tmp 43) (.tmp 45) 28 rfl B 30 i0 _ Try.underlying28 HI.out HZ0.out HZ1.out HZ2.out rfl _ q css'.flatten rfl HOTD.out ak nk ck dss.flatten rfl HNIL.out HDL.out HSRC.out HDT.out.one (by omega) (show B ≤ wr.heap.size by omega) ?_
            intro v7 w7 ho7 hg7
            have hs7 : Sr w7 w1.heap.size s v mb sg D (gath out).1 ms' := (HSR'.out.drewN 1).kept_row HOTD.out (by decide) (by decide) hg7
            have hb7 : Below B w w7 := HBR.out.drew.grown hg7 (show B ≤ wr.heap.size by omega) (fun k hk => (HOTD.out.lt k hk).1)
            have hz7 : B + 1 ≤ w7.heap.size := Nat.le_trans hzr hg7.size
            have HS7 := Lib.hid hs7
            have HB7 := Lib.hid hb7
            have ho7' : w7.ownsRow B 30 5 v7 (ts' ++ ks).length (css' ++ dss).flatten := by
              rw [List.length_append, ← HQ.out, hkl, List.flatten_append]
              exact ho7
            have HO7 := Lib.hid ho7'
            clear hs7 hb7 ho7 ho7' hg7 HSR' HGR HOR HBR HOTD cg4 cg4d
            go_wp2_with fail
            go_roundg (cntL (ts' ++ ks) + 1)
            case rel =>
              refine ⟨ts' ++ ks, css' ++ dss, ms', rfl, HO7.out, HTD'.out.append HDT.out, HS7.out, HB7.out, ?_, hz7, Lib.hid (fun i hi => ?_)⟩
              · rw [cntL_append]; omega
              · rw [← hmt.out i hi, hmt'.out i hi, HMT5.out i hi, metL_append, metL_append, metL_one, metT_mk]
                constructor
                · rintro (((h | h) | ⟨l, hl, h⟩) | h | h)
                  · exact .inl h
                  · exact .inr (.inr (.inl h))
                  · exact .inr (.inr (.inr (.inl ⟨l, by rw [HXN.out.length]; exact hl, h⟩)))
                  · exact .inr (.inl h)
                  · exact .inr (.inr (.inr (.inr h)))
                · rintro (h | h | h | ⟨l, hl, h⟩ | h)
                  · exact .inl (.inl (.inl h))
                  · exact .inr (.inl h)
                  · exact .inl (.inl (.inr h))
                  · exact .inl (.inr ⟨l, by rw [← HXN.out.length]; exact hl, h⟩)
                  · exact .inr (.inr h)
            case measure =>
              rw [cntL_append]; omega

end Go.Proofs.Ytcmgafehidgkmaa

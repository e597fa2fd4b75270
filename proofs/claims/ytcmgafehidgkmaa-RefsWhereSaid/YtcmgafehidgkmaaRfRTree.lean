/-
  The contracts of the reference's Tree and Bytes. Conditions: bounds on the lengths.
-/
import Derived.Test.YtcmgafehidgkmaaRfNamed
import Derived.Test.YtcmgafehidgkmaaRfBytes
namespace Go.Proofs.Ytcmgafehidgkmaa
open Go.RowKit
set_option linter.unusedVariables false

theorem filtB_drop {q : ByteArray → Bool} {l : List ByteArray} {i : Nat} (h : i < l.length) : (l.drop i).filter q = if q (l.getD i ⟨#[]⟩) = true then l.getD i ⟨#[]⟩ :: (l.drop (i + 1)).filter q else (l.drop (i + 1)).filter q := by
  rw [List.drop_eq_getElem_cons h, List.filter_cons, List.getD_eq_getElem?_getD, List.getElem?_eq_getElem h]; rfl

set_option maxRecDepth 100000 in
set_option maxHeartbeats 8000000 in
theorem rtree_any (n : Nat) (cs : List Value) (t : T) (a : Option Addr) (m cap : Nat) (l : List ByteArray) (w : World) (ht : IsT w n cs t) (hsm : Small t) (hS : IsS w a m cap l) (hm : m ≤ 1000) (hsz : ∀ x ∈ l, x.size ≤ 140737488355328) :
    Calls Try.prog 15 #[.agg cs.toArray, .slice a m cap] w fun e w' => AnsPost (MetT t) l w e w' := by
  obtain ⟨i0, hi, hz0, hz1, hz2⟩ := info_parts info_str
  have HI := Lib.hid hi
  have HZ0 := Lib.hid hz0
  have HZ1 := Lib.hid hz1
  have HZ2 := Lib.hid hz2
  have HT := Lib.hid ht
  have HSM := Lib.hid hsm
  have HS := Lib.hid hS
  have HSZ := Lib.hid hsz
  have h5 := isT_five ht
  have hi5 : Hid ((Try.prog.info? 30).map (·.size) = some cs.length) := Lib.hid (by rw [h5]; kernel_rfl)
  clear hi hz0 hz1 hz2 ht hsm hS hsz h5
  go_enter Try.func15, Try.ntmps15
  go_wp2_with fail
  obtain ⟨w1, hw1⟩ : ∃ w1, w1 = w.alloc (.cells cs.toArray 30) := ⟨_, rfl⟩
  have g1 : Has w1 w.heap.size cs 30 := by rw [hw1]; exact Has.new w cs _
  have b1 : Below w.heap.size w w1 := by rw [hw1]; exact (Below.refl _ _).alloc (Nat.le_refl _) _
  rw [← hw1]
  obtain ⟨g, hg⟩ : ∃ g, g = w.heap.size := ⟨_, rfl⟩
  rw [← hg] at g1 b1 ⊢
  have HG := Lib.hid hg
  have G1 := Lib.hid g1
  have B1 := Lib.hid b1
  have HS1 := Lib.hid (HS.out.later (by rw [← hg]; exact b1))
  clear hw1 g1 b1 hg
  refine (known_any a m cap l w1 HS1.out hm HSZ.out).mono ?_
  rintro e w2 ⟨v2, kn, rfl, hkn, ho2, hkl, hk32, hb2⟩
  obtain ⟨ka, kc, rfl, hs2, _⟩ := isS_of_owns ho2
  have HKN := Lib.hid hkn
  have HS2 := Lib.hid hs2
  have HK32 := Lib.hid hk32
  have G2 := Lib.hid (G1.out.below hb2 G1.out.lt)
  have B2 := Lib.hid (B1.out.trans (hb2.mono (Nat.le_of_lt G1.out.lt)))
  have HKM : Hid (∀ i, i < kn.length → (kn.getD i ⟨#[]⟩).size ≤ 140737488355328) := Lib.hid (fun i hi => by
    have hm : btsOf (kn.getD i ⟨#[]⟩) ∈ kn.map btsOf := by
      rw [List.getD_eq_getElem?_getD, List.getElem?_eq_getElem hi]; exact List.mem_map_of_mem (List.getElem_mem hi)
    rw [hkn] at hm
    have hm2 := (List.mem_filter.1 (first2_mem _ _ _ _ hm)).1
    rw [sortT_mem] at hm2
    obtain ⟨x, hx, e⟩ := List.mem_map.1 hm2
    have h1 := HSZ.out x hx
    have h2 := congrArg List.length e
    unfold btsOf at h2
    simp only [Array.length_toList, ByteArray.size_data] at h2
    omega)
  obtain ⟨k, hk⟩ : ∃ k, k = kn.length := ⟨_, rfl⟩
  rw [← hk]
  rw [← hk] at HS2 HKM hkl
  have HKL := Lib.hid hk
  have hat := hs2.at_
  rw [← hk] at hat
  clear hkn ho2 hs2 hk32 hb2 hk G1 B1
  go_wp2_with fail
  obtain ⟨B0, hB⟩ : ∃ B0, B0 = w2.heap.size := ⟨_, rfl⟩
  have HB := Lib.hid hB
  have hgB : g < B0 := by rw [hB]; exact G2.out.lt
  clear hB
  go_loopg [6, 7] (k + 1) (fun gk v6 v7 wr => Below B0 w2 wr ∧ ∃ (i : Nat) (out : List ByteArray), gk = k + 1 - i ∧ i ≤ k ∧ v7 = .int .i64 i ∧ wr.ownsRow B0 9 1 v6 out.length (out.map Value.string) ∧ out.length ≤ i ∧ Hid (out ++ (kn.drop i).filter (fun x => dQ (MetT t) (keyB x)) = kn.filter fun x => dQ (MetT t) (keyB x)))
  case atStart => exact ⟨Below.refl _ _, 0, [], rfl, Nat.zero_le _, rfl, World.ownsRow_nil _ _ _ _, by simp, Lib.hid rfl⟩
  case round =>
    obtain ⟨hb, i, out, rfl, hin, rfl, how, hol, hrest⟩ := hrel
    have HBR := Lib.hid hb
    have HOW := Lib.hid how
    have HBS : Hid (B0 ≤ wr.heap.size) := Lib.hid (by have := hb.size; rw [HB.out]; exact this)
    have HGR : Hid (Has wr g cs 30) := Lib.hid (G2.out.below hb hgB)
    obtain ⟨ov, oc, rfl⟩ := row_form2 how
    clear hb how
    by_cases hlt : i < k
    · rcases hat with h0 | ⟨b, off, rfl, hbb, hc⟩
      · omega
      have hii : (i : Int) < (k : Int) := by omega
      have HBB := Lib.hid hbb
      obtain ⟨x, hx⟩ : ∃ x, x = kn.getD i ⟨#[]⟩ := ⟨_, rfl⟩
      have c1 : wr.cell? ⟨b, off + i, none⟩ = some (.string x) := by
        rw [hx]; exact (HBR.out.cell (p := ⟨b, off + i, none⟩) (by rw [HB.out]; exact hbb)).trans (hc i hlt)
      have hxm : x ∈ kn := by rw [hx, List.getD_eq_getElem?_getD, List.getElem?_eq_getElem (by rw [← HKL.out]; exact hlt)]; exact List.getElem_mem _
      have hx32 := HK32.out x hxm
      have hxs : x.size ≤ 140737488355328 := by rw [hx]; exact HKM.out i hlt
      have hfd := filtB_drop (q := fun x => dQ (MetT t) (keyB x)) (l := kn) (i := i) (by rw [← HKL.out]; exact hlt)
      rw [← hx] at hfd
      have HFD := Lib.hid hfd
      have HC := Lib.hid hc
      have HX := Lib.hid hx
      have c1d : wr.drew.cell? ⟨b, off + i, none⟩ = some (.string x) := c1
      have hld : (Instr.loadAt 30 (.pointer (some ⟨g, 0, none⟩))).run Try.prog wr.drew = .ok (.agg cs.toArray) wr.drew :=
        run_loadAt_mid (P := Try.prog) wr.drew g 0 30 cs _ (fun j u hj => by
          rw [Nat.zero_add]; exact HGR.out.drew.cellAt hj) Try.underlying30 rfl hi5.out
      clear hx hc hbb hfd hxm
      go_upto_region 6 with fail
      refine wp_region_still_tail 5 (by kernel_rfl) (by kernel_rfl) ?_
      simp only [List.take_succ_cons, List.take_zero, List.drop_succ_cons, List.drop_zero]
      refine still_ld (by rfl) _ _ rfl _ _ rfl hld ?_
      try simp only [Act.put, List.setIfInBounds_toArray, List.set_cons_zero, List.set_cons_succ]
      repeat still_step
      refine wpStill_nil ?_
      change wpList _ _ _ _ _ wr.drew
      obtain ⟨wd, hwd⟩ : ∃ wd, wd = wr.drew := ⟨_, rfl⟩
      rw [← hwd]
      have HBD : Hid (Below B0 w2 wd) := Lib.hid (by rw [hwd]; exact HBR.out.drew)
      have HOD : Hid (wd.ownsRow B0 9 1 (.slice ov out.length oc) out.length (out.map Value.string)) := Lib.hid (by rw [hwd]; exact HOW.out)
      have HSD : Hid (B0 ≤ wd.heap.size) := Lib.hid (by rw [hwd]; exact HBS.out)
      clear hld c1d c1 hwd HBR HOW HBS HGR
      have HTD := Lib.hid (IsT.later (by rw [← HG.out]; exact B2.out.trans (HBD.out.mono (Nat.le_of_lt hgB))) n cs t HT.out)
      go_wp2_with fail
      refine (named_any x hx32 hxs n cs t wd HTD.out HSM.out).mono ?_
      rintro e w3 ⟨rfl, hb3⟩
      have HB3 : Hid (Below B0 w2 w3) := Lib.hid (HBD.out.trans (hb3.mono HSD.out))
      have HO3 : Hid (w3.ownsRow B0 9 1 (.slice ov out.length oc) out.length (out.map Value.string)) := Lib.hid (HOD.out.kept (row := none) (grown_of_below hb3 none) (by
        cases ov with
        | none => left; rfl
        | some q => right; simp [Value.ownBlock]))
      have HBS3 : Hid (B0 ≤ w3.heap.size) := Lib.hid (Nat.le_trans HSD.out hb3.size)
      have c3 : w3.cell? ⟨b, off + i, none⟩ = some (.string x) := by
        rw [HX.out]; exact (HB3.out.cell (p := ⟨b, off + i, none⟩) (by rw [HB.out]; exact HBB.out)).trans (HC.out i hlt)
      clear hb3 HBD HOD HSD HTD
      obtain ⟨q, hq⟩ : ∃ q, q = dQ (MetT t) (keyB x) := ⟨_, rfl⟩
      have hfd := HFD.out
      rw [← hq] at hfd ⊢
      rw [hfd] at hrest
      clear hq hfd HFD
      cases q with
      | false =>
        have HREST : Hid (out ++ (kn.drop (i + 1)).filter (fun x => dQ (MetT t) (keyB x)) = kn.filter fun x => dQ (MetT t) (keyB x)) := Lib.hid (by
          have h := hrest.out
          rw [if_neg (by decide)] at h
          exact h)
        clear hrest
        go_wp2_with fail
        go_roundg (k + 1 - (i + 1))
        case rel => exact ⟨HB3.out, i + 1, out, rfl, by omega, by go_num, HO3.out, by omega, HREST⟩
        case measure => omega
      | true =>
        have HREST : Hid (out ++ [x] ++ (kn.drop (i + 1)).filter (fun x => dQ (MetT t) (keyB x)) = kn.filter fun x => dQ (MetT t) (keyB x)) := Lib.hid (by
          have h := hrest.out
          rw [if_pos rfl] at h
          rw [List.append_assoc]; exact h)
        clear hrest
        go_wp2_with (at_builtin; go_must (refine wpList_append_lies _ rfl (.tmp 22) (.tmp 27) 23 rfl B0 9 i0 (.string ByteArray.empty) 1 16 Try.underlying23 HI.out HZ0.out HZ1.out HZ2.out rfl (by omega) _ out.length (out.map Value.string) rfl (HO3.out.alloc _) ⟨w3.heap.size, 0, none⟩ 1 1 [.string x] rfl rfl ?a1 ?a2 ?a3 ?a4 ?a5 ?a6 _ rfl ?a7))
        try (case a1 => (intro j u hj; rw [Addr.add_mid]; exact (Has.new w3 [.string x] _).cellAt (by rw [Nat.zero_add]; exact hj)))
        try (case a2 => first | rfl | (intro u hu; simp only [List.mem_cons, List.not_mem_nil, or_false] at hu; rcases hu with rfl; rfl))
        try (case a3 => omega)
        try (case a4 => (unfold maxLen; omega))
        try (case a5 => omega)
        try (case a6 => (have := HBS3.out; first | omega | (simp; omega)))
        intro g1 cap1 w4 hown hgrow hat2 hlt2
        have HB4 : Hid (Below B0 w2 w4) := Lib.hid ((HB3.out.alloc HBS3.out _).grown hgrow (by have := HBS3.out; simp; omega) (fun k hk => (HO3.out.lt k hk).1))
        have HO4 : Hid (w4.ownsRow B0 9 1 (.slice (some ⟨g1, 0, none⟩) (out.length + 1) cap1) (out.length + 1) ((out ++ [x]).map Value.string)) := Lib.hid (by first | (rw [List.map_append]; exact hown) | simpa using hown)
        clear hown hgrow hat2 hlt2
        go_wp2_with fail
        go_roundg (k + 1 - (i + 1))
        case rel => exact ⟨HB4.out, i + 1, out ++ [x], rfl, by omega, by go_num, by rw [List.length_append]; exact HO4.out, by simp only [List.length_append, List.length_cons, List.length_nil]; omega, HREST⟩
        case measure => omega
    · obtain rfl : i = k := by omega
      have hii : ¬ (i : Int) < (i : Int) := by omega
      have hdn : kn.drop i = [] := List.drop_of_length_le (by rw [HKL.out]; exact Nat.le_refl _)
      have HE : Hid (out.map btsOf = ansT (MetT t) (l.map btsOf)) := Lib.hid (by
        have h := hrest.out
        rw [hdn, List.filter_nil, List.append_nil] at h
        rw [h]
        unfold ansT
        rw [← HKN.out, List.filter_map]
        rfl)
      have hll := HS.out.length
      clear hat hdn hrest
      go_wp2_with fail
      go_ret
      exact ⟨_, out, rfl, HE.out, owns_lower HOW.out (by rw [← HG.out]; omega), by omega, by rw [← HG.out]; exact B2.out.trans (HBR.out.mono (by omega))⟩

theorem metT_leaf (p : List UInt8) (K : Bts) : MetT (.mk 0 false p [] []) K ↔ K <:+: p := by
  rw [metT_mk]
  constructor
  · rintro (h | ⟨i, hi, _⟩ | ⟨i, hi, _⟩)
    · exact h
    · simp at hi
    · simp at hi
  · exact .inl
theorem ansT_congr {Q Q' : Bts → Prop} (h : ∀ k, Q k ↔ Q' k) (l : List Bts) : ansT Q l = ansT Q' l := by unfold ansT; rw [dQ_congr h]
theorem AnsPost.congr {Q Q' : Bts → Prop} (h : ∀ k, Q k ↔ Q' k) {l : List ByteArray} {w w' : World} {e : Ending} (hp : AnsPost Q l w e w') : AnsPost Q' l w e w' := by
  obtain ⟨v, o, h1, h2, h3⟩ := hp
  exact ⟨v, o, h1, h2.trans (ansT_congr h _), h3⟩
theorem isS_nil (w : World) : IsS w none 0 0 [] := ⟨rfl, .inl rfl, fun _ => ⟨rfl, rfl⟩, ⟨Nat.le_refl _, Nat.zero_le _⟩⟩
theorem isK_nil (R : List Value → T → Prop) (w : World) : IsK R w none 0 0 [] := ⟨rfl, .inl rfl, fun _ => ⟨rfl, rfl⟩, ⟨Nat.le_refl _, Nat.zero_le _⟩⟩

set_option maxRecDepth 100000 in
set_option maxHeartbeats 8000000 in
theorem rbytes_any (a : Option Addr) (n cap : Nat) (p : List UInt8) (a' : Option Addr) (m cap' : Nat) (l : List ByteArray) (w : World) (hB : IsB w a n cap p) (hn : n ≤ 140737488355328) (hS : IsS w a' m cap' l) (hm : m ≤ 1000) (hsz : ∀ x ∈ l, x.size ≤ 140737488355328) :
    Calls Try.prog 11 #[.slice a n cap, .slice a' m cap'] w fun e w' => AnsPost (fun K => K <:+: p) l w e w' := by
  have hT : IsT w 1 [.int .u8 0, .bool false, .slice a n cap, .slice none 0 0, .slice none 0 0] (.mk 0 false p [] []) :=
    ⟨_, _, _, _, _, _, _, _, _, rfl, hB, isS_nil w, isK_nil _ w⟩
  have hsm : Small (.mk 0 false p [] []) := .mk (fun i hi => by simp at hi) (fun i hi => by simp at hi) ⟨by rw [hB.length]; exact hn, by simp, by simp⟩
  have HK := Lib.hid (rtree_any 1 _ _ a' m cap' l w hT hsm hS hm hsz)
  clear hT hsm hB hS hsz
  go_enter Try.func11, Try.ntmps11
  go_wp2_with fail
  refine HK.out.mono ?_
  rintro e w1 hq
  obtain ⟨v, o, rfl, h2, h3⟩ := AnsPost.congr (metT_leaf p) hq
  have HR := Lib.hid (show AnsPost (fun K => K <:+: p) l w (.returned v) w1 from ⟨v, o, rfl, h2, h3⟩)
  clear hq h2 h3 HK
  go_wp2_with fail
  refine bodyPost_ret (results_tmp rfl _ _ _) rfl ?_
  exact HR.out

end Go.Proofs.Ytcmgafehidgkmaa

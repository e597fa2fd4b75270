/-
  The reference's Closure. Conditions: as many needs as names; bounds on their number and on the roots'.
-/
import Derived.Test.YtdliecailkkciaaORSort
namespace Go.Proofs.Ytdliecailkkciaa
open Go.RowKit
set_option linter.unusedVariables false

theorem put_ris {l o : List ByteArray} {s : ByteArray} (hl : l.Pairwise (fun x y => btsOf x < btsOf y)) (h : o.map btsOf = putT (btsOf s) (l.map btsOf)) : o.Pairwise (fun x y => btsOf x < btsOf y) ∧ ∀ t, t ∈ o ↔ t = s ∨ t ∈ l := by
  have h1 : Inc (o.map btsOf) := by rw [h]; exact putT_inc (List.pairwise_map.2 hl)
  refine ⟨List.pairwise_map.1 h1, fun t => ?_⟩
  have h2 : btsOf t ∈ o.map btsOf ↔ btsOf t = btsOf s ∨ btsOf t ∈ l.map btsOf := by rw [h]; exact putT_mem
  have h3 : ∀ L : List ByteArray, btsOf t ∈ L.map btsOf ↔ t ∈ L := fun L => by
    constructor
    · intro hm
      obtain ⟨y, hy, e⟩ := List.mem_map.1 hm
      rw [← bts_inj e]; exact hy
    · intro hm; exact List.mem_map.2 ⟨t, hm, rfl⟩
  rw [h3, h3] at h2
  rw [h2]
  exact or_congr ⟨bts_inj, fun e => by rw [e]⟩ Iff.rfl
theorem ris_nodup {l : List ByteArray} (h : l.Pairwise (fun x y => btsOf x < btsOf y)) : l.Nodup := h.imp (fun h e => by subst e; exact bt_irr _ h)
/-- What the reference's closure holds at every moment. -/
structure CR (ns : List ByteArray) (ks : List (List ByteArray)) (R o : List ByteArray) : Prop where
  ris : o.Pairwise (fun x y => btsOf x < btsOf y)
  sub : ∀ s ∈ o, Rch (finN ns ks) R s
  roots : ∀ s ∈ R, s ∈ ns → s ∈ o
theorem CR.len {ns : List ByteArray} {ks : List (List ByteArray)} {R o : List ByteArray} (h : CR ns ks R o) : o.length ≤ (risL ns).length :=
  nodup_len (ris_nodup h.ris) (fun s hs => risL_mem.2 ((fin_some ns ks s).1 (h.sub s hs).isN))
theorem CR.done {ns : List ByteArray} {ks : List (List ByteArray)} {R o : List ByteArray} (h : CR ns ks R o) (hc : ∀ s ∈ ns, s ∈ o ∨ ∀ t ∈ o, ¬ Need ns ks t s) (s : ByteArray) : s ∈ o ↔ Rch (finN ns ks) R s := by
  refine ⟨h.sub s, fun hr => ?_⟩
  induction hr with
  | root h1 h2 => exact h.roots _ h1 ((fin_some _ _ _).1 h2)
  | step h1 h2 h3 ih =>
    rcases hc _ ((fin_some _ _ _).1 h3) with h4 | h4
    · exact h4
    · exact absurd ((fin_mem _ _ _ _).1 h2) (h4 _ ih)
theorem CR.put {ns : List ByteArray} {ks : List (List ByteArray)} {R o o' : List ByteArray} {s t : ByteArray} (h : CR ns ks R o) (ht : t ∈ o) (hn : Need ns ks t s) (hs : s ∈ ns) (he : o'.map btsOf = putT (btsOf s) (o.map btsOf)) : CR ns ks R o' := by
  obtain ⟨h1, h2⟩ := put_ris h.ris he
  refine ⟨h1, fun u hu => ?_, fun u hu hun => (h2 u).2 (.inr (h.roots u hu hun))⟩
  rcases (h2 u).1 hu with rfl | h3
  · exact .step (h.sub t ht) ((fin_mem _ _ _ _).2 hn) ((fin_some _ _ _).2 hs)
  · exact h.sub u h3
theorem put_more {l o : List ByteArray} {s : ByteArray} (hl : l.Pairwise (fun x y => btsOf x < btsOf y)) (h : o.map btsOf = putT (btsOf s) (l.map btsOf)) (hs : s ∉ l) : l.length < o.length := by
  obtain ⟨h1, h2⟩ := put_ris hl h
  have h3 := nodup_len (a := s :: l) (b := o) (List.nodup_cons.2 ⟨hs, ris_nodup hl⟩) (fun t ht => (h2 t).2 (List.mem_cons.1 ht))
  rw [List.length_cons] at h3
  omega
/-- What a pass over the names keeps: so far i of them. -/
structure P4 (ns : List ByteArray) (ks : List (List ByteArray)) (R o0 o : List ByteArray) (i g : Nat) : Prop where
  cr : CR ns ks R o
  bit : g ≤ 1
  same : g = 0 → o = o0 ∧ ∀ j, j < i → (risL ns).getD j ⟨#[]⟩ ∈ o ∨ ∀ t ∈ o, ¬ Need ns ks t ((risL ns).getD j ⟨#[]⟩)
  more : g = 1 → o0.length < o.length
theorem P4.keep {ns : List ByteArray} {ks : List (List ByteArray)} {R o0 o : List ByteArray} {i g : Nat} (h : P4 ns ks R o0 o i g) (hc : (risL ns).getD i ⟨#[]⟩ ∈ o ∨ ∀ t ∈ o, ¬ Need ns ks t ((risL ns).getD i ⟨#[]⟩)) : P4 ns ks R o0 o (i + 1) g :=
  ⟨h.cr, h.bit, fun hg => ⟨(h.same hg).1, fun j hj => by
    by_cases e : j = i
    · rw [e]; exact hc
    · exact (h.same hg).2 j (by omega)⟩, h.more⟩
theorem P4.put {ns : List ByteArray} {ks : List (List ByteArray)} {R o0 o o' : List ByteArray} {i g : Nat} {t : ByteArray} (h : P4 ns ks R o0 o i g) (hi : i < (risL ns).length) (hno : (risL ns).getD i ⟨#[]⟩ ∉ o) (ht : t ∈ o) (hn : Need ns ks t ((risL ns).getD i ⟨#[]⟩)) (he : o'.map btsOf = putT (btsOf ((risL ns).getD i ⟨#[]⟩)) (o.map btsOf)) : P4 ns ks R o0 o' (i + 1) 1 := by
  have hm := put_more h.cr.ris he hno
  refine ⟨h.cr.put ht hn (risL_mem.1 (getD_mem2 hi)) he, Nat.le_refl _, (fun e => by cases e), fun _ => ?_⟩
  have hb := h.bit
  by_cases hg : g = 0
  · rw [← (h.same hg).1]; exact hm
  · have := h.more (by omega)
    omega
set_option maxRecDepth 100000 in
set_option maxHeartbeats 8000000 in
theorem rclosure_any (w : World) (a : Option Addr) (n c : Nat) (ns : List ByteArray) (hS : IsS w a n c ns) (ak : Option Addr) (ck : Nat) (ks : List (List ByteArray)) (hK : IsSS w ak n ck ks) (ar : Option Addr) (m cr : Nat) (R : List ByteArray) (hR : IsS w ar m cr R) (hn : n ≤ 1000) (hm : m ≤ 1000) :
    Calls Try.prog 16 #[.slice a n c, .slice ak n ck, .slice ar m cr] w fun e w' => ∃ (v : Value) (o : List ByteArray), e = .returned v ∧ (o.Pairwise (fun x y => btsOf x < btsOf y) ∧ ∀ s, s ∈ o ↔ Rch (finN ns ks) R s) ∧ w'.ownsRow w.heap.size 9 1 v o.length (o.map Value.string) ∧ Below w.heap.size w w' := by
  obtain rfl : m = R.length := hR.length.symm
  have HS := Lib.hid hS
  have HK := Lib.hid hK
  have HR := Lib.hid hR
  have HN := Lib.hid hn
  have HM := Lib.hid hm
  have hmb : (R.length : Int) ≤ 1000 := by omega
  clear hS hK hR hn hm
  go_enter Try.func16, Try.ntmps16
  go_wp2_with fail
  refine (rsort_any a n c ns w HS.out HN.out).mono ?_
  rintro e w1 ⟨v, G, rfl, hout, how, hl, hb⟩
  have hG : G = risL ns := risL_of hout
  subst hG
  obtain ⟨ga, gc, rfl, hgs⟩ := owns_isS how
  have HGS := Lib.hid hgs
  have B1 := Lib.hid hb
  have HGL : Hid ((risL ns).length ≤ 1000) := Lib.hid (by have := HN.out; omega)
  have HSZ := Lib.hid hb.size
  have HRR := Lib.hid (HR.out.later hb)
  have HQN : Hid (∀ W, Below w1.heap.size w1 W → ∀ s t, Calls Try.prog 23 #[.slice a n c, .slice ak n ck, .string s, .string t] W fun e w' => e = .returned (.bool (needB ns ks s t)) ∧ w' = W) := Lib.hid (fun W hb2 s t => needs_any W a n c ns (HS.out.later (hb.trans (hb2.mono hb.size))) ak ck ks (HK.out.later (hb.trans (hb2.mono hb.size))) s t)
  obtain ⟨G, hG⟩ : ∃ G, G = risL ns := ⟨_, rfl⟩
  rw [← hG] at HGS HGL ⊢
  have HG := Lib.hid hG
  have hgb : (G.length : Int) ≤ 1000 := by have := HGL.out; omega
  clear hG hout how hgs hl hb
  go_wp2_with fail
  go_loopg [8, 9] R.length (fun gk v8 v9 wr => ∃ (i : Nat) (o : List ByteArray), gk = R.length - i ∧ i ≤ R.length ∧ v9 = .int .i64 (i : Int) ∧ Hid (o.Pairwise (fun x y => btsOf x < btsOf y) ∧ ∀ s, s ∈ o ↔ s ∈ R.take i ∧ s ∈ ns) ∧ RS w1 wr v8 o)
  case atStart => exact ⟨0, [], rfl, Nat.zero_le _, rfl, Lib.hid ⟨List.Pairwise.nil, fun s => by simp⟩, ⟨Below.refl _ _, World.ownsRow_nil _ _ _ _⟩⟩
  case round =>
    obtain ⟨i, o, rfl, hi, rfl, HO, hr⟩ := hrel
    have HRS := Lib.hid hr
    have HOL : Hid (o.length ≤ 1000) := Lib.hid (by
      have h1 := nodup_len (ris_nodup HO.out.1) (fun s hs => risL_mem.2 ((HO.out.2 s).1 hs).2)
      rw [← HG.out] at h1
      have := HGL.out
      omega)
    obtain ⟨oa, oc, rfl, _⟩ := owns_isS hr.own
    clear hr
    by_cases hlt : i < R.length
    · have hki : (i : Int) < (R.length : Int) := by omega
      have hk0 : (0 : Int) ≤ (i : Int) := by omega
      have HLT := Lib.hid hlt
      obtain ⟨x, hx⟩ : ∃ x, x = R.getD i ⟨#[]⟩ := ⟨_, rfl⟩
      obtain ⟨b, off, rfl, hbl, hc⟩ := HRR.out.cell hlt
      rw [← hx] at hc
      have c1 := (HRS.out.low.cell (p := ⟨b, off + i, none⟩) hbl).trans hc
      have HTK : Hid (R.take (i + 1) = R.take i ++ [x]) := Lib.hid (by rw [take_next hlt, hx])
      clear hx hbl hc hlt
      go_wp2_with fail
      refine (in_any wr ga G.length gc G (HGS.out.later HRS.out.low) x).mono ?_
      rintro e w2 ⟨rfl, hw2⟩
      obtain rfl : wr = w2 := hw2.symm
      clear hw2
      by_cases hin : x ∈ G
      · rw [inB_yes hin]
        have HIN := Lib.hid hin
        clear hin
        go_wp2_with fail
        refine (put_any oa o.length oc o wr HRS.out.isS (by have := HOL.out; omega) x).mono ?_
        rintro e w3 ⟨v3, o3, rfl, he, how, hb⟩
        have HO3 : Hid (o3.Pairwise (fun x y => btsOf x < btsOf y) ∧ ∀ s, s ∈ o3 ↔ s ∈ R.take (i + 1) ∧ s ∈ ns) := Lib.hid (by
          obtain ⟨h1, h2⟩ := put_ris HO.out.1 he
          refine ⟨h1, fun s => ?_⟩
          rw [h2 s, HO.out.2 s, HTK.out, List.mem_append, List.mem_singleton]
          constructor
          · rintro (rfl | ⟨h3, h4⟩)
            · exact ⟨.inr rfl, risL_mem.1 (by rw [← HG.out]; exact HIN.out)⟩
            · exact ⟨.inl h3, h4⟩
          · rintro ⟨h3 | h3, h4⟩
            · exact .inr ⟨h3, h4⟩
            · exact .inl h3)
        have HR3 : Hid (RS w1 w3 v3 o3) := Lib.hid ⟨HRS.out.low.trans (hb.mono HRS.out.low.size), owns_down how HRS.out.low.size⟩
        clear he how hb
        go_wp2_with fail
        go_roundg (R.length - (i + 1))
        case rel => exact ⟨i + 1, o3, rfl, HLT.out, by go_num, HO3, HR3.out⟩
        case measure => have := HLT.out; omega
      · rw [inB_no hin]
        have HO3 : Hid (o.Pairwise (fun x y => btsOf x < btsOf y) ∧ ∀ s, s ∈ o ↔ s ∈ R.take (i + 1) ∧ s ∈ ns) := Lib.hid (by
          refine ⟨HO.out.1, fun s => ?_⟩
          rw [HO.out.2 s, HTK.out, List.mem_append, List.mem_singleton]
          constructor
          · rintro ⟨h3, h4⟩
            exact ⟨.inl h3, h4⟩
          · rintro ⟨h3 | rfl, h4⟩
            · exact ⟨h3, h4⟩
            · exact absurd (by rw [HG.out]; exact risL_mem.2 h4) hin)
        clear hin
        go_wp2_with fail
        go_roundg (R.length - (i + 1))
        case rel => exact ⟨i + 1, o, rfl, HLT.out, by go_num, HO3, HRS.out⟩
        case measure => have := HLT.out; omega
    · obtain rfl : i = R.length := by omega
      have hki : ¬ (R.length : Int) < (R.length : Int) := by omega
      have HCR : Hid (CR ns ks R o) := Lib.hid ⟨HO.out.1, fun s hs => by
        have h := (HO.out.2 s).1 hs
        rw [List.take_length] at h
        exact .root h.1 ((fin_some _ _ _).2 h.2), fun s hs hn => (HO.out.2 s).2 ⟨by rw [List.take_length]; exact hs, hn⟩⟩
      clear HO hlt hi
      go_wp2_with fail
      go_loopg [8, 10] (2 * (G.length - o.length) + 1) (fun gk v8 v10 wr => ∃ (o : List ByteArray) (g : Nat), gk = 2 * (G.length - o.length) + g ∧ g ≤ 1 ∧ v10 = .bool (g == 1) ∧ Hid (CR ns ks R o ∧ (g = 0 → ∀ s ∈ ns, s ∈ o ∨ ∀ t ∈ o, ¬ Need ns ks t s)) ∧ RS w1 wr v8 o)
      case atStart => exact ⟨o, 1, rfl, Nat.le_refl _, rfl, Lib.hid ⟨HCR.out, fun e => by cases e⟩, HRS.out⟩
      case round =>
        clear HCR HOL HRS
        obtain ⟨o, g, rfl, hg, rfl, HC, hr⟩ := hrel
        have HRS := Lib.hid hr
        clear hr
        rcases Nat.lt_or_ge g 1 with hg1 | hg1
        · obtain rfl : g = 0 := by omega
          clear hg hg1
          go_wp2_with fail
          go_ret
          exact ⟨_, rfl, o, ⟨HC.out.1.ris, HC.out.1.done (HC.out.2 trivial)⟩, owns_down HRS.out.own HSZ.out, B1.out.trans (HRS.out.low.mono HSZ.out)⟩
        · obtain rfl : g = 1 := by omega
          clear hg hg1
          go_wp2_with fail
          go_loopg [8, 10, 11] G.length (fun gk v8 v10 v11 wr => ∃ (i : Nat) (p : List ByteArray) (g : Nat), gk = G.length - i ∧ i ≤ G.length ∧ v11 = .int .i64 (i : Int) ∧ v10 = .bool (g == 1) ∧ Hid (P4 ns ks R o p i g) ∧ RS w1 wr v8 p)
          case atStart => exact ⟨0, o, 0, rfl, Nat.zero_le _, rfl, rfl, Lib.hid ⟨HC.out.1, by omega, fun _ => ⟨rfl, fun j hj => by omega⟩, fun e => by cases e⟩, HRS.out⟩
          case round =>
            clear HRS
            obtain ⟨i, p, g, rfl, hi, rfl, rfl, HP, hr⟩ := hrel
            have HRS := Lib.hid hr
            have HPL : Hid (p.length ≤ 1000) := Lib.hid (by have h1 := HP.out.cr.len; rw [← HG.out] at h1; have := HGL.out; omega)
            obtain ⟨pa, pc, rfl, _⟩ := owns_isS hr.own
            clear hr
            by_cases hlt : i < G.length
            · have hki : (i : Int) < (G.length : Int) := by omega
              have hk0 : (0 : Int) ≤ (i : Int) := by omega
              have hni : (i : Int) + 1 ≤ 9223372036854775807 := by omega
              have HLT := Lib.hid hlt
              obtain ⟨x, hx⟩ : ∃ x, x = G.getD i ⟨#[]⟩ := ⟨_, rfl⟩
              obtain ⟨b, off, hga, hbl, hc⟩ := HGS.out.cell hlt
              rw [← hx] at hc
              subst hga
              have HCC : Hid (∀ W, Below w1.heap.size w1 W → W.cell? ⟨b, off + i, none⟩ = some (.string x)) := Lib.hid (fun W hb => (hb.cell (p := ⟨b, off + i, none⟩) hbl).trans hc)
              have c1 := HCC.out wr HRS.out.low
              have HX : Hid (x = (risL ns).getD i ⟨#[]⟩) := Lib.hid (by rw [hx, HG.out])
              have HIL : Hid (i < (risL ns).length) := Lib.hid (by rw [← HG.out]; exact hlt)
              clear hx hbl hc hlt
              go_wp2_with fail
              refine (in_any wr pa p.length pc p HRS.out.isS x).mono ?_
              rintro e w2 ⟨rfl, hw2⟩
              obtain rfl : wr = w2 := hw2.symm
              clear hw2
              by_cases hin : x ∈ p
              · rw [inB_yes hin]
                have HP2 : Hid (P4 ns ks R o p (i + 1) g) := Lib.hid (HP.out.keep (.inl (by rw [← HX.out]; exact hin)))
                clear hin
                go_wp2_with fail
                go_roundg (G.length - (i + 1))
                case rel => exact ⟨i + 1, p, g, rfl, HLT.out, by go_num, rfl, HP2, HRS.out⟩
                case measure => have := HLT.out; omega
              · rw [inB_no hin]
                have HIN := Lib.hid hin
                clear hin c1
                go_wp2_with fail
                go_loopg [8, 10, 12] p.length (fun gk v8 v10 v12 wr => ∃ kk : Nat, gk = p.length - kk ∧ kk ≤ p.length ∧ v12 = .int .i64 (kk : Int) ∧ v8 = .slice pa p.length pc ∧ v10 = .bool (g == 1) ∧ Hid (∀ j, j < kk → ¬ Need ns ks (p.getD j ⟨#[]⟩) x) ∧ RS w1 wr (.slice pa p.length pc) p)
                case atStart => exact ⟨0, rfl, Nat.zero_le _, rfl, rfl, rfl, Lib.hid (fun j hj => by omega), HRS.out⟩
                case round =>
                  clear HRS
                  obtain ⟨kk, rfl, hkk, rfl, rfl, rfl, HNN, hr⟩ := hrel
                  have HRS := Lib.hid hr
                  clear hr
                  have hpb : (p.length : Int) ≤ 1000 := by have := HPL.out; omega
                  by_cases hlt2 : kk < p.length
                  · have hik : (kk : Int) < (p.length : Int) := by omega
                    have hik0 : (0 : Int) ≤ (kk : Int) := by omega
                    have HLT2 := Lib.hid hlt2
                    obtain ⟨y, hy⟩ : ∃ y, y = p.getD kk ⟨#[]⟩ := ⟨_, rfl⟩
                    obtain ⟨pb, poff, hpa, _, hc⟩ := HRS.out.isS.cell hlt2
                    rw [← hy] at hc
                    subst hpa
                    have c1 := HCC.out wr HRS.out.low
                    have HQW : Hid (∀ q, Calls Try.prog 23 #[.slice a n c, .slice ak n ck, .string y, .string x] (wr.drewN q) fun e w' => e = .returned (.bool (needB ns ks y x)) ∧ w' = wr.drewN q) := Lib.hid (fun q => HQN.out _ (HRS.out.drewN q).low y x)
                    have HY := Lib.hid hy
                    have HYM : Hid (y ∈ p) := Lib.hid (by rw [hy]; exact getD_mem2 hlt2)
                    clear hy hlt2
                    by_cases hnd : Need ns ks y x
                    · rw [needB_yes hnd] at HQW
                      have HND := Lib.hid hnd
                      clear hnd
                      go_wp2_with fail
                      go_quiet ((go_at_call 23; exact Calls.quiet_of_same (HQW.out _)))
                      go_wp2_with fail
                      refine (put_any _ p.length pc p (wr.drewN nq) (HRS.out.drewN nq).isS (by have := HPL.out; omega) x).mono ?_
                      rintro e w3 ⟨v3, o3, rfl, he, how, hb⟩
                      have HP3 : Hid (P4 ns ks R o o3 (i + 1) 1) := Lib.hid (HP.out.put HIL.out (by rw [← HX.out]; exact HIN.out) HYM.out (by rw [← HX.out]; exact HND.out) (by rw [← HX.out]; exact he))
                      have HR3 : Hid (RS w1 w3 v3 o3) := Lib.hid ⟨(HRS.out.drewN nq).low.trans (hb.mono (HRS.out.drewN nq).low.size), owns_down how (HRS.out.drewN nq).low.size⟩
                      clear he how hb
                      go_wp2_with fail
                      go_roundg (G.length - (i + 1))
                      case rel => exact ⟨i + 1, o3, 1, rfl, HLT.out, by go_num, rfl, HP3, HR3.out⟩
                      case measure => have := HLT.out; omega
                    · rw [needB_no hnd] at HQW
                      have HNN2 : Hid (∀ j, j < kk + 1 → ¬ Need ns ks (p.getD j ⟨#[]⟩) x) := Lib.hid (fun j hj => by
                        by_cases e : j = kk
                        · rw [e, ← HY.out]; exact hnd
                        · exact HNN.out j (by omega))
                      clear hnd
                      go_wp2_with fail
                      go_quiet ((go_at_call 23; exact Calls.quiet_of_same (HQW.out _)))
                      go_wp2_with fail
                      go_roundg (p.length - (kk + 1))
                      case rel => exact ⟨kk + 1, rfl, HLT2.out, by go_num, rfl, rfl, HNN2, HRS.out.drewN _⟩
                      case measure => have := HLT2.out; omega
                  · obtain rfl : kk = p.length := by omega
                    have hik : ¬ (p.length : Int) < (p.length : Int) := by omega
                    have HP2 : Hid (P4 ns ks R o p (i + 1) g) := Lib.hid (HP.out.keep (.inr (fun t ht => by
                      obtain ⟨j, hj, rfl⟩ := List.getElem_of_mem ht
                      have := HNN.out j hj
                      rw [getD_get hj] at this
                      rw [← HX.out]; exact this)))
                    go_wp2_with fail
                    go_roundg (G.length - (i + 1))
                    case rel => exact ⟨i + 1, p, g, rfl, HLT.out, by go_num, rfl, HP2, HRS.out⟩
                    case measure => have := HLT.out; omega
            · obtain rfl : i = G.length := by omega
              have hki : ¬ (G.length : Int) < (G.length : Int) := by omega
              have HC2 : Hid (CR ns ks R p ∧ (g = 0 → ∀ s ∈ ns, s ∈ p ∨ ∀ t ∈ p, ¬ Need ns ks t s)) := Lib.hid ⟨HP.out.cr, fun hg s hs => by
                obtain ⟨j, hj, rfl⟩ := List.getElem_of_mem (risL_mem.2 hs)
                have := (HP.out.same hg).2 j (by rw [HG.out]; exact hj)
                rw [getD_get hj] at this
                exact this⟩
              have HME : Hid (2 * (G.length - p.length) + g < 2 * (G.length - o.length) + 1) := Lib.hid (by
                have h1 := HP.out.bit
                have h2 := HP.out.cr.len
                rw [← HG.out] at h2
                rcases Nat.lt_or_ge g 1 with h3 | h3
                · have := (HP.out.same (by omega)).1
                  rw [this]; omega
                · have := HP.out.more (by omega)
                  omega)
              have HGB := Lib.hid HP.out.bit
              go_wp2_with fail
              go_roundg (2 * (G.length - p.length) + g)
              case rel => exact ⟨p, g, rfl, HGB.out, rfl, HC2, HRS.out⟩
              case measure => exact HME.out
end Go.Proofs.Ytdliecailkkciaa

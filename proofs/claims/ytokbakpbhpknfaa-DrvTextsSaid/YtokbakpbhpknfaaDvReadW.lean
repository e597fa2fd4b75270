/-
  A text as a derivation: the contract of the program's Read. Condition: it has at most 10^6 bytes.
-/
import Derived.Test.YtokbakpbhpknfaaDvReadP
namespace Go.Proofs.Ytokbakpbhpknfaa
open Go.RowKit
set_option linter.unusedVariables false

theorem dwhole_small {R r : List UInt8} {D : Dv} (h : dwhole R = some (D, r)) : D.name.length ≤ R.length ∧ (∀ t ∈ D.drvs, t.length ≤ R.length) ∧ (∀ t ∈ D.srcs, t.length ≤ R.length) ∧ D.recipe.length ≤ R.length ∧ D.fixed.length ≤ R.length ∧ D.drvs.length ≤ R.length ∧ D.srcs.length ≤ R.length := by
  unfold dwhole at h
  simp only [Option.bind_eq_bind, Option.bind_eq_some_iff, Option.pure_def, Option.some.injEq, Prod.mk.injEq, Prod.exists] at h
  obtain ⟨r1, e1, n, r2, e2, r3, e3, ds, r4, e4, r5, e5, ss, r6, e6, r7, e7, rc, r8, e8, r9, e9, fx, r10, e10, r11, e11, rfl, _⟩ := h
  have f1 := dlit_len e1
  have f2 := dtxt_len e2
  have f3 := dlit_len e3
  have f4 := dlst_len e4
  have f5 := dlit_len e5
  have f6 := dlst_len e6
  have f7 := dlit_len e7
  have f8 := dtxt_len e8
  have f9 := dlit_len e9
  have f10 := dtxt_len e10
  refine ⟨?_, fun t ht => ?_, fun t ht => ?_, ?_, ?_, ?_, ?_⟩
  · show n.length ≤ _; omega
  · have := f4.2 t ht; omega
  · have := f6.2 t ht; omega
  · show rc.length ≤ _; omega
  · show fx.length ≤ _; omega
  · show ds.length ≤ _; omega
  · show ss.length ≤ _; omega

theorem isS_row {w : World} {a : Option Addr} {n c g : Nat} {l : List ByteArray} {L : Array Value} (h : IsS w a n c l) (hg : ∀ p, a = some p → p.block ≠ g) : IsS (w.setRow g L) a n c l := by
  refine ⟨h.length, ?_, h.nil, h.room⟩
  rcases h.at_ with h0 | ⟨b, off, rfl, hlt, hc⟩
  · exact .inl h0
  · refine .inr ⟨b, off, rfl, by simpa using hlt, fun i hi => ?_⟩
    have hne : b ≠ g := hg _ rfl
    rw [← hc i hi]
    have : (w.setRow g L).heap[b]? = w.heap[b]? := setRow_other w g b L hne
    unfold World.cell?
    rw [this]

set_option maxRecDepth 100000 in
set_option maxHeartbeats 16000000 in
theorem readd_any (s : ByteArray) (w : World) (hs : s.size ≤ 1000000000) :
    Calls Try.prog 9 #[.string s] w (ReadP s.data.toList w) := by
  obtain ⟨R, hR⟩ : ∃ R, R = s.data.toList := ⟨_, rfl⟩
  have hRs : s = ⟨R.toArray⟩ := by rw [hR]
  have hRl : R.length ≤ 1000000000 := by rw [hR]; simpa using hs
  have hsz : R.length = s.size := by rw [hR]; simp
  rw [← hR]
  have HRS := Lib.hid hRs
  have HZL : Hid ((#[.string ⟨#[]⟩, .slice none 0 0, .slice none 0 0, .string ⟨#[]⟩, .string ⟨#[]⟩] : Array Value) = dzL.toArray) := Lib.hid rfl
  have HZI : Hid ((Try.prog.info? 24).map (·.size) = some dzL.toArray.size) := Lib.hid (info_dL _ _ _ _ _ _ _ _ _)
  have HZO : Hid (dzL.toArray.all (·.oneCell') = true) := Lib.hid (drv5 _ _ _ _ _ _ _ _ _)
  have HZS : Hid (dzL.toArray.size = 5) := Lib.hid rfl
  clear hR hRs
  go_enter Try.func9, Try.ntmps9
  go_upto_region 2 with fail
  obtain ⟨A, hA⟩ : ∃ A, A = w.heap.size := ⟨_, rfl⟩
  rw [← hA]
  obtain ⟨x1, hx1⟩ : ∃ x1, x1 = w.alloc (.cells #[.string ⟨#[]⟩, .slice none 0 0, .slice none 0 0, .string ⟨#[]⟩, .string ⟨#[]⟩] 24) := ⟨_, rfl⟩
  obtain ⟨w1, hx2⟩ : ∃ x2, x2 = x1.alloc (.cells #[.string s, .bool false] 43) := ⟨_, rfl⟩
  rw [← hx1, ← hx2]
  have e1 : x1.heap.size = A + 1 := by rw [hx1, hA]; simp
  have G1 : Hid (Has w1 A dzL 24) := Lib.hid (by rw [hx2, hx1, hA]; exact (Has.new w dzL _).alloc _)
  have D1 : Hid (Dr w1 (A + 1) R false) := Lib.hid (by rw [hx2, ← e1]; have := Has.new x1 [.string s, .bool false] 43; rw [HRS.out] at this ⊢; exact this)
  have b1 : Below w.heap.size w w1 := by rw [hx2, hx1]; exact ((Below.refl _ _).alloc (Nat.le_refl _) _).alloc (by simp) _
  have B1 := Lib.hid b1
  have HA1 : Hid (A + 1 ≤ w1.heap.size) := Lib.hid (Nat.le_of_lt D1.out.lt)
  have HA := Lib.hid hA
  clear hA hx1 hx2 e1 b1
  go_wp2_with fail
  refine (whole_any (A + 1) R _ D1.out hRl).mono ?_
  rintro e w2 ⟨hbut, t0, a1, k1, c1, a2, k2, c2, t3, t4, R', b', rfl, hd, hcase⟩
  have hb2 : Below A w1 w2 := ⟨hbut.os, hbut.tape, hbut.output, hbut.size, fun k hk => hbut.block k (by have := G1.out.lt; omega) (by omega)⟩
  have B2 : Hid (Below A w w2) := Lib.hid (((B1.out.mono (by rw [HA.out]; exact Nat.le_refl _))).trans hb2)
  have G2 : Hid (Has w2 A dzL 24) := Lib.hid (Has.but G1.out hbut G1.out.lt (by omega))
  have hA2 := G2.out.lt
  obtain ⟨g, hg⟩ : ∃ g, g = w2.heap.size := ⟨_, rfl⟩
  obtain ⟨L5, hL5⟩ : ∃ L : List Value, L = [.string (bs t0), .slice a1 k1 c1, .slice a2 k2 c2, .string (bs t3), .string (bs t4)] := ⟨_, rfl⟩
  have HL5 := Lib.hid hL5
  have HAG : Hid ((#[.string (bs t0), .slice a1 k1 c1, .slice a2 k2 c2, .string (bs t3), .string (bs t4)] : Array Value) = L5.toArray) := Lib.hid (by rw [hL5])
  have HLI : Hid ((Try.prog.info? 24).map (·.size) = some L5.toArray.size) := Lib.hid (by rw [hL5]; exact info_dL _ _ _ _ _ _ _ _ _)
  have HLO : Hid (L5.toArray.all (·.oneCell') = true) := Lib.hid (by rw [hL5]; exact drv5 _ _ _ _ _ _ _ _ _)
  have HLS : Hid (dzL.toArray.size = L5.toArray.size) := Lib.hid (by rw [hL5]; rfl)
  obtain ⟨y, hy⟩ : ∃ y, y = w2.alloc (.cells dzL.toArray 24) := ⟨_, rfl⟩
  have NY : Hid (Has y g dzL 24) := Lib.hid (by rw [hy, hg]; exact Has.new w2 dzL _)
  have HY := Lib.hid hy
  have HGG := Lib.hid hg
  have D2 := Lib.hid hd
  have HC := Lib.hid hcase
  rw [HAG.out]
  clear hd hcase hbut hb2 D1 B1 G1 hL5 hg hy
  go_upto_region 3 with (refine wpList_store_row rfl 24 _ _ rfl w2.heap.size L5.toArray rfl rfl 24 _ (by rw [← HGG.out]; exact (HY.out ▸ NY.out)) HLI.out HLS.out HLO.out ?_)
  rw [← HGG.out]
  obtain ⟨w3, hw3⟩ : ∃ x, x = (w2.alloc (.cells #[.string ⟨#[]⟩, .slice none 0 0, .slice none 0 0, .string ⟨#[]⟩, .string ⟨#[]⟩] 24)).setRow g L5.toArray := ⟨_, rfl⟩
  rw [← hw3]
  have hw3y : w3 = y.setRow g L5.toArray := by rw [hw3, HY.out]; rfl
  have hAg : A < g := by rw [HGG.out]; exact hA2
  have hA1g : A + 1 < g := by rw [HGG.out]; exact D2.out.lt
  have b23 : Below w2.heap.size w2 w3 := by rw [hw3y, HY.out, HGG.out]; exact below_setRow ((Below.refl _ _).alloc (Nat.le_refl _) _) (Nat.le_refl _) _
  have G3 : Hid (Has w3 A dzL 24) := Lib.hid (G2.out.below b23 hA2)
  have D3 : Hid (Dr w3 (A + 1) R' b') := Lib.hid (Has.below D2.out b23 D2.out.lt)
  have N3 : Hid (Has w3 g L5 24) := Lib.hid (by rw [hw3y]; exact NY.out.row L5)
  have B3 : Hid (Below A w w3) := Lib.hid (B2.out.trans (b23.mono (Nat.le_of_lt hA2)))
  have B23 := Lib.hid b23
  have q1 := D3.out.cellAt (i := 1) rfl
  clear hw3 hw3y b23 NY HY G2 B2 D2
  cases b' with
  | true =>
    have HF : Hid (readD R = (dzD, 4)) := Lib.hid (by
      rcases HC.out with ⟨h, _⟩ | ⟨_, h⟩
      · cases h
      · exact readD_bad h)
    go_wp2_with (refine wpList_store_row rfl 24 _ _ rfl A dzL.toArray rfl (by rw [← HZL.out]; rfl) 24 _ G3.out HZI.out rfl HZO.out ?_)
    refine bodyPost_ret (at_ret (fn := Try.f9) (p := 2) (u := 3) (ty := 24) Try.results9 _ _ A 24 dzL.toArray (0, 0) _ rfl (setRow_heap _ _ _ _ _ _ G3.out) Try.underlying24 rfl HZI.out) rfl ?_
    refine ⟨.agg dzL.toArray, ?_, ?_, below_setRow (by rw [← HA.out]; exact B3.out) (by rw [HA.out]; exact Nat.le_refl _) _⟩
    · rw [HF.out]; rfl
    · rw [HF.out]; exact isDv_zero _
  | false =>
    obtain ⟨l1, l2, hw, hk1, hS1, hk2, hS2, hp1, hp2⟩ : ∃ l1 l2, dwhole R = some (⟨t0, l1, l2, t3, t4⟩, []) ∧ k1 = (l1.take 33).length ∧ IsS w2 a1 k1 c1 ((l1.take 33).map bs) ∧ k2 = (l2.take 33).length ∧ IsS w2 a2 k2 c2 ((l2.take 33).map bs) ∧ (∀ p, a1 = some p → w1.heap.size ≤ p.block) ∧ ∀ p, a2 = some p → w1.heap.size ≤ p.block := by
      rcases HC.out with ⟨_, h⟩ | ⟨h, _⟩
      · exact h
      · cases h
    have hsm := dwhole_small hw
    obtain ⟨m0, m1, m2, m3, m4, _, _⟩ := hsm
    have hrd := readD_some hw
    have hS1' := hS1.later B23.out
    have hS2' := hS2.later B23.out
    have hz1 : ∀ x ∈ (l1.take 33).map bs, x.size ≤ 140737488355328 := by
      intro x hx
      obtain ⟨t, ht, rfl⟩ := List.mem_map.1 hx
      have := m1 t (List.mem_of_mem_take ht)
      rw [bs_size]; omega
    have hz2 : ∀ x ∈ (l2.take 33).map bs, x.size ≤ 140737488355328 := by
      intro x hx
      obtain ⟨t, ht, rfl⟩ := List.mem_map.1 hx
      have := m2 t (List.mem_of_mem_take ht)
      rw [bs_size]; omega
    have hk := dtext_any (bs t0) (bs t3) (bs t4) a1 a2 k1 c1 k2 c2 _ _ w3 hS1' hS2' hz1 hz2 (by rw [bs_size]; have : t0.length ≤ R.length := m0; omega) (by rw [bs_size]; have : t3.length ≤ R.length := m3; omega) (by rw [bs_size]; have : t4.length ≤ R.length := m4; omega)
    rw [HAG.out] at hk
    have HK := Lib.hid hk
    obtain ⟨f, hf⟩ : ∃ f, f = formB (bs t0) ((l1.take 33).map bs) ((l2.take 33).map bs) (bs t3) (bs t4) := ⟨_, rfl⟩
    have HFF := Lib.hid hf
    have hfd : formDv ⟨t0, l1, l2, t3, t4⟩ = f := by rw [hf, formB_take]; rfl
    have HFD := Lib.hid hfd
    have HRD := Lib.hid hrd
    have HP1 : Hid (∀ p, a1 = some p → A + 1 ≤ p.block) := Lib.hid (fun p hp => Nat.le_trans HA1.out (hp1 p hp))
    have HP2 : Hid (∀ p, a2 = some p → A + 1 ≤ p.block) := Lib.hid (fun p hp => Nat.le_trans HA1.out (hp2 p hp))
    have HS1 := Lib.hid hS1'
    have HS2 := Lib.hid hS2'
    have hne : ∀ (e : Ending) (w4 : World), True := fun _ _ => trivial
    clear hk hf hfd hrd hS1 hS2 hS1' hS2' hz1 hz2 m0 m1 m2 m3 m4 hw HC hk1 hk2 hne hp1 hp2
    go_wp2_with (refine wpList_load_row rfl 24 _ rfl g rfl 24 L5.toArray (0, 0) _ N3.out Try.underlying24 rfl HLI.out ?_)
    refine HK.out.mono ?_
    rintro e w4 ⟨p1, p2, x4⟩
    have G4 := Lib.hid (G3.out.below x4 G3.out.lt)
    have N4 := Lib.hid (N3.out.below x4 N3.out.lt)
    have B4 : Hid (Below A w w4) := Lib.hid (B3.out.trans (x4.mono (Nat.le_of_lt G3.out.lt)))
    have HS14 := Lib.hid (HS1.out.later x4)
    have HS24 := Lib.hid (HS2.out.later x4)
    clear x4 G3 N3 B3 HS1 HS2 HK q1 D3 B23
    cases f with
    | false =>
      have he := p2 HFF.out.symm
      subst he
      have HF : Hid (readD R = (dzD, 3)) := Lib.hid (by rw [HRD.out, if_neg]; intro h; have := h.1; rw [HFD.out] at this; cases this)
      clear p1 p2
      go_wp2_with (refine wpList_store_row rfl 24 _ _ rfl A dzL.toArray rfl (by rw [← HZL.out]; rfl) 24 _ G4.out HZI.out rfl HZO.out ?_)
      refine bodyPost_ret (at_ret (fn := Try.f9) (p := 2) (u := 3) (ty := 24) Try.results9 _ _ A 24 dzL.toArray (0, 0) _ rfl (setRow_heap _ _ _ _ _ _ G4.out) Try.underlying24 rfl HZI.out) rfl ?_
      refine ⟨.agg dzL.toArray, ?_, ?_, below_setRow (by rw [← HA.out]; exact B4.out) (by rw [HA.out]; exact Nat.le_refl _) _⟩
      · rw [HF.out]; rfl
      · rw [HF.out]; exact isDv_zero _
    | true =>
      have he := p1 HFF.out.symm
      subst he
      have hff := HFF.out.symm
      rw [formB_take] at hff
      obtain ⟨ht1, ht2⟩ := take33_all hff
      have htx : dtextB (bs t0) ((l1.take 33).map bs) ((l2.take 33).map bs) (bs t3) (bs t4) = dtext ⟨t0, l1, l2, t3, t4⟩ l1 := by
        rw [ht1, ht2]; exact dtextB_dv ⟨t0, l1, l2, t3, t4⟩
      rw [htx]
      obtain ⟨X, hX⟩ : ∃ X, X = bs (dtext ⟨t0, l1, l2, t3, t4⟩ l1) := ⟨_, rfl⟩
      rw [← hX]
      rw [ht1] at HS14
      rw [ht2] at HS24
      by_cases hxs : X = s
      · have heq : (X.toList == s.toList) = true := by rw [hxs]; simp
        have HF : Hid (readD R = (⟨t0, l1, l2, t3, t4⟩, 0)) := Lib.hid (by
          rw [HRD.out, if_pos]
          refine ⟨HFD.out, ?_⟩
          have : (bs (dtext ⟨t0, l1, l2, t3, t4⟩ l1)) = (⟨R.toArray⟩ : ByteArray) := by rw [← hX, hxs, HRS.out]
          have := congrArg (fun b : ByteArray => b.data.toList) this
          simpa [bs] using this)
        clear p1 p2 hff ht1 ht2 htx hX hxs
        go_wp2_with (first | (refine wpList_load_row rfl 24 _ rfl g rfl 24 L5.toArray (0, 0) _ N4.out Try.underlying24 rfl HLI.out ?_) | (refine wpList_store_row rfl 24 _ _ rfl A L5.toArray rfl rfl 24 _ G4.out HLI.out HLS.out HLO.out ?_))
        refine bodyPost_ret (at_ret (fn := Try.f9) (p := 2) (u := 3) (ty := 24) Try.results9 _ _ A 24 L5.toArray (0, 0) _ rfl (setRow_heap _ _ _ _ _ _ G4.out) Try.underlying24 rfl HLI.out) rfl ?_
        have hbr : Below A w4 (w4.setRow A L5.toArray) := below_setRow (Below.refl _ _) (Nat.le_refl _) _
        refine ⟨.agg L5.toArray, ?_, ?_, below_setRow (by rw [← HA.out]; exact B4.out) (by rw [HA.out]; exact Nat.le_refl _) _⟩
        · rw [HF.out]; rfl
        · rw [HF.out]
          refine ⟨a1, k1, c1, a2, k2, c2, by rw [← HAG.out], ?_, ?_⟩
          · exact isS_row HS14.out (fun p hp => by have := HP1.out p hp; omega)
          · exact isS_row HS24.out (fun p hp => by have := HP2.out p hp; omega)
      · have heq : (X.toList == s.toList) = false := by
          have h : X.toList ≠ s.toList := fun h => hxs (bytes_ext (by rw [ByteArray.toList_eq, ByteArray.toList_eq] at h; exact h))
          simpa using h
        have HF : Hid (readD R = (dzD, 3)) := Lib.hid (by
          rw [HRD.out, if_neg]
          rintro ⟨_, h⟩
          apply hxs
          rw [hX, HRS.out, h]; rfl)
        clear p1 p2 hff ht1 ht2 htx hX hxs
        go_wp2_with (refine wpList_store_row rfl 24 _ _ rfl A dzL.toArray rfl (by rw [← HZL.out]; rfl) 24 _ G4.out HZI.out rfl HZO.out ?_)
        refine bodyPost_ret (at_ret (fn := Try.f9) (p := 2) (u := 3) (ty := 24) Try.results9 _ _ A 24 dzL.toArray (0, 0) _ rfl (setRow_heap _ _ _ _ _ _ G4.out) Try.underlying24 rfl HZI.out) rfl ?_
        refine ⟨.agg dzL.toArray, ?_, ?_, below_setRow (by rw [← HA.out]; exact B4.out) (by rw [HA.out]; exact Nat.le_refl _) _⟩
        · rw [HF.out]; rfl
        · rw [HF.out]; exact isDv_zero _
end Go.Proofs.Ytokbakpbhpknfaa

/-
  Counting a tree: the program's take. Condition: the counts' bounds.
-/
import Derived.Deep.Cut
import Derived.Test.YtbempgdndmchlaaDoorTForm2
import Derived.BigFrame
import Derived.Deep.MidRow
import Derived.Laws.CopyOwn
namespace Go.Proofs.YtbempgdndmchlaaDoor
open Go.RowKit
set_option linter.unusedVariables false

/-- Behind counting a tree. -/
structure Counted (w0 : World) (h : Nat) (w : World) (r : Option (Nat × Nat)) (e : Ending) (w' : World) : Prop where
  some_ : ∃ t' b' : Nat, Has w' h [.int .i64 (t' : Int), .int .i64 (b' : Int)] 74 ∧ (∀ p, r = some p → p = (t', b'))
  below : Below w0.heap.size w0 w'
  size : w.heap.size ≤ w'.heap.size
  ret : e = .returned (.bool r.isSome)

theorem takeL_step {ks : List T} {i D n b t' b' : Nat} (h : i < ks.length) (hp : takeL (ks.take i) D n b = some (t', b')) : takeL (ks.take (i + 1)) D n b = takeT (ks.getD i default) D t' b' := by
  rw [List.take_succ_eq_append_getElem h, takeL_append, hp, List.getD_eq_getElem?_getD, List.getElem?_eq_getElem h]
  exact takeL_one _ _ _ _

theorem takeL_none {ks : List T} {i D n b : Nat} (hn : takeL (ks.take i) D n b = none) : takeL ks D n b = none := by
  rw [← List.take_append_drop i ks, takeL_append, hn]; rfl

/-- The cells of a tree are one each. -/
theorem isT_one {w : World} {n : Nat} {cs : List Value} {t : T} (h : IsT w n cs t) : cs.toArray.all (·.oneCell') = true := by
  cases n with
  | zero => exact absurd h (by simp [IsT])
  | succ n =>
    obtain ⟨k, x, d, ns, ks⟩ := t
    obtain ⟨ad, nd, cd, an, nn, cn, ak, nk, ck, rfl, _⟩ := h
    refine all_oneCell_toArray ?_
    intro v hv
    simp only [List.mem_cons, List.not_mem_nil, or_false] at hv
    rcases hv with rfl | rfl | rfl | rfl | rfl <;> rfl

set_option maxRecDepth 100000 in
set_option maxHeartbeats 20000000 in
theorem take_any (w0 : World) (h : Nat) (hh : w0.heap.size ≤ h) : ∀ (n : Nat) (cs : List Value) (t : T), IsT w0 n cs t → ∀ (w : World) (dep tc bc : Nat), Below w0.heap.size w0 w → Has w h [.int .i64 (tc : Int), .int .i64 (bc : Int)] 74 → tc ≤ 4096 → bc ≤ 65536 → dep ≤ 17 →
    Calls Tryd.prog 36 #[.pointer (some ⟨h, 0, none⟩), .agg cs.toArray, .int .i64 (dep : Int)] w fun e w' => Counted w0 h w (takeT t dep tc bc) e w'
  | 0, _, _, ht => absurd ht (by simp [IsT])
  | n + 1, cs, .mk k x d ns ks, ht => by
    intro w dep tc bc hbel hx htc hbc hdep
    have ht0 : Hid (IsT w0 (n + 1) cs (.mk k x d ns ks)) := Lib.hid ht
    obtain ⟨ad, nd, cd, an, nn, cn, ak, nk, ck, rfl, hB, hS, hK⟩ := ht
    have hlt := hx.lt
    have HX := Lib.hid hx
    have HBEL := Lib.hid hbel
    have HLD := Lib.hid hB.length
    have hmost := hB.most
    have HK := Lib.hid hK
    have hbs := hbel.size
    clear hx hbel hB hS hK
    go_enter Tryd.func36, Tryd.ntmps36
    go_upto_region 1 with fail
    obtain ⟨w1, hw1⟩ : ∃ w1, w1 = w.alloc (.cells #[.int .u8 (k.toNat : Int), .bool x, .slice ad nd cd, .slice an nn cn, .slice ak nk ck] 26) := ⟨_, rfl⟩
    have x1 : Has w1 h [.int .i64 (tc : Int), .int .i64 (bc : Int)] 74 := by rw [hw1]; exact HX.out.alloc _
    have g1 : Has w1 w.heap.size [.int .u8 (k.toNat : Int), .bool x, .slice ad nd cd, .slice an nn cn, .slice ak nk ck] 26 := by rw [hw1]; exact Has.new w _ _
    have b1 : Below w0.heap.size w0 w1 := by rw [hw1]; exact HBEL.out.alloc hbs _
    have s1 : w1.heap.size = w.heap.size + 1 := by rw [hw1]; simp
    rw [← hw1]
    obtain ⟨g, hg⟩ : ∃ g, g = w.heap.size := ⟨_, rfl⟩
    rw [← hg] at g1 s1 hlt ⊢
    have HG := Lib.hid hg
    clear hg
    have cd2 := g1.cellAt (i := 2) rfl
    have ch0 := x1.cellAt (i := 0) rfl
    have ch1 := x1.cellAt (i := 1) rfl
    have f0 := x1.frozen 0
    have f1 := x1.frozen 1
    clear hw1
    go_upto_region 2 with fail
    obtain ⟨w2, hw2⟩ : ∃ w2, w2 = w1.setCell ⟨h, 0, none⟩ (.int .i64 ((tc : Int) + 1)) := ⟨_, rfl⟩
    have x2 : Has w2 h [.int .i64 ((tc : Int) + 1), .int .i64 (bc : Int)] 74 := by rw [hw2]; exact x1.set 0 _
    have g2 : Has w2 g [.int .u8 (k.toNat : Int), .bool x, .slice ad nd cd, .slice an nn cn, .slice ak nk ck] 26 := by rw [hw2]; exact g1.setOther (a := ⟨h, 0, none⟩) (by show g ≠ h; omega) _
    have b2 : Below w0.heap.size w0 w2 := by rw [hw2]; exact b1.setCell (p := ⟨h, 0, none⟩) hh _
    have s2 : w2.heap.size = g + 1 := by rw [hw2, ← s1]; simp [World.setCell]
    rw [← hw2]
    have X2 := Lib.hid x2
    have G2 := Lib.hid g2
    have B2 := Lib.hid b2
    clear ch0 ch1 f0 f1 cd2 x1 g1 b1 hw2
    have cd2 := g2.cellAt (i := 2) rfl
    have ch1 := x2.cellAt (i := 1) rfl
    have f1 := x2.frozen 1
    clear x2 g2 b2
    go_region
    obtain ⟨w3, hw3⟩ : ∃ w3, w3 = (w2.setCell ⟨h, 1, none⟩ (.int .i64 ((bc : Int) + (nd : Int)))).drew := ⟨_, rfl⟩
    have x3 : Has w3 h [.int .i64 ((tc : Int) + 1), .int .i64 ((bc : Int) + (nd : Int))] 74 := by rw [hw3]; exact (X2.out.set 1 _).drew
    have g3 : Has w3 g [.int .u8 (k.toNat : Int), .bool x, .slice ad nd cd, .slice an nn cn, .slice ak nk ck] 26 := by rw [hw3]; exact (G2.out.setOther (a := ⟨h, 1, none⟩) (by show g ≠ h; omega) _).drew
    have b3 : Below w0.heap.size w0 w3 := by rw [hw3]; exact (B2.out.setCell (p := ⟨h, 1, none⟩) hh _).drew
    have s3 : w3.heap.size = g + 1 := by rw [hw3, ← s2]; simp [World.setCell]
    rw [← hw3]
    have X3 := Lib.hid x3
    have G3 := Lib.hid g3
    have B3 := Lib.hid b3
    have hgw : w.heap.size = g := HG.out.symm
    clear hw3 cd2 ch1 f1 X2 G2 B2
    have ch0 := x3.cellAt (i := 0) rfl
    have ch1 := x3.cellAt (i := 1) rfl
    have cg0 := g3.cellAt (i := 0) rfl
    have cg1 := g3.cellAt (i := 1) rfl
    have cg2 := g3.cellAt (i := 2) rfl
    have cg3 := g3.cellAt (i := 3) rfl
    have cg4 := g3.cellAt (i := 4) rfl
    clear x3 g3 b3
    by_cases hd16 : dep ≤ 16
    · have q1 : ¬ (16 : Int) < (dep : Int) := by omega
      by_cases ht1 : tc + 1 ≤ 4096
      · have q2 : ¬ (4096 : Int) < (tc : Int) + 1 := by omega
        by_cases hb1 : bc + nd ≤ 65536
        · have q3 : ¬ (65536 : Int) < (bc : Int) + (nd : Int) := by omega
          have I3 : Hid (IsT w3 (n + 1) [.int .u8 (k.toNat : Int), .bool x, .slice ad nd cd, .slice an nn cn, .slice ak nk ck] (.mk k x d ns ks)) := Lib.hid (IsT.later B3.out _ _ _ ht0.out)
          have KF := Lib.hid (formed_any (n + 1) _ _ w3 I3.out)
          clear hgw
          go_wp2_with fail
          refine KF.out.mono ?_
          rintro e w4 ⟨rfl, b4⟩
          have X4 := Lib.hid (X3.out.below b4 X3.out.lt)
          have G4 := Lib.hid (G3.out.below b4 G3.out.lt)
          have B4 := Lib.hid (B3.out.trans (b4.mono B3.out.size))
          have s4 := b4.size
          clear b4 KF I3 ch0 ch1 cg0 cg1 cg2 cg3 cg4
          cases hf : formedT (.mk k x d ns ks)
          · have HR : Hid (takeT (.mk k x d ns ks) dep tc bc = none) := Lib.hid (by rw [takeT_mk, if_neg]; rintro ⟨h1, h2, h3, h4⟩; rw [hf] at h4; cases h4)
            clear hf
            go_wp2_with fail
            go_ret
            refine ⟨⟨tc + 1, bc + nd, by have := X4.out; simpa using this, fun p hp => by rw [HR.out] at hp; cases hp⟩, B4.out, by rw [← HG.out]; omega, by rw [HR.out]; rfl⟩
          · have HR : Hid (takeT (.mk k x d ns ks) dep tc bc = takeL ks (dep + 1) (tc + 1) (bc + nd)) := Lib.hid (by rw [takeT_mk, HLD.out, if_pos ⟨hd16, ht1, hb1, hf⟩])
            have cg4 := G4.out.cellAt (i := 4) rfl
            clear hf
            go_wp2_with fail
            have info5 : Hid ((Tryd.prog.info? 26).map (·.size) = some 5) := Lib.hid (by kernel_rfl)
            go_loopw [50] (fun ii wr => ∃ (i t' b' : Nat), i ≤ nk ∧ ii = .int .i64 i ∧ takeL (ks.take i) (dep + 1) (tc + 1) (bc + nd) = some (t', b') ∧ t' ≤ 4096 ∧ b' ≤ 65536 ∧ Has wr h [.int .i64 (t' : Int), .int .i64 (b' : Int)] 74 ∧ Below w0.heap.size w0 wr ∧ g + 1 ≤ wr.heap.size) (fun ii _ => nk - (intOf ii).toNat)
            case atStart => exact ⟨0, tc + 1, bc + nd, Nat.zero_le _, rfl, by simp [takeL], ht1, hb1, by have := X4.out; simpa using this, B4.out, by omega⟩
            case round =>
              clear X4 G4 B4
              obtain ⟨i, t', b', hi, rfl, hpre, ht', hb', hx, hbel, hsz⟩ := hrel
              by_cases hlt : i < nk
              · rcases HK.out.at_ with h0 | ⟨b, off, rfl, hb, hc⟩
                · omega
                obtain ⟨c0, c1, c2, c3, c4, hR, e0, e1, e2, e3, e4⟩ := hc i hlt
                have hkl : i < ks.length := by rw [HK.out.length]; exact hlt
                have HPRE := Lib.hid hpre
                have HSTEP := Lib.hid (takeL_step hkl hpre)
                have HRK := Lib.hid hR
                have hone := Lib.hid (isT_one hR)
                have hrange : wr.rangeAt b (off + i * 5) [c0, c1, c2, c3, c4] := fun j v hv => by
                  rw [Nat.add_assoc]
                  match j, hv with
                  | 0, hv => cases hv; exact (hbel.cell (p := ⟨b, off + (i * 5 + 0), none⟩) hb).trans e0
                  | 1, hv => cases hv; exact (hbel.cell (p := ⟨b, off + (i * 5 + 1), none⟩) hb).trans e1
                  | 2, hv => cases hv; exact (hbel.cell (p := ⟨b, off + (i * 5 + 2), none⟩) hb).trans e2
                  | 3, hv => cases hv; exact (hbel.cell (p := ⟨b, off + (i * 5 + 3), none⟩) hb).trans e3
                  | 4, hv => cases hv; exact (hbel.cell (p := ⟨b, off + (i * 5 + 4), none⟩) hb).trans e4
                  | j + 5, hv => simp at hv
                have HRANGE := Lib.hid hrange
                have HX' := Lib.hid hx
                have HBE := Lib.hid hbel
                have hki : (i : Int) < (nk : Int) := by omega
                have hroom := HK.out.room
                unfold maxLen at hroom
                have hni : (i : Int) + 1 ≤ 9223372036854775807 := by omega
                have hb5 := hbel.size
                obtain ⟨L, hL⟩ : ∃ L, L = [c0, c1, c2, c3, c4] := ⟨_, rfl⟩
                have HLL := Lib.hid hL
                rw [← hL] at HRANGE HRK hone
                have hll : Hid (L.length = 5) := Lib.hid (by rw [hL]; rfl)
                have hA : Hid ((#[.int .u8 0, .bool false, .slice none 0 0, .slice none 0 0, .slice none 0 0] : Array Value).size = L.toArray.size) := Lib.hid (by have := hll.out; simp [this])
                have hI : Hid ((Tryd.prog.info? 26).map (·.size) = some L.toArray.size) := Lib.hid (by rw [info5.out, List.size_toArray, hll.out])
                clear hpre hR hx hbel hc e0 e1 e2 e3 e4 hrange hL
                go_wp2_with (first
                  | (refine wpList_load_mid rfl 26 _ rfl b (off + i * 5) rfl L _ HRANGE.out Tryd.underlying26 rfl (by rw [info5.out, hll.out]) ?_)
                  | (refine wpList_store_row rfl 26 _ _ rfl wr.heap.size L.toArray rfl rfl 26 _ (heap_alloc_new wr _) hI.out hA.out hone.out ?_)
                  | (refine wpList_load_row rfl 26 _ rfl wr.heap.size rfl 26 L.toArray (0, 0) _ (setRow_heap _ _ _ _ _ _ (heap_alloc_new wr _)) Tryd.underlying26 rfl hI.out ?_))
                obtain ⟨w5, hw5⟩ : ∃ w5, w5 = (wr.alloc (.cells #[.int .u8 0, .bool false, .slice none 0 0, .slice none 0 0, .slice none 0 0] 26)).setRow wr.heap.size L.toArray := ⟨_, rfl⟩
                have x5 : Has w5 h [.int .i64 (t' : Int), .int .i64 (b' : Int)] 74 := by
                  rw [hw5]; exact (HX'.out.alloc _).rowOther (by have := HX'.out.lt; omega) _
                have b5 : Below w0.heap.size w0 w5 := by rw [hw5]; exact below_setRow (HBE.out.alloc hb5 _) hb5 _
                have s5 : w5.heap.size = wr.heap.size + 1 := by rw [hw5]; simp
                rw [← hw5]
                have K5 := take_any w0 h hh n L (ks.getD i default) HRK.out w5 (dep + 1) t' b' b5 x5 ht' hb' (by omega)
                rw [show ((dep + 1 : Nat) : Int) = (dep : Int) + 1 from by omega] at K5
                have HK5 := Lib.hid K5
                clear hw5 x5 b5 K5
                refine HK5.out.mono ?_
                rintro e w6 ⟨⟨t6, b6, x6, hr6⟩, bel6, s6, rfl⟩
                have S6 : Hid (g + 1 ≤ w6.heap.size) := Lib.hid (by omega)
                have HLT := Lib.hid hlt
                cases hk : takeT (ks.getD i default) (dep + 1) t' b' with
                | none =>
                  have HRR : Hid (takeT (.mk k x d ns ks) dep tc bc = none) := Lib.hid (by rw [HR.out]; exact takeL_none (i := i + 1) (by rw [HSTEP.out]; exact hk))
                  have X6 := Lib.hid x6
                  have B6 := Lib.hid bel6
                  clear hk hr6 x6 bel6 HK5
                  simp only [Option.isSome_none]
                  go_wp2_with fail
                  go_ret
                  exact ⟨⟨t6, b6, X6.out, fun p hp => by rw [HRR.out] at hp; cases hp⟩, B6.out, by rw [← HG.out]; have := S6.out; omega, by rw [HRR.out]; rfl⟩
                | some q =>
                  have hq := hr6 q hk
                  have hle := takeT_le _ _ _ _ _ hk
                  have HN : Hid (takeL (ks.take (i + 1)) (dep + 1) (tc + 1) (bc + nd) = some (t6, b6)) := Lib.hid (by rw [HSTEP.out, hk, hq])
                  rw [hq] at hle
                  have X6 := Lib.hid x6
                  have B6 := Lib.hid bel6
                  clear hk hr6 x6 bel6 hq HK5
                  simp only [Option.isSome_some]
                  go_wp2_with fail
                  go_roundw
                  case rel => exact ⟨i + 1, t6, b6, by omega, by go_num, HN.out, hle.1, hle.2, X6.out, B6.out, S6.out⟩
                  case measure =>
                    have := HLT.out
                    simp only [intOf]; omega
              · obtain rfl : i = nk := by omega
                have HRR : Hid (takeT (.mk k x d ns ks) dep tc bc = some (t', b')) := Lib.hid (by
                  rw [HR.out, ← hpre, List.take_of_length_le (by rw [HK.out.length]; exact Nat.le_refl _)])
                have HX' := Lib.hid hx
                have HBE := Lib.hid hbel
                clear hpre hx hbel
                go_wp2_with fail
                go_ret
                exact ⟨⟨t', b', HX'.out, fun p hp => by rw [HRR.out] at hp; cases hp; rfl⟩, HBE.out, by rw [← HG.out]; omega, by rw [HRR.out]; rfl⟩
        · have q3 : (65536 : Int) < (bc : Int) + (nd : Int) := by omega
          have HR : Hid (takeT (.mk k x d ns ks) dep tc bc = none) := Lib.hid (by rw [takeT_mk, if_neg]; rintro ⟨h1, h2, h3, h4⟩; rw [HLD.out] at h3; omega)
          clear hb1
          go_wp2_with fail
          go_ret
          refine ⟨⟨tc + 1, bc + nd, by have := X3.out; simpa using this, fun p hp => by rw [HR.out] at hp; cases hp⟩, B3.out, by omega, by rw [HR.out]; rfl⟩
      · have q2 : (4096 : Int) < (tc : Int) + 1 := by omega
        have HR : Hid (takeT (.mk k x d ns ks) dep tc bc = none) := Lib.hid (by rw [takeT_mk, if_neg]; rintro ⟨h1, h2, h3, h4⟩; omega)
        clear ht1
        go_wp2_with fail
        go_ret
        refine ⟨⟨tc + 1, bc + nd, by have := X3.out; simpa using this, fun p hp => by rw [HR.out] at hp; cases hp⟩, B3.out, by omega, by rw [HR.out]; rfl⟩
    · have q1 : (16 : Int) < (dep : Int) := by omega
      have HR : Hid (takeT (.mk k x d ns ks) dep tc bc = none) := Lib.hid (by rw [takeT_mk, if_neg]; rintro ⟨h1, h2, h3, h4⟩; omega)
      clear hd16
      go_wp2_with fail
      go_ret
      refine ⟨⟨tc + 1, bc + nd, by have := X3.out; simpa using this, fun p hp => by rw [HR.out] at hp; cases hp⟩, B3.out, by omega, by rw [HR.out]; rfl⟩

end Go.Proofs.YtbempgdndmchlaaDoor

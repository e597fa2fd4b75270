/-
  The parser's sel: a thing, and what is taken of it. Conditions: the parser's block.
-/
import Derived.Test.YtnajafnbickiiaaDoorPSign
import Derived.Deep.AppendLies
import Derived.Laws.OwnMore
namespace Go.Proofs.YtnajafnbickiiaaDoor
open Go.RowKit
set_option linter.unusedVariables false

theorem sel_inv {n d : Nat} {ts : List Tk} {x : Ex} {r : List Tk} (h : pg n .sel d ts = .ok x r) :
    ∃ m x0 r0, n = m + 1 ∧ pg m .thing d ts = .ok x0 r0 ∧ pg m (.sels x0) d r0 = .ok x r := by
  cases n with
  | zero => simp [pg] at h
  | succ m =>
    simp only [pg] at h
    split at h
    · rename_i x0 r0 hs
      exact ⟨m, x0, r0, rfl, hs, h⟩
    · rename_i hne
      exact (hne _ _ h).elim
theorem sels_inv {n d : Nat} {ts : List Tk} {x0 x : Ex} {r : List Tk} (h : pg n (.sels x0) d ts = .ok x r) :
    ∃ m, n = m + 1 ∧ ((stT ts 0 [46] = false ∧ x = x0 ∧ r = ts) ∨ (stT ts 0 [46] = true ∧ ∃ u t q, ts = u :: t :: q ∧ t.kind = 1 ∧
      ((stT q 0 [111, 114] = false ∧ pg m (.sels (.mk 7 0 t.text [x0] u.at_)) d q = .ok x r) ∨ (stT q 0 [111, 114] = true ∧ ∃ y r1, pg m .thing d q.tail = .ok y r1 ∧ pg m (.sels (.mk 7 0 t.text [x0, y] u.at_)) d r1 = .ok x r)))) := by
  cases n with
  | zero => simp [pg] at h
  | succ m =>
    simp only [pg] at h
    refine ⟨m, rfl, ?_⟩
    split at h
    · rename_i hb
      match ts, h with
      | [], h => simp [stT] at hb
      | [u], h => simp at h
      | u :: t :: q, h =>
        simp only [List.tail_cons] at h
        split at h
        · rename_i hk
          split at h
          · rename_i hor
            split at h
            · rename_i y r1 hy
              exact .inr ⟨hb, u, t, q, rfl, hk, .inr ⟨hor, y, r1, hy, h⟩⟩
            · rename_i hne
              exact (hne _ _ h).elim
          · rename_i hor
            exact .inr ⟨hb, u, t, q, rfl, hk, .inl ⟨by simpa using hor, h⟩⟩
        · cases h
    · rename_i hb
      simp only [PR.ok.injEq] at h
      exact .inl ⟨by simpa using hb, h.1.symm, h.2.symm⟩
theorem tok_field2 (a b c : Value) (w : World) : (Instr.field 50 (.agg #[a, b, c]) 2).run Tryd.prog w = .ok c w := by kernel_rfl
theorem tok_field1 (a b c : Value) (w : World) : (Instr.field 50 (.agg #[a, b, c]) 1).run Tryd.prog w = .ok b w := by kernel_rfl
/-- An expression of one part, which lies in a row. -/
theorem node_one {w : World} {S : Nat → Prop} {N : Nat} {l : List Value} {x : Ex} (k : Nat) (t : List UInt8) (a : Nat) (hN : Has w N l 28) (hS : S N) (h1 : IsXS w S l x) :
    IsXS w S (exC k 0 t (.slice (some ⟨N, 0, none⟩) 1 1) a) (.mk k 0 t [x] a) := by
  refine .node k 0 t a N 1 [x] (fun _ => l) (by simp) hS hN.lt ⟨by simp, by decide⟩ (fun i hi => ?_) (fun i z hz => ?_)
  · obtain rfl : i = 0 := by simp at hi; omega
    refine ⟨h1.len, fun j v hj => ?_⟩
    rw [show 0 * 8 + j = j by omega]
    exact hN.cellAt (i := j) hj
  · match i, hz with
    | 0, hz => simp at hz; subst hz; exact h1
/-- An expression of two parts, behind an append. -/
theorem node_app {w : World} {S : Nat → Prop} {N cap B : Nat} {l m : List Value} {x y : Ex} (k : Nat) (t : List UInt8) (a : Nat) (hO : w.ownsRow B 28 8 (.slice (some ⟨N, 0, none⟩) 2 cap) 2 (l ++ m)) (hS : S N) (h1 : IsXS w S l x) (h2 : IsXS w S m y) :
    IsXS w S (exC k 0 t (.slice (some ⟨N, 0, none⟩) 2 cap) a) (.mk k 0 t [x, y] a) := by
  have hc : N < w.heap.size ∧ 2 ≤ cap ∧ cap ≤ maxLen := by
    rcases hO.2 with ⟨h', _⟩ | ⟨g', cap', cur, h', _, hg, hnc, hcm, _, _⟩
    · simp at h'
    · simp only [Value.slice.injEq, Option.some.injEq, Addr.mk.injEq, and_true, true_and] at h'
      obtain ⟨rfl, rfl⟩ := h'
      exact ⟨(Array.getElem?_eq_some_iff.1 hg).1, hnc, hcm⟩
  refine .node k 0 t a N cap [x, y] (fun i => if i = 0 then l else m) (by simp) hS hc.1 ⟨hc.2.1, hc.2.2⟩ (fun i hi => ?_) (fun i z hz => ?_)
  · have hi2 : i = 0 ∨ i = 1 := by simp at hi; omega
    rcases hi2 with rfl | rfl
    · refine ⟨h1.len, fun j v hj => ?_⟩
      have hj : l[j]? = some v := hj
      have hlt := (List.getElem?_eq_some_iff.1 hj).1
      have hl := h1.len
      rw [show 0 * 8 + j = j by omega, World.ownsRow.cellAt hO j (by omega), List.getElem?_append_left hlt]
      exact hj
    · refine ⟨h2.len, fun j v hj => ?_⟩
      have hj : m[j]? = some v := hj
      have hlt := (List.getElem?_eq_some_iff.1 hj).1
      have hl := h1.len
      have hm := h2.len
      rw [World.ownsRow.cellAt hO (1 * 8 + j) (by omega), List.getElem?_append_right (by omega), hl, show 1 * 8 + j - 8 = j by omega]
      exact hj
  · match i, hz with
    | 0, hz => simp at hz; subst hz; exact h1
    | 1, hz => simp at hz; subst hz; exact h2
theorem hasp_grown {w w' : World} {row : Option Nat} {b : Nat} {L : List Value} {t : TypeId} (h : Has w b L t) (hg : w.grownBy w' row) (hne : some b ≠ row) : Has w' b L t := (hg.block b h.lt hne).trans h
theorem Ps.grown {w w' : World} {row : Option Nat} {pb g off cap d : Nat} {ts : List Tk} {rm : Int} (h : Ps w pb g off cap ts d rm) (hg : w.grownBy w' row) (h1 : some pb ≠ row) (h2 : some g ≠ row) (h3 : some 2 ≠ row) : Ps w' pb g off cap ts d rm :=
  ⟨hasp_grown h.row hg h1, Nat.lt_of_lt_of_le h.lt hg.size, h.ne, h.room, (fun i t ht j v hj => hg.cell (h.toks i t ht j v hj) h2), h.ends, h.few, h.small, ⟨h.laid.1.choose, h.laid.1.choose_spec.choose, (hg.block _ h.laid.1.lt h3).trans h.laid.1.choose_spec.choose_spec⟩, h.laid.2⟩
theorem but_grown {w w' : World} {B pb : Nat} {row : Option Nat} (hg : w.grownBy w' row) (hB : B ≤ w.heap.size) (hr : ∀ k, row = some k → B ≤ k) : But B pb w w' :=
  ⟨hg.os, hg.tape, hg.output, hg.size, fun k h1 _ => hg.block k (by omega) (fun e => by have := hr k e.symm; omega)⟩
theorem below_setCell (w : World) (a : Addr) (v : Value) {B : Nat} (h : B ≤ a.block) : Below B w (w.setCell a v) := (Below.refl _ _).setCell h v
theorem owns_has {w : World} {N : Nat} {l : List Value} (h : Has w N l 28) (hl : l.length = 8) : w.ownsRow 0 28 8 (.slice (some ⟨N, 0, none⟩) 1 1) 1 l :=
  ⟨by omega, .inr ⟨N, 1, l.toArray, rfl, Nat.zero_le _, h, by decide, by decide, by simp [hl], by rw [show 1 * 8 = l.length by omega]; simp⟩⟩

set_option maxRecDepth 100000 in
set_option maxHeartbeats 8000000 in
theorem sel_ok {n : Nat} {w : World} {pb g off cap d : Nat} {ts : List Tk} {rm : Int} (h : Ps w pb g off cap ts d rm) (x : Ex) (r : List Tk) (hp : pg n .sel d ts = .ok x r)
    (hth : ∀ m, m < n → ∀ (W : World) (o c : Nat) (t1 : List Tk) (y : Ex) (r1 : List Tk), Ps W pb g o c t1 d rm → pg m .thing d t1 = .ok y r1 → Calls Tryd.prog 69 #[.pointer (some ⟨pb, 0, none⟩)] W (PX pb g d rm W y r1)) :
    Calls Tryd.prog 58 #[.pointer (some ⟨pb, 0, none⟩)] w (PX pb g d rm w x r) := by
  obtain ⟨m, x0, r0, rfl, hs0, hc0⟩ := sel_inv hp
  have HTH := Lib.hid hth
  have HH := Lib.hid h
  have HL : Hid (pb < w.heap.size ∧ g < w.heap.size) := Lib.hid ⟨h.row.lt, h.lt⟩
  have HS0 := Lib.hid hs0
  have HC0 := Lib.hid hc0
  clear h hp hth hs0 hc0
  go_enter Tryd.func58, Tryd.ntmps58
  go_upto_region 1 with fail
  obtain ⟨G, hG⟩ : ∃ G, G = w.heap.size := ⟨_, rfl⟩
  rw [← hG]
  obtain ⟨w1, hx1⟩ : ∃ x, x = w.alloc (.cells #[.int .u8 0, .int .i64 0, .string ⟨#[]⟩, .slice none 0 0, .slice none 0 0, .bool false, .slice none 0 0, .int .i64 0] 28) := ⟨_, rfl⟩
  rw [← hx1]
  have Z1 : Hid (Has w1 G exZ 28) := Lib.hid (by rw [hx1, hG]; exact Has.new w exZ _)
  have B1 : Hid (But G pb w w1) := Lib.hid (by rw [hx1, hG]; exact But.of_below ((Below.refl _ _).alloc (Nat.le_refl _) _))
  have H1 : Hid (Ps w1 pb g off cap ts d rm) := Lib.hid (HH.out.later (by rw [hx1]; exact (Below.refl _ _).alloc (Nat.le_refl _) _))
  have HG := Lib.hid hG
  have HPG : Hid (pb < G ∧ g < G) := Lib.hid (by rw [hG]; exact HL.out)
  clear hx1 hG HH HL
  have HQ := Lib.hid (HTH.out m (Nat.lt_succ_self m) w1 off cap ts x0 r0 H1.out HS0.out)
  have HLT := Lib.hid Z1.out.lt
  have HLP := Lib.hid H1.out.row.lt
  go_wp2_with fail
  refine HQ.out.mono ?_
  rintro e w4 ⟨cs, o4, c4, rfl, ix, bt, p4⟩
  have Z4 : Hid (Has w4 G exZ 28) := Lib.hid (Z1.out.but bt Z1.out.lt (by have := HPG.out; omega))
  have B4 : Hid (But G pb w w4) := Lib.hid (B1.out.trans (bt.mono (Nat.le_of_lt Z1.out.lt)))
  have H4 := Lib.hid p4
  obtain ⟨E, hE⟩ : ∃ E, E = cs.toArray := ⟨_, rfl⟩
  rw [← hE]
  have HE := Lib.hid hE
  have HEI : Hid ((Tryd.prog.info? 28).map (·.size) = some E.size) := Lib.hid (by rw [hE, List.size_toArray, ix.len]; exact info_ex)
  have HEO : Hid (E.all (·.oneCell') = true) := Lib.hid (by rw [hE]; exact ix.one)
  have HES : Hid (exZ.toArray.size = E.size) := Lib.hid (by rw [hE, List.size_toArray, List.size_toArray, ix.len]; rfl)
  have NW : Hid (Has (w4.alloc (.cells #[.int .u8 0, .int .i64 0, .string ⟨#[]⟩, .slice none 0 0, .slice none 0 0, .bool false, .slice none 0 0, .int .i64 0] 28)) w4.heap.size exZ 28) := Lib.hid (Has.new w4 exZ _)
  obtain ⟨X, hX⟩ : ∃ X, X = w4.heap.size := ⟨_, rfl⟩
  have IX : Hid (IsXS w4 (fun k => G < k ∧ k ≠ X) cs x0) := Lib.hid (IsXS.mono ix fun k h1 h2 => ⟨by have := HLT.out; omega, by rw [hX]; omega⟩)
  clear ix bt p4 hE HQ H1 Z1 B1
  go_upto_region 2 with (refine wpList_store_row rfl 28 _ _ rfl w4.heap.size E rfl rfl 28 _ NW.out HEI.out HES.out HEO.out ?_)
  obtain ⟨w5, hw5⟩ : ∃ y, y = (w4.alloc (.cells #[.int .u8 0, .int .i64 0, .string ⟨#[]⟩, .slice none 0 0, .slice none 0 0, .bool false, .slice none 0 0, .int .i64 0] 28)).setRow w4.heap.size E := ⟨_, rfl⟩
  rw [← hw5, ← hX]
  have X5 : Hid (Has w5 X cs 28) := Lib.hid (by rw [hw5, hX, HE.out]; exact NW.out.row _)
  have D5 : Hid (Below X w4 w5) := Lib.hid (by rw [hw5, hX]; exact below_setRow ((Below.refl _ _).alloc (Nat.le_refl _) _) (Nat.le_refl _) _)
  have H5 := Lib.hid (H4.out.later (by rw [← hX]; exact D5.out))
  have Z5 : Hid (Has w5 G exZ 28) := Lib.hid (Z4.out.below D5.out (by rw [hX]; exact Z4.out.lt))
  have B5 : Hid (But G pb w w5) := Lib.hid (B4.out.trans (But.of_below (D5.out.mono (by rw [hX]; exact Nat.le_of_lt Z4.out.lt))))
  have I5 : Hid (IsXS w5 (fun k => G < k ∧ k ≠ X) cs x0) := Lib.hid (IX.out.keep D5.out.size fun k _ h2 => D5.out.block k (by rw [hX]; exact h2))
  have HGX : Hid (G < X ∧ pb < X ∧ g < X) := Lib.hid (by rw [hX]; exact ⟨Z4.out.lt, H4.out.row.lt, H4.out.lt⟩)
  clear hw5 hX NW H4 Z4 B4 D5 IX HE HEI HEO HES
  simp only [Act.put]
  go_loopg [4] m (fun gk v4 wr => ∃ (k : Nat) (xc : Ex) (tc : List Tk) (cc : List Value) (o c : Nat), gk = k ∧ k ≤ m ∧ pg k (.sels xc) d tc = .ok x r ∧ Ps wr pb g o c tc d rm ∧ Has wr X cc 28 ∧ IsXS wr (fun k => G < k ∧ k ≠ X) cc xc ∧ Has wr G exZ 28 ∧ But G pb w wr ∧ G < wr.heap.size)
  case atStart => exact ⟨m, x0, r0, cs, o4, c4, rfl, Nat.le_refl _, HC0.out, H5.out, X5.out, I5.out, Z5.out, B5.out, Z5.out.lt⟩
  case round =>
    obtain ⟨k, xc, tc, cc, o, c, rfl, hk, hpg, hps, hxb, hix, hz, hbb, _⟩ := hrel
    obtain ⟨k1, rfl, hcase⟩ := sels_inv hpg
    have HA := Lib.hid hps
    have XA := Lib.hid hxb
    have IA := Lib.hid hix
    have ZA := Lib.hid hz
    have BA := Lib.hid hbb
    have KT := Lib.hid (stands_any hps 0 hps.ends.pos ⟨#[46]⟩)
    clear hpg hps hxb hix hz hbb H5 X5 I5 Z5 B5 HC0 HS0
    rcases hcase with ⟨ht, rfl, rfl⟩ | ⟨ht, u, t, q, rfl, htk, hnx⟩
    · as_aux_lemma =>
        go_wp2_with fail
        refine KT.out.mono ?_
        rw [show stT r 0 (ByteArray.mk #[46]).data.toList = false from ht]
        rintro e wa ⟨rfl, xa⟩
        have HB := Lib.hid (HA.out.later xa)
        have XB := Lib.hid (XA.out.below xa XA.out.lt)
        have ZB := Lib.hid (ZA.out.below xa ZA.out.lt)
        have BB : Hid (But G pb w wa) := Lib.hid (BA.out.trans (But.of_below (xa.mono (Nat.le_of_lt ZA.out.lt))))
        have IB : Hid (IsXS wa (fun k => G < k ∧ k ≠ X) cc x) := Lib.hid (IA.out.keep xa.size fun k _ h2 => xa.block k h2)
        obtain ⟨E, hE⟩ : ∃ E, E = cc.toArray := ⟨_, rfl⟩
        have HE := Lib.hid hE
        have HEI : Hid ((Tryd.prog.info? 28).map (·.size) = some E.size) := Lib.hid (by rw [hE, List.size_toArray, IB.out.len]; exact info_ex)
        have HEO : Hid (E.all (·.oneCell') = true) := Lib.hid (by rw [hE]; exact IB.out.one)
        have HES : Hid (exZ.toArray.size = E.size) := Lib.hid (by rw [hE, List.size_toArray, List.size_toArray, IB.out.len]; rfl)
        have HEX : Hid (wa.heap[X]? = some (.cells E 28 (0, 0))) := Lib.hid (by rw [hE]; exact XB.out)
        clear xa hE HA XA ZA BA IA KT ht
        go_wp2_with (first
          | (refine wpList_load_row rfl 28 _ rfl X rfl 28 E (0, 0) _ HEX.out Tryd.underlying28 rfl HEI.out ?_)
          | (refine wpList_store_row rfl 28 _ _ rfl G E rfl rfl 28 _ ZB.out HEI.out HES.out HEO.out ?_))
        refine bodyPost_ret (results_cell_row (fn := Tryd.f58) (p := 2) (ty := 28) Tryd.results58 _ _ G 28 E (0, 0) _ rfl (setRow_heap _ _ _ _ _ _ ZB.out) Tryd.underlying28 rfl HEI.out) rfl ?_
        refine ⟨cc, o, c, by rw [HE.out], ?_, ?_, HB.out.laterB (below_setRow (Below.refl G wa) (Nat.le_refl _) _) HPG.out.1 HPG.out.2⟩
        · rw [← HG.out]
          exact IsXS.mono (IB.out.keep (by simp) fun k h1 h2 => setRow_other _ _ _ _ (by omega)) fun k h1 _ => Nat.le_of_lt h1.1
        · rw [← HG.out]; exact BB.out.setRow (.inl (Nat.le_refl _)) _
    · as_aux_lemma =>
        go_wp2_with fail
        refine KT.out.mono ?_
        rw [show stT (u :: t :: q) 0 (ByteArray.mk #[46]).data.toList = true from ht]
        rintro e wa ⟨rfl, xa⟩
        have HB := Lib.hid (HA.out.later xa)
        have XB := Lib.hid (XA.out.below xa XA.out.lt)
        have ZB := Lib.hid (ZA.out.below xa ZA.out.lt)
        have BB : Hid (But G pb w wa) := Lib.hid (BA.out.trans (But.of_below (xa.mono (Nat.le_of_lt ZA.out.lt))))
        have IB : Hid (IsXS wa (fun k => G < k ∧ k ≠ X) cc xc) := Lib.hid (IA.out.keep xa.size fun k _ h2 => xa.block k h2)
        clear xa HA XA ZA BA IA KT
        have KK := Lib.hid (take_any HB.out (stT_kind ht))
        have HNX := Lib.hid hnx
        clear ht hnx
        go_wp2_with fail
        refine KK.out.mono ?_
        rintro e wb ⟨rfl, bt, pe⟩
        rw [show (tokC u).toArray = #[.int .u8 (u.kind : Int), .string ⟨u.text.toArray⟩, .int .i64 (u.at_ : Int)] from rfl]
        have HC0 := Lib.hid pe
        have XC0 := Lib.hid (XB.out.but bt XB.out.lt (by have := HGX.out; omega))
        have ZC0 := Lib.hid (ZB.out.but bt ZB.out.lt (by have := HPG.out; omega))
        have BC0 : Hid (But G pb w wb) := Lib.hid (BB.out.trans (bt.mono (Nat.le_of_lt ZB.out.lt)))
        have IC0 : Hid (IsXS wb (fun k => G < k ∧ k ≠ X) cc xc) := Lib.hid (IB.out.keep bt.size fun k h1 h2 => bt.block k h2 (by have := HPG.out; omega))
        clear bt pe HB XB ZB BB IB KK
        have hf2 := tok_field2 (.int .u8 (u.kind : Int)) (.string ⟨u.text.toArray⟩) (.int .i64 (u.at_ : Int))
        go_upto_region 4 with fail
        clear hf2
        have hf1 := tok_field1 (.int .u8 1) (.string ⟨t.text.toArray⟩) (.int .i64 (t.at_ : Int))
        refine wp_region_held_drew (S := fun _ => True) (by kernel_rfl) trivial (fun hHeld => ?_)
        obtain ⟨wd, hwd⟩ : ∃ wd, wd = wb.drew := ⟨_, rfl⟩
        rw [← hwd]
        have HC := Lib.hid (show Ps wd pb g (o + 3) (c - 1) (t :: q) d rm by rw [hwd]; exact HC0.out.later (Below.refl _ _).drew)
        have XC : Hid (Has wd X cc 28) := Lib.hid (by rw [hwd]; exact XC0.out.drew)
        have ZC : Hid (Has wd G exZ 28) := Lib.hid (by rw [hwd]; exact ZC0.out.drew)
        have BC : Hid (But G pb w wd) := Lib.hid (by rw [hwd]; exact BC0.out.drew)
        have IC : Hid (IsXS wd (fun k => G < k ∧ k ≠ X) cc xc) := Lib.hid (by rw [hwd]; exact IC0.out.keep (Nat.le_refl _) fun k _ _ => rfl)
        have HQ := Lib.hid (name_ok HC.out htk)
        obtain ⟨D, hD⟩ : ∃ D, D = cc.toArray := ⟨_, rfl⟩
        have HD := Lib.hid hD
        have HDI : Hid ((Tryd.prog.info? 28).map (·.size) = some D.size) := Lib.hid (by rw [hD, List.size_toArray, IC.out.len]; exact info_ex)
        have HXD : Hid (wd.heap[X]? = some (.cells D 28 (0, 0))) := Lib.hid (by rw [hD]; exact XC.out)
        obtain ⟨i0, hi0, hi1, hi2, hi3⟩ := info_exp
        have HI0 := Lib.hid hi0
        have HI1 := Lib.hid hi1
        have HI2 := Lib.hid hi2
        have HI3 := Lib.hid hi3
        clear hwd HC0 XC0 ZC0 BC0 IC0 hD hi0 hi1 hi2 hi3
        refine wpAnyH_take (i := 0) (oi := { dst := some 12, op := Op.move (Operand.tmp 0), type := 44, pos := "op.go:87", after := #[], guard := none }) (v := .pointer (some ⟨pb, 0, none⟩)) rfl (by kernel_rfl) (by kernel_rfl) (by kernel_rfl) (fun _ _ _ h => h)
          (Or.inl ⟨by rfl, by intro w hSw;  clear hSw; go_simp⟩) hHeld ?_
        try simp only [Act.put, List.setIfInBounds_toArray, List.set_cons_zero, List.set_cons_succ]
        refine wpAnyH_take (i := 5) (oi := { dst := some 17, op := Op.move (Operand.tmp 4), type := 3, pos := "op.go:87", after := #[], guard := none }) (v := .int .i64 (u.at_ : Int)) rfl (by kernel_rfl) (by kernel_rfl) (by kernel_rfl) (fun _ _ _ h => h)
          (Or.inl ⟨by rfl, by intro w hSw;  clear hSw; go_simp⟩) hHeld ?_
        try simp only [Act.put, List.setIfInBounds_toArray, List.set_cons_zero, List.set_cons_succ]
        refine wpAnyH_ready (rs := [1, 3]) (by kernel_rfl) (by simp) ?_
        refine AllReadyH.cons (o := { dst := some 13, op := Op.call { callee := Callee.value (Operand.func 41), args := #[Operand.tmp 12], argTypes := #[44] }, type := 50, pos := "op.go:87", after := #[{ on := 0, ground := Ground.data }], guard := none }) rfl (fun K hK => ?_) (AllReadyH.cons (o := { dst := some 15, op := Op.load 28 (Operand.tmp 3), type := 28, pos := "op.go:87", after := #[], guard := none }) rfl (fun K hK => ?_) AllReadyH.nil)
        · go_simp
          refine HQ.out.mono ?_
          rintro e we ⟨rfl, bt, pe⟩
          rw [show (tokC t).toArray = #[.int .u8 (t.kind : Int), .string ⟨t.text.toArray⟩, .int .i64 (t.at_ : Int)] from rfl]
          have HE2 := Lib.hid pe
          have XE : Hid (Has we X cc 28) := Lib.hid (XC.out.but bt XC.out.lt (by have := HGX.out; omega))
          have YE2 : Hid (Has we G exZ 28) := Lib.hid (ZC.out.but bt ZC.out.lt (by have := HPG.out; omega))
          have BE : Hid (But G pb w we) := Lib.hid (BC.out.trans (bt.mono (Nat.le_of_lt ZC.out.lt)))
          have IE : Hid (IsXS we (fun k => G < k ∧ k ≠ X) cc xc) := Lib.hid (IC.out.keep bt.size fun k h1 h2 => bt.block k h2 (by have := HPG.out; omega))
          clear bt pe HQ
          go_wp2_with fail
          refine hK.out _ _ trivial (fun hHw1 => ?_)
          clear hK K hHeld
          try simp only [Act.put, List.setIfInBounds_toArray, List.set_cons_zero, List.set_cons_succ]
          refine wpAnyH_take (i := 2) (oi := { dst := some 14, op := Op.field 50 (Operand.tmp 13) 1, type := 9, pos := "op.go:87", after := #[{ on := 1, ground := Ground.data }], guard := none }) (v := .string ⟨t.text.toArray⟩) rfl (by kernel_rfl) (by kernel_rfl) (by kernel_rfl) (fun _ _ _ h => h)
            (Or.inl ⟨by rfl, by intro w hSw;  clear hSw; go_simp⟩) hHw1 ?_
          try simp only [Act.put, List.setIfInBounds_toArray, List.set_cons_zero, List.set_cons_succ]
          refine wpAnyH_ready (rs := [3]) (by kernel_rfl) (by simp) ?_
          refine AllReadyH.cons (o := { dst := some 15, op := Op.load 28 (Operand.tmp 3), type := 28, pos := "op.go:87", after := #[], guard := none }) rfl (fun K hK => ?_) AllReadyH.nil
          rw [if_pos (by rfl)]
          refine wp_load_row 28 (.tmp 3) rfl X rfl 28 D (0, 0) _ (by rw [HD.out]; exact XE.out) Tryd.underlying28 rfl HDI.out ?_
          refine hK.out _ _ trivial (fun hHw2 => ?_)
          clear hK K hHw1
          try simp only [Act.put, List.setIfInBounds_toArray, List.set_cons_zero, List.set_cons_succ]
          refine wpAnyH_ready (rs := [4]) (by kernel_rfl) (by simp) ?_
          refine AllReadyH.cons (o := { dst := some 16, op := Op.buildSlice 26 1 #[(0, Operand.tmp 15)], type := 26, pos := "op.go:87", after := #[{ on := 3, ground := Ground.data }], guard := none }) rfl (fun K hK => ?_) AllReadyH.nil
          rw [if_pos (by rfl)]
          refine wp_buildSlice 26 28 1 _ rfl cc.toArray i0 (.agg exZ.toArray) Tryd.underlying26 HI0.out HI1.out (by rw [HI2.out]; decide) (by rw [HI2.out]; decide) (by rw [HI2.out]; have := fill_one (l := cc) IE.out.len; refine Eq.trans (congrArg _ ?_) this; simp [Act.eval, HD.out]) ?_
          refine hK.out _ _ trivial (fun hHw3 => ?_)
          clear hK K hHw2
          try simp only [Act.put, List.setIfInBounds_toArray, List.set_cons_zero, List.set_cons_succ]
          obtain ⟨N, hN⟩ : ∃ N, N = we.heap.size := ⟨_, rfl⟩
          obtain ⟨wf, hwf⟩ : ∃ y, y = we.alloc (.cells cc.toArray 28) := ⟨_, rfl⟩
          rw [← hwf, ← hN]
          have XF : Hid (Has wf X cc 28) := Lib.hid (by rw [hwf]; exact XE.out.alloc _)
          have NF : Hid (Has wf N cc 28) := Lib.hid (by rw [hwf, hN]; exact Has.new we _ _)
          have ZF : Hid (Has wf G exZ 28) := Lib.hid (by rw [hwf]; exact YE2.out.alloc _)
          have DF : Hid (Below N we wf) := Lib.hid (by rw [hwf, hN]; exact (Below.refl _ _).alloc (Nat.le_refl _) _)
          have BF : Hid (But G pb w wf) := Lib.hid (BE.out.trans (But.of_below (DF.out.mono (by rw [hN]; exact Nat.le_of_lt YE2.out.lt))))
          have PF := Lib.hid (HE2.out.later (by rw [← hN]; exact DF.out))
          have HNN : Hid (G < N ∧ X < N ∧ pb < N ∧ g < N) := Lib.hid (by rw [hN]; exact ⟨YE2.out.lt, XE.out.lt, HE2.out.row.lt, HE2.out.lt⟩)
          have I1 : Hid (IsXS wf (fun k => G < k ∧ k ≠ X ∧ k ≠ N) cc xc) := Lib.hid (IsXS.mono (IsXS.keep (IsXS.mono IE.out (S' := fun k => G < k ∧ k ≠ X ∧ k ≠ N) fun k h1 h2 => ⟨h1.1, h1.2, by rw [hN]; exact Nat.ne_of_lt h2⟩) DF.out.size fun k _ h2 => DF.out.block k (by rw [hN]; exact h2)) fun k h1 _ => h1)
          clear hN hwf
          refine wpAnyH_take (i := 6) (oi := { dst := some 18, op := Op.build 28 #[(0, Operand.const (Value.int IntKind.u8 7)), (2, Operand.tmp 14), (6, Operand.tmp 16), (7, Operand.tmp 17)], type := 28, pos := "op.go:87", after := #[{ on := 2, ground := Ground.data }, { on := 4, ground := Ground.data }, { on := 5, ground := Ground.data }], guard := none }) (v := .agg #[.int .u8 7, .int .i64 0, .string ⟨t.text.toArray⟩, .slice none 0 0, .slice none 0 0, .bool false, .slice (some ⟨N, 0, none⟩) 1 1, .int .i64 (u.at_ : Int)]) rfl (by kernel_rfl) (by kernel_rfl) (by kernel_rfl) (fun _ _ _ h => h)
            (Or.inl ⟨by rfl, by intro w hSw;  clear hSw; go_simp⟩) hHw3 ?_
          try simp only [Act.put, List.setIfInBounds_toArray, List.set_cons_zero, List.set_cons_succ]
          refine wpAnyH_ready (rs := [7]) (by kernel_rfl) (by simp) ?_
          refine AllReadyH.cons (o := { dst := none, op := Op.store 28 (Operand.tmp 3) (Operand.tmp 18), type := 0, pos := "op.go:87", after := #[{ on := 6, ground := Ground.data }, { on := 1, ground := Ground.chain }, { on := 0, ground := Ground.phase }, { on := 1, ground := Ground.phase }, { on := 2, ground := Ground.phase }, { on := 3, ground := Ground.phase }, { on := 4, ground := Ground.phase }, { on := 5, ground := Ground.phase }, { on := 6, ground := Ground.phase }], guard := none }) rfl (fun K hK => ?_) AllReadyH.nil
          rw [if_pos (by rfl)]
          have I2 : Hid (IsXS wf (fun k => G < k ∧ k ≠ X) (exC 7 0 t.text (.slice (some ⟨N, 0, none⟩) 1 1) u.at_) (.mk 7 0 t.text [xc] u.at_)) := Lib.hid (node_one 7 t.text u.at_ NF.out ⟨HNN.out.1, by have := HNN.out.2; omega⟩ (IsXS.mono I1.out fun k h1 _ => ⟨h1.1, h1.2.1⟩))
          refine wp_store_row 28 (.tmp 3) (.tmp 18) rfl X (exC 7 0 t.text (.slice (some ⟨N, 0, none⟩) 1 1) u.at_).toArray rfl rfl 28 cc.toArray XF.out (by rw [List.size_toArray, I2.out.len]; exact info_ex) (by rw [List.size_toArray, List.size_toArray, I2.out.len, I1.out.len]) I2.out.one ?_
          refine hK.out _ _ trivial (fun hHw4 => ?_)
          clear hK K hHw3
          try simp only [Act.put]
          refine wpAnyH_done (by kernel_rfl) ?_ _
          clear hHw4
          obtain ⟨wg, hwg⟩ : ∃ wg, wg = wf.setRow X (exC 7 0 t.text (.slice (some ⟨N, 0, none⟩) 1 1) u.at_).toArray := ⟨_, rfl⟩
          try rw [← hwg]
          have XG : Hid (Has wg X (exC 7 0 t.text (.slice (some ⟨N, 0, none⟩) 1 1) u.at_) 28) := Lib.hid (by rw [hwg]; exact XF.out.row _)
          have NG : Hid (Has wg N cc 28) := Lib.hid (by rw [hwg]; exact NF.out.rowOther (by have := HNN.out; omega) _)
          have ZG : Hid (Has wg G exZ 28) := Lib.hid (by rw [hwg]; exact ZF.out.rowOther (by have := HGX.out; omega) _)
          have BG : Hid (But G pb w wg) := Lib.hid (by rw [hwg]; exact BF.out.setRow (.inl (Nat.le_of_lt HGX.out.1)) _)
          have PG := Lib.hid (show Ps wg pb g (o + 3 + 3) (c - 1 - 1) q d rm by rw [hwg]; exact PF.out.laterB (B := G) (below_setRow (Below.refl G wf) (Nat.le_of_lt HGX.out.1) _) HPG.out.1 HPG.out.2)
          have IG : Hid (IsXS wg (fun k => G < k ∧ k ≠ X ∧ k ≠ N) cc xc) := Lib.hid (by rw [hwg]; exact I1.out.keep (by simp) fun k h1 h2 => setRow_other _ _ _ _ h1.2.1)
          clear hwg XF NF ZF BF PF I1 I2 HC XC ZC BC IC HXD hf1
          rcases HNX.out with ⟨hor, hn2⟩ | ⟨hor, y, r1, hy, hn2⟩
          · have KS := Lib.hid (skip_no PG.out ⟨#[111, 114]⟩ hor)
            go_wp2_with fail
            refine KS.out.mono ?_
            rintro e wh ⟨rfl, xh⟩
            have XH := Lib.hid (XG.out.below xh XG.out.lt)
            have NH := Lib.hid (NG.out.below xh NG.out.lt)
            have ZH := Lib.hid (ZG.out.below xh ZG.out.lt)
            have BH : Hid (But G pb w wh) := Lib.hid (BG.out.trans (But.of_below (xh.mono (Nat.le_of_lt ZG.out.lt))))
            have PH := Lib.hid (PG.out.later xh)
            have IH : Hid (IsXS wh (fun k => G < k ∧ k ≠ X) cc xc) := Lib.hid (IsXS.mono (IG.out.keep xh.size fun k _ h2 => xh.block k h2) fun k h1 _ => ⟨h1.1, h1.2.1⟩)
            clear xh XG NG ZG BG PG IG KS
            go_wp2_with fail
            go_roundg k1
            case rel => exact ⟨k1, .mk 7 0 t.text [xc] u.at_, q, exC 7 0 t.text (.slice (some ⟨N, 0, none⟩) 1 1) u.at_, _, _, rfl, by omega, hn2, PH.out, XH.out, node_one 7 t.text u.at_ NH.out ⟨HNN.out.1, by have := HNN.out; omega⟩ IH.out, ZH.out, BH.out, ZH.out.lt⟩
            case measure => omega
          · match q, hor, hy, hn2, PG with
            | [], hor, _, _, _ => simp [stT] at hor
            | v :: q2, hor, hy, hn2, PG =>
              have KS := Lib.hid (skip_yes PG.out ⟨#[111, 114]⟩ hor)
              have HY2 := Lib.hid (show pg k1 .thing d q2 = .ok y r1 from hy)
              have HN2 := Lib.hid hn2
              clear hor hy hn2 HNX
              go_wp2_with fail
              refine KS.out.mono ?_
              rintro e wh ⟨rfl, bt, pe⟩
              have XH := Lib.hid (XG.out.but bt XG.out.lt (by have := HGX.out; omega))
              have NH := Lib.hid (NG.out.but bt NG.out.lt (by have := HNN.out; omega))
              have ZH := Lib.hid (ZG.out.but bt ZG.out.lt (by have := HPG.out; omega))
              have BH : Hid (But G pb w wh) := Lib.hid (BG.out.trans (bt.mono (Nat.le_of_lt ZG.out.lt)))
              have PH := Lib.hid pe
              have IH : Hid (IsXS wh (fun k => G < k ∧ k ≠ X ∧ k ≠ N) cc xc) := Lib.hid (IG.out.keep bt.size fun k h1 h2 => bt.block k h2 (by have := HPG.out; omega))
              clear bt pe XG NG ZG BG PG IG KS
              go_upto_region 6 with fail
              refine wp_region_held_drew (S := fun _ => True) (by kernel_rfl) trivial (fun hHeld => ?_)
              obtain ⟨wi, hwi⟩ : ∃ wi, wi = wh.drew := ⟨_, rfl⟩
              rw [← hwi]
              have PI := Lib.hid (show Ps wi pb g (o + 3 + 3 + 3) (c - 1 - 1 - 1) q2 d rm by rw [hwi]; exact PH.out.later (Below.refl _ _).drew)
              have XI : Hid (Has wi X (exC 7 0 t.text (.slice (some ⟨N, 0, none⟩) 1 1) u.at_) 28) := Lib.hid (by rw [hwi]; exact XH.out.drew)
              have NI : Hid (Has wi N cc 28) := Lib.hid (by rw [hwi]; exact NH.out.drew)
              have ZI : Hid (Has wi G exZ 28) := Lib.hid (by rw [hwi]; exact ZH.out.drew)
              have BI : Hid (But G pb w wi) := Lib.hid (by rw [hwi]; exact BH.out.drew)
              have II : Hid (IsXS wi (fun k => G < k ∧ k ≠ X ∧ k ≠ N) cc xc) := Lib.hid (by rw [hwi]; exact IH.out.keep (Nat.le_refl _) fun k _ _ => rfl)
              have HT6 := Lib.hid (HTH.out k1 (by omega) wi _ _ q2 y r1 PI.out HY2.out)
              clear hwi XH NH ZH BH PH IH
              refine wpAnyH_take (i := 0) (oi := { dst := some 21, op := Op.fieldAddr 28 (Operand.tmp 3) 6, type := 0, pos := "op.go:89", after := #[], guard := none }) (v := .pointer (some ⟨X, 6, none⟩)) rfl (by kernel_rfl) (by kernel_rfl) (by kernel_rfl) (fun _ _ _ h => h)
                (Or.inl ⟨by rfl, by intro w hSw;  clear hSw; go_simp⟩) hHeld ?_
              try simp only [Act.put, List.setIfInBounds_toArray, List.set_cons_zero, List.set_cons_succ]
              refine wpAnyH_take (i := 2) (oi := { dst := some 23, op := Op.move (Operand.tmp 0), type := 44, pos := "op.go:89", after := #[], guard := none }) (v := .pointer (some ⟨pb, 0, none⟩)) rfl (by kernel_rfl) (by kernel_rfl) (by kernel_rfl) (fun _ _ _ h => h)
                (Or.inl ⟨by rfl, by intro w hSw;  clear hSw; go_simp⟩) hHeld ?_
              try simp only [Act.put, List.setIfInBounds_toArray, List.set_cons_zero, List.set_cons_succ]
              refine wpAnyH_ready (rs := [1, 3]) (by kernel_rfl) (by simp) ?_
              refine AllReadyH.cons (o := { dst := some 22, op := Op.load 26 (Operand.tmp 21), type := 26, pos := "op.go:89", after := #[{ on := 0, ground := Ground.data }], guard := none }) rfl (fun K hK => ?_) (AllReadyH.cons (o := { dst := some 24, op := Op.call { callee := Callee.value (Operand.func 69), args := #[Operand.tmp 23], argTypes := #[44] }, type := 28, pos := "op.go:89", after := #[{ on := 2, ground := Ground.data }], guard := none }) rfl (fun K hK => ?_) AllReadyH.nil)
              · have hcl := (XI.out).cellAt (i := 6) (v := .slice (some ⟨N, 0, none⟩) 1 1) rfl
                go_simp
                clear hcl
                refine hK.out _ _ trivial (fun hHw1 => ?_)
                clear hK K hHeld
                try simp only [Act.put, List.setIfInBounds_toArray, List.set_cons_zero, List.set_cons_succ]
                refine wpAnyH_ready (rs := [3]) (by kernel_rfl) (by simp) ?_
                refine AllReadyH.cons (o := { dst := some 24, op := Op.call { callee := Callee.value (Operand.func 69), args := #[Operand.tmp 23], argTypes := #[44] }, type := 28, pos := "op.go:89", after := #[{ on := 2, ground := Ground.data }], guard := none }) rfl (fun K hK => ?_) AllReadyH.nil
                go_simp
                refine HT6.out.mono ?_
                rintro e wj ⟨ys, oe, ce, rfl, iy, bt, pe⟩
                have PJ := Lib.hid pe
                have HYL := Lib.hid iy.len
                have XJ : Hid (Has wj X (exC 7 0 t.text (.slice (some ⟨N, 0, none⟩) 1 1) u.at_) 28) := Lib.hid (XI.out.but bt XI.out.lt (by have := HGX.out; omega))
                have NJ : Hid (Has wj N cc 28) := Lib.hid (NI.out.but bt NI.out.lt (by have := HNN.out; omega))
                have ZJ : Hid (Has wj G exZ 28) := Lib.hid (ZI.out.but bt ZI.out.lt (by have := HPG.out; omega))
                have BJ : Hid (But G pb w wj) := Lib.hid (BI.out.trans (bt.mono (Nat.le_of_lt ZI.out.lt)))
                have IJ : Hid (IsXS wj (fun k => G < k ∧ k ≠ X ∧ k ≠ N) cc xc) := Lib.hid (II.out.keep bt.size fun k h1 h2 => bt.block k h2 (by have := HPG.out; omega))
                have IY : Hid (IsXS wj (fun k => G < k ∧ k ≠ X ∧ k ≠ N) ys y) := Lib.hid (IsXS.mono iy fun k h1 _ => ⟨by have := ZI.out.lt; omega, by have := XI.out.lt; omega, by have := NI.out.lt; omega⟩)
                clear iy bt pe HT6
                obtain ⟨Y, hY⟩ : ∃ Y, Y = ys.toArray := ⟨_, rfl⟩
                rw [← hY]
                have HY := Lib.hid hY
                clear hY
                go_wp2_with fail
                refine hK.out _ _ trivial (fun hHw2 => ?_)
                clear hK K hHw1
                try simp only [Act.put, List.setIfInBounds_toArray, List.set_cons_zero, List.set_cons_succ]
                refine wpAnyH_ready (rs := [4]) (by kernel_rfl) (by simp) ?_
                refine AllReadyH.cons (o := { dst := some 25, op := Op.buildSlice 26 1 #[(0, Operand.tmp 24)], type := 26, pos := "op.go:89", after := #[{ on := 3, ground := Ground.data }], guard := none }) rfl (fun K hK => ?_) AllReadyH.nil
                rw [if_pos (by rfl)]
                refine wp_buildSlice 26 28 1 _ rfl ys.toArray i0 (.agg exZ.toArray) Tryd.underlying26 HI0.out HI1.out (by rw [HI2.out]; decide) (by rw [HI2.out]; decide) (by rw [HI2.out]; have := fill_one (l := ys) HYL.out; refine Eq.trans (congrArg _ ?_) this; simp [Act.eval, HY.out]) ?_
                refine hK.out _ _ trivial (fun hHw3 => ?_)
                clear hK K hHw2
                try simp only [Act.put, List.setIfInBounds_toArray, List.set_cons_zero, List.set_cons_succ]
                obtain ⟨M, hM⟩ : ∃ M, M = wj.heap.size := ⟨_, rfl⟩
                obtain ⟨wk, hwk⟩ : ∃ y, y = wj.alloc (.cells ys.toArray 28) := ⟨_, rfl⟩
                rw [← hwk, ← hM]
                have DK : Hid (Below M wj wk) := Lib.hid (by rw [hwk, hM]; exact (Below.refl _ _).alloc (Nat.le_refl _) _)
                have MK : Hid (Has wk M ys 28) := Lib.hid (by rw [hwk, hM]; exact Has.new wj _ _)
                have XK := Lib.hid (XJ.out.below DK.out (by rw [hM]; exact XJ.out.lt))
                have NK := Lib.hid (NJ.out.below DK.out (by rw [hM]; exact NJ.out.lt))
                have ZK := Lib.hid (ZJ.out.below DK.out (by rw [hM]; exact ZJ.out.lt))
                have BK : Hid (But G pb w wk) := Lib.hid (BJ.out.trans (But.of_below (DK.out.mono (by rw [hM]; exact Nat.le_of_lt ZJ.out.lt))))
                have PK := Lib.hid (PJ.out.later (by rw [← hM]; exact DK.out))
                have IJK : Hid (IsXS wk (fun k => G < k ∧ k ≠ X ∧ k ≠ N) cc xc) := Lib.hid (IJ.out.keep DK.out.size fun k _ h2 => DK.out.block k (by rw [hM]; exact h2))
                have IYK : Hid (IsXS wk (fun k => G < k ∧ k ≠ X ∧ k ≠ N) ys y) := Lib.hid (IY.out.keep DK.out.size fun k _ h2 => DK.out.block k (by rw [hM]; exact h2))
                clear hM hwk DK XJ NJ ZJ BJ PJ IJ IY
                refine wpAnyH_ready (rs := [5]) (by kernel_rfl) (by simp) ?_
                refine AllReadyH.cons (o := { dst := some 26, op := Op.call { callee := Callee.builtin Builtin.append, args := #[Operand.tmp 22, Operand.tmp 25], argTypes := #[26, 26] }, type := 26, pos := "op.go:89", after := #[{ on := 1, ground := Ground.data }, { on := 4, ground := Ground.data }, { on := 3, ground := Ground.chain }], guard := none }) rfl (fun K hK => ?_) AllReadyH.nil
                rw [if_pos (by rfl)]
                have ow := owns_has NK.out IJK.out.len
                refine wp_append_lies _ (.tmp 22) (.tmp 25) 26 rfl 0 28 i0 (.agg exZ.toArray) 8 120 Tryd.underlying26 HI0.out HI1.out HI2.out HI3.out rfl (by omega) (.slice (some ⟨N, 0, none⟩) 1 1) 1 cc rfl ow ⟨M, 0, none⟩ 1 1 ys rfl (by rw [HYL.out]) (fun j u hj => ?_) (fun u hu => ?_) (by omega) (by decide) (by decide) (Nat.zero_le _) wk.heap.size rfl (fun ga capa w5 h5o h5g h5b h5s => ?_)
                · rw [Addr.add_lit, Nat.zero_add]; exact MK.out.cellAt hj
                · have h1 := IYK.out.one
                  rw [Array.all_eq_true] at h1
                  obtain ⟨i, hi, rfl⟩ := List.mem_iff_getElem.1 hu
                  exact h1 i (by simpa using hi)
                have HGA : Hid (G < ga ∧ ga ≠ X ∧ ga < w5.heap.size) := Lib.hid (by
                  rcases h5b with h | h
                  · have h : N = ga := by simpa [Value.ownBlock] using h
                    have := HNN.out; exact ⟨by omega, by omega, h5s⟩
                  · have h1 := ZK.out.lt
                    have h2 := XK.out.lt
                    exact ⟨by omega, by omega, h5s⟩)
                have X6 := Lib.hid (hasp_grown XK.out h5g (by simp [Value.ownBlock]; have := HNN.out; omega))
                have Z6 := Lib.hid (hasp_grown ZK.out h5g (by simp [Value.ownBlock]; have := HNN.out; omega))
                have P6 := Lib.hid (PK.out.grown h5g (by simp [Value.ownBlock]; have := HNN.out; omega) (by simp [Value.ownBlock]; have := HNN.out; omega) (by simp [Value.ownBlock]; have := HNN.out; have := PK.out.laid.2; omega))
                have IJ6 : Hid (IsXS w5 (fun k => G < k ∧ k ≠ X) cc xc) := Lib.hid (IsXS.mono (IJK.out.keep h5g.size fun k h1 h2 => h5g.block k h2 (by simp [Value.ownBlock]; omega)) fun k h1 _ => ⟨h1.1, h1.2.1⟩)
                have IY6 : Hid (IsXS w5 (fun k => G < k ∧ k ≠ X) ys y) := Lib.hid (IsXS.mono (IYK.out.keep h5g.size fun k h1 h2 => h5g.block k h2 (by simp [Value.ownBlock]; omega)) fun k h1 _ => ⟨h1.1, h1.2.1⟩)
                have B6 : Hid (But G pb w w5) := Lib.hid (BK.out.trans (but_grown h5g (Nat.le_of_lt ZK.out.lt) (fun k e => by have e : N = k := (by simpa [Value.ownBlock] using e); have := HNN.out; omega)))
                have I6 : Hid (IsXS w5 (fun k => G < k ∧ k ≠ X) (exC 7 0 t.text (.slice (some ⟨ga, 0, none⟩) 2 capa) u.at_) (.mk 7 0 t.text [xc, y] u.at_)) := Lib.hid (node_app 7 t.text u.at_ h5o ⟨HGA.out.1, HGA.out.2.1⟩ IJ6.out IY6.out)
                clear h5o h5g h5b h5s ow XK ZK PK BK IJK IYK MK NK IJ6 IY6
                refine hK.out _ _ trivial (fun hHw4 => ?_)
                clear hK K hHw3
                try simp only [Act.put, List.setIfInBounds_toArray, List.set_cons_zero, List.set_cons_succ]
                refine wpAnyH_take (i := 6) (oi := { dst := some 27, op := Op.fieldAddr 28 (Operand.tmp 3) 6, type := 0, pos := "op.go:89", after := #[{ on := 0, ground := Ground.phase }, { on := 1, ground := Ground.phase }, { on := 2, ground := Ground.phase }, { on := 3, ground := Ground.phase }, { on := 4, ground := Ground.phase }, { on := 5, ground := Ground.phase }], guard := none }) (v := .pointer (some ⟨X, 6, none⟩)) rfl (by kernel_rfl) (by kernel_rfl) (by kernel_rfl) (fun _ _ _ h => h)
                  (Or.inl ⟨by rfl, by intro w hSw;  clear hSw; go_simp⟩) hHw4 ?_
                try simp only [Act.put, List.setIfInBounds_toArray, List.set_cons_zero, List.set_cons_succ]
                refine wpAnyH_ready (rs := [7]) (by kernel_rfl) (by simp) ?_
                refine AllReadyH.cons (o := { dst := none, op := Op.store 26 (Operand.tmp 27) (Operand.tmp 26), type := 0, pos := "op.go:89", after := #[{ on := 6, ground := Ground.data }, { on := 5, ground := Ground.data }, { on := 5, ground := Ground.chain }, { on := 0, ground := Ground.phase }, { on := 1, ground := Ground.phase }, { on := 2, ground := Ground.phase }, { on := 3, ground := Ground.phase }, { on := 4, ground := Ground.phase }, { on := 5, ground := Ground.phase }], guard := none }) rfl (fun K hK => ?_) AllReadyH.nil
                have hc5 := X6.out.cellAt (i := 6) (v := .slice (some ⟨N, 0, none⟩) 1 1) rfl
                have hf5 := X6.out.frozen 6
                go_simp
                clear hc5 hf5
                refine hK.out _ _ trivial (fun hHw5 => ?_)
                clear hK K hHw4
                try simp only [Act.put]
                refine wpAnyH_done (by kernel_rfl) ?_ _
                clear hHw5
                go_wp2_with fail
                go_roundg k1
                case rel => exact ⟨k1, .mk 7 0 t.text [xc, y] u.at_, r1, exC 7 0 t.text (.slice (some ⟨ga, 0, none⟩) 2 capa) u.at_, oe, ce, rfl, by omega, HN2.out, P6.out.laterB (B := G) (below_setCell _ _ _ (Nat.le_of_lt HGX.out.1)) HPG.out.1 HPG.out.2, X6.out.set 6 _, I6.out.keep (by simp [World.setCell]) fun k h1 h2 => heap_setCell_other _ ⟨X, 6, none⟩ k _ h1.2, Z6.out.setOther (a := ⟨X, 6, none⟩) (by have := HGX.out; show G ≠ X; omega) _, B6.out.trans (But.of_below (below_setCell _ _ _ (Nat.le_of_lt HGX.out.1))), by simpa [World.setCell] using Z6.out.lt⟩
                case measure => omega
              · go_simp
                refine HT6.out.mono ?_
                rintro e wj ⟨ys, oe, ce, rfl, iy, bt, pe⟩
                have PJ := Lib.hid pe
                have HYL := Lib.hid iy.len
                have XJ : Hid (Has wj X (exC 7 0 t.text (.slice (some ⟨N, 0, none⟩) 1 1) u.at_) 28) := Lib.hid (XI.out.but bt XI.out.lt (by have := HGX.out; omega))
                have NJ : Hid (Has wj N cc 28) := Lib.hid (NI.out.but bt NI.out.lt (by have := HNN.out; omega))
                have ZJ : Hid (Has wj G exZ 28) := Lib.hid (ZI.out.but bt ZI.out.lt (by have := HPG.out; omega))
                have BJ : Hid (But G pb w wj) := Lib.hid (BI.out.trans (bt.mono (Nat.le_of_lt ZI.out.lt)))
                have IJ : Hid (IsXS wj (fun k => G < k ∧ k ≠ X ∧ k ≠ N) cc xc) := Lib.hid (II.out.keep bt.size fun k h1 h2 => bt.block k h2 (by have := HPG.out; omega))
                have IY : Hid (IsXS wj (fun k => G < k ∧ k ≠ X ∧ k ≠ N) ys y) := Lib.hid (IsXS.mono iy fun k h1 _ => ⟨by have := ZI.out.lt; omega, by have := XI.out.lt; omega, by have := NI.out.lt; omega⟩)
                clear iy bt pe HT6
                obtain ⟨Y, hY⟩ : ∃ Y, Y = ys.toArray := ⟨_, rfl⟩
                rw [← hY]
                have HY := Lib.hid hY
                clear hY
                go_wp2_with fail
                refine hK.out _ _ trivial (fun hHw1 => ?_)
                clear hK K hHeld
                try simp only [Act.put, List.setIfInBounds_toArray, List.set_cons_zero, List.set_cons_succ]
                refine wpAnyH_ready (rs := [1, 4]) (by kernel_rfl) (by simp) ?_
                refine AllReadyH.cons (o := { dst := some 22, op := Op.load 26 (Operand.tmp 21), type := 26, pos := "op.go:89", after := #[{ on := 0, ground := Ground.data }], guard := none }) rfl (fun K hK => ?_) (AllReadyH.cons (o := { dst := some 25, op := Op.buildSlice 26 1 #[(0, Operand.tmp 24)], type := 26, pos := "op.go:89", after := #[{ on := 3, ground := Ground.data }], guard := none }) rfl (fun K hK => ?_) AllReadyH.nil)
                · have hcl := (XJ.out).cellAt (i := 6) (v := .slice (some ⟨N, 0, none⟩) 1 1) rfl
                  go_simp
                  clear hcl
                  refine hK.out _ _ trivial (fun hHw2 => ?_)
                  clear hK K hHw1
                  try simp only [Act.put, List.setIfInBounds_toArray, List.set_cons_zero, List.set_cons_succ]
                  refine wpAnyH_ready (rs := [4]) (by kernel_rfl) (by simp) ?_
                  refine AllReadyH.cons (o := { dst := some 25, op := Op.buildSlice 26 1 #[(0, Operand.tmp 24)], type := 26, pos := "op.go:89", after := #[{ on := 3, ground := Ground.data }], guard := none }) rfl (fun K hK => ?_) AllReadyH.nil
                  rw [if_pos (by rfl)]
                  refine wp_buildSlice 26 28 1 _ rfl ys.toArray i0 (.agg exZ.toArray) Tryd.underlying26 HI0.out HI1.out (by rw [HI2.out]; decide) (by rw [HI2.out]; decide) (by rw [HI2.out]; have := fill_one (l := ys) HYL.out; refine Eq.trans (congrArg _ ?_) this; simp [Act.eval, HY.out]) ?_
                  refine hK.out _ _ trivial (fun hHw3 => ?_)
                  clear hK K hHw2
                  try simp only [Act.put, List.setIfInBounds_toArray, List.set_cons_zero, List.set_cons_succ]
                  obtain ⟨M, hM⟩ : ∃ M, M = wj.heap.size := ⟨_, rfl⟩
                  obtain ⟨wk, hwk⟩ : ∃ y, y = wj.alloc (.cells ys.toArray 28) := ⟨_, rfl⟩
                  rw [← hwk, ← hM]
                  have DK : Hid (Below M wj wk) := Lib.hid (by rw [hwk, hM]; exact (Below.refl _ _).alloc (Nat.le_refl _) _)
                  have MK : Hid (Has wk M ys 28) := Lib.hid (by rw [hwk, hM]; exact Has.new wj _ _)
                  have XK := Lib.hid (XJ.out.below DK.out (by rw [hM]; exact XJ.out.lt))
                  have NK := Lib.hid (NJ.out.below DK.out (by rw [hM]; exact NJ.out.lt))
                  have ZK := Lib.hid (ZJ.out.below DK.out (by rw [hM]; exact ZJ.out.lt))
                  have BK : Hid (But G pb w wk) := Lib.hid (BJ.out.trans (But.of_below (DK.out.mono (by rw [hM]; exact Nat.le_of_lt ZJ.out.lt))))
                  have PK := Lib.hid (PJ.out.later (by rw [← hM]; exact DK.out))
                  have IJK : Hid (IsXS wk (fun k => G < k ∧ k ≠ X ∧ k ≠ N) cc xc) := Lib.hid (IJ.out.keep DK.out.size fun k _ h2 => DK.out.block k (by rw [hM]; exact h2))
                  have IYK : Hid (IsXS wk (fun k => G < k ∧ k ≠ X ∧ k ≠ N) ys y) := Lib.hid (IY.out.keep DK.out.size fun k _ h2 => DK.out.block k (by rw [hM]; exact h2))
                  clear hM hwk DK XJ NJ ZJ BJ PJ IJ IY
                  refine wpAnyH_ready (rs := [5]) (by kernel_rfl) (by simp) ?_
                  refine AllReadyH.cons (o := { dst := some 26, op := Op.call { callee := Callee.builtin Builtin.append, args := #[Operand.tmp 22, Operand.tmp 25], argTypes := #[26, 26] }, type := 26, pos := "op.go:89", after := #[{ on := 1, ground := Ground.data }, { on := 4, ground := Ground.data }, { on := 3, ground := Ground.chain }], guard := none }) rfl (fun K hK => ?_) AllReadyH.nil
                  rw [if_pos (by rfl)]
                  have ow := owns_has NK.out IJK.out.len
                  refine wp_append_lies _ (.tmp 22) (.tmp 25) 26 rfl 0 28 i0 (.agg exZ.toArray) 8 120 Tryd.underlying26 HI0.out HI1.out HI2.out HI3.out rfl (by omega) (.slice (some ⟨N, 0, none⟩) 1 1) 1 cc rfl ow ⟨M, 0, none⟩ 1 1 ys rfl (by rw [HYL.out]) (fun j u hj => ?_) (fun u hu => ?_) (by omega) (by decide) (by decide) (Nat.zero_le _) wk.heap.size rfl (fun ga capa w5 h5o h5g h5b h5s => ?_)
                  · rw [Addr.add_lit, Nat.zero_add]; exact MK.out.cellAt hj
                  · have h1 := IYK.out.one
                    rw [Array.all_eq_true] at h1
                    obtain ⟨i, hi, rfl⟩ := List.mem_iff_getElem.1 hu
                    exact h1 i (by simpa using hi)
                  have HGA : Hid (G < ga ∧ ga ≠ X ∧ ga < w5.heap.size) := Lib.hid (by
                    rcases h5b with h | h
                    · have h : N = ga := by simpa [Value.ownBlock] using h
                      have := HNN.out; exact ⟨by omega, by omega, h5s⟩
                    · have h1 := ZK.out.lt
                      have h2 := XK.out.lt
                      exact ⟨by omega, by omega, h5s⟩)
                  have X6 := Lib.hid (hasp_grown XK.out h5g (by simp [Value.ownBlock]; have := HNN.out; omega))
                  have Z6 := Lib.hid (hasp_grown ZK.out h5g (by simp [Value.ownBlock]; have := HNN.out; omega))
                  have P6 := Lib.hid (PK.out.grown h5g (by simp [Value.ownBlock]; have := HNN.out; omega) (by simp [Value.ownBlock]; have := HNN.out; omega) (by simp [Value.ownBlock]; have := HNN.out; have := PK.out.laid.2; omega))
                  have IJ6 : Hid (IsXS w5 (fun k => G < k ∧ k ≠ X) cc xc) := Lib.hid (IsXS.mono (IJK.out.keep h5g.size fun k h1 h2 => h5g.block k h2 (by simp [Value.ownBlock]; omega)) fun k h1 _ => ⟨h1.1, h1.2.1⟩)
                  have IY6 : Hid (IsXS w5 (fun k => G < k ∧ k ≠ X) ys y) := Lib.hid (IsXS.mono (IYK.out.keep h5g.size fun k h1 h2 => h5g.block k h2 (by simp [Value.ownBlock]; omega)) fun k h1 _ => ⟨h1.1, h1.2.1⟩)
                  have B6 : Hid (But G pb w w5) := Lib.hid (BK.out.trans (but_grown h5g (Nat.le_of_lt ZK.out.lt) (fun k e => by have e : N = k := (by simpa [Value.ownBlock] using e); have := HNN.out; omega)))
                  have I6 : Hid (IsXS w5 (fun k => G < k ∧ k ≠ X) (exC 7 0 t.text (.slice (some ⟨ga, 0, none⟩) 2 capa) u.at_) (.mk 7 0 t.text [xc, y] u.at_)) := Lib.hid (node_app 7 t.text u.at_ h5o ⟨HGA.out.1, HGA.out.2.1⟩ IJ6.out IY6.out)
                  clear h5o h5g h5b h5s ow XK ZK PK BK IJK IYK MK NK IJ6 IY6
                  refine hK.out _ _ trivial (fun hHw4 => ?_)
                  clear hK K hHw3
                  try simp only [Act.put, List.setIfInBounds_toArray, List.set_cons_zero, List.set_cons_succ]
                  refine wpAnyH_take (i := 6) (oi := { dst := some 27, op := Op.fieldAddr 28 (Operand.tmp 3) 6, type := 0, pos := "op.go:89", after := #[{ on := 0, ground := Ground.phase }, { on := 1, ground := Ground.phase }, { on := 2, ground := Ground.phase }, { on := 3, ground := Ground.phase }, { on := 4, ground := Ground.phase }, { on := 5, ground := Ground.phase }], guard := none }) (v := .pointer (some ⟨X, 6, none⟩)) rfl (by kernel_rfl) (by kernel_rfl) (by kernel_rfl) (fun _ _ _ h => h)
                    (Or.inl ⟨by rfl, by intro w hSw;  clear hSw; go_simp⟩) hHw4 ?_
                  try simp only [Act.put, List.setIfInBounds_toArray, List.set_cons_zero, List.set_cons_succ]
                  refine wpAnyH_ready (rs := [7]) (by kernel_rfl) (by simp) ?_
                  refine AllReadyH.cons (o := { dst := none, op := Op.store 26 (Operand.tmp 27) (Operand.tmp 26), type := 0, pos := "op.go:89", after := #[{ on := 6, ground := Ground.data }, { on := 5, ground := Ground.data }, { on := 5, ground := Ground.chain }, { on := 0, ground := Ground.phase }, { on := 1, ground := Ground.phase }, { on := 2, ground := Ground.phase }, { on := 3, ground := Ground.phase }, { on := 4, ground := Ground.phase }, { on := 5, ground := Ground.phase }], guard := none }) rfl (fun K hK => ?_) AllReadyH.nil
                  have hc5 := X6.out.cellAt (i := 6) (v := .slice (some ⟨N, 0, none⟩) 1 1) rfl
                  have hf5 := X6.out.frozen 6
                  go_simp
                  clear hc5 hf5
                  refine hK.out _ _ trivial (fun hHw5 => ?_)
                  clear hK K hHw4
                  try simp only [Act.put]
                  refine wpAnyH_done (by kernel_rfl) ?_ _
                  clear hHw5
                  go_wp2_with fail
                  go_roundg k1
                  case rel => exact ⟨k1, .mk 7 0 t.text [xc, y] u.at_, r1, exC 7 0 t.text (.slice (some ⟨ga, 0, none⟩) 2 capa) u.at_, oe, ce, rfl, by omega, HN2.out, P6.out.laterB (B := G) (below_setCell _ _ _ (Nat.le_of_lt HGX.out.1)) HPG.out.1 HPG.out.2, X6.out.set 6 _, I6.out.keep (by simp [World.setCell]) fun k h1 h2 => heap_setCell_other _ ⟨X, 6, none⟩ k _ h1.2, Z6.out.setOther (a := ⟨X, 6, none⟩) (by have := HGX.out; show G ≠ X; omega) _, B6.out.trans (But.of_below (below_setCell _ _ _ (Nat.le_of_lt HGX.out.1))), by simpa [World.setCell] using Z6.out.lt⟩
                  case measure => omega
                · rw [if_pos (by rfl)]
                  refine wp_buildSlice 26 28 1 _ rfl ys.toArray i0 (.agg exZ.toArray) Tryd.underlying26 HI0.out HI1.out (by rw [HI2.out]; decide) (by rw [HI2.out]; decide) (by rw [HI2.out]; have := fill_one (l := ys) HYL.out; refine Eq.trans (congrArg _ ?_) this; simp [Act.eval, HY.out]) ?_
                  refine hK.out _ _ trivial (fun hHw2 => ?_)
                  clear hK K hHw1
                  try simp only [Act.put, List.setIfInBounds_toArray, List.set_cons_zero, List.set_cons_succ]
                  obtain ⟨M, hM⟩ : ∃ M, M = wj.heap.size := ⟨_, rfl⟩
                  obtain ⟨wk, hwk⟩ : ∃ y, y = wj.alloc (.cells ys.toArray 28) := ⟨_, rfl⟩
                  rw [← hwk, ← hM]
                  have DK : Hid (Below M wj wk) := Lib.hid (by rw [hwk, hM]; exact (Below.refl _ _).alloc (Nat.le_refl _) _)
                  have MK : Hid (Has wk M ys 28) := Lib.hid (by rw [hwk, hM]; exact Has.new wj _ _)
                  have XK := Lib.hid (XJ.out.below DK.out (by rw [hM]; exact XJ.out.lt))
                  have NK := Lib.hid (NJ.out.below DK.out (by rw [hM]; exact NJ.out.lt))
                  have ZK := Lib.hid (ZJ.out.below DK.out (by rw [hM]; exact ZJ.out.lt))
                  have BK : Hid (But G pb w wk) := Lib.hid (BJ.out.trans (But.of_below (DK.out.mono (by rw [hM]; exact Nat.le_of_lt ZJ.out.lt))))
                  have PK := Lib.hid (PJ.out.later (by rw [← hM]; exact DK.out))
                  have IJK : Hid (IsXS wk (fun k => G < k ∧ k ≠ X ∧ k ≠ N) cc xc) := Lib.hid (IJ.out.keep DK.out.size fun k _ h2 => DK.out.block k (by rw [hM]; exact h2))
                  have IYK : Hid (IsXS wk (fun k => G < k ∧ k ≠ X ∧ k ≠ N) ys y) := Lib.hid (IY.out.keep DK.out.size fun k _ h2 => DK.out.block k (by rw [hM]; exact h2))
                  clear hM hwk DK XJ NJ ZJ BJ PJ IJ IY
                  refine wpAnyH_ready (rs := [1]) (by kernel_rfl) (by simp) ?_
                  refine AllReadyH.cons (o := { dst := some 22, op := Op.load 26 (Operand.tmp 21), type := 26, pos := "op.go:89", after := #[{ on := 0, ground := Ground.data }], guard := none }) rfl (fun K hK => ?_) AllReadyH.nil
                  have hcl := (XK.out).cellAt (i := 6) (v := .slice (some ⟨N, 0, none⟩) 1 1) rfl
                  go_simp
                  clear hcl
                  refine hK.out _ _ trivial (fun hHw3 => ?_)
                  clear hK K hHw2
                  try simp only [Act.put, List.setIfInBounds_toArray, List.set_cons_zero, List.set_cons_succ]
                  refine wpAnyH_ready (rs := [5]) (by kernel_rfl) (by simp) ?_
                  refine AllReadyH.cons (o := { dst := some 26, op := Op.call { callee := Callee.builtin Builtin.append, args := #[Operand.tmp 22, Operand.tmp 25], argTypes := #[26, 26] }, type := 26, pos := "op.go:89", after := #[{ on := 1, ground := Ground.data }, { on := 4, ground := Ground.data }, { on := 3, ground := Ground.chain }], guard := none }) rfl (fun K hK => ?_) AllReadyH.nil
                  rw [if_pos (by rfl)]
                  have ow := owns_has NK.out IJK.out.len
                  refine wp_append_lies _ (.tmp 22) (.tmp 25) 26 rfl 0 28 i0 (.agg exZ.toArray) 8 120 Tryd.underlying26 HI0.out HI1.out HI2.out HI3.out rfl (by omega) (.slice (some ⟨N, 0, none⟩) 1 1) 1 cc rfl ow ⟨M, 0, none⟩ 1 1 ys rfl (by rw [HYL.out]) (fun j u hj => ?_) (fun u hu => ?_) (by omega) (by decide) (by decide) (Nat.zero_le _) wk.heap.size rfl (fun ga capa w5 h5o h5g h5b h5s => ?_)
                  · rw [Addr.add_lit, Nat.zero_add]; exact MK.out.cellAt hj
                  · have h1 := IYK.out.one
                    rw [Array.all_eq_true] at h1
                    obtain ⟨i, hi, rfl⟩ := List.mem_iff_getElem.1 hu
                    exact h1 i (by simpa using hi)
                  have HGA : Hid (G < ga ∧ ga ≠ X ∧ ga < w5.heap.size) := Lib.hid (by
                    rcases h5b with h | h
                    · have h : N = ga := by simpa [Value.ownBlock] using h
                      have := HNN.out; exact ⟨by omega, by omega, h5s⟩
                    · have h1 := ZK.out.lt
                      have h2 := XK.out.lt
                      exact ⟨by omega, by omega, h5s⟩)
                  have X6 := Lib.hid (hasp_grown XK.out h5g (by simp [Value.ownBlock]; have := HNN.out; omega))
                  have Z6 := Lib.hid (hasp_grown ZK.out h5g (by simp [Value.ownBlock]; have := HNN.out; omega))
                  have P6 := Lib.hid (PK.out.grown h5g (by simp [Value.ownBlock]; have := HNN.out; omega) (by simp [Value.ownBlock]; have := HNN.out; omega) (by simp [Value.ownBlock]; have := HNN.out; have := PK.out.laid.2; omega))
                  have IJ6 : Hid (IsXS w5 (fun k => G < k ∧ k ≠ X) cc xc) := Lib.hid (IsXS.mono (IJK.out.keep h5g.size fun k h1 h2 => h5g.block k h2 (by simp [Value.ownBlock]; omega)) fun k h1 _ => ⟨h1.1, h1.2.1⟩)
                  have IY6 : Hid (IsXS w5 (fun k => G < k ∧ k ≠ X) ys y) := Lib.hid (IsXS.mono (IYK.out.keep h5g.size fun k h1 h2 => h5g.block k h2 (by simp [Value.ownBlock]; omega)) fun k h1 _ => ⟨h1.1, h1.2.1⟩)
                  have B6 : Hid (But G pb w w5) := Lib.hid (BK.out.trans (but_grown h5g (Nat.le_of_lt ZK.out.lt) (fun k e => by have e : N = k := (by simpa [Value.ownBlock] using e); have := HNN.out; omega)))
                  have I6 : Hid (IsXS w5 (fun k => G < k ∧ k ≠ X) (exC 7 0 t.text (.slice (some ⟨ga, 0, none⟩) 2 capa) u.at_) (.mk 7 0 t.text [xc, y] u.at_)) := Lib.hid (node_app 7 t.text u.at_ h5o ⟨HGA.out.1, HGA.out.2.1⟩ IJ6.out IY6.out)
                  clear h5o h5g h5b h5s ow XK ZK PK BK IJK IYK MK NK IJ6 IY6
                  refine hK.out _ _ trivial (fun hHw4 => ?_)
                  clear hK K hHw3
                  try simp only [Act.put, List.setIfInBounds_toArray, List.set_cons_zero, List.set_cons_succ]
                  refine wpAnyH_take (i := 6) (oi := { dst := some 27, op := Op.fieldAddr 28 (Operand.tmp 3) 6, type := 0, pos := "op.go:89", after := #[{ on := 0, ground := Ground.phase }, { on := 1, ground := Ground.phase }, { on := 2, ground := Ground.phase }, { on := 3, ground := Ground.phase }, { on := 4, ground := Ground.phase }, { on := 5, ground := Ground.phase }], guard := none }) (v := .pointer (some ⟨X, 6, none⟩)) rfl (by kernel_rfl) (by kernel_rfl) (by kernel_rfl) (fun _ _ _ h => h)
                    (Or.inl ⟨by rfl, by intro w hSw;  clear hSw; go_simp⟩) hHw4 ?_
                  try simp only [Act.put, List.setIfInBounds_toArray, List.set_cons_zero, List.set_cons_succ]
                  refine wpAnyH_ready (rs := [7]) (by kernel_rfl) (by simp) ?_
                  refine AllReadyH.cons (o := { dst := none, op := Op.store 26 (Operand.tmp 27) (Operand.tmp 26), type := 0, pos := "op.go:89", after := #[{ on := 6, ground := Ground.data }, { on := 5, ground := Ground.data }, { on := 5, ground := Ground.chain }, { on := 0, ground := Ground.phase }, { on := 1, ground := Ground.phase }, { on := 2, ground := Ground.phase }, { on := 3, ground := Ground.phase }, { on := 4, ground := Ground.phase }, { on := 5, ground := Ground.phase }], guard := none }) rfl (fun K hK => ?_) AllReadyH.nil
                  have hc5 := X6.out.cellAt (i := 6) (v := .slice (some ⟨N, 0, none⟩) 1 1) rfl
                  have hf5 := X6.out.frozen 6
                  go_simp
                  clear hc5 hf5
                  refine hK.out _ _ trivial (fun hHw5 => ?_)
                  clear hK K hHw4
                  try simp only [Act.put]
                  refine wpAnyH_done (by kernel_rfl) ?_ _
                  clear hHw5
                  go_wp2_with fail
                  go_roundg k1
                  case rel => exact ⟨k1, .mk 7 0 t.text [xc, y] u.at_, r1, exC 7 0 t.text (.slice (some ⟨ga, 0, none⟩) 2 capa) u.at_, oe, ce, rfl, by omega, HN2.out, P6.out.laterB (B := G) (below_setCell _ _ _ (Nat.le_of_lt HGX.out.1)) HPG.out.1 HPG.out.2, X6.out.set 6 _, I6.out.keep (by simp [World.setCell]) fun k h1 h2 => heap_setCell_other _ ⟨X, 6, none⟩ k _ h1.2, Z6.out.setOther (a := ⟨X, 6, none⟩) (by have := HGX.out; show G ≠ X; omega) _, B6.out.trans (But.of_below (below_setCell _ _ _ (Nat.le_of_lt HGX.out.1))), by simpa [World.setCell] using Z6.out.lt⟩
                  case measure => omega
        · rw [if_pos (by rfl)]
          refine wp_load_row 28 (.tmp 3) rfl X rfl 28 D (0, 0) _ HXD.out Tryd.underlying28 rfl HDI.out ?_
          refine hK.out _ _ trivial (fun hHw1 => ?_)
          clear hK K hHeld
          try simp only [Act.put, List.setIfInBounds_toArray, List.set_cons_zero, List.set_cons_succ]
          refine wpAnyH_ready (rs := [1, 4]) (by kernel_rfl) (by simp) ?_
          refine AllReadyH.cons (o := { dst := some 13, op := Op.call { callee := Callee.value (Operand.func 41), args := #[Operand.tmp 12], argTypes := #[44] }, type := 50, pos := "op.go:87", after := #[{ on := 0, ground := Ground.data }], guard := none }) rfl (fun K hK => ?_) (AllReadyH.cons (o := { dst := some 16, op := Op.buildSlice 26 1 #[(0, Operand.tmp 15)], type := 26, pos := "op.go:87", after := #[{ on := 3, ground := Ground.data }], guard := none }) rfl (fun K hK => ?_) AllReadyH.nil)
          · go_simp
            refine HQ.out.mono ?_
            rintro e we ⟨rfl, bt, pe⟩
            rw [show (tokC t).toArray = #[.int .u8 (t.kind : Int), .string ⟨t.text.toArray⟩, .int .i64 (t.at_ : Int)] from rfl]
            have HE2 := Lib.hid pe
            have XE : Hid (Has we X cc 28) := Lib.hid (XC.out.but bt XC.out.lt (by have := HGX.out; omega))
            have YE2 : Hid (Has we G exZ 28) := Lib.hid (ZC.out.but bt ZC.out.lt (by have := HPG.out; omega))
            have BE : Hid (But G pb w we) := Lib.hid (BC.out.trans (bt.mono (Nat.le_of_lt ZC.out.lt)))
            have IE : Hid (IsXS we (fun k => G < k ∧ k ≠ X) cc xc) := Lib.hid (IC.out.keep bt.size fun k h1 h2 => bt.block k h2 (by have := HPG.out; omega))
            clear bt pe HQ
            go_wp2_with fail
            refine hK.out _ _ trivial (fun hHw2 => ?_)
            clear hK K hHw1
            try simp only [Act.put, List.setIfInBounds_toArray, List.set_cons_zero, List.set_cons_succ]
            refine wpAnyH_take (i := 2) (oi := { dst := some 14, op := Op.field 50 (Operand.tmp 13) 1, type := 9, pos := "op.go:87", after := #[{ on := 1, ground := Ground.data }], guard := none }) (v := .string ⟨t.text.toArray⟩) rfl (by kernel_rfl) (by kernel_rfl) (by kernel_rfl) (fun _ _ _ h => h)
              (Or.inl ⟨by rfl, by intro w hSw;  clear hSw; go_simp⟩) hHw2 ?_
            try simp only [Act.put, List.setIfInBounds_toArray, List.set_cons_zero, List.set_cons_succ]
            refine wpAnyH_ready (rs := [4]) (by kernel_rfl) (by simp) ?_
            refine AllReadyH.cons (o := { dst := some 16, op := Op.buildSlice 26 1 #[(0, Operand.tmp 15)], type := 26, pos := "op.go:87", after := #[{ on := 3, ground := Ground.data }], guard := none }) rfl (fun K hK => ?_) AllReadyH.nil
            rw [if_pos (by rfl)]
            refine wp_buildSlice 26 28 1 _ rfl cc.toArray i0 (.agg exZ.toArray) Tryd.underlying26 HI0.out HI1.out (by rw [HI2.out]; decide) (by rw [HI2.out]; decide) (by rw [HI2.out]; have := fill_one (l := cc) IE.out.len; refine Eq.trans (congrArg _ ?_) this; simp [Act.eval, HD.out]) ?_
            refine hK.out _ _ trivial (fun hHw3 => ?_)
            clear hK K hHw2
            try simp only [Act.put, List.setIfInBounds_toArray, List.set_cons_zero, List.set_cons_succ]
            obtain ⟨N, hN⟩ : ∃ N, N = we.heap.size := ⟨_, rfl⟩
            obtain ⟨wf, hwf⟩ : ∃ y, y = we.alloc (.cells cc.toArray 28) := ⟨_, rfl⟩
            rw [← hwf, ← hN]
            have XF : Hid (Has wf X cc 28) := Lib.hid (by rw [hwf]; exact XE.out.alloc _)
            have NF : Hid (Has wf N cc 28) := Lib.hid (by rw [hwf, hN]; exact Has.new we _ _)
            have ZF : Hid (Has wf G exZ 28) := Lib.hid (by rw [hwf]; exact YE2.out.alloc _)
            have DF : Hid (Below N we wf) := Lib.hid (by rw [hwf, hN]; exact (Below.refl _ _).alloc (Nat.le_refl _) _)
            have BF : Hid (But G pb w wf) := Lib.hid (BE.out.trans (But.of_below (DF.out.mono (by rw [hN]; exact Nat.le_of_lt YE2.out.lt))))
            have PF := Lib.hid (HE2.out.later (by rw [← hN]; exact DF.out))
            have HNN : Hid (G < N ∧ X < N ∧ pb < N ∧ g < N) := Lib.hid (by rw [hN]; exact ⟨YE2.out.lt, XE.out.lt, HE2.out.row.lt, HE2.out.lt⟩)
            have I1 : Hid (IsXS wf (fun k => G < k ∧ k ≠ X ∧ k ≠ N) cc xc) := Lib.hid (IsXS.mono (IsXS.keep (IsXS.mono IE.out (S' := fun k => G < k ∧ k ≠ X ∧ k ≠ N) fun k h1 h2 => ⟨h1.1, h1.2, by rw [hN]; exact Nat.ne_of_lt h2⟩) DF.out.size fun k _ h2 => DF.out.block k (by rw [hN]; exact h2)) fun k h1 _ => h1)
            clear hN hwf
            refine wpAnyH_take (i := 6) (oi := { dst := some 18, op := Op.build 28 #[(0, Operand.const (Value.int IntKind.u8 7)), (2, Operand.tmp 14), (6, Operand.tmp 16), (7, Operand.tmp 17)], type := 28, pos := "op.go:87", after := #[{ on := 2, ground := Ground.data }, { on := 4, ground := Ground.data }, { on := 5, ground := Ground.data }], guard := none }) (v := .agg #[.int .u8 7, .int .i64 0, .string ⟨t.text.toArray⟩, .slice none 0 0, .slice none 0 0, .bool false, .slice (some ⟨N, 0, none⟩) 1 1, .int .i64 (u.at_ : Int)]) rfl (by kernel_rfl) (by kernel_rfl) (by kernel_rfl) (fun _ _ _ h => h)
              (Or.inl ⟨by rfl, by intro w hSw;  clear hSw; go_simp⟩) hHw3 ?_
            try simp only [Act.put, List.setIfInBounds_toArray, List.set_cons_zero, List.set_cons_succ]
            refine wpAnyH_ready (rs := [7]) (by kernel_rfl) (by simp) ?_
            refine AllReadyH.cons (o := { dst := none, op := Op.store 28 (Operand.tmp 3) (Operand.tmp 18), type := 0, pos := "op.go:87", after := #[{ on := 6, ground := Ground.data }, { on := 1, ground := Ground.chain }, { on := 0, ground := Ground.phase }, { on := 1, ground := Ground.phase }, { on := 2, ground := Ground.phase }, { on := 3, ground := Ground.phase }, { on := 4, ground := Ground.phase }, { on := 5, ground := Ground.phase }, { on := 6, ground := Ground.phase }], guard := none }) rfl (fun K hK => ?_) AllReadyH.nil
            rw [if_pos (by rfl)]
            have I2 : Hid (IsXS wf (fun k => G < k ∧ k ≠ X) (exC 7 0 t.text (.slice (some ⟨N, 0, none⟩) 1 1) u.at_) (.mk 7 0 t.text [xc] u.at_)) := Lib.hid (node_one 7 t.text u.at_ NF.out ⟨HNN.out.1, by have := HNN.out.2; omega⟩ (IsXS.mono I1.out fun k h1 _ => ⟨h1.1, h1.2.1⟩))
            refine wp_store_row 28 (.tmp 3) (.tmp 18) rfl X (exC 7 0 t.text (.slice (some ⟨N, 0, none⟩) 1 1) u.at_).toArray rfl rfl 28 cc.toArray XF.out (by rw [List.size_toArray, I2.out.len]; exact info_ex) (by rw [List.size_toArray, List.size_toArray, I2.out.len, I1.out.len]) I2.out.one ?_
            refine hK.out _ _ trivial (fun hHw4 => ?_)
            clear hK K hHw3
            try simp only [Act.put]
            refine wpAnyH_done (by kernel_rfl) ?_ _
            clear hHw4
            obtain ⟨wg, hwg⟩ : ∃ wg, wg = wf.setRow X (exC 7 0 t.text (.slice (some ⟨N, 0, none⟩) 1 1) u.at_).toArray := ⟨_, rfl⟩
            try rw [← hwg]
            have XG : Hid (Has wg X (exC 7 0 t.text (.slice (some ⟨N, 0, none⟩) 1 1) u.at_) 28) := Lib.hid (by rw [hwg]; exact XF.out.row _)
            have NG : Hid (Has wg N cc 28) := Lib.hid (by rw [hwg]; exact NF.out.rowOther (by have := HNN.out; omega) _)
            have ZG : Hid (Has wg G exZ 28) := Lib.hid (by rw [hwg]; exact ZF.out.rowOther (by have := HGX.out; omega) _)
            have BG : Hid (But G pb w wg) := Lib.hid (by rw [hwg]; exact BF.out.setRow (.inl (Nat.le_of_lt HGX.out.1)) _)
            have PG := Lib.hid (show Ps wg pb g (o + 3 + 3) (c - 1 - 1) q d rm by rw [hwg]; exact PF.out.laterB (B := G) (below_setRow (Below.refl G wf) (Nat.le_of_lt HGX.out.1) _) HPG.out.1 HPG.out.2)
            have IG : Hid (IsXS wg (fun k => G < k ∧ k ≠ X ∧ k ≠ N) cc xc) := Lib.hid (by rw [hwg]; exact I1.out.keep (by simp) fun k h1 h2 => setRow_other _ _ _ _ h1.2.1)
            clear hwg XF NF ZF BF PF I1 I2 HC XC ZC BC IC HXD hf1
            rcases HNX.out with ⟨hor, hn2⟩ | ⟨hor, y, r1, hy, hn2⟩
            · have KS := Lib.hid (skip_no PG.out ⟨#[111, 114]⟩ hor)
              go_wp2_with fail
              refine KS.out.mono ?_
              rintro e wh ⟨rfl, xh⟩
              have XH := Lib.hid (XG.out.below xh XG.out.lt)
              have NH := Lib.hid (NG.out.below xh NG.out.lt)
              have ZH := Lib.hid (ZG.out.below xh ZG.out.lt)
              have BH : Hid (But G pb w wh) := Lib.hid (BG.out.trans (But.of_below (xh.mono (Nat.le_of_lt ZG.out.lt))))
              have PH := Lib.hid (PG.out.later xh)
              have IH : Hid (IsXS wh (fun k => G < k ∧ k ≠ X) cc xc) := Lib.hid (IsXS.mono (IG.out.keep xh.size fun k _ h2 => xh.block k h2) fun k h1 _ => ⟨h1.1, h1.2.1⟩)
              clear xh XG NG ZG BG PG IG KS
              go_wp2_with fail
              go_roundg k1
              case rel => exact ⟨k1, .mk 7 0 t.text [xc] u.at_, q, exC 7 0 t.text (.slice (some ⟨N, 0, none⟩) 1 1) u.at_, _, _, rfl, by omega, hn2, PH.out, XH.out, node_one 7 t.text u.at_ NH.out ⟨HNN.out.1, by have := HNN.out; omega⟩ IH.out, ZH.out, BH.out, ZH.out.lt⟩
              case measure => omega
            · match q, hor, hy, hn2, PG with
              | [], hor, _, _, _ => simp [stT] at hor
              | v :: q2, hor, hy, hn2, PG =>
                have KS := Lib.hid (skip_yes PG.out ⟨#[111, 114]⟩ hor)
                have HY2 := Lib.hid (show pg k1 .thing d q2 = .ok y r1 from hy)
                have HN2 := Lib.hid hn2
                clear hor hy hn2 HNX
                go_wp2_with fail
                refine KS.out.mono ?_
                rintro e wh ⟨rfl, bt, pe⟩
                have XH := Lib.hid (XG.out.but bt XG.out.lt (by have := HGX.out; omega))
                have NH := Lib.hid (NG.out.but bt NG.out.lt (by have := HNN.out; omega))
                have ZH := Lib.hid (ZG.out.but bt ZG.out.lt (by have := HPG.out; omega))
                have BH : Hid (But G pb w wh) := Lib.hid (BG.out.trans (bt.mono (Nat.le_of_lt ZG.out.lt)))
                have PH := Lib.hid pe
                have IH : Hid (IsXS wh (fun k => G < k ∧ k ≠ X ∧ k ≠ N) cc xc) := Lib.hid (IG.out.keep bt.size fun k h1 h2 => bt.block k h2 (by have := HPG.out; omega))
                clear bt pe XG NG ZG BG PG IG KS
                go_upto_region 6 with fail
                refine wp_region_held_drew (S := fun _ => True) (by kernel_rfl) trivial (fun hHeld => ?_)
                obtain ⟨wi, hwi⟩ : ∃ wi, wi = wh.drew := ⟨_, rfl⟩
                rw [← hwi]
                have PI := Lib.hid (show Ps wi pb g (o + 3 + 3 + 3) (c - 1 - 1 - 1) q2 d rm by rw [hwi]; exact PH.out.later (Below.refl _ _).drew)
                have XI : Hid (Has wi X (exC 7 0 t.text (.slice (some ⟨N, 0, none⟩) 1 1) u.at_) 28) := Lib.hid (by rw [hwi]; exact XH.out.drew)
                have NI : Hid (Has wi N cc 28) := Lib.hid (by rw [hwi]; exact NH.out.drew)
                have ZI : Hid (Has wi G exZ 28) := Lib.hid (by rw [hwi]; exact ZH.out.drew)
                have BI : Hid (But G pb w wi) := Lib.hid (by rw [hwi]; exact BH.out.drew)
                have II : Hid (IsXS wi (fun k => G < k ∧ k ≠ X ∧ k ≠ N) cc xc) := Lib.hid (by rw [hwi]; exact IH.out.keep (Nat.le_refl _) fun k _ _ => rfl)
                have HT6 := Lib.hid (HTH.out k1 (by omega) wi _ _ q2 y r1 PI.out HY2.out)
                clear hwi XH NH ZH BH PH IH
                refine wpAnyH_take (i := 0) (oi := { dst := some 21, op := Op.fieldAddr 28 (Operand.tmp 3) 6, type := 0, pos := "op.go:89", after := #[], guard := none }) (v := .pointer (some ⟨X, 6, none⟩)) rfl (by kernel_rfl) (by kernel_rfl) (by kernel_rfl) (fun _ _ _ h => h)
                  (Or.inl ⟨by rfl, by intro w hSw;  clear hSw; go_simp⟩) hHeld ?_
                try simp only [Act.put, List.setIfInBounds_toArray, List.set_cons_zero, List.set_cons_succ]
                refine wpAnyH_take (i := 2) (oi := { dst := some 23, op := Op.move (Operand.tmp 0), type := 44, pos := "op.go:89", after := #[], guard := none }) (v := .pointer (some ⟨pb, 0, none⟩)) rfl (by kernel_rfl) (by kernel_rfl) (by kernel_rfl) (fun _ _ _ h => h)
                  (Or.inl ⟨by rfl, by intro w hSw;  clear hSw; go_simp⟩) hHeld ?_
                try simp only [Act.put, List.setIfInBounds_toArray, List.set_cons_zero, List.set_cons_succ]
                refine wpAnyH_ready (rs := [1, 3]) (by kernel_rfl) (by simp) ?_
                refine AllReadyH.cons (o := { dst := some 22, op := Op.load 26 (Operand.tmp 21), type := 26, pos := "op.go:89", after := #[{ on := 0, ground := Ground.data }], guard := none }) rfl (fun K hK => ?_) (AllReadyH.cons (o := { dst := some 24, op := Op.call { callee := Callee.value (Operand.func 69), args := #[Operand.tmp 23], argTypes := #[44] }, type := 28, pos := "op.go:89", after := #[{ on := 2, ground := Ground.data }], guard := none }) rfl (fun K hK => ?_) AllReadyH.nil)
                · have hcl := (XI.out).cellAt (i := 6) (v := .slice (some ⟨N, 0, none⟩) 1 1) rfl
                  go_simp
                  clear hcl
                  refine hK.out _ _ trivial (fun hHw1 => ?_)
                  clear hK K hHeld
                  try simp only [Act.put, List.setIfInBounds_toArray, List.set_cons_zero, List.set_cons_succ]
                  refine wpAnyH_ready (rs := [3]) (by kernel_rfl) (by simp) ?_
                  refine AllReadyH.cons (o := { dst := some 24, op := Op.call { callee := Callee.value (Operand.func 69), args := #[Operand.tmp 23], argTypes := #[44] }, type := 28, pos := "op.go:89", after := #[{ on := 2, ground := Ground.data }], guard := none }) rfl (fun K hK => ?_) AllReadyH.nil
                  go_simp
                  refine HT6.out.mono ?_
                  rintro e wj ⟨ys, oe, ce, rfl, iy, bt, pe⟩
                  have PJ := Lib.hid pe
                  have HYL := Lib.hid iy.len
                  have XJ : Hid (Has wj X (exC 7 0 t.text (.slice (some ⟨N, 0, none⟩) 1 1) u.at_) 28) := Lib.hid (XI.out.but bt XI.out.lt (by have := HGX.out; omega))
                  have NJ : Hid (Has wj N cc 28) := Lib.hid (NI.out.but bt NI.out.lt (by have := HNN.out; omega))
                  have ZJ : Hid (Has wj G exZ 28) := Lib.hid (ZI.out.but bt ZI.out.lt (by have := HPG.out; omega))
                  have BJ : Hid (But G pb w wj) := Lib.hid (BI.out.trans (bt.mono (Nat.le_of_lt ZI.out.lt)))
                  have IJ : Hid (IsXS wj (fun k => G < k ∧ k ≠ X ∧ k ≠ N) cc xc) := Lib.hid (II.out.keep bt.size fun k h1 h2 => bt.block k h2 (by have := HPG.out; omega))
                  have IY : Hid (IsXS wj (fun k => G < k ∧ k ≠ X ∧ k ≠ N) ys y) := Lib.hid (IsXS.mono iy fun k h1 _ => ⟨by have := ZI.out.lt; omega, by have := XI.out.lt; omega, by have := NI.out.lt; omega⟩)
                  clear iy bt pe HT6
                  obtain ⟨Y, hY⟩ : ∃ Y, Y = ys.toArray := ⟨_, rfl⟩
                  rw [← hY]
                  have HY := Lib.hid hY
                  clear hY
                  go_wp2_with fail
                  refine hK.out _ _ trivial (fun hHw2 => ?_)
                  clear hK K hHw1
                  try simp only [Act.put, List.setIfInBounds_toArray, List.set_cons_zero, List.set_cons_succ]
                  refine wpAnyH_ready (rs := [4]) (by kernel_rfl) (by simp) ?_
                  refine AllReadyH.cons (o := { dst := some 25, op := Op.buildSlice 26 1 #[(0, Operand.tmp 24)], type := 26, pos := "op.go:89", after := #[{ on := 3, ground := Ground.data }], guard := none }) rfl (fun K hK => ?_) AllReadyH.nil
                  rw [if_pos (by rfl)]
                  refine wp_buildSlice 26 28 1 _ rfl ys.toArray i0 (.agg exZ.toArray) Tryd.underlying26 HI0.out HI1.out (by rw [HI2.out]; decide) (by rw [HI2.out]; decide) (by rw [HI2.out]; have := fill_one (l := ys) HYL.out; refine Eq.trans (congrArg _ ?_) this; simp [Act.eval, HY.out]) ?_
                  refine hK.out _ _ trivial (fun hHw3 => ?_)
                  clear hK K hHw2
                  try simp only [Act.put, List.setIfInBounds_toArray, List.set_cons_zero, List.set_cons_succ]
                  obtain ⟨M, hM⟩ : ∃ M, M = wj.heap.size := ⟨_, rfl⟩
                  obtain ⟨wk, hwk⟩ : ∃ y, y = wj.alloc (.cells ys.toArray 28) := ⟨_, rfl⟩
                  rw [← hwk, ← hM]
                  have DK : Hid (Below M wj wk) := Lib.hid (by rw [hwk, hM]; exact (Below.refl _ _).alloc (Nat.le_refl _) _)
                  have MK : Hid (Has wk M ys 28) := Lib.hid (by rw [hwk, hM]; exact Has.new wj _ _)
                  have XK := Lib.hid (XJ.out.below DK.out (by rw [hM]; exact XJ.out.lt))
                  have NK := Lib.hid (NJ.out.below DK.out (by rw [hM]; exact NJ.out.lt))
                  have ZK := Lib.hid (ZJ.out.below DK.out (by rw [hM]; exact ZJ.out.lt))
                  have BK : Hid (But G pb w wk) := Lib.hid (BJ.out.trans (But.of_below (DK.out.mono (by rw [hM]; exact Nat.le_of_lt ZJ.out.lt))))
                  have PK := Lib.hid (PJ.out.later (by rw [← hM]; exact DK.out))
                  have IJK : Hid (IsXS wk (fun k => G < k ∧ k ≠ X ∧ k ≠ N) cc xc) := Lib.hid (IJ.out.keep DK.out.size fun k _ h2 => DK.out.block k (by rw [hM]; exact h2))
                  have IYK : Hid (IsXS wk (fun k => G < k ∧ k ≠ X ∧ k ≠ N) ys y) := Lib.hid (IY.out.keep DK.out.size fun k _ h2 => DK.out.block k (by rw [hM]; exact h2))
                  clear hM hwk DK XJ NJ ZJ BJ PJ IJ IY
                  refine wpAnyH_ready (rs := [5]) (by kernel_rfl) (by simp) ?_
                  refine AllReadyH.cons (o := { dst := some 26, op := Op.call { callee := Callee.builtin Builtin.append, args := #[Operand.tmp 22, Operand.tmp 25], argTypes := #[26, 26] }, type := 26, pos := "op.go:89", after := #[{ on := 1, ground := Ground.data }, { on := 4, ground := Ground.data }, { on := 3, ground := Ground.chain }], guard := none }) rfl (fun K hK => ?_) AllReadyH.nil
                  rw [if_pos (by rfl)]
                  have ow := owns_has NK.out IJK.out.len
                  refine wp_append_lies _ (.tmp 22) (.tmp 25) 26 rfl 0 28 i0 (.agg exZ.toArray) 8 120 Tryd.underlying26 HI0.out HI1.out HI2.out HI3.out rfl (by omega) (.slice (some ⟨N, 0, none⟩) 1 1) 1 cc rfl ow ⟨M, 0, none⟩ 1 1 ys rfl (by rw [HYL.out]) (fun j u hj => ?_) (fun u hu => ?_) (by omega) (by decide) (by decide) (Nat.zero_le _) wk.heap.size rfl (fun ga capa w5 h5o h5g h5b h5s => ?_)
                  · rw [Addr.add_lit, Nat.zero_add]; exact MK.out.cellAt hj
                  · have h1 := IYK.out.one
                    rw [Array.all_eq_true] at h1
                    obtain ⟨i, hi, rfl⟩ := List.mem_iff_getElem.1 hu
                    exact h1 i (by simpa using hi)
                  have HGA : Hid (G < ga ∧ ga ≠ X ∧ ga < w5.heap.size) := Lib.hid (by
                    rcases h5b with h | h
                    · have h : N = ga := by simpa [Value.ownBlock] using h
                      have := HNN.out; exact ⟨by omega, by omega, h5s⟩
                    · have h1 := ZK.out.lt
                      have h2 := XK.out.lt
                      exact ⟨by omega, by omega, h5s⟩)
                  have X6 := Lib.hid (hasp_grown XK.out h5g (by simp [Value.ownBlock]; have := HNN.out; omega))
                  have Z6 := Lib.hid (hasp_grown ZK.out h5g (by simp [Value.ownBlock]; have := HNN.out; omega))
                  have P6 := Lib.hid (PK.out.grown h5g (by simp [Value.ownBlock]; have := HNN.out; omega) (by simp [Value.ownBlock]; have := HNN.out; omega) (by simp [Value.ownBlock]; have := HNN.out; have := PK.out.laid.2; omega))
                  have IJ6 : Hid (IsXS w5 (fun k => G < k ∧ k ≠ X) cc xc) := Lib.hid (IsXS.mono (IJK.out.keep h5g.size fun k h1 h2 => h5g.block k h2 (by simp [Value.ownBlock]; omega)) fun k h1 _ => ⟨h1.1, h1.2.1⟩)
                  have IY6 : Hid (IsXS w5 (fun k => G < k ∧ k ≠ X) ys y) := Lib.hid (IsXS.mono (IYK.out.keep h5g.size fun k h1 h2 => h5g.block k h2 (by simp [Value.ownBlock]; omega)) fun k h1 _ => ⟨h1.1, h1.2.1⟩)
                  have B6 : Hid (But G pb w w5) := Lib.hid (BK.out.trans (but_grown h5g (Nat.le_of_lt ZK.out.lt) (fun k e => by have e : N = k := (by simpa [Value.ownBlock] using e); have := HNN.out; omega)))
                  have I6 : Hid (IsXS w5 (fun k => G < k ∧ k ≠ X) (exC 7 0 t.text (.slice (some ⟨ga, 0, none⟩) 2 capa) u.at_) (.mk 7 0 t.text [xc, y] u.at_)) := Lib.hid (node_app 7 t.text u.at_ h5o ⟨HGA.out.1, HGA.out.2.1⟩ IJ6.out IY6.out)
                  clear h5o h5g h5b h5s ow XK ZK PK BK IJK IYK MK NK IJ6 IY6
                  refine hK.out _ _ trivial (fun hHw4 => ?_)
                  clear hK K hHw3
                  try simp only [Act.put, List.setIfInBounds_toArray, List.set_cons_zero, List.set_cons_succ]
                  refine wpAnyH_take (i := 6) (oi := { dst := some 27, op := Op.fieldAddr 28 (Operand.tmp 3) 6, type := 0, pos := "op.go:89", after := #[{ on := 0, ground := Ground.phase }, { on := 1, ground := Ground.phase }, { on := 2, ground := Ground.phase }, { on := 3, ground := Ground.phase }, { on := 4, ground := Ground.phase }, { on := 5, ground := Ground.phase }], guard := none }) (v := .pointer (some ⟨X, 6, none⟩)) rfl (by kernel_rfl) (by kernel_rfl) (by kernel_rfl) (fun _ _ _ h => h)
                    (Or.inl ⟨by rfl, by intro w hSw;  clear hSw; go_simp⟩) hHw4 ?_
                  try simp only [Act.put, List.setIfInBounds_toArray, List.set_cons_zero, List.set_cons_succ]
                  refine wpAnyH_ready (rs := [7]) (by kernel_rfl) (by simp) ?_
                  refine AllReadyH.cons (o := { dst := none, op := Op.store 26 (Operand.tmp 27) (Operand.tmp 26), type := 0, pos := "op.go:89", after := #[{ on := 6, ground := Ground.data }, { on := 5, ground := Ground.data }, { on := 5, ground := Ground.chain }, { on := 0, ground := Ground.phase }, { on := 1, ground := Ground.phase }, { on := 2, ground := Ground.phase }, { on := 3, ground := Ground.phase }, { on := 4, ground := Ground.phase }, { on := 5, ground := Ground.phase }], guard := none }) rfl (fun K hK => ?_) AllReadyH.nil
                  have hc5 := X6.out.cellAt (i := 6) (v := .slice (some ⟨N, 0, none⟩) 1 1) rfl
                  have hf5 := X6.out.frozen 6
                  go_simp
                  clear hc5 hf5
                  refine hK.out _ _ trivial (fun hHw5 => ?_)
                  clear hK K hHw4
                  try simp only [Act.put]
                  refine wpAnyH_done (by kernel_rfl) ?_ _
                  clear hHw5
                  go_wp2_with fail
                  go_roundg k1
                  case rel => exact ⟨k1, .mk 7 0 t.text [xc, y] u.at_, r1, exC 7 0 t.text (.slice (some ⟨ga, 0, none⟩) 2 capa) u.at_, oe, ce, rfl, by omega, HN2.out, P6.out.laterB (B := G) (below_setCell _ _ _ (Nat.le_of_lt HGX.out.1)) HPG.out.1 HPG.out.2, X6.out.set 6 _, I6.out.keep (by simp [World.setCell]) fun k h1 h2 => heap_setCell_other _ ⟨X, 6, none⟩ k _ h1.2, Z6.out.setOther (a := ⟨X, 6, none⟩) (by have := HGX.out; show G ≠ X; omega) _, B6.out.trans (But.of_below (below_setCell _ _ _ (Nat.le_of_lt HGX.out.1))), by simpa [World.setCell] using Z6.out.lt⟩
                  case measure => omega
                · go_simp
                  refine HT6.out.mono ?_
                  rintro e wj ⟨ys, oe, ce, rfl, iy, bt, pe⟩
                  have PJ := Lib.hid pe
                  have HYL := Lib.hid iy.len
                  have XJ : Hid (Has wj X (exC 7 0 t.text (.slice (some ⟨N, 0, none⟩) 1 1) u.at_) 28) := Lib.hid (XI.out.but bt XI.out.lt (by have := HGX.out; omega))
                  have NJ : Hid (Has wj N cc 28) := Lib.hid (NI.out.but bt NI.out.lt (by have := HNN.out; omega))
                  have ZJ : Hid (Has wj G exZ 28) := Lib.hid (ZI.out.but bt ZI.out.lt (by have := HPG.out; omega))
                  have BJ : Hid (But G pb w wj) := Lib.hid (BI.out.trans (bt.mono (Nat.le_of_lt ZI.out.lt)))
                  have IJ : Hid (IsXS wj (fun k => G < k ∧ k ≠ X ∧ k ≠ N) cc xc) := Lib.hid (II.out.keep bt.size fun k h1 h2 => bt.block k h2 (by have := HPG.out; omega))
                  have IY : Hid (IsXS wj (fun k => G < k ∧ k ≠ X ∧ k ≠ N) ys y) := Lib.hid (IsXS.mono iy fun k h1 _ => ⟨by have := ZI.out.lt; omega, by have := XI.out.lt; omega, by have := NI.out.lt; omega⟩)
                  clear iy bt pe HT6
                  obtain ⟨Y, hY⟩ : ∃ Y, Y = ys.toArray := ⟨_, rfl⟩
                  rw [← hY]
                  have HY := Lib.hid hY
                  clear hY
                  go_wp2_with fail
                  refine hK.out _ _ trivial (fun hHw1 => ?_)
                  clear hK K hHeld
                  try simp only [Act.put, List.setIfInBounds_toArray, List.set_cons_zero, List.set_cons_succ]
                  refine wpAnyH_ready (rs := [1, 4]) (by kernel_rfl) (by simp) ?_
                  refine AllReadyH.cons (o := { dst := some 22, op := Op.load 26 (Operand.tmp 21), type := 26, pos := "op.go:89", after := #[{ on := 0, ground := Ground.data }], guard := none }) rfl (fun K hK => ?_) (AllReadyH.cons (o := { dst := some 25, op := Op.buildSlice 26 1 #[(0, Operand.tmp 24)], type := 26, pos := "op.go:89", after := #[{ on := 3, ground := Ground.data }], guard := none }) rfl (fun K hK => ?_) AllReadyH.nil)
                  · have hcl := (XJ.out).cellAt (i := 6) (v := .slice (some ⟨N, 0, none⟩) 1 1) rfl
                    go_simp
                    clear hcl
                    refine hK.out _ _ trivial (fun hHw2 => ?_)
                    clear hK K hHw1
                    try simp only [Act.put, List.setIfInBounds_toArray, List.set_cons_zero, List.set_cons_succ]
                    refine wpAnyH_ready (rs := [4]) (by kernel_rfl) (by simp) ?_
                    refine AllReadyH.cons (o := { dst := some 25, op := Op.buildSlice 26 1 #[(0, Operand.tmp 24)], type := 26, pos := "op.go:89", after := #[{ on := 3, ground := Ground.data }], guard := none }) rfl (fun K hK => ?_) AllReadyH.nil
                    rw [if_pos (by rfl)]
                    refine wp_buildSlice 26 28 1 _ rfl ys.toArray i0 (.agg exZ.toArray) Tryd.underlying26 HI0.out HI1.out (by rw [HI2.out]; decide) (by rw [HI2.out]; decide) (by rw [HI2.out]; have := fill_one (l := ys) HYL.out; refine Eq.trans (congrArg _ ?_) this; simp [Act.eval, HY.out]) ?_
                    refine hK.out _ _ trivial (fun hHw3 => ?_)
                    clear hK K hHw2
                    try simp only [Act.put, List.setIfInBounds_toArray, List.set_cons_zero, List.set_cons_succ]
                    obtain ⟨M, hM⟩ : ∃ M, M = wj.heap.size := ⟨_, rfl⟩
                    obtain ⟨wk, hwk⟩ : ∃ y, y = wj.alloc (.cells ys.toArray 28) := ⟨_, rfl⟩
                    rw [← hwk, ← hM]
                    have DK : Hid (Below M wj wk) := Lib.hid (by rw [hwk, hM]; exact (Below.refl _ _).alloc (Nat.le_refl _) _)
                    have MK : Hid (Has wk M ys 28) := Lib.hid (by rw [hwk, hM]; exact Has.new wj _ _)
                    have XK := Lib.hid (XJ.out.below DK.out (by rw [hM]; exact XJ.out.lt))
                    have NK := Lib.hid (NJ.out.below DK.out (by rw [hM]; exact NJ.out.lt))
                    have ZK := Lib.hid (ZJ.out.below DK.out (by rw [hM]; exact ZJ.out.lt))
                    have BK : Hid (But G pb w wk) := Lib.hid (BJ.out.trans (But.of_below (DK.out.mono (by rw [hM]; exact Nat.le_of_lt ZJ.out.lt))))
                    have PK := Lib.hid (PJ.out.later (by rw [← hM]; exact DK.out))
                    have IJK : Hid (IsXS wk (fun k => G < k ∧ k ≠ X ∧ k ≠ N) cc xc) := Lib.hid (IJ.out.keep DK.out.size fun k _ h2 => DK.out.block k (by rw [hM]; exact h2))
                    have IYK : Hid (IsXS wk (fun k => G < k ∧ k ≠ X ∧ k ≠ N) ys y) := Lib.hid (IY.out.keep DK.out.size fun k _ h2 => DK.out.block k (by rw [hM]; exact h2))
                    clear hM hwk DK XJ NJ ZJ BJ PJ IJ IY
                    refine wpAnyH_ready (rs := [5]) (by kernel_rfl) (by simp) ?_
                    refine AllReadyH.cons (o := { dst := some 26, op := Op.call { callee := Callee.builtin Builtin.append, args := #[Operand.tmp 22, Operand.tmp 25], argTypes := #[26, 26] }, type := 26, pos := "op.go:89", after := #[{ on := 1, ground := Ground.data }, { on := 4, ground := Ground.data }, { on := 3, ground := Ground.chain }], guard := none }) rfl (fun K hK => ?_) AllReadyH.nil
                    rw [if_pos (by rfl)]
                    have ow := owns_has NK.out IJK.out.len
                    refine wp_append_lies _ (.tmp 22) (.tmp 25) 26 rfl 0 28 i0 (.agg exZ.toArray) 8 120 Tryd.underlying26 HI0.out HI1.out HI2.out HI3.out rfl (by omega) (.slice (some ⟨N, 0, none⟩) 1 1) 1 cc rfl ow ⟨M, 0, none⟩ 1 1 ys rfl (by rw [HYL.out]) (fun j u hj => ?_) (fun u hu => ?_) (by omega) (by decide) (by decide) (Nat.zero_le _) wk.heap.size rfl (fun ga capa w5 h5o h5g h5b h5s => ?_)
                    · rw [Addr.add_lit, Nat.zero_add]; exact MK.out.cellAt hj
                    · have h1 := IYK.out.one
                      rw [Array.all_eq_true] at h1
                      obtain ⟨i, hi, rfl⟩ := List.mem_iff_getElem.1 hu
                      exact h1 i (by simpa using hi)
                    have HGA : Hid (G < ga ∧ ga ≠ X ∧ ga < w5.heap.size) := Lib.hid (by
                      rcases h5b with h | h
                      · have h : N = ga := by simpa [Value.ownBlock] using h
                        have := HNN.out; exact ⟨by omega, by omega, h5s⟩
                      · have h1 := ZK.out.lt
                        have h2 := XK.out.lt
                        exact ⟨by omega, by omega, h5s⟩)
                    have X6 := Lib.hid (hasp_grown XK.out h5g (by simp [Value.ownBlock]; have := HNN.out; omega))
                    have Z6 := Lib.hid (hasp_grown ZK.out h5g (by simp [Value.ownBlock]; have := HNN.out; omega))
                    have P6 := Lib.hid (PK.out.grown h5g (by simp [Value.ownBlock]; have := HNN.out; omega) (by simp [Value.ownBlock]; have := HNN.out; omega) (by simp [Value.ownBlock]; have := HNN.out; have := PK.out.laid.2; omega))
                    have IJ6 : Hid (IsXS w5 (fun k => G < k ∧ k ≠ X) cc xc) := Lib.hid (IsXS.mono (IJK.out.keep h5g.size fun k h1 h2 => h5g.block k h2 (by simp [Value.ownBlock]; omega)) fun k h1 _ => ⟨h1.1, h1.2.1⟩)
                    have IY6 : Hid (IsXS w5 (fun k => G < k ∧ k ≠ X) ys y) := Lib.hid (IsXS.mono (IYK.out.keep h5g.size fun k h1 h2 => h5g.block k h2 (by simp [Value.ownBlock]; omega)) fun k h1 _ => ⟨h1.1, h1.2.1⟩)
                    have B6 : Hid (But G pb w w5) := Lib.hid (BK.out.trans (but_grown h5g (Nat.le_of_lt ZK.out.lt) (fun k e => by have e : N = k := (by simpa [Value.ownBlock] using e); have := HNN.out; omega)))
                    have I6 : Hid (IsXS w5 (fun k => G < k ∧ k ≠ X) (exC 7 0 t.text (.slice (some ⟨ga, 0, none⟩) 2 capa) u.at_) (.mk 7 0 t.text [xc, y] u.at_)) := Lib.hid (node_app 7 t.text u.at_ h5o ⟨HGA.out.1, HGA.out.2.1⟩ IJ6.out IY6.out)
                    clear h5o h5g h5b h5s ow XK ZK PK BK IJK IYK MK NK IJ6 IY6
                    refine hK.out _ _ trivial (fun hHw4 => ?_)
                    clear hK K hHw3
                    try simp only [Act.put, List.setIfInBounds_toArray, List.set_cons_zero, List.set_cons_succ]
                    refine wpAnyH_take (i := 6) (oi := { dst := some 27, op := Op.fieldAddr 28 (Operand.tmp 3) 6, type := 0, pos := "op.go:89", after := #[{ on := 0, ground := Ground.phase }, { on := 1, ground := Ground.phase }, { on := 2, ground := Ground.phase }, { on := 3, ground := Ground.phase }, { on := 4, ground := Ground.phase }, { on := 5, ground := Ground.phase }], guard := none }) (v := .pointer (some ⟨X, 6, none⟩)) rfl (by kernel_rfl) (by kernel_rfl) (by kernel_rfl) (fun _ _ _ h => h)
                      (Or.inl ⟨by rfl, by intro w hSw;  clear hSw; go_simp⟩) hHw4 ?_
                    try simp only [Act.put, List.setIfInBounds_toArray, List.set_cons_zero, List.set_cons_succ]
                    refine wpAnyH_ready (rs := [7]) (by kernel_rfl) (by simp) ?_
                    refine AllReadyH.cons (o := { dst := none, op := Op.store 26 (Operand.tmp 27) (Operand.tmp 26), type := 0, pos := "op.go:89", after := #[{ on := 6, ground := Ground.data }, { on := 5, ground := Ground.data }, { on := 5, ground := Ground.chain }, { on := 0, ground := Ground.phase }, { on := 1, ground := Ground.phase }, { on := 2, ground := Ground.phase }, { on := 3, ground := Ground.phase }, { on := 4, ground := Ground.phase }, { on := 5, ground := Ground.phase }], guard := none }) rfl (fun K hK => ?_) AllReadyH.nil
                    have hc5 := X6.out.cellAt (i := 6) (v := .slice (some ⟨N, 0, none⟩) 1 1) rfl
                    have hf5 := X6.out.frozen 6
                    go_simp
                    clear hc5 hf5
                    refine hK.out _ _ trivial (fun hHw5 => ?_)
                    clear hK K hHw4
                    try simp only [Act.put]
                    refine wpAnyH_done (by kernel_rfl) ?_ _
                    clear hHw5
                    go_wp2_with fail
                    go_roundg k1
                    case rel => exact ⟨k1, .mk 7 0 t.text [xc, y] u.at_, r1, exC 7 0 t.text (.slice (some ⟨ga, 0, none⟩) 2 capa) u.at_, oe, ce, rfl, by omega, HN2.out, P6.out.laterB (B := G) (below_setCell _ _ _ (Nat.le_of_lt HGX.out.1)) HPG.out.1 HPG.out.2, X6.out.set 6 _, I6.out.keep (by simp [World.setCell]) fun k h1 h2 => heap_setCell_other _ ⟨X, 6, none⟩ k _ h1.2, Z6.out.setOther (a := ⟨X, 6, none⟩) (by have := HGX.out; show G ≠ X; omega) _, B6.out.trans (But.of_below (below_setCell _ _ _ (Nat.le_of_lt HGX.out.1))), by simpa [World.setCell] using Z6.out.lt⟩
                    case measure => omega
                  · rw [if_pos (by rfl)]
                    refine wp_buildSlice 26 28 1 _ rfl ys.toArray i0 (.agg exZ.toArray) Tryd.underlying26 HI0.out HI1.out (by rw [HI2.out]; decide) (by rw [HI2.out]; decide) (by rw [HI2.out]; have := fill_one (l := ys) HYL.out; refine Eq.trans (congrArg _ ?_) this; simp [Act.eval, HY.out]) ?_
                    refine hK.out _ _ trivial (fun hHw2 => ?_)
                    clear hK K hHw1
                    try simp only [Act.put, List.setIfInBounds_toArray, List.set_cons_zero, List.set_cons_succ]
                    obtain ⟨M, hM⟩ : ∃ M, M = wj.heap.size := ⟨_, rfl⟩
                    obtain ⟨wk, hwk⟩ : ∃ y, y = wj.alloc (.cells ys.toArray 28) := ⟨_, rfl⟩
                    rw [← hwk, ← hM]
                    have DK : Hid (Below M wj wk) := Lib.hid (by rw [hwk, hM]; exact (Below.refl _ _).alloc (Nat.le_refl _) _)
                    have MK : Hid (Has wk M ys 28) := Lib.hid (by rw [hwk, hM]; exact Has.new wj _ _)
                    have XK := Lib.hid (XJ.out.below DK.out (by rw [hM]; exact XJ.out.lt))
                    have NK := Lib.hid (NJ.out.below DK.out (by rw [hM]; exact NJ.out.lt))
                    have ZK := Lib.hid (ZJ.out.below DK.out (by rw [hM]; exact ZJ.out.lt))
                    have BK : Hid (But G pb w wk) := Lib.hid (BJ.out.trans (But.of_below (DK.out.mono (by rw [hM]; exact Nat.le_of_lt ZJ.out.lt))))
                    have PK := Lib.hid (PJ.out.later (by rw [← hM]; exact DK.out))
                    have IJK : Hid (IsXS wk (fun k => G < k ∧ k ≠ X ∧ k ≠ N) cc xc) := Lib.hid (IJ.out.keep DK.out.size fun k _ h2 => DK.out.block k (by rw [hM]; exact h2))
                    have IYK : Hid (IsXS wk (fun k => G < k ∧ k ≠ X ∧ k ≠ N) ys y) := Lib.hid (IY.out.keep DK.out.size fun k _ h2 => DK.out.block k (by rw [hM]; exact h2))
                    clear hM hwk DK XJ NJ ZJ BJ PJ IJ IY
                    refine wpAnyH_ready (rs := [1]) (by kernel_rfl) (by simp) ?_
                    refine AllReadyH.cons (o := { dst := some 22, op := Op.load 26 (Operand.tmp 21), type := 26, pos := "op.go:89", after := #[{ on := 0, ground := Ground.data }], guard := none }) rfl (fun K hK => ?_) AllReadyH.nil
                    have hcl := (XK.out).cellAt (i := 6) (v := .slice (some ⟨N, 0, none⟩) 1 1) rfl
                    go_simp
                    clear hcl
                    refine hK.out _ _ trivial (fun hHw3 => ?_)
                    clear hK K hHw2
                    try simp only [Act.put, List.setIfInBounds_toArray, List.set_cons_zero, List.set_cons_succ]
                    refine wpAnyH_ready (rs := [5]) (by kernel_rfl) (by simp) ?_
                    refine AllReadyH.cons (o := { dst := some 26, op := Op.call { callee := Callee.builtin Builtin.append, args := #[Operand.tmp 22, Operand.tmp 25], argTypes := #[26, 26] }, type := 26, pos := "op.go:89", after := #[{ on := 1, ground := Ground.data }, { on := 4, ground := Ground.data }, { on := 3, ground := Ground.chain }], guard := none }) rfl (fun K hK => ?_) AllReadyH.nil
                    rw [if_pos (by rfl)]
                    have ow := owns_has NK.out IJK.out.len
                    refine wp_append_lies _ (.tmp 22) (.tmp 25) 26 rfl 0 28 i0 (.agg exZ.toArray) 8 120 Tryd.underlying26 HI0.out HI1.out HI2.out HI3.out rfl (by omega) (.slice (some ⟨N, 0, none⟩) 1 1) 1 cc rfl ow ⟨M, 0, none⟩ 1 1 ys rfl (by rw [HYL.out]) (fun j u hj => ?_) (fun u hu => ?_) (by omega) (by decide) (by decide) (Nat.zero_le _) wk.heap.size rfl (fun ga capa w5 h5o h5g h5b h5s => ?_)
                    · rw [Addr.add_lit, Nat.zero_add]; exact MK.out.cellAt hj
                    · have h1 := IYK.out.one
                      rw [Array.all_eq_true] at h1
                      obtain ⟨i, hi, rfl⟩ := List.mem_iff_getElem.1 hu
                      exact h1 i (by simpa using hi)
                    have HGA : Hid (G < ga ∧ ga ≠ X ∧ ga < w5.heap.size) := Lib.hid (by
                      rcases h5b with h | h
                      · have h : N = ga := by simpa [Value.ownBlock] using h
                        have := HNN.out; exact ⟨by omega, by omega, h5s⟩
                      · have h1 := ZK.out.lt
                        have h2 := XK.out.lt
                        exact ⟨by omega, by omega, h5s⟩)
                    have X6 := Lib.hid (hasp_grown XK.out h5g (by simp [Value.ownBlock]; have := HNN.out; omega))
                    have Z6 := Lib.hid (hasp_grown ZK.out h5g (by simp [Value.ownBlock]; have := HNN.out; omega))
                    have P6 := Lib.hid (PK.out.grown h5g (by simp [Value.ownBlock]; have := HNN.out; omega) (by simp [Value.ownBlock]; have := HNN.out; omega) (by simp [Value.ownBlock]; have := HNN.out; have := PK.out.laid.2; omega))
                    have IJ6 : Hid (IsXS w5 (fun k => G < k ∧ k ≠ X) cc xc) := Lib.hid (IsXS.mono (IJK.out.keep h5g.size fun k h1 h2 => h5g.block k h2 (by simp [Value.ownBlock]; omega)) fun k h1 _ => ⟨h1.1, h1.2.1⟩)
                    have IY6 : Hid (IsXS w5 (fun k => G < k ∧ k ≠ X) ys y) := Lib.hid (IsXS.mono (IYK.out.keep h5g.size fun k h1 h2 => h5g.block k h2 (by simp [Value.ownBlock]; omega)) fun k h1 _ => ⟨h1.1, h1.2.1⟩)
                    have B6 : Hid (But G pb w w5) := Lib.hid (BK.out.trans (but_grown h5g (Nat.le_of_lt ZK.out.lt) (fun k e => by have e : N = k := (by simpa [Value.ownBlock] using e); have := HNN.out; omega)))
                    have I6 : Hid (IsXS w5 (fun k => G < k ∧ k ≠ X) (exC 7 0 t.text (.slice (some ⟨ga, 0, none⟩) 2 capa) u.at_) (.mk 7 0 t.text [xc, y] u.at_)) := Lib.hid (node_app 7 t.text u.at_ h5o ⟨HGA.out.1, HGA.out.2.1⟩ IJ6.out IY6.out)
                    clear h5o h5g h5b h5s ow XK ZK PK BK IJK IYK MK NK IJ6 IY6
                    refine hK.out _ _ trivial (fun hHw4 => ?_)
                    clear hK K hHw3
                    try simp only [Act.put, List.setIfInBounds_toArray, List.set_cons_zero, List.set_cons_succ]
                    refine wpAnyH_take (i := 6) (oi := { dst := some 27, op := Op.fieldAddr 28 (Operand.tmp 3) 6, type := 0, pos := "op.go:89", after := #[{ on := 0, ground := Ground.phase }, { on := 1, ground := Ground.phase }, { on := 2, ground := Ground.phase }, { on := 3, ground := Ground.phase }, { on := 4, ground := Ground.phase }, { on := 5, ground := Ground.phase }], guard := none }) (v := .pointer (some ⟨X, 6, none⟩)) rfl (by kernel_rfl) (by kernel_rfl) (by kernel_rfl) (fun _ _ _ h => h)
                      (Or.inl ⟨by rfl, by intro w hSw;  clear hSw; go_simp⟩) hHw4 ?_
                    try simp only [Act.put, List.setIfInBounds_toArray, List.set_cons_zero, List.set_cons_succ]
                    refine wpAnyH_ready (rs := [7]) (by kernel_rfl) (by simp) ?_
                    refine AllReadyH.cons (o := { dst := none, op := Op.store 26 (Operand.tmp 27) (Operand.tmp 26), type := 0, pos := "op.go:89", after := #[{ on := 6, ground := Ground.data }, { on := 5, ground := Ground.data }, { on := 5, ground := Ground.chain }, { on := 0, ground := Ground.phase }, { on := 1, ground := Ground.phase }, { on := 2, ground := Ground.phase }, { on := 3, ground := Ground.phase }, { on := 4, ground := Ground.phase }, { on := 5, ground := Ground.phase }], guard := none }) rfl (fun K hK => ?_) AllReadyH.nil
                    have hc5 := X6.out.cellAt (i := 6) (v := .slice (some ⟨N, 0, none⟩) 1 1) rfl
                    have hf5 := X6.out.frozen 6
                    go_simp
                    clear hc5 hf5
                    refine hK.out _ _ trivial (fun hHw5 => ?_)
                    clear hK K hHw4
                    try simp only [Act.put]
                    refine wpAnyH_done (by kernel_rfl) ?_ _
                    clear hHw5
                    go_wp2_with fail
                    go_roundg k1
                    case rel => exact ⟨k1, .mk 7 0 t.text [xc, y] u.at_, r1, exC 7 0 t.text (.slice (some ⟨ga, 0, none⟩) 2 capa) u.at_, oe, ce, rfl, by omega, HN2.out, P6.out.laterB (B := G) (below_setCell _ _ _ (Nat.le_of_lt HGX.out.1)) HPG.out.1 HPG.out.2, X6.out.set 6 _, I6.out.keep (by simp [World.setCell]) fun k h1 h2 => heap_setCell_other _ ⟨X, 6, none⟩ k _ h1.2, Z6.out.setOther (a := ⟨X, 6, none⟩) (by have := HGX.out; show G ≠ X; omega) _, B6.out.trans (But.of_below (below_setCell _ _ _ (Nat.le_of_lt HGX.out.1))), by simpa [World.setCell] using Z6.out.lt⟩
                    case measure => omega
          · rw [if_pos (by rfl)]
            refine wp_buildSlice 26 28 1 _ rfl cc.toArray i0 (.agg exZ.toArray) Tryd.underlying26 HI0.out HI1.out (by rw [HI2.out]; decide) (by rw [HI2.out]; decide) (by rw [HI2.out]; have := fill_one (l := cc) IC.out.len; refine Eq.trans (congrArg _ ?_) this; simp [Act.eval, HD.out]) ?_
            refine hK.out _ _ trivial (fun hHw2 => ?_)
            clear hK K hHw1
            try simp only [Act.put, List.setIfInBounds_toArray, List.set_cons_zero, List.set_cons_succ]
            obtain ⟨N, hN⟩ : ∃ N, N = wd.heap.size := ⟨_, rfl⟩
            obtain ⟨wf, hwf⟩ : ∃ y, y = wd.alloc (.cells cc.toArray 28) := ⟨_, rfl⟩
            rw [← hwf, ← hN]
            have XF : Hid (Has wf X cc 28) := Lib.hid (by rw [hwf]; exact XC.out.alloc _)
            have NF : Hid (Has wf N cc 28) := Lib.hid (by rw [hwf, hN]; exact Has.new wd _ _)
            have ZF : Hid (Has wf G exZ 28) := Lib.hid (by rw [hwf]; exact ZC.out.alloc _)
            have DF : Hid (Below N wd wf) := Lib.hid (by rw [hwf, hN]; exact (Below.refl _ _).alloc (Nat.le_refl _) _)
            have BF : Hid (But G pb w wf) := Lib.hid (BC.out.trans (But.of_below (DF.out.mono (by rw [hN]; exact Nat.le_of_lt ZC.out.lt))))
            have PF := Lib.hid (HC.out.later (by rw [← hN]; exact DF.out))
            have HNN : Hid (G < N ∧ X < N ∧ pb < N ∧ g < N) := Lib.hid (by rw [hN]; exact ⟨ZC.out.lt, XC.out.lt, HC.out.row.lt, HC.out.lt⟩)
            have I1 : Hid (IsXS wf (fun k => G < k ∧ k ≠ X ∧ k ≠ N) cc xc) := Lib.hid (IsXS.mono (IsXS.keep (IsXS.mono IC.out (S' := fun k => G < k ∧ k ≠ X ∧ k ≠ N) fun k h1 h2 => ⟨h1.1, h1.2, by rw [hN]; exact Nat.ne_of_lt h2⟩) DF.out.size fun k _ h2 => DF.out.block k (by rw [hN]; exact h2)) fun k h1 _ => h1)
            clear hN hwf
            refine wpAnyH_ready (rs := [1]) (by kernel_rfl) (by simp) ?_
            refine AllReadyH.cons (o := { dst := some 13, op := Op.call { callee := Callee.value (Operand.func 41), args := #[Operand.tmp 12], argTypes := #[44] }, type := 50, pos := "op.go:87", after := #[{ on := 0, ground := Ground.data }], guard := none }) rfl (fun K hK => ?_) AllReadyH.nil
            have HQ2 := Lib.hid (name_ok PF.out htk)
            clear HQ
            go_simp
            refine HQ2.out.mono ?_
            rintro e wf ⟨rfl, bt, pe⟩
            rw [show (tokC t).toArray = #[.int .u8 (t.kind : Int), .string ⟨t.text.toArray⟩, .int .i64 (t.at_ : Int)] from rfl]
            have PF2 := Lib.hid pe
            have XF2 : Hid (Has wf X cc 28) := Lib.hid (XF.out.but bt XF.out.lt (by have := HGX.out; omega))
            have NF2 : Hid (Has wf N cc 28) := Lib.hid (NF.out.but bt NF.out.lt (by have := HNN.out; omega))
            have ZF2 : Hid (Has wf G exZ 28) := Lib.hid (ZF.out.but bt ZF.out.lt (by have := HPG.out; omega))
            have BF2 : Hid (But G pb w wf) := Lib.hid (BF.out.trans (bt.mono (Nat.le_of_lt ZF.out.lt)))
            have I12 : Hid (IsXS wf (fun k => G < k ∧ k ≠ X ∧ k ≠ N) cc xc) := Lib.hid (I1.out.keep bt.size fun k h1 h2 => bt.block k h2 (by have := HPG.out; omega))
            clear bt pe HQ2 XF NF ZF BF PF DF I1
            have PF := PF2
            clear PF2
            have XF := XF2
            clear XF2
            have NF := NF2
            clear NF2
            have ZF := ZF2
            clear ZF2
            have BF := BF2
            clear BF2
            have I1 := I12
            clear I12
            go_wp2_with fail
            refine hK.out _ _ trivial (fun hHw3 => ?_)
            clear hK K hHw2
            try simp only [Act.put, List.setIfInBounds_toArray, List.set_cons_zero, List.set_cons_succ]
            refine wpAnyH_take (i := 2) (oi := { dst := some 14, op := Op.field 50 (Operand.tmp 13) 1, type := 9, pos := "op.go:87", after := #[{ on := 1, ground := Ground.data }], guard := none }) (v := .string ⟨t.text.toArray⟩) rfl (by kernel_rfl) (by kernel_rfl) (by kernel_rfl) (fun _ _ _ h => h)
              (Or.inl ⟨by rfl, by intro w hSw;  clear hSw; go_simp⟩) hHw3 ?_
            try simp only [Act.put, List.setIfInBounds_toArray, List.set_cons_zero, List.set_cons_succ]
            refine wpAnyH_take (i := 6) (oi := { dst := some 18, op := Op.build 28 #[(0, Operand.const (Value.int IntKind.u8 7)), (2, Operand.tmp 14), (6, Operand.tmp 16), (7, Operand.tmp 17)], type := 28, pos := "op.go:87", after := #[{ on := 2, ground := Ground.data }, { on := 4, ground := Ground.data }, { on := 5, ground := Ground.data }], guard := none }) (v := .agg #[.int .u8 7, .int .i64 0, .string ⟨t.text.toArray⟩, .slice none 0 0, .slice none 0 0, .bool false, .slice (some ⟨N, 0, none⟩) 1 1, .int .i64 (u.at_ : Int)]) rfl (by kernel_rfl) (by kernel_rfl) (by kernel_rfl) (fun _ _ _ h => h)
              (Or.inl ⟨by rfl, by intro w hSw;  clear hSw; go_simp⟩) hHw3 ?_
            try simp only [Act.put, List.setIfInBounds_toArray, List.set_cons_zero, List.set_cons_succ]
            refine wpAnyH_ready (rs := [7]) (by kernel_rfl) (by simp) ?_
            refine AllReadyH.cons (o := { dst := none, op := Op.store 28 (Operand.tmp 3) (Operand.tmp 18), type := 0, pos := "op.go:87", after := #[{ on := 6, ground := Ground.data }, { on := 1, ground := Ground.chain }, { on := 0, ground := Ground.phase }, { on := 1, ground := Ground.phase }, { on := 2, ground := Ground.phase }, { on := 3, ground := Ground.phase }, { on := 4, ground := Ground.phase }, { on := 5, ground := Ground.phase }, { on := 6, ground := Ground.phase }], guard := none }) rfl (fun K hK => ?_) AllReadyH.nil
            rw [if_pos (by rfl)]
            have I2 : Hid (IsXS wf (fun k => G < k ∧ k ≠ X) (exC 7 0 t.text (.slice (some ⟨N, 0, none⟩) 1 1) u.at_) (.mk 7 0 t.text [xc] u.at_)) := Lib.hid (node_one 7 t.text u.at_ NF.out ⟨HNN.out.1, by have := HNN.out.2; omega⟩ (IsXS.mono I1.out fun k h1 _ => ⟨h1.1, h1.2.1⟩))
            refine wp_store_row 28 (.tmp 3) (.tmp 18) rfl X (exC 7 0 t.text (.slice (some ⟨N, 0, none⟩) 1 1) u.at_).toArray rfl rfl 28 cc.toArray XF.out (by rw [List.size_toArray, I2.out.len]; exact info_ex) (by rw [List.size_toArray, List.size_toArray, I2.out.len, I1.out.len]) I2.out.one ?_
            refine hK.out _ _ trivial (fun hHw4 => ?_)
            clear hK K hHw3
            try simp only [Act.put]
            refine wpAnyH_done (by kernel_rfl) ?_ _
            clear hHw4
            obtain ⟨wg, hwg⟩ : ∃ wg, wg = wf.setRow X (exC 7 0 t.text (.slice (some ⟨N, 0, none⟩) 1 1) u.at_).toArray := ⟨_, rfl⟩
            try rw [← hwg]
            have XG : Hid (Has wg X (exC 7 0 t.text (.slice (some ⟨N, 0, none⟩) 1 1) u.at_) 28) := Lib.hid (by rw [hwg]; exact XF.out.row _)
            have NG : Hid (Has wg N cc 28) := Lib.hid (by rw [hwg]; exact NF.out.rowOther (by have := HNN.out; omega) _)
            have ZG : Hid (Has wg G exZ 28) := Lib.hid (by rw [hwg]; exact ZF.out.rowOther (by have := HGX.out; omega) _)
            have BG : Hid (But G pb w wg) := Lib.hid (by rw [hwg]; exact BF.out.setRow (.inl (Nat.le_of_lt HGX.out.1)) _)
            have PG := Lib.hid (show Ps wg pb g (o + 3 + 3) (c - 1 - 1) q d rm by rw [hwg]; exact PF.out.laterB (B := G) (below_setRow (Below.refl G wf) (Nat.le_of_lt HGX.out.1) _) HPG.out.1 HPG.out.2)
            have IG : Hid (IsXS wg (fun k => G < k ∧ k ≠ X ∧ k ≠ N) cc xc) := Lib.hid (by rw [hwg]; exact I1.out.keep (by simp) fun k h1 h2 => setRow_other _ _ _ _ h1.2.1)
            clear hwg XF NF ZF BF PF I1 I2 HC XC ZC BC IC HXD hf1
            rcases HNX.out with ⟨hor, hn2⟩ | ⟨hor, y, r1, hy, hn2⟩
            · have KS := Lib.hid (skip_no PG.out ⟨#[111, 114]⟩ hor)
              go_wp2_with fail
              refine KS.out.mono ?_
              rintro e wh ⟨rfl, xh⟩
              have XH := Lib.hid (XG.out.below xh XG.out.lt)
              have NH := Lib.hid (NG.out.below xh NG.out.lt)
              have ZH := Lib.hid (ZG.out.below xh ZG.out.lt)
              have BH : Hid (But G pb w wh) := Lib.hid (BG.out.trans (But.of_below (xh.mono (Nat.le_of_lt ZG.out.lt))))
              have PH := Lib.hid (PG.out.later xh)
              have IH : Hid (IsXS wh (fun k => G < k ∧ k ≠ X) cc xc) := Lib.hid (IsXS.mono (IG.out.keep xh.size fun k _ h2 => xh.block k h2) fun k h1 _ => ⟨h1.1, h1.2.1⟩)
              clear xh XG NG ZG BG PG IG KS
              go_wp2_with fail
              go_roundg k1
              case rel => exact ⟨k1, .mk 7 0 t.text [xc] u.at_, q, exC 7 0 t.text (.slice (some ⟨N, 0, none⟩) 1 1) u.at_, _, _, rfl, by omega, hn2, PH.out, XH.out, node_one 7 t.text u.at_ NH.out ⟨HNN.out.1, by have := HNN.out; omega⟩ IH.out, ZH.out, BH.out, ZH.out.lt⟩
              case measure => omega
            · match q, hor, hy, hn2, PG with
              | [], hor, _, _, _ => simp [stT] at hor
              | v :: q2, hor, hy, hn2, PG =>
                have KS := Lib.hid (skip_yes PG.out ⟨#[111, 114]⟩ hor)
                have HY2 := Lib.hid (show pg k1 .thing d q2 = .ok y r1 from hy)
                have HN2 := Lib.hid hn2
                clear hor hy hn2 HNX
                go_wp2_with fail
                refine KS.out.mono ?_
                rintro e wh ⟨rfl, bt, pe⟩
                have XH := Lib.hid (XG.out.but bt XG.out.lt (by have := HGX.out; omega))
                have NH := Lib.hid (NG.out.but bt NG.out.lt (by have := HNN.out; omega))
                have ZH := Lib.hid (ZG.out.but bt ZG.out.lt (by have := HPG.out; omega))
                have BH : Hid (But G pb w wh) := Lib.hid (BG.out.trans (bt.mono (Nat.le_of_lt ZG.out.lt)))
                have PH := Lib.hid pe
                have IH : Hid (IsXS wh (fun k => G < k ∧ k ≠ X ∧ k ≠ N) cc xc) := Lib.hid (IG.out.keep bt.size fun k h1 h2 => bt.block k h2 (by have := HPG.out; omega))
                clear bt pe XG NG ZG BG PG IG KS
                go_upto_region 6 with fail
                refine wp_region_held_drew (S := fun _ => True) (by kernel_rfl) trivial (fun hHeld => ?_)
                obtain ⟨wi, hwi⟩ : ∃ wi, wi = wh.drew := ⟨_, rfl⟩
                rw [← hwi]
                have PI := Lib.hid (show Ps wi pb g (o + 3 + 3 + 3) (c - 1 - 1 - 1) q2 d rm by rw [hwi]; exact PH.out.later (Below.refl _ _).drew)
                have XI : Hid (Has wi X (exC 7 0 t.text (.slice (some ⟨N, 0, none⟩) 1 1) u.at_) 28) := Lib.hid (by rw [hwi]; exact XH.out.drew)
                have NI : Hid (Has wi N cc 28) := Lib.hid (by rw [hwi]; exact NH.out.drew)
                have ZI : Hid (Has wi G exZ 28) := Lib.hid (by rw [hwi]; exact ZH.out.drew)
                have BI : Hid (But G pb w wi) := Lib.hid (by rw [hwi]; exact BH.out.drew)
                have II : Hid (IsXS wi (fun k => G < k ∧ k ≠ X ∧ k ≠ N) cc xc) := Lib.hid (by rw [hwi]; exact IH.out.keep (Nat.le_refl _) fun k _ _ => rfl)
                have HT6 := Lib.hid (HTH.out k1 (by omega) wi _ _ q2 y r1 PI.out HY2.out)
                clear hwi XH NH ZH BH PH IH
                refine wpAnyH_take (i := 0) (oi := { dst := some 21, op := Op.fieldAddr 28 (Operand.tmp 3) 6, type := 0, pos := "op.go:89", after := #[], guard := none }) (v := .pointer (some ⟨X, 6, none⟩)) rfl (by kernel_rfl) (by kernel_rfl) (by kernel_rfl) (fun _ _ _ h => h)
                  (Or.inl ⟨by rfl, by intro w hSw;  clear hSw; go_simp⟩) hHeld ?_
                try simp only [Act.put, List.setIfInBounds_toArray, List.set_cons_zero, List.set_cons_succ]
                refine wpAnyH_take (i := 2) (oi := { dst := some 23, op := Op.move (Operand.tmp 0), type := 44, pos := "op.go:89", after := #[], guard := none }) (v := .pointer (some ⟨pb, 0, none⟩)) rfl (by kernel_rfl) (by kernel_rfl) (by kernel_rfl) (fun _ _ _ h => h)
                  (Or.inl ⟨by rfl, by intro w hSw;  clear hSw; go_simp⟩) hHeld ?_
                try simp only [Act.put, List.setIfInBounds_toArray, List.set_cons_zero, List.set_cons_succ]
                refine wpAnyH_ready (rs := [1, 3]) (by kernel_rfl) (by simp) ?_
                refine AllReadyH.cons (o := { dst := some 22, op := Op.load 26 (Operand.tmp 21), type := 26, pos := "op.go:89", after := #[{ on := 0, ground := Ground.data }], guard := none }) rfl (fun K hK => ?_) (AllReadyH.cons (o := { dst := some 24, op := Op.call { callee := Callee.value (Operand.func 69), args := #[Operand.tmp 23], argTypes := #[44] }, type := 28, pos := "op.go:89", after := #[{ on := 2, ground := Ground.data }], guard := none }) rfl (fun K hK => ?_) AllReadyH.nil)
                · have hcl := (XI.out).cellAt (i := 6) (v := .slice (some ⟨N, 0, none⟩) 1 1) rfl
                  go_simp
                  clear hcl
                  refine hK.out _ _ trivial (fun hHw1 => ?_)
                  clear hK K hHeld
                  try simp only [Act.put, List.setIfInBounds_toArray, List.set_cons_zero, List.set_cons_succ]
                  refine wpAnyH_ready (rs := [3]) (by kernel_rfl) (by simp) ?_
                  refine AllReadyH.cons (o := { dst := some 24, op := Op.call { callee := Callee.value (Operand.func 69), args := #[Operand.tmp 23], argTypes := #[44] }, type := 28, pos := "op.go:89", after := #[{ on := 2, ground := Ground.data }], guard := none }) rfl (fun K hK => ?_) AllReadyH.nil
                  go_simp
                  refine HT6.out.mono ?_
                  rintro e wj ⟨ys, oe, ce, rfl, iy, bt, pe⟩
                  have PJ := Lib.hid pe
                  have HYL := Lib.hid iy.len
                  have XJ : Hid (Has wj X (exC 7 0 t.text (.slice (some ⟨N, 0, none⟩) 1 1) u.at_) 28) := Lib.hid (XI.out.but bt XI.out.lt (by have := HGX.out; omega))
                  have NJ : Hid (Has wj N cc 28) := Lib.hid (NI.out.but bt NI.out.lt (by have := HNN.out; omega))
                  have ZJ : Hid (Has wj G exZ 28) := Lib.hid (ZI.out.but bt ZI.out.lt (by have := HPG.out; omega))
                  have BJ : Hid (But G pb w wj) := Lib.hid (BI.out.trans (bt.mono (Nat.le_of_lt ZI.out.lt)))
                  have IJ : Hid (IsXS wj (fun k => G < k ∧ k ≠ X ∧ k ≠ N) cc xc) := Lib.hid (II.out.keep bt.size fun k h1 h2 => bt.block k h2 (by have := HPG.out; omega))
                  have IY : Hid (IsXS wj (fun k => G < k ∧ k ≠ X ∧ k ≠ N) ys y) := Lib.hid (IsXS.mono iy fun k h1 _ => ⟨by have := ZI.out.lt; omega, by have := XI.out.lt; omega, by have := NI.out.lt; omega⟩)
                  clear iy bt pe HT6
                  obtain ⟨Y, hY⟩ : ∃ Y, Y = ys.toArray := ⟨_, rfl⟩
                  rw [← hY]
                  have HY := Lib.hid hY
                  clear hY
                  go_wp2_with fail
                  refine hK.out _ _ trivial (fun hHw2 => ?_)
                  clear hK K hHw1
                  try simp only [Act.put, List.setIfInBounds_toArray, List.set_cons_zero, List.set_cons_succ]
                  refine wpAnyH_ready (rs := [4]) (by kernel_rfl) (by simp) ?_
                  refine AllReadyH.cons (o := { dst := some 25, op := Op.buildSlice 26 1 #[(0, Operand.tmp 24)], type := 26, pos := "op.go:89", after := #[{ on := 3, ground := Ground.data }], guard := none }) rfl (fun K hK => ?_) AllReadyH.nil
                  rw [if_pos (by rfl)]
                  refine wp_buildSlice 26 28 1 _ rfl ys.toArray i0 (.agg exZ.toArray) Tryd.underlying26 HI0.out HI1.out (by rw [HI2.out]; decide) (by rw [HI2.out]; decide) (by rw [HI2.out]; have := fill_one (l := ys) HYL.out; refine Eq.trans (congrArg _ ?_) this; simp [Act.eval, HY.out]) ?_
                  refine hK.out _ _ trivial (fun hHw3 => ?_)
                  clear hK K hHw2
                  try simp only [Act.put, List.setIfInBounds_toArray, List.set_cons_zero, List.set_cons_succ]
                  obtain ⟨M, hM⟩ : ∃ M, M = wj.heap.size := ⟨_, rfl⟩
                  obtain ⟨wk, hwk⟩ : ∃ y, y = wj.alloc (.cells ys.toArray 28) := ⟨_, rfl⟩
                  rw [← hwk, ← hM]
                  have DK : Hid (Below M wj wk) := Lib.hid (by rw [hwk, hM]; exact (Below.refl _ _).alloc (Nat.le_refl _) _)
                  have MK : Hid (Has wk M ys 28) := Lib.hid (by rw [hwk, hM]; exact Has.new wj _ _)
                  have XK := Lib.hid (XJ.out.below DK.out (by rw [hM]; exact XJ.out.lt))
                  have NK := Lib.hid (NJ.out.below DK.out (by rw [hM]; exact NJ.out.lt))
                  have ZK := Lib.hid (ZJ.out.below DK.out (by rw [hM]; exact ZJ.out.lt))
                  have BK : Hid (But G pb w wk) := Lib.hid (BJ.out.trans (But.of_below (DK.out.mono (by rw [hM]; exact Nat.le_of_lt ZJ.out.lt))))
                  have PK := Lib.hid (PJ.out.later (by rw [← hM]; exact DK.out))
                  have IJK : Hid (IsXS wk (fun k => G < k ∧ k ≠ X ∧ k ≠ N) cc xc) := Lib.hid (IJ.out.keep DK.out.size fun k _ h2 => DK.out.block k (by rw [hM]; exact h2))
                  have IYK : Hid (IsXS wk (fun k => G < k ∧ k ≠ X ∧ k ≠ N) ys y) := Lib.hid (IY.out.keep DK.out.size fun k _ h2 => DK.out.block k (by rw [hM]; exact h2))
                  clear hM hwk DK XJ NJ ZJ BJ PJ IJ IY
                  refine wpAnyH_ready (rs := [5]) (by kernel_rfl) (by simp) ?_
                  refine AllReadyH.cons (o := { dst := some 26, op := Op.call { callee := Callee.builtin Builtin.append, args := #[Operand.tmp 22, Operand.tmp 25], argTypes := #[26, 26] }, type := 26, pos := "op.go:89", after := #[{ on := 1, ground := Ground.data }, { on := 4, ground := Ground.data }, { on := 3, ground := Ground.chain }], guard := none }) rfl (fun K hK => ?_) AllReadyH.nil
                  rw [if_pos (by rfl)]
                  have ow := owns_has NK.out IJK.out.len
                  refine wp_append_lies _ (.tmp 22) (.tmp 25) 26 rfl 0 28 i0 (.agg exZ.toArray) 8 120 Tryd.underlying26 HI0.out HI1.out HI2.out HI3.out rfl (by omega) (.slice (some ⟨N, 0, none⟩) 1 1) 1 cc rfl ow ⟨M, 0, none⟩ 1 1 ys rfl (by rw [HYL.out]) (fun j u hj => ?_) (fun u hu => ?_) (by omega) (by decide) (by decide) (Nat.zero_le _) wk.heap.size rfl (fun ga capa w5 h5o h5g h5b h5s => ?_)
                  · rw [Addr.add_lit, Nat.zero_add]; exact MK.out.cellAt hj
                  · have h1 := IYK.out.one
                    rw [Array.all_eq_true] at h1
                    obtain ⟨i, hi, rfl⟩ := List.mem_iff_getElem.1 hu
                    exact h1 i (by simpa using hi)
                  have HGA : Hid (G < ga ∧ ga ≠ X ∧ ga < w5.heap.size) := Lib.hid (by
                    rcases h5b with h | h
                    · have h : N = ga := by simpa [Value.ownBlock] using h
                      have := HNN.out; exact ⟨by omega, by omega, h5s⟩
                    · have h1 := ZK.out.lt
                      have h2 := XK.out.lt
                      exact ⟨by omega, by omega, h5s⟩)
                  have X6 := Lib.hid (hasp_grown XK.out h5g (by simp [Value.ownBlock]; have := HNN.out; omega))
                  have Z6 := Lib.hid (hasp_grown ZK.out h5g (by simp [Value.ownBlock]; have := HNN.out; omega))
                  have P6 := Lib.hid (PK.out.grown h5g (by simp [Value.ownBlock]; have := HNN.out; omega) (by simp [Value.ownBlock]; have := HNN.out; omega) (by simp [Value.ownBlock]; have := HNN.out; have := PK.out.laid.2; omega))
                  have IJ6 : Hid (IsXS w5 (fun k => G < k ∧ k ≠ X) cc xc) := Lib.hid (IsXS.mono (IJK.out.keep h5g.size fun k h1 h2 => h5g.block k h2 (by simp [Value.ownBlock]; omega)) fun k h1 _ => ⟨h1.1, h1.2.1⟩)
                  have IY6 : Hid (IsXS w5 (fun k => G < k ∧ k ≠ X) ys y) := Lib.hid (IsXS.mono (IYK.out.keep h5g.size fun k h1 h2 => h5g.block k h2 (by simp [Value.ownBlock]; omega)) fun k h1 _ => ⟨h1.1, h1.2.1⟩)
                  have B6 : Hid (But G pb w w5) := Lib.hid (BK.out.trans (but_grown h5g (Nat.le_of_lt ZK.out.lt) (fun k e => by have e : N = k := (by simpa [Value.ownBlock] using e); have := HNN.out; omega)))
                  have I6 : Hid (IsXS w5 (fun k => G < k ∧ k ≠ X) (exC 7 0 t.text (.slice (some ⟨ga, 0, none⟩) 2 capa) u.at_) (.mk 7 0 t.text [xc, y] u.at_)) := Lib.hid (node_app 7 t.text u.at_ h5o ⟨HGA.out.1, HGA.out.2.1⟩ IJ6.out IY6.out)
                  clear h5o h5g h5b h5s ow XK ZK PK BK IJK IYK MK NK IJ6 IY6
                  refine hK.out _ _ trivial (fun hHw4 => ?_)
                  clear hK K hHw3
                  try simp only [Act.put, List.setIfInBounds_toArray, List.set_cons_zero, List.set_cons_succ]
                  refine wpAnyH_take (i := 6) (oi := { dst := some 27, op := Op.fieldAddr 28 (Operand.tmp 3) 6, type := 0, pos := "op.go:89", after := #[{ on := 0, ground := Ground.phase }, { on := 1, ground := Ground.phase }, { on := 2, ground := Ground.phase }, { on := 3, ground := Ground.phase }, { on := 4, ground := Ground.phase }, { on := 5, ground := Ground.phase }], guard := none }) (v := .pointer (some ⟨X, 6, none⟩)) rfl (by kernel_rfl) (by kernel_rfl) (by kernel_rfl) (fun _ _ _ h => h)
                    (Or.inl ⟨by rfl, by intro w hSw;  clear hSw; go_simp⟩) hHw4 ?_
                  try simp only [Act.put, List.setIfInBounds_toArray, List.set_cons_zero, List.set_cons_succ]
                  refine wpAnyH_ready (rs := [7]) (by kernel_rfl) (by simp) ?_
                  refine AllReadyH.cons (o := { dst := none, op := Op.store 26 (Operand.tmp 27) (Operand.tmp 26), type := 0, pos := "op.go:89", after := #[{ on := 6, ground := Ground.data }, { on := 5, ground := Ground.data }, { on := 5, ground := Ground.chain }, { on := 0, ground := Ground.phase }, { on := 1, ground := Ground.phase }, { on := 2, ground := Ground.phase }, { on := 3, ground := Ground.phase }, { on := 4, ground := Ground.phase }, { on := 5, ground := Ground.phase }], guard := none }) rfl (fun K hK => ?_) AllReadyH.nil
                  have hc5 := X6.out.cellAt (i := 6) (v := .slice (some ⟨N, 0, none⟩) 1 1) rfl
                  have hf5 := X6.out.frozen 6
                  go_simp
                  clear hc5 hf5
                  refine hK.out _ _ trivial (fun hHw5 => ?_)
                  clear hK K hHw4
                  try simp only [Act.put]
                  refine wpAnyH_done (by kernel_rfl) ?_ _
                  clear hHw5
                  go_wp2_with fail
                  go_roundg k1
                  case rel => exact ⟨k1, .mk 7 0 t.text [xc, y] u.at_, r1, exC 7 0 t.text (.slice (some ⟨ga, 0, none⟩) 2 capa) u.at_, oe, ce, rfl, by omega, HN2.out, P6.out.laterB (B := G) (below_setCell _ _ _ (Nat.le_of_lt HGX.out.1)) HPG.out.1 HPG.out.2, X6.out.set 6 _, I6.out.keep (by simp [World.setCell]) fun k h1 h2 => heap_setCell_other _ ⟨X, 6, none⟩ k _ h1.2, Z6.out.setOther (a := ⟨X, 6, none⟩) (by have := HGX.out; show G ≠ X; omega) _, B6.out.trans (But.of_below (below_setCell _ _ _ (Nat.le_of_lt HGX.out.1))), by simpa [World.setCell] using Z6.out.lt⟩
                  case measure => omega
                · go_simp
                  refine HT6.out.mono ?_
                  rintro e wj ⟨ys, oe, ce, rfl, iy, bt, pe⟩
                  have PJ := Lib.hid pe
                  have HYL := Lib.hid iy.len
                  have XJ : Hid (Has wj X (exC 7 0 t.text (.slice (some ⟨N, 0, none⟩) 1 1) u.at_) 28) := Lib.hid (XI.out.but bt XI.out.lt (by have := HGX.out; omega))
                  have NJ : Hid (Has wj N cc 28) := Lib.hid (NI.out.but bt NI.out.lt (by have := HNN.out; omega))
                  have ZJ : Hid (Has wj G exZ 28) := Lib.hid (ZI.out.but bt ZI.out.lt (by have := HPG.out; omega))
                  have BJ : Hid (But G pb w wj) := Lib.hid (BI.out.trans (bt.mono (Nat.le_of_lt ZI.out.lt)))
                  have IJ : Hid (IsXS wj (fun k => G < k ∧ k ≠ X ∧ k ≠ N) cc xc) := Lib.hid (II.out.keep bt.size fun k h1 h2 => bt.block k h2 (by have := HPG.out; omega))
                  have IY : Hid (IsXS wj (fun k => G < k ∧ k ≠ X ∧ k ≠ N) ys y) := Lib.hid (IsXS.mono iy fun k h1 _ => ⟨by have := ZI.out.lt; omega, by have := XI.out.lt; omega, by have := NI.out.lt; omega⟩)
                  clear iy bt pe HT6
                  obtain ⟨Y, hY⟩ : ∃ Y, Y = ys.toArray := ⟨_, rfl⟩
                  rw [← hY]
                  have HY := Lib.hid hY
                  clear hY
                  go_wp2_with fail
                  refine hK.out _ _ trivial (fun hHw1 => ?_)
                  clear hK K hHeld
                  try simp only [Act.put, List.setIfInBounds_toArray, List.set_cons_zero, List.set_cons_succ]
                  refine wpAnyH_ready (rs := [1, 4]) (by kernel_rfl) (by simp) ?_
                  refine AllReadyH.cons (o := { dst := some 22, op := Op.load 26 (Operand.tmp 21), type := 26, pos := "op.go:89", after := #[{ on := 0, ground := Ground.data }], guard := none }) rfl (fun K hK => ?_) (AllReadyH.cons (o := { dst := some 25, op := Op.buildSlice 26 1 #[(0, Operand.tmp 24)], type := 26, pos := "op.go:89", after := #[{ on := 3, ground := Ground.data }], guard := none }) rfl (fun K hK => ?_) AllReadyH.nil)
                  · have hcl := (XJ.out).cellAt (i := 6) (v := .slice (some ⟨N, 0, none⟩) 1 1) rfl
                    go_simp
                    clear hcl
                    refine hK.out _ _ trivial (fun hHw2 => ?_)
                    clear hK K hHw1
                    try simp only [Act.put, List.setIfInBounds_toArray, List.set_cons_zero, List.set_cons_succ]
                    refine wpAnyH_ready (rs := [4]) (by kernel_rfl) (by simp) ?_
                    refine AllReadyH.cons (o := { dst := some 25, op := Op.buildSlice 26 1 #[(0, Operand.tmp 24)], type := 26, pos := "op.go:89", after := #[{ on := 3, ground := Ground.data }], guard := none }) rfl (fun K hK => ?_) AllReadyH.nil
                    rw [if_pos (by rfl)]
                    refine wp_buildSlice 26 28 1 _ rfl ys.toArray i0 (.agg exZ.toArray) Tryd.underlying26 HI0.out HI1.out (by rw [HI2.out]; decide) (by rw [HI2.out]; decide) (by rw [HI2.out]; have := fill_one (l := ys) HYL.out; refine Eq.trans (congrArg _ ?_) this; simp [Act.eval, HY.out]) ?_
                    refine hK.out _ _ trivial (fun hHw3 => ?_)
                    clear hK K hHw2
                    try simp only [Act.put, List.setIfInBounds_toArray, List.set_cons_zero, List.set_cons_succ]
                    obtain ⟨M, hM⟩ : ∃ M, M = wj.heap.size := ⟨_, rfl⟩
                    obtain ⟨wk, hwk⟩ : ∃ y, y = wj.alloc (.cells ys.toArray 28) := ⟨_, rfl⟩
                    rw [← hwk, ← hM]
                    have DK : Hid (Below M wj wk) := Lib.hid (by rw [hwk, hM]; exact (Below.refl _ _).alloc (Nat.le_refl _) _)
                    have MK : Hid (Has wk M ys 28) := Lib.hid (by rw [hwk, hM]; exact Has.new wj _ _)
                    have XK := Lib.hid (XJ.out.below DK.out (by rw [hM]; exact XJ.out.lt))
                    have NK := Lib.hid (NJ.out.below DK.out (by rw [hM]; exact NJ.out.lt))
                    have ZK := Lib.hid (ZJ.out.below DK.out (by rw [hM]; exact ZJ.out.lt))
                    have BK : Hid (But G pb w wk) := Lib.hid (BJ.out.trans (But.of_below (DK.out.mono (by rw [hM]; exact Nat.le_of_lt ZJ.out.lt))))
                    have PK := Lib.hid (PJ.out.later (by rw [← hM]; exact DK.out))
                    have IJK : Hid (IsXS wk (fun k => G < k ∧ k ≠ X ∧ k ≠ N) cc xc) := Lib.hid (IJ.out.keep DK.out.size fun k _ h2 => DK.out.block k (by rw [hM]; exact h2))
                    have IYK : Hid (IsXS wk (fun k => G < k ∧ k ≠ X ∧ k ≠ N) ys y) := Lib.hid (IY.out.keep DK.out.size fun k _ h2 => DK.out.block k (by rw [hM]; exact h2))
                    clear hM hwk DK XJ NJ ZJ BJ PJ IJ IY
                    refine wpAnyH_ready (rs := [5]) (by kernel_rfl) (by simp) ?_
                    refine AllReadyH.cons (o := { dst := some 26, op := Op.call { callee := Callee.builtin Builtin.append, args := #[Operand.tmp 22, Operand.tmp 25], argTypes := #[26, 26] }, type := 26, pos := "op.go:89", after := #[{ on := 1, ground := Ground.data }, { on := 4, ground := Ground.data }, { on := 3, ground := Ground.chain }], guard := none }) rfl (fun K hK => ?_) AllReadyH.nil
                    rw [if_pos (by rfl)]
                    have ow := owns_has NK.out IJK.out.len
                    refine wp_append_lies _ (.tmp 22) (.tmp 25) 26 rfl 0 28 i0 (.agg exZ.toArray) 8 120 Tryd.underlying26 HI0.out HI1.out HI2.out HI3.out rfl (by omega) (.slice (some ⟨N, 0, none⟩) 1 1) 1 cc rfl ow ⟨M, 0, none⟩ 1 1 ys rfl (by rw [HYL.out]) (fun j u hj => ?_) (fun u hu => ?_) (by omega) (by decide) (by decide) (Nat.zero_le _) wk.heap.size rfl (fun ga capa w5 h5o h5g h5b h5s => ?_)
                    · rw [Addr.add_lit, Nat.zero_add]; exact MK.out.cellAt hj
                    · have h1 := IYK.out.one
                      rw [Array.all_eq_true] at h1
                      obtain ⟨i, hi, rfl⟩ := List.mem_iff_getElem.1 hu
                      exact h1 i (by simpa using hi)
                    have HGA : Hid (G < ga ∧ ga ≠ X ∧ ga < w5.heap.size) := Lib.hid (by
                      rcases h5b with h | h
                      · have h : N = ga := by simpa [Value.ownBlock] using h
                        have := HNN.out; exact ⟨by omega, by omega, h5s⟩
                      · have h1 := ZK.out.lt
                        have h2 := XK.out.lt
                        exact ⟨by omega, by omega, h5s⟩)
                    have X6 := Lib.hid (hasp_grown XK.out h5g (by simp [Value.ownBlock]; have := HNN.out; omega))
                    have Z6 := Lib.hid (hasp_grown ZK.out h5g (by simp [Value.ownBlock]; have := HNN.out; omega))
                    have P6 := Lib.hid (PK.out.grown h5g (by simp [Value.ownBlock]; have := HNN.out; omega) (by simp [Value.ownBlock]; have := HNN.out; omega) (by simp [Value.ownBlock]; have := HNN.out; have := PK.out.laid.2; omega))
                    have IJ6 : Hid (IsXS w5 (fun k => G < k ∧ k ≠ X) cc xc) := Lib.hid (IsXS.mono (IJK.out.keep h5g.size fun k h1 h2 => h5g.block k h2 (by simp [Value.ownBlock]; omega)) fun k h1 _ => ⟨h1.1, h1.2.1⟩)
                    have IY6 : Hid (IsXS w5 (fun k => G < k ∧ k ≠ X) ys y) := Lib.hid (IsXS.mono (IYK.out.keep h5g.size fun k h1 h2 => h5g.block k h2 (by simp [Value.ownBlock]; omega)) fun k h1 _ => ⟨h1.1, h1.2.1⟩)
                    have B6 : Hid (But G pb w w5) := Lib.hid (BK.out.trans (but_grown h5g (Nat.le_of_lt ZK.out.lt) (fun k e => by have e : N = k := (by simpa [Value.ownBlock] using e); have := HNN.out; omega)))
                    have I6 : Hid (IsXS w5 (fun k => G < k ∧ k ≠ X) (exC 7 0 t.text (.slice (some ⟨ga, 0, none⟩) 2 capa) u.at_) (.mk 7 0 t.text [xc, y] u.at_)) := Lib.hid (node_app 7 t.text u.at_ h5o ⟨HGA.out.1, HGA.out.2.1⟩ IJ6.out IY6.out)
                    clear h5o h5g h5b h5s ow XK ZK PK BK IJK IYK MK NK IJ6 IY6
                    refine hK.out _ _ trivial (fun hHw4 => ?_)
                    clear hK K hHw3
                    try simp only [Act.put, List.setIfInBounds_toArray, List.set_cons_zero, List.set_cons_succ]
                    refine wpAnyH_take (i := 6) (oi := { dst := some 27, op := Op.fieldAddr 28 (Operand.tmp 3) 6, type := 0, pos := "op.go:89", after := #[{ on := 0, ground := Ground.phase }, { on := 1, ground := Ground.phase }, { on := 2, ground := Ground.phase }, { on := 3, ground := Ground.phase }, { on := 4, ground := Ground.phase }, { on := 5, ground := Ground.phase }], guard := none }) (v := .pointer (some ⟨X, 6, none⟩)) rfl (by kernel_rfl) (by kernel_rfl) (by kernel_rfl) (fun _ _ _ h => h)
                      (Or.inl ⟨by rfl, by intro w hSw;  clear hSw; go_simp⟩) hHw4 ?_
                    try simp only [Act.put, List.setIfInBounds_toArray, List.set_cons_zero, List.set_cons_succ]
                    refine wpAnyH_ready (rs := [7]) (by kernel_rfl) (by simp) ?_
                    refine AllReadyH.cons (o := { dst := none, op := Op.store 26 (Operand.tmp 27) (Operand.tmp 26), type := 0, pos := "op.go:89", after := #[{ on := 6, ground := Ground.data }, { on := 5, ground := Ground.data }, { on := 5, ground := Ground.chain }, { on := 0, ground := Ground.phase }, { on := 1, ground := Ground.phase }, { on := 2, ground := Ground.phase }, { on := 3, ground := Ground.phase }, { on := 4, ground := Ground.phase }, { on := 5, ground := Ground.phase }], guard := none }) rfl (fun K hK => ?_) AllReadyH.nil
                    have hc5 := X6.out.cellAt (i := 6) (v := .slice (some ⟨N, 0, none⟩) 1 1) rfl
                    have hf5 := X6.out.frozen 6
                    go_simp
                    clear hc5 hf5
                    refine hK.out _ _ trivial (fun hHw5 => ?_)
                    clear hK K hHw4
                    try simp only [Act.put]
                    refine wpAnyH_done (by kernel_rfl) ?_ _
                    clear hHw5
                    go_wp2_with fail
                    go_roundg k1
                    case rel => exact ⟨k1, .mk 7 0 t.text [xc, y] u.at_, r1, exC 7 0 t.text (.slice (some ⟨ga, 0, none⟩) 2 capa) u.at_, oe, ce, rfl, by omega, HN2.out, P6.out.laterB (B := G) (below_setCell _ _ _ (Nat.le_of_lt HGX.out.1)) HPG.out.1 HPG.out.2, X6.out.set 6 _, I6.out.keep (by simp [World.setCell]) fun k h1 h2 => heap_setCell_other _ ⟨X, 6, none⟩ k _ h1.2, Z6.out.setOther (a := ⟨X, 6, none⟩) (by have := HGX.out; show G ≠ X; omega) _, B6.out.trans (But.of_below (below_setCell _ _ _ (Nat.le_of_lt HGX.out.1))), by simpa [World.setCell] using Z6.out.lt⟩
                    case measure => omega
                  · rw [if_pos (by rfl)]
                    refine wp_buildSlice 26 28 1 _ rfl ys.toArray i0 (.agg exZ.toArray) Tryd.underlying26 HI0.out HI1.out (by rw [HI2.out]; decide) (by rw [HI2.out]; decide) (by rw [HI2.out]; have := fill_one (l := ys) HYL.out; refine Eq.trans (congrArg _ ?_) this; simp [Act.eval, HY.out]) ?_
                    refine hK.out _ _ trivial (fun hHw2 => ?_)
                    clear hK K hHw1
                    try simp only [Act.put, List.setIfInBounds_toArray, List.set_cons_zero, List.set_cons_succ]
                    obtain ⟨M, hM⟩ : ∃ M, M = wj.heap.size := ⟨_, rfl⟩
                    obtain ⟨wk, hwk⟩ : ∃ y, y = wj.alloc (.cells ys.toArray 28) := ⟨_, rfl⟩
                    rw [← hwk, ← hM]
                    have DK : Hid (Below M wj wk) := Lib.hid (by rw [hwk, hM]; exact (Below.refl _ _).alloc (Nat.le_refl _) _)
                    have MK : Hid (Has wk M ys 28) := Lib.hid (by rw [hwk, hM]; exact Has.new wj _ _)
                    have XK := Lib.hid (XJ.out.below DK.out (by rw [hM]; exact XJ.out.lt))
                    have NK := Lib.hid (NJ.out.below DK.out (by rw [hM]; exact NJ.out.lt))
                    have ZK := Lib.hid (ZJ.out.below DK.out (by rw [hM]; exact ZJ.out.lt))
                    have BK : Hid (But G pb w wk) := Lib.hid (BJ.out.trans (But.of_below (DK.out.mono (by rw [hM]; exact Nat.le_of_lt ZJ.out.lt))))
                    have PK := Lib.hid (PJ.out.later (by rw [← hM]; exact DK.out))
                    have IJK : Hid (IsXS wk (fun k => G < k ∧ k ≠ X ∧ k ≠ N) cc xc) := Lib.hid (IJ.out.keep DK.out.size fun k _ h2 => DK.out.block k (by rw [hM]; exact h2))
                    have IYK : Hid (IsXS wk (fun k => G < k ∧ k ≠ X ∧ k ≠ N) ys y) := Lib.hid (IY.out.keep DK.out.size fun k _ h2 => DK.out.block k (by rw [hM]; exact h2))
                    clear hM hwk DK XJ NJ ZJ BJ PJ IJ IY
                    refine wpAnyH_ready (rs := [1]) (by kernel_rfl) (by simp) ?_
                    refine AllReadyH.cons (o := { dst := some 22, op := Op.load 26 (Operand.tmp 21), type := 26, pos := "op.go:89", after := #[{ on := 0, ground := Ground.data }], guard := none }) rfl (fun K hK => ?_) AllReadyH.nil
                    have hcl := (XK.out).cellAt (i := 6) (v := .slice (some ⟨N, 0, none⟩) 1 1) rfl
                    go_simp
                    clear hcl
                    refine hK.out _ _ trivial (fun hHw3 => ?_)
                    clear hK K hHw2
                    try simp only [Act.put, List.setIfInBounds_toArray, List.set_cons_zero, List.set_cons_succ]
                    refine wpAnyH_ready (rs := [5]) (by kernel_rfl) (by simp) ?_
                    refine AllReadyH.cons (o := { dst := some 26, op := Op.call { callee := Callee.builtin Builtin.append, args := #[Operand.tmp 22, Operand.tmp 25], argTypes := #[26, 26] }, type := 26, pos := "op.go:89", after := #[{ on := 1, ground := Ground.data }, { on := 4, ground := Ground.data }, { on := 3, ground := Ground.chain }], guard := none }) rfl (fun K hK => ?_) AllReadyH.nil
                    rw [if_pos (by rfl)]
                    have ow := owns_has NK.out IJK.out.len
                    refine wp_append_lies _ (.tmp 22) (.tmp 25) 26 rfl 0 28 i0 (.agg exZ.toArray) 8 120 Tryd.underlying26 HI0.out HI1.out HI2.out HI3.out rfl (by omega) (.slice (some ⟨N, 0, none⟩) 1 1) 1 cc rfl ow ⟨M, 0, none⟩ 1 1 ys rfl (by rw [HYL.out]) (fun j u hj => ?_) (fun u hu => ?_) (by omega) (by decide) (by decide) (Nat.zero_le _) wk.heap.size rfl (fun ga capa w5 h5o h5g h5b h5s => ?_)
                    · rw [Addr.add_lit, Nat.zero_add]; exact MK.out.cellAt hj
                    · have h1 := IYK.out.one
                      rw [Array.all_eq_true] at h1
                      obtain ⟨i, hi, rfl⟩ := List.mem_iff_getElem.1 hu
                      exact h1 i (by simpa using hi)
                    have HGA : Hid (G < ga ∧ ga ≠ X ∧ ga < w5.heap.size) := Lib.hid (by
                      rcases h5b with h | h
                      · have h : N = ga := by simpa [Value.ownBlock] using h
                        have := HNN.out; exact ⟨by omega, by omega, h5s⟩
                      · have h1 := ZK.out.lt
                        have h2 := XK.out.lt
                        exact ⟨by omega, by omega, h5s⟩)
                    have X6 := Lib.hid (hasp_grown XK.out h5g (by simp [Value.ownBlock]; have := HNN.out; omega))
                    have Z6 := Lib.hid (hasp_grown ZK.out h5g (by simp [Value.ownBlock]; have := HNN.out; omega))
                    have P6 := Lib.hid (PK.out.grown h5g (by simp [Value.ownBlock]; have := HNN.out; omega) (by simp [Value.ownBlock]; have := HNN.out; omega) (by simp [Value.ownBlock]; have := HNN.out; have := PK.out.laid.2; omega))
                    have IJ6 : Hid (IsXS w5 (fun k => G < k ∧ k ≠ X) cc xc) := Lib.hid (IsXS.mono (IJK.out.keep h5g.size fun k h1 h2 => h5g.block k h2 (by simp [Value.ownBlock]; omega)) fun k h1 _ => ⟨h1.1, h1.2.1⟩)
                    have IY6 : Hid (IsXS w5 (fun k => G < k ∧ k ≠ X) ys y) := Lib.hid (IsXS.mono (IYK.out.keep h5g.size fun k h1 h2 => h5g.block k h2 (by simp [Value.ownBlock]; omega)) fun k h1 _ => ⟨h1.1, h1.2.1⟩)
                    have B6 : Hid (But G pb w w5) := Lib.hid (BK.out.trans (but_grown h5g (Nat.le_of_lt ZK.out.lt) (fun k e => by have e : N = k := (by simpa [Value.ownBlock] using e); have := HNN.out; omega)))
                    have I6 : Hid (IsXS w5 (fun k => G < k ∧ k ≠ X) (exC 7 0 t.text (.slice (some ⟨ga, 0, none⟩) 2 capa) u.at_) (.mk 7 0 t.text [xc, y] u.at_)) := Lib.hid (node_app 7 t.text u.at_ h5o ⟨HGA.out.1, HGA.out.2.1⟩ IJ6.out IY6.out)
                    clear h5o h5g h5b h5s ow XK ZK PK BK IJK IYK MK NK IJ6 IY6
                    refine hK.out _ _ trivial (fun hHw4 => ?_)
                    clear hK K hHw3
                    try simp only [Act.put, List.setIfInBounds_toArray, List.set_cons_zero, List.set_cons_succ]
                    refine wpAnyH_take (i := 6) (oi := { dst := some 27, op := Op.fieldAddr 28 (Operand.tmp 3) 6, type := 0, pos := "op.go:89", after := #[{ on := 0, ground := Ground.phase }, { on := 1, ground := Ground.phase }, { on := 2, ground := Ground.phase }, { on := 3, ground := Ground.phase }, { on := 4, ground := Ground.phase }, { on := 5, ground := Ground.phase }], guard := none }) (v := .pointer (some ⟨X, 6, none⟩)) rfl (by kernel_rfl) (by kernel_rfl) (by kernel_rfl) (fun _ _ _ h => h)
                      (Or.inl ⟨by rfl, by intro w hSw;  clear hSw; go_simp⟩) hHw4 ?_
                    try simp only [Act.put, List.setIfInBounds_toArray, List.set_cons_zero, List.set_cons_succ]
                    refine wpAnyH_ready (rs := [7]) (by kernel_rfl) (by simp) ?_
                    refine AllReadyH.cons (o := { dst := none, op := Op.store 26 (Operand.tmp 27) (Operand.tmp 26), type := 0, pos := "op.go:89", after := #[{ on := 6, ground := Ground.data }, { on := 5, ground := Ground.data }, { on := 5, ground := Ground.chain }, { on := 0, ground := Ground.phase }, { on := 1, ground := Ground.phase }, { on := 2, ground := Ground.phase }, { on := 3, ground := Ground.phase }, { on := 4, ground := Ground.phase }, { on := 5, ground := Ground.phase }], guard := none }) rfl (fun K hK => ?_) AllReadyH.nil
                    have hc5 := X6.out.cellAt (i := 6) (v := .slice (some ⟨N, 0, none⟩) 1 1) rfl
                    have hf5 := X6.out.frozen 6
                    go_simp
                    clear hc5 hf5
                    refine hK.out _ _ trivial (fun hHw5 => ?_)
                    clear hK K hHw4
                    try simp only [Act.put]
                    refine wpAnyH_done (by kernel_rfl) ?_ _
                    clear hHw5
                    go_wp2_with fail
                    go_roundg k1
                    case rel => exact ⟨k1, .mk 7 0 t.text [xc, y] u.at_, r1, exC 7 0 t.text (.slice (some ⟨ga, 0, none⟩) 2 capa) u.at_, oe, ce, rfl, by omega, HN2.out, P6.out.laterB (B := G) (below_setCell _ _ _ (Nat.le_of_lt HGX.out.1)) HPG.out.1 HPG.out.2, X6.out.set 6 _, I6.out.keep (by simp [World.setCell]) fun k h1 h2 => heap_setCell_other _ ⟨X, 6, none⟩ k _ h1.2, Z6.out.setOther (a := ⟨X, 6, none⟩) (by have := HGX.out; show G ≠ X; omega) _, B6.out.trans (But.of_below (below_setCell _ _ _ (Nat.le_of_lt HGX.out.1))), by simpa [World.setCell] using Z6.out.lt⟩
                    case measure => omega
end Go.Proofs.YtnajafnbickiiaaDoor

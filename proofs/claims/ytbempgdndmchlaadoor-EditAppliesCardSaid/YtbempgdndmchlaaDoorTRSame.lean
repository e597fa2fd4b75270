/-
  Whether two trees are alike: the reference's Same. No conditions.
-/
import Derived.Test.YtbempgdndmchlaaDoorTFlat
import Derived.Test.YtbempgdndmchlaaDoorTCount
import Derived.Deep.RegionHeld3
import Derived.Deep.QuietTactic
import Derived.BigQuiet
import Derived.Laws.BytesString
namespace Go.Proofs.YtbempgdndmchlaaDoor
open Go.RowKit
set_option linter.unusedVariables false

/-- 'string(b)' of bytes that came in, nil and empty ones too. -/
theorem convert_b {w : World} {a : Option Addr} {n cap : Nat} {l : List UInt8} (h : IsB w a n cap l) :
    (convert 22 9 (.slice a n cap)).run Tryd.prog w = .ok (.string ⟨l.toArray⟩) w := by
  obtain ⟨h1, h2, h3, h4, _⟩ := h
  have hnil : n = 0 → (convert 22 9 (.slice a n cap)).run Tryd.prog w = .ok (.string ⟨l.toArray⟩) w := by
    intro h0
    subst h0
    obtain rfl : l = [] := List.eq_nil_of_length_eq_zero h1
    cases a with
    | none =>
      obtain ⟨_, rfl⟩ := h3 rfl
      rw [run_convert_bytes_string w 22 9 5 none 0 0 Tryd.underlying22 Tryd.underlying5 Tryd.underlying9]
      rfl
    | some x =>
      have := run_convert_bytes_back (P := Tryd.prog) w 22 9 5 x cap [] Tryd.underlying22 Tryd.underlying5 Tryd.underlying9 (fun j hj => by simp at hj)
      rw [List.length_nil] at this
      exact this
  rcases h2 with h0 | ⟨b, off, rfl, hlt, hby⟩
  · exact hnil h0
  · subst h1
    refine run_convert_bytes_back (P := Tryd.prog) w 22 9 5 ⟨b, off, none⟩ cap l Tryd.underlying22 Tryd.underlying5 Tryd.underlying9 (fun j hj => ?_)
    have hadd : (⟨b, off, none⟩ : Addr).add j = ⟨b, off + j, none⟩ := by cases j <;> simp [Addr.add]
    rw [hadd, hby j hj]
    simp [List.getD, hj]

theorem below_drewT {B : Nat} {a w : World} (h : Below B a w) : Below B a w.drew := h.drew

/-- What a Same tells. -/
def SamePost (a b : T) (w : World) (e : Ending) (w' : World) : Prop := (∃ r : Bool, e = .returned (.bool r) ∧ (r = true ↔ a = b)) ∧ Below w.heap.size w w'
theorem same_no {a b : T} {w w' : World} {e : Ending} (he : e = .returned (.bool false)) (h : a ≠ b) (hb : Below w.heap.size w w') : SamePost a b w e w' :=
  ⟨⟨false, he, by simp [h]⟩, hb⟩
theorem same_yes {a b : T} {w w' : World} {e : Ending} (he : e = .returned (.bool true)) (h : a = b) (hb : Below w.heap.size w w') : SamePost a b w e w' :=
  ⟨⟨true, he, by simp [h]⟩, hb⟩

theorem list_eq_getD {α : Type} (d : α) : ∀ (l m : List α), l.length = m.length → (∀ i, i < l.length → l.getD i d = m.getD i d) → l = m := fun l m h hg => by
  apply List.ext_getElem? 
  intro i
  by_cases hi : i < l.length
  · have := hg i hi
    rw [List.getD_eq_getElem?_getD, List.getD_eq_getElem?_getD, List.getElem?_eq_getElem hi, List.getElem?_eq_getElem (by omega)] at this
    rw [List.getElem?_eq_getElem hi, List.getElem?_eq_getElem (by omega)]
    exact congrArg some this
  · rw [List.getElem?_eq_none (by omega), List.getElem?_eq_none (by omega)]

set_option maxRecDepth 100000 in
set_option maxHeartbeats 20000000 in
theorem rsame_any : ∀ (n : Nat) (cs : List Value) (a : T) (m : Nat) (ds : List Value) (b : T) (w : World), IsT w n cs a → IsT w m ds b →
    Calls Tryd.prog 13 #[.agg cs.toArray, .agg ds.toArray] w (SamePost a b w)
  | 0, _, _, _, _, _, _, ht => absurd ht (by simp [IsT])
  | n + 1, _, _, 0, _, _, _, _ => fun ht => absurd ht (by simp [IsT])
  | n + 1, cs, .mk k x d ns ks, m + 1, ds, .mk k' x' d' ns' ks', w, ht => by
    intro ht'
    obtain ⟨ad, nd, cd, an, nn, cn, ak, nk, ck, rfl, hB, hS, hK⟩ := ht
    obtain ⟨ad', nd', cd', an', nn', cn', ak', nk', ck', rfl, hB', hS', hK'⟩ := ht'
    have HS := Lib.hid hS
    have HS' := Lib.hid hS'
    have HK := Lib.hid hK
    have HK' := Lib.hid hK'
    have HB := Lib.hid hB
    have HB' := Lib.hid hB'
    clear hB hS hK hB' hS' hK'
    go_enter Tryd.func13, Tryd.ntmps13
    go_upto_region 1 with fail
    obtain ⟨w1, hw1⟩ : ∃ w1, w1 = w.alloc (.cells #[.int .u8 (k.toNat : Int), .bool x, .slice ad nd cd, .slice an nn cn, .slice ak nk ck] 26) := ⟨_, rfl⟩
    have e1 : w1.heap.size = w.heap.size + 1 := by rw [hw1]; simp
    have x1 : Has w1 w.heap.size [.int .u8 (k.toNat : Int), .bool x, .slice ad nd cd, .slice an nn cn, .slice ak nk ck] 26 := by rw [hw1]; exact Has.new w _ _
    have b1 : Below w.heap.size w w1 := by rw [hw1]; exact (Below.refl _ _).alloc (Nat.le_refl _) _
    rw [← hw1]
    obtain ⟨w2, hw2⟩ : ∃ w2, w2 = w1.alloc (.cells #[.int .u8 (k'.toNat : Int), .bool x', .slice ad' nd' cd', .slice an' nn' cn', .slice ak' nk' ck'] 26) := ⟨_, rfl⟩
    have y2 : Has w2 (w.heap.size + 1) [.int .u8 (k'.toNat : Int), .bool x', .slice ad' nd' cd', .slice an' nn' cn', .slice ak' nk' ck'] 26 := by rw [hw2, ← e1]; exact Has.new w1 _ _
    have x2 : Has w2 w.heap.size [.int .u8 (k.toNat : Int), .bool x, .slice ad nd cd, .slice an nn cn, .slice ak nk ck] 26 := by rw [hw2]; exact x1.alloc _
    have b2 : Below w.heap.size w w2 := by rw [hw2]; exact b1.alloc b1.size _
    have e2 : w2.heap.size = w.heap.size + 1 + 1 := by rw [hw2, ← e1]; simp
    rw [← hw2]
    obtain ⟨g, hg⟩ : ∃ g, g = w.heap.size := ⟨_, rfl⟩
    rw [← hg] at x2 y2 b2 e2 ⊢
    have HG := Lib.hid hg
    clear hw1 hw2 x1 b1 e1 hg
    have hv1 := convert_b (HB.out.later (by rw [← HG.out]; exact b2))
    have hv2 := convert_b (HB'.out.later (by rw [← HG.out]; exact b2))
    have cx0 := x2.cellAt (i := 0) rfl
    have cx1 := x2.cellAt (i := 1) rfl
    have cx2 := x2.cellAt (i := 2) rfl
    have cx3 := x2.cellAt (i := 3) rfl
    have cx4 := x2.cellAt (i := 4) rfl
    have cy0 := y2.cellAt (i := 0) rfl
    have cy1 := y2.cellAt (i := 1) rfl
    have cy2 := y2.cellAt (i := 2) rfl
    have cy3 := y2.cellAt (i := 3) rfl
    have cy4 := y2.cellAt (i := 4) rfl
    have X2 := Lib.hid x2
    have Y2 := Lib.hid y2
    have B2 := Lib.hid b2
    have hdn : (k' = k ∧ x' = x ∧ d' = d ∧ nn' = nn ∧ nk' = nk) ∨ ¬ (k' = k ∧ x' = x ∧ d' = d ∧ nn' = nn ∧ nk' = nk) := Classical.em _
    clear x2 y2 b2
    by_cases hk : k' = k
    · subst hk
      by_cases hx : x' = x
      · subst hx
        by_cases hd : d' = d
        · subst hd
          by_cases hn : nn' = nn
          · subst hn
            by_cases hkk : nk' = nk
            · subst hkk
              have HD := Lib.hid (show nn' = nn' from rfl)
              clear hdn
              go_wp2_with fail
              clear cx0 cx1 cx2 cx3 cx4 cy0 cy1 cy2 cy3 cy4 hv1 hv2
              go_loopw [5] (fun ii wr => ∃ i : Nat, i ≤ nn' ∧ ii = .int .i64 i ∧ (∀ j, j < i → ns.getD j ⟨#[]⟩ = ns'.getD j ⟨#[]⟩) ∧ Has wr g [.int .u8 (k'.toNat : Int), .bool x', .slice ad nd cd, .slice an nn' cn, .slice ak nk' ck] 26 ∧ Has wr (g + 1) [.int .u8 (k'.toNat : Int), .bool x', .slice ad' nd' cd', .slice an' nn' cn', .slice ak' nk' ck'] 26 ∧ Below g w wr ∧ g + 1 + 1 ≤ wr.heap.size) (fun ii _ => nn' - (intOf ii).toNat)
              case atStart => exact ⟨0, Nat.zero_le _, rfl, fun j hj => by omega, X2.out, Y2.out, B2.out, by omega⟩
              case round =>
                clear X2 Y2 B2
                obtain ⟨i, hi, rfl, hok, hx, hy, hbel, hsz⟩ := hrel
                have HX := Lib.hid hx
                have HY := Lib.hid hy
                have HBE := Lib.hid hbel
                have cx3 := hx.cellAt (i := 3) rfl
                have cy3 := hy.cellAt (i := 3) rfl
                have HOK := Lib.hid hok
                clear hx hy hok
                by_cases hlt : i < nn'
                · rcases HS.out.at_ with h0 | ⟨bs, os, rfl, hbs, hcs⟩
                  · omega
                  rcases HS'.out.at_ with h0 | ⟨bt, ot, rfl, hbt, hct⟩
                  · omega
                  obtain ⟨s, hs⟩ : ∃ s, s = ns.getD i ⟨#[]⟩ := ⟨_, rfl⟩
                  obtain ⟨p, hp⟩ : ∃ p, p = ns'.getD i ⟨#[]⟩ := ⟨_, rfl⟩
                  have hc1 : wr.cell? ⟨bs, os + i, none⟩ = some (.string s) := by rw [hs]; exact (hbel.cell (p := ⟨bs, os + i, none⟩) (by rw [HG.out]; exact hbs)).trans (hcs i hlt)
                  have hc2 : wr.cell? ⟨bt, ot + i, none⟩ = some (.string p) := by rw [hp]; exact (hbel.cell (p := ⟨bt, ot + i, none⟩) (by rw [HG.out]; exact hbt)).trans (hct i hlt)
                  have HSS := Lib.hid hs
                  have HPP := Lib.hid hp
                  have hki : (i : Int) < (nn' : Int) := by omega
                  have hroom := HS.out.room
                  unfold maxLen at hroom
                  have hni : (i : Int) + 1 ≤ 9223372036854775807 := by omega
                  have HLT := Lib.hid hlt
                  clear hs hp hcs hct hbel
                  by_cases hsp : s = p
                  · have HST : Hid (∀ j, j < i + 1 → ns.getD j ⟨#[]⟩ = ns'.getD j ⟨#[]⟩) := Lib.hid (fun j hj => by
                      by_cases e : j = i
                      · subst e; rw [← HSS.out, ← HPP.out]; exact hsp
                      · exact HOK.out j (by omega))
                    subst hsp
                    go_upto_region 6 with fail
                    go_quiet (fail)
                    go_wp2_with fail
                    go_roundw
                    case rel => exact ⟨i + 1, by have := HLT.out; omega, by go_num, HST.out, has_drewN HX.out _, has_drewN HY.out _, below_drewN HBE.out _, by simpa using hsz⟩
                    case measure =>
                      have := HLT.out
                      simp only [intOf]; omega
                  · have HNE : Hid (T.mk k' x' d' ns ks ≠ T.mk k' x' d' ns' ks') := Lib.hid (fun e => by cases e; exact hsp (HSS.out.trans HPP.out.symm))
                    have h1 : (s.toList == p.toList) = false := by
                      rw [beq_eq_false_iff_ne]
                      intro e
                      rw [ByteArray.toList_eq, ByteArray.toList_eq] at e
                      exact hsp (bytes_ext e)
                    clear hsp
                    go_upto_region 6 with fail
                    go_quiet (fail)
                    go_wp2_with fail
                    go_ret
                    exact same_no rfl HNE.out (by rw [← HG.out]; exact below_drewN HBE.out _)
                · obtain rfl : nn' = i := by omega
                  have HNS : Hid (ns = ns') := Lib.hid (list_eq_getD ⟨#[]⟩ _ _ (HS.out.length.trans HS'.out.length.symm) (fun j hj => HOK.out j (by rw [← HS.out.length]; exact hj)))
                  clear HOK hbel
                  go_wp2_with fail
                  clear cx3 cy3
                  go_loopw [6] (fun ii wx => ∃ i : Nat, i ≤ nk' ∧ ii = .int .i64 i ∧ (∀ j, j < i → ks.getD j default = ks'.getD j default) ∧ Has wx g [.int .u8 (k'.toNat : Int), .bool x', .slice ad nd cd, .slice an nn' cn, .slice ak nk' ck] 26 ∧ Has wx (g + 1) [.int .u8 (k'.toNat : Int), .bool x', .slice ad' nd' cd', .slice an' nn' cn', .slice ak' nk' ck'] 26 ∧ Below g w wx ∧ g + 1 + 1 ≤ wx.heap.size) (fun ii _ => nk' - (intOf ii).toNat)
                  case atStart => exact ⟨0, Nat.zero_le _, rfl, fun j hj => by omega, HX.out, HY.out, HBE.out, hsz⟩
                  case round =>
                    clear HX HY HBE hsz
                    obtain ⟨i, hi, rfl, hok, hx, hy, hbel, hsz⟩ := hrel
                    have HOK := Lib.hid hok
                    have HX := Lib.hid hx
                    have HY := Lib.hid hy
                    have HBE := Lib.hid hbel
                    have cx4 := hx.cellAt (i := 4) rfl
                    have cy4 := hy.cellAt (i := 4) rfl
                    clear hok hx hy
                    by_cases hlt : i < nk'
                    · skip
                      rcases HK.out.at_ with h0 | ⟨b, off, rfl, hb, hc⟩
                      · omega
                      rcases HK'.out.at_ with h0 | ⟨b', off', rfl, hb', hc'⟩
                      · omega
                      obtain ⟨c0, c1, c2, c3, c4, hR, k0, k1, k2, k3, k4⟩ := hc i hlt
                      obtain ⟨d0, d1, d2, d3, d4, hR', l0, l1, l2, l3, l4⟩ := hc' i hlt
                      have hbg : b < g := by rw [HG.out]; exact hb
                      have hbg' : b' < g := by rw [HG.out]; exact hb'
                      have hrange : wr.rangeAt b (off + i * 5) [c0, c1, c2, c3, c4] := fun j v hv => by
                        rw [Nat.add_assoc]
                        match j, hv with
                        | 0, hv => cases hv; exact (hbel.cell (p := ⟨b, off + (i * 5 + 0), none⟩) hbg).trans k0
                        | 1, hv => cases hv; exact (hbel.cell (p := ⟨b, off + (i * 5 + 1), none⟩) hbg).trans k1
                        | 2, hv => cases hv; exact (hbel.cell (p := ⟨b, off + (i * 5 + 2), none⟩) hbg).trans k2
                        | 3, hv => cases hv; exact (hbel.cell (p := ⟨b, off + (i * 5 + 3), none⟩) hbg).trans k3
                        | 4, hv => cases hv; exact (hbel.cell (p := ⟨b, off + (i * 5 + 4), none⟩) hbg).trans k4
                        | j + 5, hv => simp at hv
                      have hrange' : wr.rangeAt b' (off' + i * 5) [d0, d1, d2, d3, d4] := fun j v hv => by
                        rw [Nat.add_assoc]
                        match j, hv with
                        | 0, hv => cases hv; exact (hbel.cell (p := ⟨b', off' + (i * 5 + 0), none⟩) hbg').trans l0
                        | 1, hv => cases hv; exact (hbel.cell (p := ⟨b', off' + (i * 5 + 1), none⟩) hbg').trans l1
                        | 2, hv => cases hv; exact (hbel.cell (p := ⟨b', off' + (i * 5 + 2), none⟩) hbg').trans l2
                        | 3, hv => cases hv; exact (hbel.cell (p := ⟨b', off' + (i * 5 + 3), none⟩) hbg').trans l3
                        | 4, hv => cases hv; exact (hbel.cell (p := ⟨b', off' + (i * 5 + 4), none⟩) hbg').trans l4
                        | j + 5, hv => simp at hv
                      obtain ⟨L5, hL5⟩ : ∃ L, L = [c0, c1, c2, c3, c4] := ⟨_, rfl⟩
                      obtain ⟨M5, hM5⟩ : ∃ L, L = [d0, d1, d2, d3, d4] := ⟨_, rfl⟩
                      rw [← hL5] at hrange hR
                      rw [← hM5] at hrange' hR'
                      have hu26 := Tryd.underlying26
                      have hiL : (Tryd.prog.info? 26).map (·.size) = some L5.length := by rw [info5, hL5]; rfl
                      have hiM : (Tryd.prog.info? 26).map (·.size) = some M5.length := by rw [info5, hM5]; rfl
                      have HRG := Lib.hid hrange
                      have HRG' := Lib.hid hrange'
                      have KR := Lib.hid (fun W (hb : Below g w W) => rsame_any n L5 (ks.getD i default) m M5 (ks'.getD i default) W (IsT.later (by rw [← HG.out]; exact hb) _ _ _ hR) (IsT.later (by rw [← HG.out]; exact hb) _ _ _ hR'))
                      obtain ⟨A5, hA5⟩ : ∃ A5 : List Value, A5 = [.int .u8 (k'.toNat : Int), .bool x', .slice ad nd cd, .slice an nn' cn, .slice (some ⟨b, off, none⟩) nk' ck] := ⟨_, rfl⟩
                      obtain ⟨B5, hB5⟩ : ∃ B5 : List Value, B5 = [.int .u8 (k'.toNat : Int), .bool x', .slice ad' nd' cd', .slice an' nn' cn', .slice (some ⟨b', off', none⟩) nk' ck'] := ⟨_, rfl⟩
                      have HA5L := Lib.hid hA5
                      have HB5L := Lib.hid hB5
                      have HXA : Hid (Has wr g A5 26) := Lib.hid (by rw [hA5]; exact HX.out)
                      have HYB : Hid (Has wr (g + 1) B5 26) := Lib.hid (by rw [hB5]; exact HY.out)
                      have hki : (i : Int) < (nk' : Int) := by omega
                      have hroom := HK.out.room
                      unfold maxLen at hroom
                      have hni : (i : Int) + 1 ≤ 9223372036854775807 := by omega
                      have HLT := Lib.hid hlt
                      clear hc hc' k0 k1 k2 k3 k4 l0 l1 l2 l3 l4 hR hR' hrange hrange' hL5 hM5 hA5 hB5 hbel HX HY
                      go_upto_region 11 with fail
                      refine wp_region_held_drew (S := fun W => Has W g A5 26 ∧ Has W (g + 1) B5 26 ∧ W.rangeAt b (off + i * 5) L5 ∧ W.rangeAt b' (off' + i * 5) M5) (by kernel_rfl) ⟨HXA.out.drew, HYB.out.drew, HRG.out, HRG'.out⟩ (fun hHeld => ?_)
                      refine wpAnyH_take (i := 0) (oi := { dst := some 71, op := Op.fieldAddr 26 (Operand.tmp 2) 4, type := 0, pos := "ref.go:114", after := #[], guard := none }) (v := .pointer (some ⟨g, 4, none⟩)) rfl (by kernel_rfl) (by kernel_rfl) (by kernel_rfl) (fun _ _ _ h => h)
                        (Or.inl ⟨by rfl, by intro w hSw; have hSc := Has.cellAt hSw.1 (i := 4) (v := .slice (some ⟨b, off, none⟩) nk' ck) (by rw [HA5L.out]; rfl); have hSd := Has.cellAt hSw.2.1 (i := 4) (v := .slice (some ⟨b', off', none⟩) nk' ck') (by rw [HB5L.out]; rfl); clear hSw; go_simp⟩) hHeld ?_
                      try simp only [Act.put, List.setIfInBounds_toArray, List.set_cons_zero, List.set_cons_succ]
                      refine wpAnyH_take (i := 1) (oi := { dst := some 72, op := Op.load 24 (Operand.tmp 71), type := 24, pos := "ref.go:114", after := #[{ on := 0, ground := Ground.data }], guard := none }) (v := .slice (some ⟨b, off, none⟩) nk' ck) rfl (by kernel_rfl) (by kernel_rfl) (by kernel_rfl) (fun _ _ _ h => h)
                        (Or.inl ⟨by rfl, by intro w hSw; have hSc := Has.cellAt hSw.1 (i := 4) (v := .slice (some ⟨b, off, none⟩) nk' ck) (by rw [HA5L.out]; rfl); have hSd := Has.cellAt hSw.2.1 (i := 4) (v := .slice (some ⟨b', off', none⟩) nk' ck') (by rw [HB5L.out]; rfl); clear hSw; go_simp⟩) hHeld ?_
                      try simp only [Act.put, List.setIfInBounds_toArray, List.set_cons_zero, List.set_cons_succ]
                      refine wpAnyH_take (i := 2) (oi := { dst := some 73, op := Op.move (Operand.tmp 6), type := 3, pos := "ref.go:114", after := #[], guard := none }) (v := .int .i64 (i : Int)) rfl (by kernel_rfl) (by kernel_rfl) (by kernel_rfl) (fun _ _ _ h => h)
                        (Or.inl ⟨by rfl, by intro w hSw; have hSc := Has.cellAt hSw.1 (i := 4) (v := .slice (some ⟨b, off, none⟩) nk' ck) (by rw [HA5L.out]; rfl); have hSd := Has.cellAt hSw.2.1 (i := 4) (v := .slice (some ⟨b', off', none⟩) nk' ck') (by rw [HB5L.out]; rfl); clear hSw; go_simp⟩) hHeld ?_
                      try simp only [Act.put, List.setIfInBounds_toArray, List.set_cons_zero, List.set_cons_succ]
                      refine wpAnyH_take (i := 3) (oi := { dst := some 74, op := Op.indexAddr 24 (Operand.tmp 72) (Operand.tmp 73), type := 0, pos := "ref.go:114", after := #[{ on := 1, ground := Ground.data }, { on := 2, ground := Ground.data }], guard := none }) (v := .pointer (some ⟨b, off + i * 5, none⟩)) rfl (by kernel_rfl) (by kernel_rfl) (by kernel_rfl) (fun _ _ _ h => h)
                        (Or.inl ⟨by rfl, by intro w hSw; have hSc := Has.cellAt hSw.1 (i := 4) (v := .slice (some ⟨b, off, none⟩) nk' ck) (by rw [HA5L.out]; rfl); have hSd := Has.cellAt hSw.2.1 (i := 4) (v := .slice (some ⟨b', off', none⟩) nk' ck') (by rw [HB5L.out]; rfl); clear hSw; go_simp⟩) hHeld ?_
                      try simp only [Act.put, List.setIfInBounds_toArray, List.set_cons_zero, List.set_cons_succ]
                      refine wpAnyH_take (i := 4) (oi := { dst := some 75, op := Op.load 26 (Operand.tmp 74), type := 26, pos := "ref.go:114", after := #[{ on := 3, ground := Ground.data }], guard := none }) rfl (by kernel_rfl) (by kernel_rfl) (by kernel_rfl) (fun _ _ _ h => h)
                        (yieldsIf_load_mid (by rfl) 26 (.tmp 74) rfl b (off + i * 5) rfl L5 _ (fun _ h => h.2.2.1) hu26 rfl hiL) hHeld ?_
                      try simp only [Act.put, List.setIfInBounds_toArray, List.set_cons_zero, List.set_cons_succ]
                      refine wpAnyH_take (i := 5) (oi := { dst := some 76, op := Op.fieldAddr 26 (Operand.tmp 3) 4, type := 0, pos := "ref.go:114", after := #[], guard := none }) (v := .pointer (some ⟨g + 1, 4, none⟩)) rfl (by kernel_rfl) (by kernel_rfl) (by kernel_rfl) (fun _ _ _ h => h)
                        (Or.inl ⟨by rfl, by intro w hSw; have hSc := Has.cellAt hSw.1 (i := 4) (v := .slice (some ⟨b, off, none⟩) nk' ck) (by rw [HA5L.out]; rfl); have hSd := Has.cellAt hSw.2.1 (i := 4) (v := .slice (some ⟨b', off', none⟩) nk' ck') (by rw [HB5L.out]; rfl); clear hSw; go_simp⟩) hHeld ?_
                      try simp only [Act.put, List.setIfInBounds_toArray, List.set_cons_zero, List.set_cons_succ]
                      refine wpAnyH_take (i := 6) (oi := { dst := some 77, op := Op.load 24 (Operand.tmp 76), type := 24, pos := "ref.go:114", after := #[{ on := 5, ground := Ground.data }], guard := none }) (v := .slice (some ⟨b', off', none⟩) nk' ck') rfl (by kernel_rfl) (by kernel_rfl) (by kernel_rfl) (fun _ _ _ h => h)
                        (Or.inl ⟨by rfl, by intro w hSw; have hSc := Has.cellAt hSw.1 (i := 4) (v := .slice (some ⟨b, off, none⟩) nk' ck) (by rw [HA5L.out]; rfl); have hSd := Has.cellAt hSw.2.1 (i := 4) (v := .slice (some ⟨b', off', none⟩) nk' ck') (by rw [HB5L.out]; rfl); clear hSw; go_simp⟩) hHeld ?_
                      try simp only [Act.put, List.setIfInBounds_toArray, List.set_cons_zero, List.set_cons_succ]
                      refine wpAnyH_take (i := 7) (oi := { dst := some 78, op := Op.move (Operand.tmp 6), type := 3, pos := "ref.go:114", after := #[], guard := none }) (v := .int .i64 (i : Int)) rfl (by kernel_rfl) (by kernel_rfl) (by kernel_rfl) (fun _ _ _ h => h)
                        (Or.inl ⟨by rfl, by intro w hSw; have hSc := Has.cellAt hSw.1 (i := 4) (v := .slice (some ⟨b, off, none⟩) nk' ck) (by rw [HA5L.out]; rfl); have hSd := Has.cellAt hSw.2.1 (i := 4) (v := .slice (some ⟨b', off', none⟩) nk' ck') (by rw [HB5L.out]; rfl); clear hSw; go_simp⟩) hHeld ?_
                      try simp only [Act.put, List.setIfInBounds_toArray, List.set_cons_zero, List.set_cons_succ]
                      refine wpAnyH_take (i := 8) (oi := { dst := some 79, op := Op.indexAddr 24 (Operand.tmp 77) (Operand.tmp 78), type := 0, pos := "ref.go:114", after := #[{ on := 6, ground := Ground.data }, { on := 7, ground := Ground.data }], guard := none }) (v := .pointer (some ⟨b', off' + i * 5, none⟩)) rfl (by kernel_rfl) (by kernel_rfl) (by kernel_rfl) (fun _ _ _ h => h)
                        (Or.inl ⟨by rfl, by intro w hSw; have hSc := Has.cellAt hSw.1 (i := 4) (v := .slice (some ⟨b, off, none⟩) nk' ck) (by rw [HA5L.out]; rfl); have hSd := Has.cellAt hSw.2.1 (i := 4) (v := .slice (some ⟨b', off', none⟩) nk' ck') (by rw [HB5L.out]; rfl); clear hSw; go_simp⟩) hHeld ?_
                      try simp only [Act.put, List.setIfInBounds_toArray, List.set_cons_zero, List.set_cons_succ]
                      refine wpAnyH_take (i := 9) (oi := { dst := some 80, op := Op.load 26 (Operand.tmp 79), type := 26, pos := "ref.go:114", after := #[{ on := 8, ground := Ground.data }], guard := none }) rfl (by kernel_rfl) (by kernel_rfl) (by kernel_rfl) (fun _ _ _ h => h)
                        (yieldsIf_load_mid (by rfl) 26 (.tmp 79) rfl b' (off' + i * 5) rfl M5 _ (fun _ h => h.2.2.2) hu26 rfl hiM) hHeld ?_
                      try simp only [Act.put, List.setIfInBounds_toArray, List.set_cons_zero, List.set_cons_succ]
                      refine wpAnyH_ready (rs := [10]) (by kernel_rfl) (by simp) ?_
                      refine AllReadyH.cons (o := { dst := some 81, op := Op.call { callee := Callee.value (Operand.func 13), args := #[Operand.tmp 75, Operand.tmp 80], argTypes := #[26, 26] }, type := 4, pos := "ref.go:114", after := #[{ on := 4, ground := Ground.data }, { on := 9, ground := Ground.data }], guard := none }) rfl (fun K hK => ?_) AllReadyH.nil
                      go_simp
                      refine (KR.out _ (below_drewT HBE.out)).mono ?_
                      rintro e w9 ⟨⟨r, rfl, hr⟩, b9⟩
                      go_wp2_with fail
                      have hx9 : Has w9 g A5 26 := HXA.out.drew.below b9 (by show g < wr.heap.size; omega)
                      have hy9 : Has w9 (g + 1) B5 26 := HYB.out.drew.below b9 (by show g + 1 < wr.heap.size; omega)
                      have r9 : w9.rangeAt b (off + i * 5) L5 := fun j v hv => (b9.cell (p := ⟨b, off + i * 5 + j, none⟩) (by show b < wr.heap.size; omega)).trans (HRG.out j v hv)
                      have r9' : w9.rangeAt b' (off' + i * 5) M5 := fun j v hv => (b9.cell (p := ⟨b', off' + i * 5 + j, none⟩) (by show b' < wr.heap.size; omega)).trans (HRG'.out j v hv)
                      have s9 : wr.heap.size ≤ w9.heap.size := b9.size
                      have HB9 : Hid (Below g w w9) := Lib.hid (HBE.out.trans ((show Below wr.heap.size wr w9 from ⟨b9.os.trans rfl, b9.tape.trans rfl, b9.output, b9.size, b9.block⟩).mono (by omega)))
                      refine hK.out _ _ ⟨hx9, hy9, r9, r9'⟩ (fun hHeld2 => ?_)
                      clear hK K hHeld KR
                      try simp only [Act.put, List.setIfInBounds_toArray, List.set_cons_zero, List.set_cons_succ]
                      cases r
                      · have HNE : Hid (T.mk k' x' d' ns ks ≠ T.mk k' x' d' ns' ks') := Lib.hid (fun e => by cases e; exact absurd (hr.2 rfl) (by simp))
                        clear hr
                        refine wpAnyH_take (i := 11) (oi := { dst := some 82, op := Op.unOp UnOp.not 4 (Operand.tmp 81), type := 4, pos := "ref.go:114", after := #[{ on := 10, ground := Ground.data }], guard := none }) (v := .bool true) rfl (by kernel_rfl) (by kernel_rfl) (by kernel_rfl) (fun _ _ _ h => h)
                          (Or.inl ⟨by rfl, by intro w hSw; have hSc := Has.cellAt hSw.1 (i := 4) (v := .slice (some ⟨b, off, none⟩) nk' ck) (by rw [HA5L.out]; rfl); have hSd := Has.cellAt hSw.2.1 (i := 4) (v := .slice (some ⟨b', off', none⟩) nk' ck') (by rw [HB5L.out]; rfl); clear hSw; go_simp⟩) hHeld2 ?_
                        try simp only [Act.put, List.setIfInBounds_toArray, List.set_cons_zero, List.set_cons_succ]
                        refine wpAnyH_done (by kernel_rfl) ?_ _
                        have HX9 := Lib.hid (show Has w9 g [.int .u8 (k'.toNat : Int), .bool x', .slice ad nd cd, .slice an nn' cn, .slice (some ⟨b, off, none⟩) nk' ck] 26 by rw [← HA5L.out]; exact hx9)
                        have HY9 := Lib.hid (show Has w9 (g + 1) [.int .u8 (k'.toNat : Int), .bool x', .slice ad' nd' cd', .slice an' nn' cn', .slice (some ⟨b', off', none⟩) nk' ck'] 26 by rw [← HB5L.out]; exact hy9)
                        clear hHeld2 hx9 hy9 r9 r9' b9 hiL hiM hu26
                        go_wp2_with fail
                        go_ret
                        exact same_no rfl HNE.out (by rw [← HG.out]; exact HB9.out)
                      · have HST : Hid (∀ j, j < i + 1 → ks.getD j default = ks'.getD j default) := Lib.hid (fun j hj => by
                          by_cases e : j = i
                          · subst e; exact hr.1 rfl
                          · exact HOK.out j (by omega))
                        clear hr
                        refine wpAnyH_take (i := 11) (oi := { dst := some 82, op := Op.unOp UnOp.not 4 (Operand.tmp 81), type := 4, pos := "ref.go:114", after := #[{ on := 10, ground := Ground.data }], guard := none }) (v := .bool false) rfl (by kernel_rfl) (by kernel_rfl) (by kernel_rfl) (fun _ _ _ h => h)
                          (Or.inl ⟨by rfl, by intro w hSw; have hSc := Has.cellAt hSw.1 (i := 4) (v := .slice (some ⟨b, off, none⟩) nk' ck) (by rw [HA5L.out]; rfl); have hSd := Has.cellAt hSw.2.1 (i := 4) (v := .slice (some ⟨b', off', none⟩) nk' ck') (by rw [HB5L.out]; rfl); clear hSw; go_simp⟩) hHeld2 ?_
                        try simp only [Act.put, List.setIfInBounds_toArray, List.set_cons_zero, List.set_cons_succ]
                        refine wpAnyH_done (by kernel_rfl) ?_ _
                        have HX9 := Lib.hid (show Has w9 g [.int .u8 (k'.toNat : Int), .bool x', .slice ad nd cd, .slice an nn' cn, .slice (some ⟨b, off, none⟩) nk' ck] 26 by rw [← HA5L.out]; exact hx9)
                        have HY9 := Lib.hid (show Has w9 (g + 1) [.int .u8 (k'.toNat : Int), .bool x', .slice ad' nd' cd', .slice an' nn' cn', .slice (some ⟨b', off', none⟩) nk' ck'] 26 by rw [← HB5L.out]; exact hy9)
                        clear hHeld2 hx9 hy9 r9 r9' b9 hiL hiM hu26
                        go_wp2_with fail
                        go_roundw
                        case rel => exact ⟨i + 1, by have := HLT.out; omega, by go_num, HST.out, HX9.out, HY9.out, HB9.out, by omega⟩
                        case measure =>
                          have := HLT.out
                          simp only [intOf]; omega
                    · obtain rfl : i = nk' := by omega
                      have HKS : Hid (ks = ks') := Lib.hid (list_eq_getD default _ _ (HK.out.length.trans HK'.out.length.symm) (fun j hj => HOK.out j (by rw [← HK.out.length]; exact hj)))
                      clear HOK hbel
                      go_wp2_with fail
                      go_ret
                      exact same_yes rfl (by rw [HNS.out, HKS.out]) (by rw [← HG.out]; exact HBE.out)
            · have HNE : Hid (T.mk k' x' d' ns ks ≠ T.mk k' x' d' ns' ks') := Lib.hid (fun e => by cases e; exact hkk (HK'.out.length.symm.trans HK.out.length))
              have h1 : ((nk : Int) != (nk' : Int)) = true := by rw [bne_iff_ne]; omega
              have h2 : ((nk : Int) == (nk' : Int)) = false := by rw [beq_eq_false_iff_ne]; omega
              have h3 : (nk == nk') = false := by rw [beq_eq_false_iff_ne]; omega
              have h4 : ¬ nk = nk' := by omega
              clear hdn hkk
              go_wp2_with fail
              go_ret
              exact same_no rfl HNE.out (by rw [← HG.out]; exact B2.out)
          · have HNE : Hid (T.mk k' x' d' ns ks ≠ T.mk k' x' d' ns' ks') := Lib.hid (fun e => by cases e; exact hn (HS'.out.length.symm.trans HS.out.length))
            have h1 : ((nn : Int) != (nn' : Int)) = true := by rw [bne_iff_ne]; omega
            have h2 : ((nn : Int) == (nn' : Int)) = false := by rw [beq_eq_false_iff_ne]; omega
            have h3 : (nn == nn') = false := by rw [beq_eq_false_iff_ne]; omega
            have h4 : ¬ nn = nn' := by omega
            clear hdn hn
            go_wp2_with fail
            go_ret
            exact same_no rfl HNE.out (by rw [← HG.out]; exact B2.out)
        · have HNE : Hid (T.mk k' x' d ns ks ≠ T.mk k' x' d' ns' ks') := Lib.hid (fun e => by cases e; exact hd rfl)
          obtain ⟨s, hs⟩ : ∃ s : ByteArray, s = ⟨d.toArray⟩ := ⟨_, rfl⟩
          obtain ⟨p, hp⟩ : ∃ p : ByteArray, p = ⟨d'.toArray⟩ := ⟨_, rfl⟩
          rw [← hs] at hv1
          rw [← hp] at hv2
          have h1 : (s.toList == p.toList) = false := by
            rw [beq_eq_false_iff_ne]
            intro e
            rw [ByteArray.toList_eq, ByteArray.toList_eq, hs, hp] at e
            exact hd (by simpa using e.symm)
          clear hdn hd hs hp
          go_wp2_with fail
          go_ret
          exact same_no rfl HNE.out (by rw [← HG.out]; exact B2.out)
      · have HNE : Hid (T.mk k' x d ns ks ≠ T.mk k' x' d' ns' ks') := Lib.hid (fun e => by cases e; exact hx rfl)
        clear hdn
        cases x <;> cases x'
        · exact absurd rfl hx
        · clear hx
          go_wp2_with fail
          go_ret
          exact same_no rfl HNE.out (by rw [← HG.out]; exact B2.out)
        · clear hx
          go_wp2_with fail
          go_ret
          exact same_no rfl HNE.out (by rw [← HG.out]; exact B2.out)
        · exact absurd rfl hx
    · have HNE : Hid (T.mk k x d ns ks ≠ T.mk k' x' d' ns' ks') := Lib.hid (fun e => by cases e; exact hk rfl)
      obtain ⟨z, hz⟩ : ∃ z : Int, z = (k.toNat : Int) := ⟨_, rfl⟩
      obtain ⟨z', hz'⟩ : ∃ z : Int, z = (k'.toNat : Int) := ⟨_, rfl⟩
      have hzz : ¬ z = z' := fun e => hk (UInt8.toNat_inj.1 (by omega))
      rw [← hz] at cx0
      rw [← hz'] at cy0
      have h1 : (z != z') = true := by rw [bne_iff_ne]; exact hzz
      have h2 : (z == z') = false := by rw [beq_eq_false_iff_ne]; exact hzz
      clear hdn hk hz hz'
      go_wp2_with fail
      go_ret
      exact same_no rfl HNE.out (by rw [← HG.out]; exact B2.out)
end Go.Proofs.YtbempgdndmchlaaDoor

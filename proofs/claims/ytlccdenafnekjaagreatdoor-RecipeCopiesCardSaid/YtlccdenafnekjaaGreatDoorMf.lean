/-
  What the laws of recipe rest on, part 6: the code's functions as functions on lists and trees, and what each call does.
-/
import Derived.Deep.RegionHeld3
import Derived.Deep.QuietTactic
import Derived.BigQuiet
import Derived.Laws.BytesString
import Derived.SevenTiedAt
import Derived.ChangeOld
import Derived.SizedLaws
import Derived.Carry
import Derived.ShutString
import Derived.OpenShut
import Derived.ChangeAt
import Derived.ChangeAt2
import Derived.Lay
import Derived.HandedShaped
import Derived.Test.YtlccdenafnekjaaGreatDoorTie
import Derived.Lib.LaidTab
import Derived.LaidLaws
import Derived.ProofKit
import Derived.ChangeArms
import Derived.Deep.Strs
import Derived.Test.YtlccdenafnekjaaGreatDoorMe
namespace Go.Proofs.YtlccdenafnekjaaGreatDoor
open Go.RowKit
set_option linter.unusedVariables false

/-- 'string(b)' of bytes that came in, nil and empty ones too. -/
theorem convert_b {w : World} {a : Option Addr} {n cap : Nat} {l : List UInt8} (h : IsB w a n cap l) :
    (convert 33 9 (.slice a n cap)).run Tryz.prog w = .ok (.string ⟨l.toArray⟩) w := by
  obtain ⟨h1, h2, h3, h4, _⟩ := h
  have hnil : n = 0 → (convert 33 9 (.slice a n cap)).run Tryz.prog w = .ok (.string ⟨l.toArray⟩) w := by
    intro h0
    subst h0
    obtain rfl : l = [] := List.eq_nil_of_length_eq_zero h1
    cases a with
    | none =>
      obtain ⟨_, rfl⟩ := h3 rfl
      rw [run_convert_bytes_string w 33 9 5 none 0 0 Tryz.underlying33 Tryz.underlying5 Tryz.underlying9]
      rfl
    | some x =>
      have := run_convert_bytes_back (P := Tryz.prog) w 33 9 5 x cap [] Tryz.underlying33 Tryz.underlying5 Tryz.underlying9 (fun j hj => by simp at hj)
      rw [List.length_nil] at this
      exact this
  rcases h2 with h0 | ⟨b, off, rfl, hlt, hby⟩
  · exact hnil h0
  · subst h1
    refine run_convert_bytes_back (P := Tryz.prog) w 33 9 5 ⟨b, off, none⟩ cap l Tryz.underlying33 Tryz.underlying5 Tryz.underlying9 (fun j hj => ?_)
    have hadd : (⟨b, off, none⟩ : Addr).add j = ⟨b, off + j, none⟩ := by cases j <;> simp [Addr.add]
    rw [hadd, hby j hj]
    simp [List.getD, hj]

theorem below_drewT {B : Nat} {a w : World} (h : Below B a w) : Below B a w.drew := h.drew

/-- What a Same tells. -/
def SamePost (a b : T) (w : World) (e : Ending) (w' : World) : Prop := (∃ r : Bool, e = .returned (.bool r) ∧ (r = true ↔ a = b)) ∧ Below w.heap.size w w'
theorem same_no {a b : T} {w w' : World} {e : Ending} (he : e = .returned (.bool false)) (h : a ≠ b) (hb : Below w.heap.size w w') : SamePost a b w e w' :=
  ⟨⟨false, he, by simp [h]⟩, hb⟩
theorem same_yes {a b : T} {w w' : World} {e : Ending} (he : e = .returned (.bool true)) (h : a = b) (hb : Below w.heap.size w w') : SamePost a b w e w' :=
  ⟨⟨true, he, by simp [h]⟩, hb⟩

theorem list_eq_getD {α : Type} (d : α) : ∀ (l m : List α), l.length = m.length → (∀ i, i < l.length → l.getD i d = m.getD i d) → l = m := fun l m h hg => by
  apply List.ext_getElem? 
  intro i
  by_cases hi : i < l.length
  · have := hg i hi
    rw [List.getD_eq_getElem?_getD, List.getD_eq_getElem?_getD, List.getElem?_eq_getElem hi, List.getElem?_eq_getElem (by omega)] at this
    rw [List.getElem?_eq_getElem hi, List.getElem?_eq_getElem (by omega)]
    exact congrArg some this
  · rw [List.getElem?_eq_none (by omega), List.getElem?_eq_none (by omega)]

set_option maxRecDepth 100000 in
set_option maxHeartbeats 20000000 in
theorem rsame_any : ∀ (n : Nat) (cs : List Value) (a : T) (m : Nat) (ds : List Value) (b : T) (w : World), IsT w n cs a → IsT w m ds b →
    Calls Tryz.prog 18 #[.agg cs.toArray, .agg ds.toArray] w (SamePost a b w)
  | 0, _, _, _, _, _, _, ht => absurd ht (by simp [IsT])
  | n + 1, _, _, 0, _, _, _, _ => fun ht => absurd ht (by simp [IsT])
  | n + 1, cs, .mk k x d ns ks, m + 1, ds, .mk k' x' d' ns' ks', w, ht => by
    intro ht'
    obtain ⟨ad, nd, cd, an, nn, cn, ak, nk, ck, rfl, hB, hS, hK⟩ := ht
    obtain ⟨ad', nd', cd', an', nn', cn', ak', nk', ck', rfl, hB', hS', hK'⟩ := ht'
    have HS := Lib.hid hS
    have HS' := Lib.hid hS'
    have HK := Lib.hid hK
    have HK' := Lib.hid hK'
    have HB := Lib.hid hB
    have HB' := Lib.hid hB'
    clear hB hS hK hB' hS' hK'
    go_enter Tryz.func18, Tryz.ntmps18
    go_upto_region 1 with fail
    obtain ⟨w1, hw1⟩ : ∃ w1, w1 = w.alloc (.cells #[.int .u8 (k.toNat : Int), .bool x, .slice ad nd cd, .slice an nn cn, .slice ak nk ck] 37) := ⟨_, rfl⟩
    have e1 : w1.heap.size = w.heap.size + 1 := by rw [hw1]; simp
    have x1 : Has w1 w.heap.size [.int .u8 (k.toNat : Int), .bool x, .slice ad nd cd, .slice an nn cn, .slice ak nk ck] 37 := by rw [hw1]; exact Has.new w _ _
    have b1 : Below w.heap.size w w1 := by rw [hw1]; exact (Below.refl _ _).alloc (Nat.le_refl _) _
    rw [← hw1]
    obtain ⟨w2, hw2⟩ : ∃ w2, w2 = w1.alloc (.cells #[.int .u8 (k'.toNat : Int), .bool x', .slice ad' nd' cd', .slice an' nn' cn', .slice ak' nk' ck'] 37) := ⟨_, rfl⟩
    have y2 : Has w2 (w.heap.size + 1) [.int .u8 (k'.toNat : Int), .bool x', .slice ad' nd' cd', .slice an' nn' cn', .slice ak' nk' ck'] 37 := by rw [hw2, ← e1]; exact Has.new w1 _ _
    have x2 : Has w2 w.heap.size [.int .u8 (k.toNat : Int), .bool x, .slice ad nd cd, .slice an nn cn, .slice ak nk ck] 37 := by rw [hw2]; exact x1.alloc _
    have b2 : Below w.heap.size w w2 := by rw [hw2]; exact b1.alloc b1.size _
    have e2 : w2.heap.size = w.heap.size + 1 + 1 := by rw [hw2, ← e1]; simp
    rw [← hw2]
    obtain ⟨g, hg⟩ : ∃ g, g = w.heap.size := ⟨_, rfl⟩
    rw [← hg] at x2 y2 b2 e2 ⊢
    have HG := Lib.hid hg
    clear hw1 hw2 x1 b1 e1 hg
    have hv1 := convert_b (HB.out.later (by rw [← HG.out]; exact b2))
    have hv2 := convert_b (HB'.out.later (by rw [← HG.out]; exact b2))
    have cx0 := x2.cellAt (i := 0) rfl
    have cx1 := x2.cellAt (i := 1) rfl
    have cx2 := x2.cellAt (i := 2) rfl
    have cx3 := x2.cellAt (i := 3) rfl
    have cx4 := x2.cellAt (i := 4) rfl
    have cy0 := y2.cellAt (i := 0) rfl
    have cy1 := y2.cellAt (i := 1) rfl
    have cy2 := y2.cellAt (i := 2) rfl
    have cy3 := y2.cellAt (i := 3) rfl
    have cy4 := y2.cellAt (i := 4) rfl
    have X2 := Lib.hid x2
    have Y2 := Lib.hid y2
    have B2 := Lib.hid b2
    have hdn : (k' = k ∧ x' = x ∧ d' = d ∧ nn' = nn ∧ nk' = nk) ∨ ¬ (k' = k ∧ x' = x ∧ d' = d ∧ nn' = nn ∧ nk' = nk) := Classical.em _
    clear x2 y2 b2
    by_cases hk : k' = k
    · subst hk
      by_cases hx : x' = x
      · subst hx
        by_cases hd : d' = d
        · subst hd
          by_cases hn : nn' = nn
          · subst hn
            by_cases hkk : nk' = nk
            · subst hkk
              have HD := Lib.hid (show nn' = nn' from rfl)
              clear hdn
              go_wp2_with fail
              clear cx0 cx1 cx2 cx3 cx4 cy0 cy1 cy2 cy3 cy4 hv1 hv2
              go_loopw [5] (fun ii wr => ∃ i : Nat, i ≤ nn' ∧ ii = .int .i64 i ∧ (∀ j, j < i → ns.getD j ⟨#[]⟩ = ns'.getD j ⟨#[]⟩) ∧ Has wr g [.int .u8 (k'.toNat : Int), .bool x', .slice ad nd cd, .slice an nn' cn, .slice ak nk' ck] 37 ∧ Has wr (g + 1) [.int .u8 (k'.toNat : Int), .bool x', .slice ad' nd' cd', .slice an' nn' cn', .slice ak' nk' ck'] 37 ∧ Below g w wr ∧ g + 1 + 1 ≤ wr.heap.size) (fun ii _ => nn' - (intOf ii).toNat)
              case atStart => exact ⟨0, Nat.zero_le _, rfl, fun j hj => by omega, X2.out, Y2.out, B2.out, by omega⟩
              case round =>
                clear X2 Y2 B2
                obtain ⟨i, hi, rfl, hok, hx, hy, hbel, hsz⟩ := hrel
                have HX := Lib.hid hx
                have HY := Lib.hid hy
                have HBE := Lib.hid hbel
                have cx3 := hx.cellAt (i := 3) rfl
                have cy3 := hy.cellAt (i := 3) rfl
                have HOK := Lib.hid hok
                clear hx hy hok
                by_cases hlt : i < nn'
                · rcases HS.out.at_ with h0 | ⟨bs, os, rfl, hbs, hcs⟩
                  · omega
                  rcases HS'.out.at_ with h0 | ⟨bt, ot, rfl, hbt, hct⟩
                  · omega
                  obtain ⟨s, hs⟩ : ∃ s, s = ns.getD i ⟨#[]⟩ := ⟨_, rfl⟩
                  obtain ⟨p, hp⟩ : ∃ p, p = ns'.getD i ⟨#[]⟩ := ⟨_, rfl⟩
                  have hc1 : wr.cell? ⟨bs, os + i, none⟩ = some (.string s) := by rw [hs]; exact (hbel.cell (p := ⟨bs, os + i, none⟩) (by rw [HG.out]; exact hbs)).trans (hcs i hlt)
                  have hc2 : wr.cell? ⟨bt, ot + i, none⟩ = some (.string p) := by rw [hp]; exact (hbel.cell (p := ⟨bt, ot + i, none⟩) (by rw [HG.out]; exact hbt)).trans (hct i hlt)
                  have HSS := Lib.hid hs
                  have HPP := Lib.hid hp
                  have hki : (i : Int) < (nn' : Int) := by omega
                  have hroom := HS.out.room
                  unfold maxLen at hroom
                  have hni : (i : Int) + 1 ≤ 9223372036854775807 := by omega
                  have HLT := Lib.hid hlt
                  clear hs hp hcs hct hbel
                  by_cases hsp : s = p
                  · have HST : Hid (∀ j, j < i + 1 → ns.getD j ⟨#[]⟩ = ns'.getD j ⟨#[]⟩) := Lib.hid (fun j hj => by
                      by_cases e : j = i
                      · subst e; rw [← HSS.out, ← HPP.out]; exact hsp
                      · exact HOK.out j (by omega))
                    subst hsp
                    go_upto_region 6 with fail
                    go_quiet (fail)
                    go_wp2_with fail
                    go_roundw
                    case rel => exact ⟨i + 1, by have := HLT.out; omega, by go_num, HST.out, has_drewN HX.out _, has_drewN HY.out _, below_drewN HBE.out _, by simpa using hsz⟩
                    case measure =>
                      have := HLT.out
                      simp only [intOf]; omega
                  · have HNE : Hid (T.mk k' x' d' ns ks ≠ T.mk k' x' d' ns' ks') := Lib.hid (fun e => by cases e; exact hsp (HSS.out.trans HPP.out.symm))
                    have h1 : (s.toList == p.toList) = false := by
                      rw [beq_eq_false_iff_ne]
                      intro e
                      rw [ByteArray.toList_eq, ByteArray.toList_eq] at e
                      exact hsp (bytes_ext e)
                    clear hsp
                    go_upto_region 6 with fail
                    go_quiet (fail)
                    go_wp2_with fail
                    go_ret
                    exact same_no rfl HNE.out (by rw [← HG.out]; exact below_drewN HBE.out _)
                · obtain rfl : nn' = i := by omega
                  have HNS : Hid (ns = ns') := Lib.hid (list_eq_getD ⟨#[]⟩ _ _ (HS.out.length.trans HS'.out.length.symm) (fun j hj => HOK.out j (by rw [← HS.out.length]; exact hj)))
                  clear HOK hbel
                  go_wp2_with fail
                  clear cx3 cy3
                  go_loopw [6] (fun ii wx => ∃ i : Nat, i ≤ nk' ∧ ii = .int .i64 i ∧ (∀ j, j < i → ks.getD j default = ks'.getD j default) ∧ Has wx g [.int .u8 (k'.toNat : Int), .bool x', .slice ad nd cd, .slice an nn' cn, .slice ak nk' ck] 37 ∧ Has wx (g + 1) [.int .u8 (k'.toNat : Int), .bool x', .slice ad' nd' cd', .slice an' nn' cn', .slice ak' nk' ck'] 37 ∧ Below g w wx ∧ g + 1 + 1 ≤ wx.heap.size) (fun ii _ => nk' - (intOf ii).toNat)
                  case atStart => exact ⟨0, Nat.zero_le _, rfl, fun j hj => by omega, HX.out, HY.out, HBE.out, hsz⟩
                  case round =>
                    clear HX HY HBE hsz
                    obtain ⟨i, hi, rfl, hok, hx, hy, hbel, hsz⟩ := hrel
                    have HOK := Lib.hid hok
                    have HX := Lib.hid hx
                    have HY := Lib.hid hy
                    have HBE := Lib.hid hbel
                    have cx4 := hx.cellAt (i := 4) rfl
                    have cy4 := hy.cellAt (i := 4) rfl
                    clear hok hx hy
                    by_cases hlt : i < nk'
                    · skip
                      rcases HK.out.at_ with h0 | ⟨b, off, rfl, hb, hc⟩
                      · omega
                      rcases HK'.out.at_ with h0 | ⟨b', off', rfl, hb', hc'⟩
                      · omega
                      obtain ⟨c0, c1, c2, c3, c4, hR, k0, k1, k2, k3, k4⟩ := hc i hlt
                      obtain ⟨d0, d1, d2, d3, d4, hR', l0, l1, l2, l3, l4⟩ := hc' i hlt
                      have hbg : b < g := by rw [HG.out]; exact hb
                      have hbg' : b' < g := by rw [HG.out]; exact hb'
                      have hrange : wr.rangeAt b (off + i * 5) [c0, c1, c2, c3, c4] := fun j v hv => by
                        rw [Nat.add_assoc]
                        match j, hv with
                        | 0, hv => cases hv; exact (hbel.cell (p := ⟨b, off + (i * 5 + 0), none⟩) hbg).trans k0
                        | 1, hv => cases hv; exact (hbel.cell (p := ⟨b, off + (i * 5 + 1), none⟩) hbg).trans k1
                        | 2, hv => cases hv; exact (hbel.cell (p := ⟨b, off + (i * 5 + 2), none⟩) hbg).trans k2
                        | 3, hv => cases hv; exact (hbel.cell (p := ⟨b, off + (i * 5 + 3), none⟩) hbg).trans k3
                        | 4, hv => cases hv; exact (hbel.cell (p := ⟨b, off + (i * 5 + 4), none⟩) hbg).trans k4
                        | j + 5, hv => simp at hv
                      have hrange' : wr.rangeAt b' (off' + i * 5) [d0, d1, d2, d3, d4] := fun j v hv => by
                        rw [Nat.add_assoc]
                        match j, hv with
                        | 0, hv => cases hv; exact (hbel.cell (p := ⟨b', off' + (i * 5 + 0), none⟩) hbg').trans l0
                        | 1, hv => cases hv; exact (hbel.cell (p := ⟨b', off' + (i * 5 + 1), none⟩) hbg').trans l1
                        | 2, hv => cases hv; exact (hbel.cell (p := ⟨b', off' + (i * 5 + 2), none⟩) hbg').trans l2
                        | 3, hv => cases hv; exact (hbel.cell (p := ⟨b', off' + (i * 5 + 3), none⟩) hbg').trans l3
                        | 4, hv => cases hv; exact (hbel.cell (p := ⟨b', off' + (i * 5 + 4), none⟩) hbg').trans l4
                        | j + 5, hv => simp at hv
                      obtain ⟨L5, hL5⟩ : ∃ L, L = [c0, c1, c2, c3, c4] := ⟨_, rfl⟩
                      obtain ⟨M5, hM5⟩ : ∃ L, L = [d0, d1, d2, d3, d4] := ⟨_, rfl⟩
                      rw [← hL5] at hrange hR
                      rw [← hM5] at hrange' hR'
                      have hu26 := Tryz.underlying37
                      have hiL : (Tryz.prog.info? 37).map (·.size) = some L5.length := by rw [info5, hL5]; rfl
                      have hiM : (Tryz.prog.info? 37).map (·.size) = some M5.length := by rw [info5, hM5]; rfl
                      have HRG := Lib.hid hrange
                      have HRG' := Lib.hid hrange'
                      have KR := Lib.hid (fun W (hb : Below g w W) => rsame_any n L5 (ks.getD i default) m M5 (ks'.getD i default) W (IsT.later (by rw [← HG.out]; exact hb) _ _ _ hR) (IsT.later (by rw [← HG.out]; exact hb) _ _ _ hR'))
                      obtain ⟨A5, hA5⟩ : ∃ A5 : List Value, A5 = [.int .u8 (k'.toNat : Int), .bool x', .slice ad nd cd, .slice an nn' cn, .slice (some ⟨b, off, none⟩) nk' ck] := ⟨_, rfl⟩
                      obtain ⟨B5, hB5⟩ : ∃ B5 : List Value, B5 = [.int .u8 (k'.toNat : Int), .bool x', .slice ad' nd' cd', .slice an' nn' cn', .slice (some ⟨b', off', none⟩) nk' ck'] := ⟨_, rfl⟩
                      have HA5L := Lib.hid hA5
                      have HB5L := Lib.hid hB5
                      have HXA : Hid (Has wr g A5 37) := Lib.hid (by rw [hA5]; exact HX.out)
                      have HYB : Hid (Has wr (g + 1) B5 37) := Lib.hid (by rw [hB5]; exact HY.out)
                      have hki : (i : Int) < (nk' : Int) := by omega
                      have hroom := HK.out.room
                      unfold maxLen at hroom
                      have hni : (i : Int) + 1 ≤ 9223372036854775807 := by omega
                      have HLT := Lib.hid hlt
                      clear hc hc' k0 k1 k2 k3 k4 l0 l1 l2 l3 l4 hR hR' hrange hrange' hL5 hM5 hA5 hB5 hbel HX HY
                      go_upto_region 11 with fail
                      refine wp_region_held_drew (S := fun W => Has W g A5 37 ∧ Has W (g + 1) B5 37 ∧ W.rangeAt b (off + i * 5) L5 ∧ W.rangeAt b' (off' + i * 5) M5) (by kernel_rfl) ⟨HXA.out.drew, HYB.out.drew, HRG.out, HRG'.out⟩ (fun hHeld => ?_)
                      refine wpAnyH_take (i := 0) (oi := { dst := some 71, op := Op.fieldAddr 37 (Operand.tmp 2) 4, type := 0, pos := "ref.go:114", after := #[], guard := none }) (v := .pointer (some ⟨g, 4, none⟩)) rfl (by kernel_rfl) (by kernel_rfl) (by kernel_rfl) (fun _ _ _ h => h)
                        (Or.inl ⟨by rfl, by intro w hSw; have hSc := Has.cellAt hSw.1 (i := 4) (v := .slice (some ⟨b, off, none⟩) nk' ck) (by rw [HA5L.out]; rfl); have hSd := Has.cellAt hSw.2.1 (i := 4) (v := .slice (some ⟨b', off', none⟩) nk' ck') (by rw [HB5L.out]; rfl); clear hSw; go_simp⟩) hHeld ?_
                      try simp only [Act.put, List.setIfInBounds_toArray, List.set_cons_zero, List.set_cons_succ]
                      refine wpAnyH_take (i := 1) (oi := { dst := some 72, op := Op.load 35 (Operand.tmp 71), type := 35, pos := "ref.go:114", after := #[{ on := 0, ground := Ground.data }], guard := none }) (v := .slice (some ⟨b, off, none⟩) nk' ck) rfl (by kernel_rfl) (by kernel_rfl) (by kernel_rfl) (fun _ _ _ h => h)
                        (Or.inl ⟨by rfl, by intro w hSw; have hSc := Has.cellAt hSw.1 (i := 4) (v := .slice (some ⟨b, off, none⟩) nk' ck) (by rw [HA5L.out]; rfl); have hSd := Has.cellAt hSw.2.1 (i := 4) (v := .slice (some ⟨b', off', none⟩) nk' ck') (by rw [HB5L.out]; rfl); clear hSw; go_simp⟩) hHeld ?_
                      try simp only [Act.put, List.setIfInBounds_toArray, List.set_cons_zero, List.set_cons_succ]
                      refine wpAnyH_take (i := 2) (oi := { dst := some 73, op := Op.move (Operand.tmp 6), type := 3, pos := "ref.go:114", after := #[], guard := none }) (v := .int .i64 (i : Int)) rfl (by kernel_rfl) (by kernel_rfl) (by kernel_rfl) (fun _ _ _ h => h)
                        (Or.inl ⟨by rfl, by intro w hSw; have hSc := Has.cellAt hSw.1 (i := 4) (v := .slice (some ⟨b, off, none⟩) nk' ck) (by rw [HA5L.out]; rfl); have hSd := Has.cellAt hSw.2.1 (i := 4) (v := .slice (some ⟨b', off', none⟩) nk' ck') (by rw [HB5L.out]; rfl); clear hSw; go_simp⟩) hHeld ?_
                      try simp only [Act.put, List.setIfInBounds_toArray, List.set_cons_zero, List.set_cons_succ]
                      refine wpAnyH_take (i := 3) (oi := { dst := some 74, op := Op.indexAddr 35 (Operand.tmp 72) (Operand.tmp 73), type := 0, pos := "ref.go:114", after := #[{ on := 1, ground := Ground.data }, { on := 2, ground := Ground.data }], guard := none }) (v := .pointer (some ⟨b, off + i * 5, none⟩)) rfl (by kernel_rfl) (by kernel_rfl) (by kernel_rfl) (fun _ _ _ h => h)
                        (Or.inl ⟨by rfl, by intro w hSw; have hSc := Has.cellAt hSw.1 (i := 4) (v := .slice (some ⟨b, off, none⟩) nk' ck) (by rw [HA5L.out]; rfl); have hSd := Has.cellAt hSw.2.1 (i := 4) (v := .slice (some ⟨b', off', none⟩) nk' ck') (by rw [HB5L.out]; rfl); clear hSw; go_simp⟩) hHeld ?_
                      try simp only [Act.put, List.setIfInBounds_toArray, List.set_cons_zero, List.set_cons_succ]
                      refine wpAnyH_take (i := 4) (oi := { dst := some 75, op := Op.load 37 (Operand.tmp 74), type := 37, pos := "ref.go:114", after := #[{ on := 3, ground := Ground.data }], guard := none }) rfl (by kernel_rfl) (by kernel_rfl) (by kernel_rfl) (fun _ _ _ h => h)
                        (yieldsIf_load_mid (by rfl) 37 (.tmp 74) rfl b (off + i * 5) rfl L5 _ (fun _ h => h.2.2.1) hu26 rfl hiL) hHeld ?_
                      try simp only [Act.put, List.setIfInBounds_toArray, List.set_cons_zero, List.set_cons_succ]
                      refine wpAnyH_take (i := 5) (oi := { dst := some 76, op := Op.fieldAddr 37 (Operand.tmp 3) 4, type := 0, pos := "ref.go:114", after := #[], guard := none }) (v := .pointer (some ⟨g + 1, 4, none⟩)) rfl (by kernel_rfl) (by kernel_rfl) (by kernel_rfl) (fun _ _ _ h => h)
                        (Or.inl ⟨by rfl, by intro w hSw; have hSc := Has.cellAt hSw.1 (i := 4) (v := .slice (some ⟨b, off, none⟩) nk' ck) (by rw [HA5L.out]; rfl); have hSd := Has.cellAt hSw.2.1 (i := 4) (v := .slice (some ⟨b', off', none⟩) nk' ck') (by rw [HB5L.out]; rfl); clear hSw; go_simp⟩) hHeld ?_
                      try simp only [Act.put, List.setIfInBounds_toArray, List.set_cons_zero, List.set_cons_succ]
                      refine wpAnyH_take (i := 6) (oi := { dst := some 77, op := Op.load 35 (Operand.tmp 76), type := 35, pos := "ref.go:114", after := #[{ on := 5, ground := Ground.data }], guard := none }) (v := .slice (some ⟨b', off', none⟩) nk' ck') rfl (by kernel_rfl) (by kernel_rfl) (by kernel_rfl) (fun _ _ _ h => h)
                        (Or.inl ⟨by rfl, by intro w hSw; have hSc := Has.cellAt hSw.1 (i := 4) (v := .slice (some ⟨b, off, none⟩) nk' ck) (by rw [HA5L.out]; rfl); have hSd := Has.cellAt hSw.2.1 (i := 4) (v := .slice (some ⟨b', off', none⟩) nk' ck') (by rw [HB5L.out]; rfl); clear hSw; go_simp⟩) hHeld ?_
                      try simp only [Act.put, List.setIfInBounds_toArray, List.set_cons_zero, List.set_cons_succ]
                      refine wpAnyH_take (i := 7) (oi := { dst := some 78, op := Op.move (Operand.tmp 6), type := 3, pos := "ref.go:114", after := #[], guard := none }) (v := .int .i64 (i : Int)) rfl (by kernel_rfl) (by kernel_rfl) (by kernel_rfl) (fun _ _ _ h => h)
                        (Or.inl ⟨by rfl, by intro w hSw; have hSc := Has.cellAt hSw.1 (i := 4) (v := .slice (some ⟨b, off, none⟩) nk' ck) (by rw [HA5L.out]; rfl); have hSd := Has.cellAt hSw.2.1 (i := 4) (v := .slice (some ⟨b', off', none⟩) nk' ck') (by rw [HB5L.out]; rfl); clear hSw; go_simp⟩) hHeld ?_
                      try simp only [Act.put, List.setIfInBounds_toArray, List.set_cons_zero, List.set_cons_succ]
                      refine wpAnyH_take (i := 8) (oi := { dst := some 79, op := Op.indexAddr 35 (Operand.tmp 77) (Operand.tmp 78), type := 0, pos := "ref.go:114", after := #[{ on := 6, ground := Ground.data }, { on := 7, ground := Ground.data }], guard := none }) (v := .pointer (some ⟨b', off' + i * 5, none⟩)) rfl (by kernel_rfl) (by kernel_rfl) (by kernel_rfl) (fun _ _ _ h => h)
                        (Or.inl ⟨by rfl, by intro w hSw; have hSc := Has.cellAt hSw.1 (i := 4) (v := .slice (some ⟨b, off, none⟩) nk' ck) (by rw [HA5L.out]; rfl); have hSd := Has.cellAt hSw.2.1 (i := 4) (v := .slice (some ⟨b', off', none⟩) nk' ck') (by rw [HB5L.out]; rfl); clear hSw; go_simp⟩) hHeld ?_
                      try simp only [Act.put, List.setIfInBounds_toArray, List.set_cons_zero, List.set_cons_succ]
                      refine wpAnyH_take (i := 9) (oi := { dst := some 80, op := Op.load 37 (Operand.tmp 79), type := 37, pos := "ref.go:114", after := #[{ on := 8, ground := Ground.data }], guard := none }) rfl (by kernel_rfl) (by kernel_rfl) (by kernel_rfl) (fun _ _ _ h => h)
                        (yieldsIf_load_mid (by rfl) 37 (.tmp 79) rfl b' (off' + i * 5) rfl M5 _ (fun _ h => h.2.2.2) hu26 rfl hiM) hHeld ?_
                      try simp only [Act.put, List.setIfInBounds_toArray, List.set_cons_zero, List.set_cons_succ]
                      refine wpAnyH_ready (rs := [10]) (by kernel_rfl) (by simp) ?_
                      refine AllReadyH.cons (o := { dst := some 81, op := Op.call { callee := Callee.value (Operand.func 18), args := #[Operand.tmp 75, Operand.tmp 80], argTypes := #[37, 37] }, type := 4, pos := "ref.go:114", after := #[{ on := 4, ground := Ground.data }, { on := 9, ground := Ground.data }], guard := none }) rfl (fun K hK => ?_) AllReadyH.nil
                      go_simp
                      refine (KR.out _ (below_drewT HBE.out)).mono ?_
                      rintro e w9 ⟨⟨r, rfl, hr⟩, b9⟩
                      go_wp2_with fail
                      have hx9 : Has w9 g A5 37 := HXA.out.drew.below b9 (by show g < wr.heap.size; omega)
                      have hy9 : Has w9 (g + 1) B5 37 := HYB.out.drew.below b9 (by show g + 1 < wr.heap.size; omega)
                      have r9 : w9.rangeAt b (off + i * 5) L5 := fun j v hv => (b9.cell (p := ⟨b, off + i * 5 + j, none⟩) (by show b < wr.heap.size; omega)).trans (HRG.out j v hv)
                      have r9' : w9.rangeAt b' (off' + i * 5) M5 := fun j v hv => (b9.cell (p := ⟨b', off' + i * 5 + j, none⟩) (by show b' < wr.heap.size; omega)).trans (HRG'.out j v hv)
                      have s9 : wr.heap.size ≤ w9.heap.size := b9.size
                      have HB9 : Hid (Below g w w9) := Lib.hid (HBE.out.trans ((show Below wr.heap.size wr w9 from ⟨b9.os.trans rfl, b9.tape.trans rfl, b9.output, b9.size, b9.block⟩).mono (by omega)))
                      refine hK.out _ _ ⟨hx9, hy9, r9, r9'⟩ (fun hHeld2 => ?_)
                      clear hK K hHeld KR
                      try simp only [Act.put, List.setIfInBounds_toArray, List.set_cons_zero, List.set_cons_succ]
                      cases r
                      · have HNE : Hid (T.mk k' x' d' ns ks ≠ T.mk k' x' d' ns' ks') := Lib.hid (fun e => by cases e; exact absurd (hr.2 rfl) (by simp))
                        clear hr
                        refine wpAnyH_take (i := 11) (oi := { dst := some 82, op := Op.unOp UnOp.not 4 (Operand.tmp 81), type := 4, pos := "ref.go:114", after := #[{ on := 10, ground := Ground.data }], guard := none }) (v := .bool true) rfl (by kernel_rfl) (by kernel_rfl) (by kernel_rfl) (fun _ _ _ h => h)
                          (Or.inl ⟨by rfl, by intro w hSw; have hSc := Has.cellAt hSw.1 (i := 4) (v := .slice (some ⟨b, off, none⟩) nk' ck) (by rw [HA5L.out]; rfl); have hSd := Has.cellAt hSw.2.1 (i := 4) (v := .slice (some ⟨b', off', none⟩) nk' ck') (by rw [HB5L.out]; rfl); clear hSw; go_simp⟩) hHeld2 ?_
                        try simp only [Act.put, List.setIfInBounds_toArray, List.set_cons_zero, List.set_cons_succ]
                        refine wpAnyH_done (by kernel_rfl) ?_ _
                        have HX9 := Lib.hid (show Has w9 g [.int .u8 (k'.toNat : Int), .bool x', .slice ad nd cd, .slice an nn' cn, .slice (some ⟨b, off, none⟩) nk' ck] 37 by rw [← HA5L.out]; exact hx9)
                        have HY9 := Lib.hid (show Has w9 (g + 1) [.int .u8 (k'.toNat : Int), .bool x', .slice ad' nd' cd', .slice an' nn' cn', .slice (some ⟨b', off', none⟩) nk' ck'] 37 by rw [← HB5L.out]; exact hy9)
                        clear hHeld2 hx9 hy9 r9 r9' b9 hiL hiM hu26
                        go_wp2_with fail
                        go_ret
                        exact same_no rfl HNE.out (by rw [← HG.out]; exact HB9.out)
                      · have HST : Hid (∀ j, j < i + 1 → ks.getD j default = ks'.getD j default) := Lib.hid (fun j hj => by
                          by_cases e : j = i
                          · subst e; exact hr.1 rfl
                          · exact HOK.out j (by omega))
                        clear hr
                        refine wpAnyH_take (i := 11) (oi := { dst := some 82, op := Op.unOp UnOp.not 4 (Operand.tmp 81), type := 4, pos := "ref.go:114", after := #[{ on := 10, ground := Ground.data }], guard := none }) (v := .bool false) rfl (by kernel_rfl) (by kernel_rfl) (by kernel_rfl) (fun _ _ _ h => h)
                          (Or.inl ⟨by rfl, by intro w hSw; have hSc := Has.cellAt hSw.1 (i := 4) (v := .slice (some ⟨b, off, none⟩) nk' ck) (by rw [HA5L.out]; rfl); have hSd := Has.cellAt hSw.2.1 (i := 4) (v := .slice (some ⟨b', off', none⟩) nk' ck') (by rw [HB5L.out]; rfl); clear hSw; go_simp⟩) hHeld2 ?_
                        try simp only [Act.put, List.setIfInBounds_toArray, List.set_cons_zero, List.set_cons_succ]
                        refine wpAnyH_done (by kernel_rfl) ?_ _
                        have HX9 := Lib.hid (show Has w9 g [.int .u8 (k'.toNat : Int), .bool x', .slice ad nd cd, .slice an nn' cn, .slice (some ⟨b, off, none⟩) nk' ck] 37 by rw [← HA5L.out]; exact hx9)
                        have HY9 := Lib.hid (show Has w9 (g + 1) [.int .u8 (k'.toNat : Int), .bool x', .slice ad' nd' cd', .slice an' nn' cn', .slice (some ⟨b', off', none⟩) nk' ck'] 37 by rw [← HB5L.out]; exact hy9)
                        clear hHeld2 hx9 hy9 r9 r9' b9 hiL hiM hu26
                        go_wp2_with fail
                        go_roundw
                        case rel => exact ⟨i + 1, by have := HLT.out; omega, by go_num, HST.out, HX9.out, HY9.out, HB9.out, by omega⟩
                        case measure =>
                          have := HLT.out
                          simp only [intOf]; omega
                    · obtain rfl : i = nk' := by omega
                      have HKS : Hid (ks = ks') := Lib.hid (list_eq_getD default _ _ (HK.out.length.trans HK'.out.length.symm) (fun j hj => HOK.out j (by rw [← HK.out.length]; exact hj)))
                      clear HOK hbel
                      go_wp2_with fail
                      go_ret
                      exact same_yes rfl (by rw [HNS.out, HKS.out]) (by rw [← HG.out]; exact HBE.out)
            · have HNE : Hid (T.mk k' x' d' ns ks ≠ T.mk k' x' d' ns' ks') := Lib.hid (fun e => by cases e; exact hkk (HK'.out.length.symm.trans HK.out.length))
              have h1 : ((nk : Int) != (nk' : Int)) = true := by rw [bne_iff_ne]; omega
              have h2 : ((nk : Int) == (nk' : Int)) = false := by rw [beq_eq_false_iff_ne]; omega
              have h3 : (nk == nk') = false := by rw [beq_eq_false_iff_ne]; omega
              have h4 : ¬ nk = nk' := by omega
              clear hdn hkk
              go_wp2_with fail
              go_ret
              exact same_no rfl HNE.out (by rw [← HG.out]; exact B2.out)
          · have HNE : Hid (T.mk k' x' d' ns ks ≠ T.mk k' x' d' ns' ks') := Lib.hid (fun e => by cases e; exact hn (HS'.out.length.symm.trans HS.out.length))
            have h1 : ((nn : Int) != (nn' : Int)) = true := by rw [bne_iff_ne]; omega
            have h2 : ((nn : Int) == (nn' : Int)) = false := by rw [beq_eq_false_iff_ne]; omega
            have h3 : (nn == nn') = false := by rw [beq_eq_false_iff_ne]; omega
            have h4 : ¬ nn = nn' := by omega
            clear hdn hn
            go_wp2_with fail
            go_ret
            exact same_no rfl HNE.out (by rw [← HG.out]; exact B2.out)
        · have HNE : Hid (T.mk k' x' d ns ks ≠ T.mk k' x' d' ns' ks') := Lib.hid (fun e => by cases e; exact hd rfl)
          obtain ⟨s, hs⟩ : ∃ s : ByteArray, s = ⟨d.toArray⟩ := ⟨_, rfl⟩
          obtain ⟨p, hp⟩ : ∃ p : ByteArray, p = ⟨d'.toArray⟩ := ⟨_, rfl⟩
          rw [← hs] at hv1
          rw [← hp] at hv2
          have h1 : (s.toList == p.toList) = false := by
            rw [beq_eq_false_iff_ne]
            intro e
            rw [ByteArray.toList_eq, ByteArray.toList_eq, hs, hp] at e
            exact hd (by simpa using e.symm)
          clear hdn hd hs hp
          go_wp2_with fail
          go_ret
          exact same_no rfl HNE.out (by rw [← HG.out]; exact B2.out)
      · have HNE : Hid (T.mk k' x d ns ks ≠ T.mk k' x' d' ns' ks') := Lib.hid (fun e => by cases e; exact hx rfl)
        clear hdn
        cases x <;> cases x'
        · exact absurd rfl hx
        · clear hx
          go_wp2_with fail
          go_ret
          exact same_no rfl HNE.out (by rw [← HG.out]; exact B2.out)
        · clear hx
          go_wp2_with fail
          go_ret
          exact same_no rfl HNE.out (by rw [← HG.out]; exact B2.out)
        · exact absurd rfl hx
    · have HNE : Hid (T.mk k x d ns ks ≠ T.mk k' x' d' ns' ks') := Lib.hid (fun e => by cases e; exact hk rfl)
      obtain ⟨z, hz⟩ : ∃ z : Int, z = (k.toNat : Int) := ⟨_, rfl⟩
      obtain ⟨z', hz'⟩ : ∃ z : Int, z = (k'.toNat : Int) := ⟨_, rfl⟩
      have hzz : ¬ z = z' := fun e => hk (UInt8.toNat_inj.1 (by omega))
      rw [← hz] at cx0
      rw [← hz'] at cy0
      have h1 : (z != z') = true := by rw [bne_iff_ne]; exact hzz
      have h2 : (z == z') = false := by rw [beq_eq_false_iff_ne]; exact hzz
      clear hdn hk hz hz'
      go_wp2_with fail
      go_ret
      exact same_no rfl HNE.out (by rw [← HG.out]; exact B2.out)
end Go.Proofs.YtlccdenafnekjaaGreatDoor
namespace Go.Proofs.YtlccdenafnekjaaGreatDoor
open Go.RowKit
set_option linter.unusedVariables false

theorem idxFromS_lt (x : ByteArray) : ∀ (zs : List ByteArray) (i : Nat), Lib.idxFromS zs x i < ((i + zs.length : Nat) : Int) ∨ Lib.idxFromS zs x i = -1
  | [], i => .inr rfl
  | z :: zs, i => by
    rw [Lib.idxFromS]
    split
    · left; simp; omega
    · have := idxFromS_lt x zs (i + 1)
      rw [List.length_cons]
      omega
theorem idxOfS_lt (zs : List ByteArray) (x : ByteArray) : Lib.idxOfS zs x < (zs.length : Int) := by
  have h := idxFromS_lt x zs 0
  rw [Nat.zero_add] at h
  have h2 : (0 : Int) ≤ (zs.length : Int) := by omega
  show Lib.idxFromS zs x 0 < (zs.length : Int)
  rcases h with h | h
  · exact h
  · omega
theorem idxOfS_ge (zs : List ByteArray) (x : ByteArray) : -1 ≤ Lib.idxOfS zs x := by
  have gen : ∀ (zs : List ByteArray) (i : Nat), -1 ≤ Lib.idxFromS zs x i := by
    intro zs
    induction zs with
    | nil => intro i; simp [Lib.idxFromS]
    | cons z zs ih =>
      intro i
      rw [Lib.idxFromS]
      split
      · omega
      · exact ih (i + 1)
  exact gen zs 0

theorem empty_eq : (ByteArray.empty : ByteArray) = ⟨#[]⟩ := rfl

set_option maxRecDepth 100000 in
set_option maxHeartbeats 8000000 in
theorem find_any (n : Nat) (cs : List Value) (k : UInt8) (x : Bool) (d : List UInt8) (ns : List ByteArray) (ks : List T) (nm : ByteArray) (w : World) (ht : IsT w n cs (.mk k x d ns ks)) :
    Calls Tryz.prog 36 #[.agg cs.toArray, .string nm] w fun e w' => e = .returned (.int .i64 (Lib.idxOfS ns nm)) ∧ Below w.heap.size w w' := by
  cases n with
  | zero => exact absurd ht (by simp [IsT])
  | succ n =>
  obtain ⟨ad, nd, cd, an, nn, cn, ak, nk, ck, rfl, hB, hS, hK⟩ := ht
  have HS := Lib.hid hS
  clear hB hS hK
  go_enter Tryz.func36, Tryz.ntmps36
  go_upto_region 1 with fail
  obtain ⟨w1, hw1⟩ : ∃ w1, w1 = w.alloc (.cells #[.int .u8 (k.toNat : Int), .bool x, .slice ad nd cd, .slice an nn cn, .slice ak nk ck] 37) := ⟨_, rfl⟩
  have g1 : Has w1 w.heap.size [.int .u8 (k.toNat : Int), .bool x, .slice ad nd cd, .slice an nn cn, .slice ak nk ck] 37 := by rw [hw1]; exact Has.new w _ _
  have b1 : Below w.heap.size w w1 := by rw [hw1]; exact (Below.refl _ _).alloc (Nat.le_refl _) _
  rw [← hw1]
  have c3 := g1.cellAt (i := 3) rfl
  have B1 := Lib.hid b1
  clear hw1 g1 b1
  go_wp2_with fail
  go_loopw [5] (fun ii wr => ∃ i : Nat, i ≤ nn ∧ ii = .int .i64 i ∧ (∀ j, j < i → ns.getD j ⟨#[]⟩ ≠ nm) ∧ w1 = wr) (fun ii _ => nn - (intOf ii).toNat)
  case atStart => exact ⟨0, Nat.zero_le _, rfl, fun j hj => by omega, rfl⟩
  case round =>
    obtain ⟨i, hi, rfl, hok, rfl⟩ := hrel
    have HOK := Lib.hid hok
    clear hok
    by_cases hlt : i < nn
    · rcases HS.out.at_ with h0 | ⟨b, off, rfl, hb, hc⟩
      · omega
      obtain ⟨s, hs⟩ : ∃ s, s = ns.getD i ⟨#[]⟩ := ⟨_, rfl⟩
      have hci : w1.cell? ⟨b, off + i, none⟩ = some (.string s) := by rw [hs]; exact (B1.out.cell (p := ⟨b, off + i, none⟩) hb).trans (hc i hlt)
      have HSS := Lib.hid hs
      have hki : (i : Int) < (nn : Int) := by omega
      have hroom := HS.out.room
      unfold maxLen at hroom
      have hni : (i : Int) + 1 ≤ 9223372036854775807 := by omega
      have HLT := Lib.hid hlt
      clear hs hc
      by_cases hsn : s = nm
      · have HR : Hid (Lib.idxOfS ns nm = (i : Int)) := Lib.hid (by
          have h := Lib.idxOfS_hit ns nn i nm hlt (by rw [HS.out.length]; exact Nat.le_refl _) (by rw [empty_eq, ← HSS.out]; exact hsn) (fun j hj => by rw [empty_eq]; exact HOK.out j hj)
          rwa [List.take_of_length_le (by rw [HS.out.length]; exact Nat.le_refl _)] at h)
        subst hsn
        go_wp2_with fail
        go_ret
        exact ⟨by rw [HR.out]; rfl, B1.out⟩
      · have h1 : (s.toList == nm.toList) = false := by rw [Lib.bytes_beq_false_iff]; exact hsn
        have HST : Hid (∀ j, j < i + 1 → ns.getD j ⟨#[]⟩ ≠ nm) := Lib.hid (fun j hj => by
          by_cases e : j = i
          · subst e; rw [← HSS.out]; exact hsn
          · exact HOK.out j (by omega))
        clear hsn
        go_wp2_with fail
        go_roundw
        case rel => exact ⟨i + 1, by have := HLT.out; omega, by go_num, HST.out, by trivial⟩
        case measure =>
          have := HLT.out
          simp only [intOf]; omega
    · obtain rfl : nn = i := by omega
      have HR : Hid (Lib.idxOfS ns nm = -1) := Lib.hid (by
        have h := Lib.idxOfS_miss ns nn nm (fun j hj => by rw [empty_eq]; exact HOK.out j hj)
        rwa [List.take_of_length_le (by rw [HS.out.length]; exact Nat.le_refl _)] at h)
      clear HOK
      go_wp2_with fail
      go_ret
      exact ⟨by rw [HR.out]; rfl, B1.out⟩

/-- What the reference's At tells: the tree itself. -/
def RAtU (r : Int ⊕ T) (w : World) (e : Ending) (w' : World) : Prop := ∃ n cs, e = .returned (.tuple #[.agg cs.toArray, .int .i64 (codeR r)]) ∧ IsT w n cs (resT r) ∧ Below w.heap.size w w'

set_option maxRecDepth 100000 in
set_option maxHeartbeats 20000000 in
theorem rat_any (n : Nat) (cs : List Value) (t : T) (s : ByteArray) (w : World) (ht : IsT w n cs t) (hgood : Good t) :
    Calls Tryz.prog 21 #[.agg cs.toArray, .string s] w (RAtU (atT s.data.toList t) w) := by
  have hI := Lib.hid (infoL (isT_five ht))
  have HT := Lib.hid ht
  have HGD := Lib.hid hgood
  obtain ⟨r, hr⟩ : ∃ r, r = atT s.data.toList t := ⟨_, rfl⟩
  rw [← hr]
  have HR := Lib.hid hr
  clear ht hgood hr
  go_enter Tryz.func21, Tryz.ntmps21
  go_upto_region 1 with fail
  obtain ⟨w1, hw1⟩ : ∃ w1, w1 = (w.alloc (.cells cs.toArray 37)).alloc (.cells #[.int .u8 0, .bool false, .slice none 0 0, .slice none 0 0, .slice none 0 0] 37) := ⟨_, rfl⟩
  have sz : (w.alloc (.cells cs.toArray 37)).heap.size = w.heap.size + 1 := by simp
  have r1 : Has w1 (w.heap.size + 1) zT 37 := by rw [hw1, ← sz]; exact Has.new _ zT _
  have g1 : Has w1 w.heap.size cs 37 := by rw [hw1]; exact (Has.new w cs _).alloc _
  have b1 : Below w.heap.size w w1 := by rw [hw1]; exact ((Below.refl _ _).alloc (Nat.le_refl _) _).alloc (by simp) _
  have s1 : w1.heap.size = w.heap.size + 1 + 1 := by rw [hw1]; simp
  rw [← hw1]
  obtain ⟨G, hG⟩ : ∃ G, G = w.heap.size := ⟨_, rfl⟩
  obtain ⟨R, hR⟩ : ∃ R, R = w.heap.size + 1 := ⟨_, rfl⟩
  rw [← hR] at r1 s1
  rw [← hG] at g1
  have hGR : G < R := by omega
  have hwG : w.heap.size ≤ G := by omega
  have hwR : w.heap.size ≤ R := by omega
  have hs1 : w1.heap.size = R + 1 := s1
  have HGS : Hid (G = w.heap.size) := Lib.hid hG
  rw [← hR, ← hG]
  have HK := Lib.hid (rsplit_any s w1)
  have R1 := Lib.hid r1
  have G1 := Lib.hid g1
  have B1 := Lib.hid b1
  have HZI : Hid ((Tryz.prog.info? 37).map (·.size) = some zT.toArray.size) := Lib.hid (by rw [info5]; rfl)
  have HZO : Hid (zT.toArray.all (·.oneCell') = true) := Lib.hid (all_oneCell_toArray (fun v hv => by
    simp only [zT, List.mem_cons, List.not_mem_nil, or_false] at hv
    rcases hv with rfl | rfl | rfl | rfl | rfl <;> rfl))
  clear hw1 sz r1 g1 b1 s1 hG hR
  go_wp2_with fail
  refine HK.out.mono ?_
  rintro e w2 ⟨⟨a, nl, cap, l, hIS, hlm, rfl, hge⟩, b2⟩
  have R2 := Lib.hid (R1.out.below b2 (by omega))
  have G2 := Lib.hid (G1.out.below b2 (by omega))
  have B2 := Lib.hid (B1.out.trans (b2.mono B1.out.size))
  have HIS := Lib.hid hIS
  have HGE : Hid (∀ x, a = some x → R < x.block) := Lib.hid (fun x hx => by have := hge x hx; omega)
  have HLM := Lib.hid hlm
  have hroom := hIS.room
  unfold maxLen at hroom
  clear b2 hIS hge hlm HK R1 G1 B1
  by_cases hsp : (splitT s.data.toList).2 = 0
  · have HF : Hid (findT l t = r) := Lib.hid (by rw [HR.out]; unfold atT; rw [if_pos hsp, mkB_of HLM.out])
    rw [hsp]
    clear hsp
    go_wp2_with fail
    go_loopw [8] (fun ii wr => ∃ (i n' : Nat) (cs' : List Value) (t' : T), i ≤ nl ∧ ii = .int .i64 i ∧ Has wr G cs' 37 ∧ Has wr R zT 37 ∧ IsT w n' cs' t' ∧ findT (l.drop i) t' = r ∧ Below w.heap.size w wr ∧ IsS wr a nl cap l ∧ Good t') (fun ii _ => nl - (intOf ii).toNat)
    case atStart => exact ⟨0, n, cs, t, Nat.zero_le _, rfl, G2.out, R2.out, HT.out, by rw [List.drop_zero]; exact HF.out, B2.out, HIS.out, HGD.out⟩
    case round =>
      clear G2 R2 B2 HIS HF
      obtain ⟨i, n', cs', t', hi, rfl, hg, hr, hT, hfd, hbel, hIS, hgd⟩ := hrel
      by_cases hlt : i < nl
      · rcases hIS.at_ with h0 | ⟨b, off, rfl, hb, hc⟩
        · omega
        have hll : i < l.length := by rw [hIS.length]; exact hlt
        have hbR : R < b := HGE.out _ rfl
        obtain ⟨nm, hnm⟩ : ∃ nm, nm = l.getD i ⟨#[]⟩ := ⟨_, rfl⟩
        have hcn : wr.cell? ⟨b, off + i, none⟩ = some (.string nm) := by rw [hnm]; exact hc i hlt
        have hdrop : l.drop i = nm :: l.drop (i + 1) := by
          rw [hnm, List.getD_eq_getElem?_getD, List.getElem?_eq_getElem hll]; exact List.drop_eq_getElem_cons hll
        rw [hdrop] at hfd
        have HTT := Lib.hid (IsT.later hbel _ _ _ hT)
        have h5 := isT_five hT
        cases n' with
        | zero => exact absurd hT (by simp [IsT])
        | succ m =>
        obtain ⟨k, x, d, ns, ks⟩ := t'
        obtain ⟨ad, nd, cd, an, nn, cn, ak, nk, ck, hcs, hB, hSS, hK⟩ := hT
        have cg0 : wr.cell? ⟨G, 0, none⟩ = some (.int .u8 (k.toNat : Int)) := hg.cellAt (i := 0) (by rw [hcs]; rfl)
        have cg4 : wr.cell? ⟨G, 4, none⟩ = some (.slice ak nk ck) := hg.cellAt (i := 4) (by rw [hcs]; rfl)
        have HCS := Lib.hid hcs
        have HXG := Lib.hid hg
        have HXR := Lib.hid hr
        have HBE := Lib.hid hbel
        have HIS := Lib.hid hIS
        have HKK := Lib.hid hK
        have HGD' := Lib.hid hgd
        have H5 := Lib.hid h5
        have hki : (i : Int) < (nl : Int) := by omega
        have hni : (i : Int) + 1 ≤ 9223372036854775807 := by omega
        rw [findT] at hfd
        have HFD := Lib.hid hfd
        have HLT := Lib.hid hlt
        have hbsz := hbel.size
        have HCN := Lib.hid hcn
        have HBS := Lib.hid hb
        clear hg hr hbel hIS hSS hK hB hc hnm hdrop hfd hgd h5 hcs hcn
        by_cases hk3 : k = 3
        · subst hk3
          have hfd2 : (if Lib.idxOfS ns nm < 0 ∨ (ks.length : Int) ≤ Lib.idxOfS ns nm then Sum.inl 6 else findT (l.drop (i + 1)) (ks.getD (Lib.idxOfS ns nm).toNat default)) = (r : Int ⊕ T) := by
            have := HFD.out; rwa [if_neg (by simp)] at this
          have hlens := HGD'.out.lens
          have hixl := idxOfS_lt ns nm
          have hixg := idxOfS_ge ns nm
          have HFI := Lib.hid (fun W (hb : IsT W (m + 1) cs' (.mk 3 x d ns ks)) => find_any (m + 1) cs' 3 x d ns ks nm W hb)
          obtain ⟨ix, hix⟩ : ∃ ix, ix = Lib.idxOfS ns nm := ⟨_, rfl⟩
          rw [← hix] at hfd2 hixl hixg
          have HIX := Lib.hid hix
          have HF2 := Lib.hid hfd2
          have HLK := HKK.out.length
          have hixk : ix < (nk : Int) := by omega
          clear hix hfd2 HFD hlens hixl
          have hu26 := Tryz.underlying37
          have hiL : (Tryz.prog.info? 37).map (·.size) = some cs'.length := by rw [info5, H5.out]
          go_upto_region 9 with fail
          refine wp_region_held_drew (S := fun W => Has W G cs' 37 ∧ W.cell? ⟨b, off + i, none⟩ = some (.string nm)) (by kernel_rfl) ⟨HXG.out.drew, HCN.out⟩ (fun hHeld => ?_)
          refine wpAnyH_take (i := 0) (oi := { dst := some 29, op := Op.load 37 (Operand.tmp 2), type := 37, pos := "ref.go:131", after := #[], guard := none }) rfl (by kernel_rfl) (by kernel_rfl) (by kernel_rfl) (fun _ _ _ h => h)
            (yieldsIf_load_mid (by rfl) 37 (.tmp 2) rfl G (0) rfl cs' _ (fun _ h => rangeAt_has h.1) hu26 rfl hiL) hHeld ?_
          try simp only [Act.put, List.setIfInBounds_toArray, List.set_cons_zero, List.set_cons_succ]
          refine wpAnyH_take (i := 1) (oi := { dst := some 30, op := Op.move (Operand.tmp 6), type := 34, pos := "ref.go:131", after := #[], guard := none }) (v := .slice (some ⟨b, off, none⟩) nl cap) rfl (by kernel_rfl) (by kernel_rfl) (by kernel_rfl) (fun _ _ _ h => h)
            (Or.inl ⟨by rfl, by intro w hSw; have hSd := hSw.2; clear hSw; go_simp⟩) hHeld ?_
          try simp only [Act.put, List.setIfInBounds_toArray, List.set_cons_zero, List.set_cons_succ]
          refine wpAnyH_take (i := 2) (oi := { dst := some 31, op := Op.move (Operand.tmp 8), type := 3, pos := "ref.go:131", after := #[], guard := none }) (v := .int .i64 (i : Int)) rfl (by kernel_rfl) (by kernel_rfl) (by kernel_rfl) (fun _ _ _ h => h)
            (Or.inl ⟨by rfl, by intro w hSw; have hSd := hSw.2; clear hSw; go_simp⟩) hHeld ?_
          try simp only [Act.put, List.setIfInBounds_toArray, List.set_cons_zero, List.set_cons_succ]
          refine wpAnyH_take (i := 3) (oi := { dst := some 32, op := Op.indexAddr 34 (Operand.tmp 30) (Operand.tmp 31), type := 0, pos := "ref.go:131", after := #[{ on := 1, ground := Ground.data }, { on := 2, ground := Ground.data }], guard := none }) (v := .pointer (some ⟨b, off + i, none⟩)) rfl (by kernel_rfl) (by kernel_rfl) (by kernel_rfl) (fun _ _ _ h => h)
            (Or.inl ⟨by rfl, by intro w hSw; have hSd := hSw.2; clear hSw; go_simp⟩) hHeld ?_
          try simp only [Act.put, List.setIfInBounds_toArray, List.set_cons_zero, List.set_cons_succ]
          refine wpAnyH_take (i := 4) (oi := { dst := some 33, op := Op.load 9 (Operand.tmp 32), type := 9, pos := "ref.go:131", after := #[{ on := 3, ground := Ground.data }], guard := none }) (v := .string nm) rfl (by kernel_rfl) (by kernel_rfl) (by kernel_rfl) (fun _ _ _ h => h)
            (Or.inl ⟨by rfl, by intro w hSw; have hSd := hSw.2; clear hSw; go_simp⟩) hHeld ?_
          try simp only [Act.put, List.setIfInBounds_toArray, List.set_cons_zero, List.set_cons_succ]
          refine wpAnyH_ready (rs := [5]) (by kernel_rfl) (by simp) ?_
          refine AllReadyH.cons (o := { dst := some 34, op := Op.call { callee := Callee.value (Operand.func 36), args := #[Operand.tmp 29, Operand.tmp 33], argTypes := #[37, 9] }, type := 3, pos := "ref.go:131", after := #[{ on := 0, ground := Ground.data }, { on := 4, ground := Ground.data }], guard := none }) rfl (fun K hK => ?_) AllReadyH.nil
          go_simp
          refine (HFI.out _ (IsT.later (w := wr) (below_drewT (Below.refl _ wr)) _ _ _ HTT.out)).mono ?_
          rintro e w9 ⟨rfl, b9⟩
          rw [← HIX.out]
          go_wp2_with fail
          have b9' : Below wr.heap.size wr w9 := ⟨b9.os.trans rfl, b9.tape.trans rfl, b9.output, b9.size, b9.block⟩
          have s9 : wr.heap.size ≤ w9.heap.size := b9'.size
          have hx9 : Has w9 G cs' 37 := HXG.out.below b9' HXG.out.lt
          have hc9 : w9.cell? ⟨b, off + i, none⟩ = some (.string nm) := (b9'.cell (p := ⟨b, off + i, none⟩) HBS.out).trans HCN.out
          refine hK.out _ _ ⟨hx9, hc9⟩ (fun hHeld2 => ?_)
          clear hK K hHeld HFI
          try simp only [Act.put, List.setIfInBounds_toArray, List.set_cons_zero, List.set_cons_succ]
          refine wpAnyH_take (i := 6) (oi := { dst := some 9, op := Op.assign (Operand.tmp 34), type := 3, pos := "ref.go:131", after := #[{ on := 5, ground := Ground.data }, { on := 5, ground := Ground.chain }, { on := 0, ground := Ground.phase }, { on := 1, ground := Ground.phase }, { on := 2, ground := Ground.phase }, { on := 3, ground := Ground.phase }, { on := 4, ground := Ground.phase }, { on := 5, ground := Ground.phase }], guard := none }) (v := .int .i64 ix) rfl (by kernel_rfl) (by kernel_rfl) (by kernel_rfl) (fun _ _ _ h => h)
            (Or.inl ⟨by rfl, by intro w hSw; have hSd := hSw.2; clear hSw; go_simp⟩) hHeld2 ?_
          try simp only [Act.put, List.setIfInBounds_toArray, List.set_cons_zero, List.set_cons_succ]
          refine wpAnyH_done (by kernel_rfl) ?_ _
          have HX9 := Lib.hid hx9
          have HR9 := Lib.hid (HXR.out.below b9' HXR.out.lt)
          have HB9 := Lib.hid (HBE.out.trans (b9'.mono hbsz))
          have HI9 := Lib.hid (HIS.out.later b9')
          have cx4 : w9.cell? ⟨G, 4, none⟩ = some (.slice ak nk ck) := hx9.cellAt (i := 4) (by rw [HCS.out]; rfl)
          clear hHeld2 hx9 hc9 b9 b9' hiL hu26 cg0 cg4
          by_cases hneg : ix < 0
          · have HRR : Hid (r = .inl 6) := Lib.hid (by have := HF2.out; rw [if_pos (.inl hneg)] at this; exact this.symm)
            go_wp2_with (refine wpList_store_row rfl 37 _ _ rfl R zT.toArray rfl rfl 37 _ HR9.out HZI.out rfl HZO.out ?_)
            refine bodyPost_ret (at_ret (fn := Tryz.f21) (p := 4) (u := 5) (ty := 37) Tryz.results21 _ _ R 37 zT.toArray (0, 0) _ rfl (setRow_heap _ _ _ _ _ _ HR9.out) Tryz.underlying37 rfl HZI.out) rfl ?_
            rw [HRR.out]
            exact ⟨1, zT, rfl, isT_zero w, below_setRow HB9.out (by omega) _⟩
          · obtain ⟨j, rfl⟩ : ∃ j : Nat, ix = (j : Int) := ⟨ix.toNat, by omega⟩
            have hjn : j < nk := by omega
            have hf3 : findT (l.drop (i + 1)) (ks.getD j default) = r := by
              have := HF2.out
              rw [if_neg (by rw [HLK]; omega)] at this
              simpa using this
            rcases HKK.out.at_ with h0 | ⟨bk, ok, rfl, hbk, hck⟩
            · omega
            obtain ⟨e0, e1, e2, e3, e4, hRk, k0, k1, k2, k3, k4⟩ := hck j hjn
            have hrange : w9.rangeAt bk (ok + j * 5) [e0, e1, e2, e3, e4] := fun q v hv => by
              rw [Nat.add_assoc]
              match q, hv with
              | 0, hv => cases hv; exact (HB9.out.cell (p := ⟨bk, ok + (j * 5 + 0), none⟩) hbk).trans k0
              | 1, hv => cases hv; exact (HB9.out.cell (p := ⟨bk, ok + (j * 5 + 1), none⟩) hbk).trans k1
              | 2, hv => cases hv; exact (HB9.out.cell (p := ⟨bk, ok + (j * 5 + 2), none⟩) hbk).trans k2
              | 3, hv => cases hv; exact (HB9.out.cell (p := ⟨bk, ok + (j * 5 + 3), none⟩) hbk).trans k3
              | 4, hv => cases hv; exact (HB9.out.cell (p := ⟨bk, ok + (j * 5 + 4), none⟩) hbk).trans k4
              | q + 5, hv => simp at hv
            have HGK : Hid (Good (ks.getD j default)) := Lib.hid (HGD'.out.kid j (by omega))
            obtain ⟨L5, hL5⟩ : ∃ L, L = [e0, e1, e2, e3, e4] := ⟨_, rfl⟩
            rw [← hL5] at hrange hRk
            have HRG := Lib.hid hrange
            have HRK := Lib.hid hRk
            have HLI := Lib.hid (infoL (isT_five hRk))
            have HL5 : Hid ((Tryz.prog.info? 37).map (·.size) = some L5.length) := Lib.hid (by rw [info5, isT_five hRk])
            have HLO := Lib.hid (isT_one hRk)
            have HLS : Hid (cs'.toArray.size = L5.toArray.size) := Lib.hid (by simp [H5.out, isT_five hRk])
            have HF3 := Lib.hid hf3
            have hjk : (j : Int) < (nk : Int) := by omega
            have hq1 : decide ((j : Int) < 0) = false := by simp
            have hq2 : ¬ (j : Int) < 0 := by omega
            clear hf3 hck k0 k1 k2 k3 k4 hrange hRk hL5 hneg hjn HLK
            go_wp2_with (first
              | (refine wpList_load_mid rfl 37 _ rfl bk (ok + j * 5) rfl L5 _ HRG.out Tryz.underlying37 rfl HL5.out ?_)
              | (refine wpList_store_row rfl 37 _ _ rfl G L5.toArray rfl rfl 37 _ HX9.out HLI.out HLS.out HLO.out ?_))
            go_roundw
            case rel =>
              refine ⟨i + 1, m, L5, _, by have := HLT.out; omega, by go_num, HX9.out.row L5, HR9.out.rowOther (by omega) _, HRK.out, HF3.out, below_setRow HB9.out (by omega) _, ?_, HGK.out⟩
              have hS := HI9.out
              refine ⟨hS.length, ?_, hS.nil, hS.room⟩
              rcases hS.at_ with h0 | ⟨b', off', he, hb', hc'⟩
              · exact .inl h0
              · cases he
                exact .inr ⟨b, off, rfl, by simpa using hb', fun q hq => (World.cell?_of_block (w := w9) (a := ⟨b, off + q, none⟩) (setRow_other _ _ _ _ (by show b ≠ G; omega))).trans (hc' q hq)⟩
            case measure =>
              have := HLT.out
              simp only [intOf]; omega
        · have HRR : Hid (r = .inl 8) := Lib.hid (by have := HFD.out; rw [if_pos hk3] at this; exact this.symm)
          obtain ⟨z, hz⟩ : ∃ z : Int, z = (k.toNat : Int) := ⟨_, rfl⟩
          rw [← hz] at cg0
          have hz3 : (z == 3) = false := by
            have : k.toNat ≠ 3 := fun h => hk3 (UInt8.toNat_inj.1 h)
            rw [beq_eq_false_iff_ne]; omega
          have hz3' : ¬ z = 3 := by simpa using hz3
          have hz4 : (z != 3) = true := by rw [bne_iff_ne]; exact hz3'
          clear hk3 HFD hz
          go_wp2_with (refine wpList_store_row rfl 37 _ _ rfl R zT.toArray rfl rfl 37 _ HXR.out HZI.out rfl HZO.out ?_)
          refine bodyPost_ret (at_ret (fn := Tryz.f21) (p := 4) (u := 5) (ty := 37) Tryz.results21 _ _ R 37 zT.toArray (0, 0) _ rfl (setRow_heap _ _ _ _ _ _ HXR.out) Tryz.underlying37 rfl HZI.out) rfl ?_
          rw [HRR.out]
          exact ⟨1, zT, rfl, isT_zero w, below_setRow HBE.out (by omega) _⟩
      · obtain rfl : nl = i := by omega
        have HRR : Hid (r = .inr t') := Lib.hid (by
          have : l.drop nl = [] := List.drop_eq_nil_of_le (by rw [hIS.length]; exact Nat.le_refl _)
          rw [this] at hfd
          exact hfd.symm)
        have HCS := Lib.hid (infoL (isT_five hT))
        have HSS : Hid (zT.toArray.size = cs'.toArray.size) := Lib.hid (by simp [isT_five hT, zT])
        have HSO := Lib.hid (isT_one hT)
        have HXG := Lib.hid hg
        have HXR := Lib.hid hr
        have HBE := Lib.hid hbel
        have HTT := Lib.hid hT
        clear hg hr hbel hT hfd hIS hgd
        go_wp2_with (first
          | (refine wpList_load_row rfl 37 _ rfl G rfl 37 cs'.toArray (0, 0) _ HXG.out Tryz.underlying37 rfl HCS.out ?_)
          | (refine wpList_store_row rfl 37 _ _ rfl R cs'.toArray rfl rfl 37 _ HXR.out HCS.out HSS.out HSO.out ?_))
        refine bodyPost_ret (at_ret (fn := Tryz.f21) (p := 4) (u := 5) (ty := 37) Tryz.results21 _ _ R 37 cs'.toArray (0, 0) _ rfl (setRow_heap _ _ _ _ _ _ HXR.out) Tryz.underlying37 rfl HCS.out) rfl ?_
        rw [HRR.out]
        exact ⟨n', cs', rfl, HTT.out, below_setRow HBE.out (by omega) _⟩
  · have HRR : Hid (r = .inl (splitT s.data.toList).2) := Lib.hid (by rw [HR.out]; unfold atT; rw [if_neg hsp])
    obtain ⟨code, hcode⟩ : ∃ c, c = (splitT s.data.toList).2 := ⟨_, rfl⟩
    rw [← hcode] at HRR hsp ⊢
    have hne1 : (code != 0) = true := by rw [bne_iff_ne]; exact hsp
    have hne2 : (code == 0) = false := by rw [beq_eq_false_iff_ne]; exact hsp
    clear hcode hsp
    go_wp2_with (refine wpList_store_row rfl 37 _ _ rfl R zT.toArray rfl rfl 37 _ R2.out HZI.out rfl HZO.out ?_)
    refine bodyPost_ret (at_ret (fn := Tryz.f21) (p := 4) (u := 5) (ty := 37) Tryz.results21 _ _ R 37 zT.toArray (0, 0) _ rfl (setRow_heap _ _ _ _ _ _ R2.out) Tryz.underlying37 rfl HZI.out) rfl ?_
    rw [HRR.out]
    exact ⟨1, zT, rfl, isT_zero w, below_setRow B2.out (by omega) _⟩

end Go.Proofs.YtlccdenafnekjaaGreatDoor
namespace Go.Proofs.YtlccdenafnekjaaGreatDoor
open Go.RowKit
set_option linter.unusedVariables false
set_option maxRecDepth 100000

def txt3 : ByteArray := ⟨#[119, 114, 105, 116, 101, 32, 102, 32, 97, 10, 97, 112, 112, 101, 110, 100, 32, 102, 32, 98, 10, 101, 120, 101, 99, 32, 102]⟩
def steps3 : List StD := [(2, [[102], [97]]), (3, [[102], [98]]), (6, [[102]])]
def awkT : T := .mk 3 false [] [⟨#[102]⟩] [.mk 1 true [97, 98] [] []]
def sw0 : SwF := ⟨fun _ _ _ => 0, fun _ _ t => t⟩
theorem awk_par : parF txt3.data.toList = (steps3, 0, 0) := by kernel_rfl
theorem awk_run : rnF sw0 131072 ⟨#[]⟩ [] steps3 0 emptyDir = (0, 3, awkT) := by kernel_rfl
theorem awk_at : atT [102] awkT = .inr (.mk 1 true [97, 98] [] []) := by kernel_rfl
theorem awk_good : (sizeT awkT).isSome = true := by decide +kernel
theorem awk_words : ∀ i, i < 3 → ∀ x ∈ (steps3.getD i (0, [])).2, x.length ≤ 1000000 ∧ (repS 131072 ⟨#[]⟩ x).size ≤ 900000000 := by decide +kernel
theorem awk_kinds : ∀ i, i < 3 → (steps3.getD i (0, [])).1 ≠ 7 := by decide
theorem awk_256 : ∀ s ∈ steps3, s.1 < 256 := by decide
theorem inS_none (w : World) : InS w 0 none 0 0 [] := ⟨rfl, .inl rfl, Nat.le_refl _⟩
theorem bytesIn_of {w : World} {a : Option Addr} {n c : Nat} {l : List UInt8} (h : IsB w a n c l) : Lib.BytesIn w a n (l.map fun x => (x.toNat : Int)) := by
  intro hn
  rcases h.at_ with h0 | ⟨b, off, e, hlt, hc⟩
  · omega
  · refine ⟨b, off, e, fun i hi => ?_⟩
    rw [hc i hi]
    congr 2
    rw [List.getD_eq_getElem?_getD, List.getD_eq_getElem?_getD, List.getElem?_map, List.getElem?_eq_getElem (by rw [h.length]; exact hi)]; rfl
theorem bytesOf_back (l : List UInt8) : Lib.bytesOf (l.map fun x => (x.toNat : Int)) = l := by
  unfold Lib.bytesOf
  rw [List.map_map]
  conv => rhs; rw [← List.map_id l]
  refine List.map_congr_left fun x _ => ?_
  simp
theorem conv_isB {w : World} {a : Option Addr} {n c : Nat} {l : List UInt8} (h : IsB w a n c l) : (convert 33 9 (.slice a n c)).run Tryz.prog w = .ok (.string ⟨l.toArray⟩) w := by
  have e := Go.Lib.BytesIn.convert (P := Tryz.prog) (bytesIn_of h) (by rw [List.length_map]; exact h.length) c 33 5 9 Tryz.underlying33 Tryz.underlying5 Tryz.underlying9
  rw [e]
  exact congrArg (fun s => Result.ok (Value.string s) w) (congrArg (fun l : List UInt8 => (⟨l.toArray⟩ : ByteArray)) (bytesOf_back l))
theorem run_three (w : World) (hm : MaxW w) (hmx : 1 < w.heap.size) (hL : LaidR w) (u : Value) (w2 : World) (hb : Below w.heap.size w w2) (B : Nat) (hsp : StP w2 B u steps3) :
    Calls Tryz.prog 16 #[u, .string ⟨#[]⟩, .slice none 0 0] w2 (RnP (0, 3, awkT) w2) := by
  obtain ⟨a, c, rfl, hS⟩ := sp_of hsp awk_256
  have hm2 := hm.below hb hmx
  have hmx2 := Nat.lt_of_lt_of_le hmx hb.size
  have hL2 := hL.later hb
  have h := run_any sw0 w2 ⟨#[]⟩ a 3 c steps3 0 none 0 0 [] hS (by decide) (inS_none w2) (by decide) (fun i hi W pb m cs t ka kn kc hbW hp ht hsz hc =>
    step_some sw0 W pb _ m cs t ⟨#[]⟩ none 0 0 0 [] _ ka kn kc hp ht hsz hc (fun x hx => ⟨.inl (awk_words i hi x hx).1, (awk_words i hi x hx).2⟩) (inS_none W) (by decide) (fun i hi => absurd hi (Nat.not_lt_zero _)) (by decide) (by decide) (hL2.later hbW) (hm2.below hbW hmx2) (Nat.lt_of_lt_of_le hmx2 hbW.size) (fun _ h7 => absurd h7 (awk_kinds i hi)))
  rw [show mostF [] = 131072 from rfl, awk_run] at h
  exact h
set_option maxHeartbeats 20000000 in
theorem awake_any (w : World) (hm : MaxW w) (hL : LaidR w) (hmx : 1 < w.heap.size) : Calls Tryz.prog 11 #[] w fun e w' => e = .returned (.bool true) ∧ Below w.heap.size w w' := by
  have HPA := Lib.hid (parse_any txt3 w hm hL)
  have HRN := Lib.hid (run_three w hm hmx hL)
  have hpx := awk_par
  rw [show txt3 = ⟨#[119, 114, 105, 116, 101, 32, 102, 32, 97, 10, 97, 112, 112, 101, 110, 100, 32, 102, 32, 98, 10, 101, 120, 101, 99, 32, 102]⟩ from rfl] at HPA hpx
  rw [hpx] at HPA
  clear hm hL hmx hpx
  go_enter Tryz.func11, Tryz.ntmps11
  go_wp2_with fail
  refine HPA.out.mono ?_
  rintro e w2 ⟨u, at_, er, rfl, ⟨h1, h2, h3⟩, hb⟩
  have h1' : at_ = 0 := h1
  have h2' : er = 0 := h2
  subst h1' h2'
  rw [if_pos rfl] at h3
  have B2 := Lib.hid hb
  have H3 := Lib.hid h3
  clear h1 h2 h3 hb
  go_wp2_with fail
  refine (HRN.out u w2 B2.out _ H3.out).mono ?_
  rintro e w3 ⟨out, SS, rfl, hmt, hb3⟩
  obtain ⟨m, hT⟩ : ∃ m, IsT w3 m out awkT := ⟨_, hmt.isT _ (Nat.le_refl _) (sizeT_get awk_good).2.2.1⟩
  have ho5 := isT_five hT
  have ho1 := isT_one hT
  have B3 := Lib.hid (B2.out.trans (hb3.mono B2.out.size))
  have HO5 := Lib.hid (infoL ho5)
  have HO1 := Lib.hid ho1
  have HOS : Hid ((#[.int .u8 0, .bool false, .slice none 0 0, .slice none 0 0, .slice none 0 0] : Array Value).size = out.toArray.size) := Lib.hid (by simp [ho5])
  obtain ⟨g4, hg4⟩ : ∃ g, g = w3.heap.size := ⟨_, rfl⟩
  obtain ⟨w4, hw4⟩ : ∃ w4, w4 = (w3.alloc (.cells #[.int .u8 0, .bool false, .slice none 0 0, .slice none 0 0, .slice none 0 0] 37)).setRow g4 out.toArray := ⟨_, rfl⟩
  have b4 : Below w3.heap.size w3 w4 := by rw [hw4]; exact below_setRow ((Below.refl _ _).alloc (Nat.le_refl _) _) (by rw [hg4]; exact Nat.le_refl _) _
  have H4 : Hid (w4.heap[g4]? = some (.cells out.toArray 37 (0, 0))) := Lib.hid (by rw [hw4, hg4]; exact setRow_heap _ _ _ _ _ _ (heap_alloc_new w3 _))
  have B4 := Lib.hid (B3.out.trans (b4.mono B3.out.size))
  have HT4 : Hid (IsT w4 m out awkT) := Lib.hid (IsT.later b4 _ _ _ hT)
  have HGD : Hid (Good awkT) := Lib.hid (Good.of (sizeT_get awk_good).1)
  have HRA := Lib.hid (rat_any m out awkT ⟨#[102]⟩ w4 HT4.out HGD.out)
  rw [show atT (⟨#[102]⟩ : ByteArray).data.toList awkT = .inr (.mk 1 true [97, 98] [] []) from awk_at] at HRA
  have HW4 := Lib.hid hw4
  have HG4 := Lib.hid hg4
  clear hT hmt hb3 ho5 ho1 hw4 hg4 b4 HPA HRN
  go_upto_region 3 with (refine wpList_store_row rfl 37 _ _ rfl w3.heap.size out.toArray rfl rfl 37 _ (heap_alloc_new w3 _) HO5.out HOS.out HO1.out ?_)
  rw [← HG4.out, ← HW4.out]
  go_wp2_with (refine wpList_load_row rfl 37 _ rfl g4 rfl 37 out.toArray (0, 0) _ H4.out Tryz.underlying37 rfl HO5.out ?_)
  refine HRA.out.mono ?_
  rintro e w5 ⟨n5, cs5, rfl, hT5, hb5⟩
  have hT5' : IsT w5 n5 cs5 (.mk 1 true [97, 98] [] []) := IsT.later hb5 _ _ _ hT5
  have HC5 := Lib.hid (infoL (isT_five hT5'))
  have HC1 := Lib.hid (isT_one hT5')
  have HCS : Hid ((#[.int .u8 0, .bool false, .slice none 0 0, .slice none 0 0, .slice none 0 0] : Array Value).size = cs5.toArray.size) := Lib.hid (by simp [isT_five hT5'])
  obtain ⟨g6, hg6⟩ : ∃ g, g = w5.heap.size := ⟨_, rfl⟩
  obtain ⟨w6, hw6⟩ : ∃ w6, w6 = (w5.alloc (.cells #[.int .u8 0, .bool false, .slice none 0 0, .slice none 0 0, .slice none 0 0] 37)).setRow g6 cs5.toArray := ⟨_, rfl⟩
  have b6 : Below w5.heap.size w5 w6 := by rw [hw6]; exact below_setRow ((Below.refl _ _).alloc (Nat.le_refl _) _) (by rw [hg6]; exact Nat.le_refl _) _
  have B6 := Lib.hid (B4.out.trans ((hb5.trans (b6.mono hb5.size)).mono B4.out.size))
  have g7 : Has w6 g6 cs5 37 := by rw [hw6, hg6]; exact setRow_heap _ _ _ _ _ _ (heap_alloc_new w5 _)
  have hT6 := IsT.later b6 _ _ _ hT5'
  have hk : ∃ da dn dc c3 c4, cs5 = [.int .u8 1, .bool true, .slice da dn dc, c3, c4] ∧ IsB w6 da dn dc [97, 98] := by
    cases n5 with
    | zero => exact absurd hT6 (by simp [IsT])
    | succ n5 =>
      obtain ⟨_, _, _, _, _, _, _, _, _, hcs, hB, _⟩ := hT6
      exact ⟨_, _, _, _, _, hcs, hB⟩
  obtain ⟨da, dn, dc, c3, c4, hcs5, hB⟩ := hk
  have hq1 := g7.cellAt (i := 1) (v := .bool true) (by rw [hcs5]; rfl)
  have hq2 := g7.cellAt (i := 2) (v := .slice da dn dc) (by rw [hcs5]; rfl)
  have hcv : (convert 33 9 (.slice da dn dc)).run Tryz.prog w6 = .ok (.string ⟨#[97, 98]⟩) w6 := conv_isB hB
  have HW6 := Lib.hid hw6
  have HG6 := Lib.hid hg6
  clear hT5 hT5' hb5 hw6 hg6 b6 g7 hT6 hcs5 hB
  go_upto_region 4 with (refine wpList_store_row rfl 37 _ _ rfl w5.heap.size cs5.toArray rfl rfl 37 _ (heap_alloc_new w5 _) HC5.out HCS.out HC1.out ?_)
  rw [← HG6.out, ← HW6.out]
  go_wp2_with fail
  refine bodyPost_ret (results_tmp rfl _ _ _) rfl ?_
  exact ⟨rfl, B6.out⟩
end Go.Proofs.YtlccdenafnekjaaGreatDoor

namespace Go.Proofs.YtlccdenafnekjaaGreatDoor
open Go.ChangeShapes Go.WideShapes Go.ChangeAt Go.RowKit
set_option linter.unusedVariables false

/-- The wrap that keeps both: the word on the listed variables and the world's shape. -/
theorem handed_shaped_and {H : Type} {enc : TypeId × Value → H} {a : Assume} {C : Checked} {os : Os} {f : FuncId} {fn : Func} {s : ChangeSpec} {conds : List PathCond} {apart fresh handsOn again : Bool} {X : World → Array Value → Prop}
    (hX : ∀ (w w' : World) (args : Array Value), w.heap = w'.heap → X w args → X w' args)
    (own : ownKnob C.prog.godebug = none) (started : os.Started) (noInit : C.prog.inits.idxOf? f = none) (hfn : C.prog.funcs[f]? = some fn)
    (witness : ∃ (w : World) (tape : Tape) (i : Input), w.os = os ∧ (w.forCall tape i).Shaped C.prog ∧ i.vars = [] ∧ Input.okWide C.prog (w.forCall tape i) .any w.heap.size f i ∧
      ((s.pre enc C.prog fn conds apart (w.forCall tape i).memory i.args ∧ X (w.forCall tape i).memory i.args) ∧ sizedMet enc C.prog fn (OpenSpec.ofChange s) apart (w.forCall tape i).memory i.args) ∧ a.holds C.prog (lone (Frame.enter C.prog f i.args .normal) [] (w.forCall tape i)))
    (contract : ∀ (W : World) (base : Nat) (args : Array Value) (ds gs : List (DataW H)) (before : List MemPlace),
      (∀ (j : Nat) t v, fn.params[j]? = some t → args[j]? = some v → Value.okWide C.prog W .any base t v) →
      DataW.Whole enc C.prog fn.params.toList s.vars apart W args.toList ds gs before →
      conds.all (PathCond.test C.prog ⟨fn.params.toList, ds, s.plain.varTypes C.prog, gs⟩) = true →
      (DataW.weightsEach C.prog (fn.params.toList ++ s.plain.varTypes C.prog) (ds ++ gs)).all (· ≤ reachBytes) = true → X W args → W.ShapedOpen C.prog →
      a.holds C.prog (lone (Frame.enter C.prog f args .normal) [] W) →
      Calls C.prog f args W fun e W' => ∃ v, e = .returned v ∧ s.post enc C.prog fn apart fresh handsOn again W args v W') :
    ReturnsInHanded a C os f .any (fun w args => (s.pre enc C.prog fn conds apart w args ∧ X w args) ∧ sizedMet enc C.prog fn (OpenSpec.ofChange s) apart w args) (s.post enc C.prog fn apart fresh handsOn again) := by
  refine returnsInHanded_of_calls own started noInit witness fun w tape i _ hsh _ hok hpre hholds => ?_
  obtain ⟨_, _, _, fn', hfn', _, _, _, _, hval⟩ := hok
  obtain rfl : fn' = fn := Option.some.inj (hfn'.symm.trans hfn)
  obtain ⟨⟨⟨ds, gs, before, hw, hc⟩, hx⟩, hz⟩ := hpre
  have hw' := DataW.Whole.of_heap (w' := w.forCall tape i) (by rfl) hw
  refine (contract _ w.heap.size i.args ds gs before hval hw' hc (hz.weights hw) (hX _ _ _ (by rfl) hx) hsh hholds).mono fun e W' ⟨v, he, hp⟩ => ?_
  subst he
  exact ChangeSpec.post_blind hp

end Go.Proofs.YtlccdenafnekjaaGreatDoor

namespace Go.Proofs.YtlccdenafnekjaaGreatDoor
open Go.ChangeShapes Go.WideShapes Go.ChangeAt Go.RowKit
set_option linter.unusedVariables false

theorem gForms : Tryz.prog.globalNamed "staddle/recipe.forms" = some 0 := by kernel_rfl
theorem tForms : (Tryz.prog.globals[0]?).map (·.type) = some 82 := by kernel_rfl
theorem block_of_var {P : Program} {W : World} {name : String} {g : Nat} {cs : Array Value} (hg : P.globalNamed name = some g) (hv : W.var? P name = some cs) : ∃ t fr, W.heap[g]? = some (.cells cs t fr) := by
  unfold World.var? at hv
  rw [hg] at hv
  simp only [Option.bind_some] at hv
  split at hv
  · rename_i c t fr hb
    cases hv
    exact ⟨t, fr, hb⟩
  · cases hv
def fmDt {H : Type} (f : Nat × List UInt8 × Nat) : DataW H := .agg [.lit (.int .u8 (f.1 : Int)), .lit (.string f.2.1), .lit (.int .i64 (f.2.2 : Int))]
def fmsDt {H : Type} : DataW H := .agg (formsF.map fmDt)
theorem three_cells {cs : List Value} (h : cs.length = 3) : ∃ a b c, cs = [a, b, c] := by
  match cs, h with
  | [a, b, c], _ => exact ⟨a, b, c, rfl⟩
set_option maxRecDepth 100000 in
theorem cells_of_fm {H : Type} {enc : TypeId × Value → H} {w : World} {base : Nat} {sp : Nat → Bool} {held : Bool} {fuel : Nat} {cs : List Value} {g : Nat × List UInt8 × Nat} {x : DataW H × List MemPlace} (hg : x.1 = fmDt g)
    (h : DataW.trod enc Tryz.prog w base sp held fuel 81 cs = some x) : cs = fmC g := by
  obtain ⟨y0, y1, y2, n, rfl, hl, h0, h1, h2⟩ := Go.Deep.trod_struct3 Tryz.underlying81 h
  have hl3 : cs.length = 3 := hl.trans (by kernel_rfl)
  have c0 : Tryz.prog.cellsOf 5 = 1 := by kernel_rfl
  have c1 : Tryz.prog.cellsOf 9 = 1 := by kernel_rfl
  have c2 : Tryz.prog.cellsOf 3 = 1 := by kernel_rfl
  obtain ⟨a, b, c, rfl⟩ := three_cells hl3
  clear hl3 hl h
  simp only [c0, c1, c2, List.drop_zero, List.drop_succ_cons, List.take_succ_cons, List.take_zero] at h0 h1 h2
  obtain ⟨m0, hm0, rfl, _⟩ := DataW.trod_int Tryz.underlying5 h0
  obtain ⟨s, hs, rfl, _⟩ := DataW.trod_string Tryz.underlying9 h1
  obtain ⟨m, hm, rfl, _⟩ := DataW.trod_int Tryz.underlying3 h2
  simp only [fmDt, DataW.agg.injEq, List.cons.injEq, DataW.lit.injEq, Lit.string.injEq, Lit.int.injEq, and_true, true_and] at hg
  simp only [List.cons.injEq, and_true] at hs hm hm0
  obtain ⟨e1, e2, e3⟩ := hg
  subst hs hm hm0
  rw [fmC, ← e1, ← e2, ← e3]
theorem chunks (c : Nat → List Value) : ∀ (n k : Nat) (cs : List Value), cs.length = n * 3 → (∀ i, i < n → (cs.drop (i * 3)).take 3 = c (k + i)) → cs = (List.range' k n).flatMap c
  | 0, k, cs, hl, h => by
    have : cs = [] := List.eq_nil_of_length_eq_zero (by omega)
    subst this; rfl
  | n + 1, k, cs, hl, h => by
    have h0 := h 0 (by omega)
    simp only [Nat.zero_mul, List.drop_zero, Nat.add_zero] at h0
    have ih := chunks c n (k + 1) (cs.drop 3) (by rw [List.length_drop]; omega) (fun i hi => by
      have := h (i + 1) (by omega)
      rw [List.drop_drop, show 3 + i * 3 = (i + 1) * 3 by omega, this, show k + (i + 1) = k + 1 + i by omega])
    rw [List.range'_succ, List.flatMap_cons, ← ih, ← h0, List.take_append_drop]
theorem cells_of_fms {H : Type} {enc : TypeId × Value → H} {w : World} {base : Nat} {sp : Nat → Bool} {held : Bool} {fuel : Nat} {cs : List Value} {p : List MemPlace}
    (h : DataW.trod enc Tryz.prog w base sp held fuel 82 cs = some (fmsDt, p)) : cs = fmAll := by
  obtain ⟨xs, m, rfl, hx, hl, hn, hf⟩ := DataW.trod_array Tryz.underlying82 h
  have hl2 : cs.length = 8 * 3 := hl.trans (by kernel_rfl)
  have ce : Tryz.prog.cellsOf 81 = 3 := by kernel_rfl
  rw [ce] at hf
  have hxs : xs.map (·.1) = formsF.map fmDt := by
    have := congrArg Prod.fst hx
    simpa [fmsDt] using this.symm
  refine (chunks (fun i => fmC (formsF.getD i fmD)) 8 0 cs hl2 (fun i hi => ?_)).trans (by rfl)
  rw [Nat.zero_add]
  have h1 := hf i hi
  obtain ⟨y, hy⟩ : ∃ y, xs[i]? = some y := ⟨_, List.getElem?_eq_getElem (by omega)⟩
  rw [hy] at h1
  refine cells_of_fm ?_ h1
  have h2 : (xs.map (·.1))[i]? = some y.1 := by rw [List.getElem?_map, hy]; rfl
  rw [hxs, List.getElem?_map] at h2
  have hi2 : i < formsF.length := hi
  rw [List.getElem?_eq_getElem hi2] at h2
  simp only [Option.map_some, Option.some.injEq] at h2
  rw [← h2, List.getD_eq_getElem?_getD, List.getElem?_eq_getElem hi2]; rfl
theorem laid_metR {W : World} (h : laidMetH Tryz.prog Rows.recipeWordsRow.laid W) : LaidR W := by
  rw [MakeChecks.laidMetH_plain _ _ _ (by kernel_rfl)] at h
  obtain ⟨ps, ⟨gA, tA, csA, fA, pA, qA, _, _, _, _, ⟨g0, t0, cs0, f0, p0, q0, hg0, ht0, hv0, hd0, _, _⟩, _⟩, _, _⟩ := h
  obtain rfl := Option.some.inj (gForms.symm.trans hg0)
  obtain rfl := Option.some.inj (tForms.symm.trans ht0)
  have e0 : (Rows.laid_staddle_recipe_forms : DataW Unit) = fmsDt := rfl
  rw [e0] at hd0
  have c0 := cells_of_fms hd0
  obtain ⟨ta, fa, ba⟩ := block_of_var hg0 hv0
  have k0 : cs0 = fmAll.toArray := by
    rw [← Array.toArray_toList (xs := cs0), c0]
  exact ⟨ta, fa, by rw [← k0]; exact ba⟩
end Go.Proofs.YtlccdenafnekjaaGreatDoor

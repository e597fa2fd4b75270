/-
  The reader of a derivation's text: a list of texts. Condition: what is to be read is no longer than 10^9 bytes.
-/
import Derived.Test.YtokbakpbhpknfaaDvText
import Derived.Test.YtokbakpbhpknfaaTree
import Derived.Deep.Cut
namespace Go.Proofs.Ytokbakpbhpknfaa
open Go.RowKit
set_option linter.unusedVariables false

def bs (l : List UInt8) : ByteArray := ⟨l.toArray⟩
def sv (l : List UInt8) : Value := .string (bs l)
theorem bs_list (s : ByteArray) : bs s.data.toList = s := rfl
theorem list_bs (l : List UInt8) : (bs l).data.toList = l := rfl
theorem isS_own {w : World} {B n : Nat} {a : Option Addr} {c : Nat} {l : List (List UInt8)} (h : w.ownsRow B 9 1 (.slice a n c) n (l.map sv)) : IsS w a n c (l.map bs) := by
  have hl : l.length = n := by have := h.1; simpa using this
  rcases h.2 with ⟨hv, h0⟩ | ⟨g, cap', cur, hv, hb, hg, hle, hmx, hsz, htk⟩
  · simp only [Value.slice.injEq] at hv
    obtain ⟨rfl, rfl, rfl⟩ := hv
    exact ⟨by simpa using hl, .inl rfl, fun _ => ⟨rfl, rfl⟩, ⟨Nat.le_refl _, Nat.zero_le _⟩⟩
  · simp only [Value.slice.injEq] at hv
    obtain ⟨rfl, -, rfl⟩ := hv
    refine ⟨by simpa using hl, .inr ⟨g, 0, rfl, (Array.getElem?_eq_some_iff.1 hg).1, fun i hi => ?_⟩, (fun e => by cases e), ⟨by omega, hmx⟩⟩
    rw [Nat.zero_add, World.ownsRow.cellAt h i (by omega), List.getElem?_map, List.getElem?_eq_getElem (by omega), List.getD_eq_getElem?_getD, List.getElem?_map, List.getElem?_eq_getElem (by omega)]
    rfl

/-- Behind a list: what was read (of a long one the beginning), or bad. -/
def LstP (rb n : Nat) (w : World) (o : Option (List (List UInt8) × List UInt8)) (e : Ending) (w' : World) : Prop :=
  But w.heap.size rb w w' ∧ ((∃ l r, o = some (l, r) ∧ (∃ a c, e = .returned (.slice a (l.take 33).length c) ∧ w'.ownsRow w.heap.size 9 1 (.slice a (l.take 33).length c) (l.take 33).length ((l.take 33).map sv)) ∧ Dr w' rb r false) ∨
    (o = none ∧ ∃ a k c R', e = .returned (.slice a k c) ∧ Dr w' rb R' true ∧ R'.length ≤ n))

/-- A list on its way. -/
structure LInv (o : Option (List (List UInt8) × List UInt8)) (n : Nat) (A : List (List UInt8)) (R : List UInt8) (b : Bool) : Prop where
  rest : R.length ≤ n
  bad : b = true → o = none
  good : b = false → o = preL A (itemsL R)
/-- A text of it was read, or not. -/
def LGot (R t R2 : List UInt8) (b2 : Bool) : Prop := (b2 = false ∧ dtxt R = some (t, R2)) ∨ (b2 = true ∧ dtxt R = none ∧ R2.length ≤ R.length)
theorem LGot.len {R t R2 : List UInt8} {b2 : Bool} (h : LGot R t R2 b2) : R2.length ≤ R.length := by
  rcases h with ⟨_, h⟩ | ⟨_, _, h⟩
  · have := dtxt_len h; omega
  · exact h
theorem LInv.close {o : Option (List (List UInt8) × List UInt8)} {n : Nat} {A : List (List UInt8)} {R t R2 r2 : List UInt8} {b2 : Bool} (h : LInv o n A R false) (hg : LGot R t R2 b2) (hd : dlit [93] R2 = some r2) :
    (b2 = false ∧ o = some (A ++ [t], r2)) ∨ (b2 = true ∧ o = none ∧ r2.length ≤ n) := by
  rcases hg with ⟨hb, hg⟩ | ⟨hb, hg, hl⟩
  · exact .inl ⟨hb, by rw [h.good rfl, items_end hg hd]; rfl⟩
  · refine .inr ⟨hb, by rw [h.good rfl, items_none hg]; rfl, ?_⟩
    have := dlit_len hd; have := h.rest; omega
theorem LInv.step {o : Option (List (List UInt8) × List UInt8)} {n : Nat} {A : List (List UInt8)} {R t R2 : List UInt8} {b2 : Bool} (h : LInv o n A R false) (hg : LGot R t R2 b2) (hd : dlit [93] R2 = none) :
    LInv o n (A ++ [t]) ((dlit [44] R2).getD R2) (b2 || (dlit [44] R2).isNone) ∧ tm ((dlit [44] R2).getD R2) (b2 || (dlit [44] R2).isNone) < tm R false := by
  have hl := hg.len
  have hr := h.rest
  have hx : ((dlit [44] R2).getD R2).length ≤ R2.length := by
    cases hc : dlit [44] R2 with
    | none => exact Nat.le_refl _
    | some r => have := dlit_len hc; simp; omega
  rcases hg with ⟨rfl, hg⟩ | ⟨rfl, hg, _⟩
  · have hl2 := dtxt_len hg
    cases hc : dlit [44] R2 with
    | none => exact ⟨⟨by simp; omega, (fun _ => by rw [h.good rfl, items_bad hg hd hc]; rfl), (fun e => by cases e)⟩, by unfold tm; simp; omega⟩
    | some r =>
      rw [hc] at hx
      have hx : r.length ≤ R2.length := hx
      exact ⟨⟨by simp; omega, (fun e => by cases e), (fun _ => by rw [h.good rfl, items_more hg hd hc, preL_cons]; rfl)⟩, by unfold tm; simp; omega⟩
  · exact ⟨⟨by omega, (fun _ => by rw [h.good rfl, items_none hg]; rfl), (fun e => by cases e)⟩, by unfold tm; simp; omega⟩
theorem take_short {A : List (List UInt8)} (t : List UInt8) (h : (A.take 33).length ≤ 32) : A.take 33 = A ∧ (A ++ [t]).take 33 = A.take 33 ++ [t] := by
  have hl : A.length ≤ 32 := by rw [List.length_take] at h; omega
  have h1 : A.take 33 = A := List.take_of_length_le (by omega)
  exact ⟨h1, by rw [h1]; exact List.take_of_length_le (by simp; omega)⟩
theorem take_long {A : List (List UInt8)} (t : List UInt8) (h : ¬ (A.take 33).length ≤ 32) : (A ++ [t]).take 33 = A.take 33 :=
  List.take_append_of_le_length (by rw [List.length_take] at h; omega)

set_option maxRecDepth 100000 in
set_option maxHeartbeats 16000000 in
theorem list_any (rb : Nat) (R : List UInt8) (bad : Bool) (w : World) (h : Dr w rb R bad) (h9 : R.length ≤ 1000000000) :
    Calls Try.prog 40 #[.pointer (some ⟨rb, 0, none⟩)] w (LstP rb R.length w (if bad then none else dlst R)) := by
  obtain ⟨i0, hi, hz0, hz1, hz2⟩ := info_str_parts
  have HI := Lib.hid hi
  have HZ0 := Lib.hid hz0
  have HZ1 := Lib.hid hz1
  have HZ2 := Lib.hid hz2
  clear hi hz0 hz1 hz2
  obtain ⟨o, ho⟩ : ∃ o, o = if bad then none else dlst R := ⟨_, rfl⟩
  obtain ⟨n, hn⟩ : ∃ n, n = R.length := ⟨_, rfl⟩
  rw [← ho, ← hn]
  have H := Lib.hid h
  have HLT : rb < w.heap.size := h.lt
  have HOO := Lib.hid ho
  have HN := Lib.hid hn
  rw [← hn] at h9
  clear h ho hn
  obtain ⟨B, hB⟩ : ∃ B, B = w.heap.size := ⟨_, rfl⟩
  have HB := Lib.hid hB
  rw [← hB] at HLT
  clear hB
  go_enter Try.func40, Try.ntmps40
  go_wp2_with fail
  refine (skip_any rb R bad ⟨#[91]⟩ _ H.out).mono ?_
  rintro e w1 ⟨rfl, h1, b1⟩
  have h1 : Dr w1 rb ((dlit [91] R).getD R) (bad || (dlit [91] R).isNone) := h1
  obtain ⟨R1, hR1⟩ : ∃ R1, R1 = (dlit [91] R).getD R := ⟨_, rfl⟩
  obtain ⟨bad1, hb1⟩ : ∃ b, b = (bad || (dlit [91] R).isNone) := ⟨_, rfl⟩
  rw [← hR1, ← hb1] at h1
  have hlen1 : R1.length ≤ n := by
    rw [hR1, HN.out]
    cases hc : dlit [91] R with
    | none => exact Nat.le_refl _
    | some r => have := dlit_len hc; simp; omega
  -- what is known behind the first sign
  have hX : (bad1 = true ∧ o = none) ∨ (bad1 = false ∧ ((∀ r2, dlit [93] R1 = some r2 → o = some ([], r2)) ∧ (dlit [93] R1 = none → o = itemsL R1))) := by
    have ho := HOO.out
    cases bad with
    | true => exact .inl ⟨by rw [hb1]; rfl, ho⟩
    | false =>
      rw [if_neg (by simp)] at ho
      cases hc : dlit [91] R with
      | none => exact .inl ⟨by rw [hb1, hc]; rfl, by rw [ho, dlst_none hc]⟩
      | some r =>
        rw [hc] at hR1 hb1
        have hR1 : R1 = r := hR1
        subst hR1
        exact .inr ⟨by rw [hb1]; rfl, (fun r2 h2 => by rw [ho, dlst_empty hc h2]), (fun h2 => by rw [ho, dlst_items hc h2])⟩
  rw [← HB.out] at b1
  have H1 := Lib.hid h1
  have B1 := Lib.hid b1
  have HX := Lib.hid hX
  have HL1 := Lib.hid hlen1
  have hBs1 : B ≤ w1.heap.size := by have := b1.size; have := HB.out; omega
  clear h1 b1 hX hlen1 H HOO hR1 hb1
  have hk := took_any rb R1 bad1 ⟨#[93]⟩ w1 H1.out
  rw [show (⟨#[93]⟩ : ByteArray).data.toList = [93] from rfl] at hk
  have HK := Lib.hid hk
  clear hk
  cases hq : dlit [93] R1 with
  | some r2 =>
    rw [hq] at HK
    have HQ := Lib.hid hq
    clear hq
    go_wp2_with fail
    refine HK.out.mono ?_
    rintro e w2 ⟨rfl, h2, b2⟩
    have H2 : Hid (Dr w2 rb r2 bad1) := Lib.hid h2
    have B2 : Hid (But B rb w w2) := Lib.hid (B1.out.trans (b2.mono hBs1))
    clear h2 b2 HK
    go_wp2_with fail
    go_ret
    rw [HB.out] at B2
    refine ⟨B2.out, ?_⟩
    have hl := dlit_len HQ.out
    rcases HX.out with ⟨hb, ho⟩ | ⟨hb, ho, _⟩
    · rw [hb] at H2
      exact .inr ⟨ho, none, 0, 0, r2, rfl, H2.out, by have := HL1.out; omega⟩
    · rw [hb] at H2
      exact .inl ⟨[], r2, ho r2 HQ.out, ⟨none, 0, rfl, World.ownsRow_nil _ _ _ _⟩, H2.out⟩
  | none =>
    rw [hq] at HK
    have hI : LInv o n [] R1 bad1 := by
      rcases HX.out with ⟨hb, ho⟩ | ⟨hb, _, ho⟩
      · exact ⟨HL1.out, (fun _ => ho), (fun e => by rw [hb] at e; cases e)⟩
      · exact ⟨HL1.out, (fun e => by rw [hb] at e; cases e), (fun _ => by rw [ho hq, preL_nil])⟩
    have HT := Lib.hid hI
    clear hq hI
    go_wp2_with fail
    refine HK.out.mono ?_
    rintro e w2 ⟨rfl, h2, b2⟩
    have H2 : Hid (Dr w2 rb R1 bad1) := Lib.hid h2
    have B2 : Hid (But B rb w w2) := Lib.hid (B1.out.trans (b2.mono hBs1))
    clear h2 b2 HK H1 B1 hBs1 HX HL1
    go_wp2_with fail
    go_loopg [3, 4] (tm R1 bad1) (fun gk v s4 wr => ∃ A R' b', Hid (gk = tm R' b') ∧ wr.ownsRow B 9 1 v (A.take 33).length ((A.take 33).map sv) ∧ Dr wr rb R' b' ∧ But B rb w wr ∧ Hid (LInv o n A R' b'))
    case atStart => exact ⟨[], R1, bad1, Lib.hid rfl, World.ownsRow_nil _ _ _ _, H2.out, B2.out, HT⟩
    case round =>
      clear H2 B2 HT
      obtain ⟨A, R', b', HG, how, hd, hb, HT⟩ := hrel
      obtain ⟨va, vc, rfl⟩ := row_form how
      have HO := Lib.hid how
      have HD := Lib.hid hd
      have BB := Lib.hid hb
      have hBs : B ≤ wr.heap.size := by have := hb.size; have := HB.out; omega
      have c1 := Has.cellAt hd (i := 1) rfl
      clear how hd hb
      cases b' with
      | true =>
        go_wp2_with fail
        go_ret
        rw [HB.out] at BB
        exact ⟨BB.out, .inr ⟨HT.out.bad rfl, none, 0, 0, _, rfl, HD.out, HT.out.rest⟩⟩
      | false =>
        have hR9 : R'.length ≤ 1000000000 := by have := HT.out.rest; omega
        go_wp2_with fail
        refine (text_any rb R' false wr HD.out hR9).mono ?_
        rintro e w3 ⟨b3, hz⟩
        have hz : ∃ t R2 b2, e = .returned (.string (bs t)) ∧ Dr w3 rb R2 b2 ∧ LGot R' t R2 b2 := by
          rcases hz with ⟨t, r, ho, he, hd⟩ | ⟨ho, s, R2, he, hd, hl⟩
          · exact ⟨t, r, false, he, hd, .inl ⟨rfl, ho⟩⟩
          · exact ⟨s.data.toList, R2, true, he, hd, .inr ⟨rfl, ho, hl⟩⟩
        obtain ⟨t, R2, b2, rfl, h3, hgot⟩ := hz
        have H3 := Lib.hid h3
        have HGOT := Lib.hid hgot
        have HO3 := Lib.hid (owns_but HO.out b3 HD.out (by decide))
        have B3 : Hid (But B rb w w3) := Lib.hid (BB.out.trans (b3.mono hBs))
        have hBs3 : B ≤ w3.heap.size := Nat.le_trans hBs b3.size
        obtain ⟨x, hx⟩ : ∃ x, x = bs t := ⟨_, rfl⟩
        rw [← hx]
        have HXT := Lib.hid hx
        obtain ⟨k, hk⟩ : ∃ k, k = (A.take 33).length := ⟨_, rfl⟩
        have HKL := Lib.hid hk
        have hk33 : k ≤ 33 := by rw [hk, List.length_take]; omega
        rw [← hk] at HO3 ⊢
        clear h3 hgot b3 HO BB hBs hx HD c1 hk
        by_cases h32 : k ≤ 32
        · have h32' : ¬ ((k : Int) > 32) := by omega
          have HSH := Lib.hid (take_short t (by rw [← HKL.out]; exact h32))
          go_upto_region 8 with fail
          go_wp2_with (at_builtin; go_must (refine wpList_append_lies _ rfl (.tmp 19) (.tmp 21) 22 rfl B 9 i0 (.string ByteArray.empty) 1 16 Try.underlying22 HI.out HZ0.out HZ1.out HZ2.out rfl (by omega) _ k ((A.take 33).map sv) rfl (HO3.out.alloc _) ⟨w3.heap.size, 0, none⟩ 1 1 [.string x] rfl rfl ?c1 ?c2 ?c3 ?c4 ?c5 ?c6 _ rfl ?c7))
          case c1 => intro j u hj; rw [Addr.add_mid]; exact (Has.new w3 [.string x] _).cellAt (by rw [Nat.zero_add]; exact hj)
          case c2 => intro u hu; simp at hu; subst hu; rfl
          case c3 => omega
          case c4 => unfold maxLen; omega
          case c5 => omega
          case c6 => simp; omega
          intro g cap2 w5 hown3 hgrow2 hlo2 hhi2
          have H5 : Hid (Dr w5 rb R2 b2) := Lib.hid (has_grown (H3.out.alloc _) (HO3.out.alloc _) (by decide) hgrow2)
          have B5 : Hid (But B rb w w5) := Lib.hid (but_grown (B3.out.alloc hBs3 _) (HO3.out.alloc _) (by simp; omega) hgrow2)
          have hBs5 : B ≤ w5.heap.size := by have := hgrow2.size; simp at this; omega
          obtain ⟨a5, ha5⟩ : ∃ a : Option Addr, a = some ⟨g, 0, none⟩ := ⟨_, rfl⟩
          rw [← ha5] at hown3 ⊢
          obtain ⟨k5, hk5⟩ : ∃ k5, k5 = k + 1 := ⟨_, rfl⟩
          have HO5 : Hid (w5.ownsRow B 9 1 (.slice a5 k5 cap2) k5 (((A ++ [t]).take 33).map sv)) := Lib.hid (by rw [HSH.out.2, List.map_append, hk5]; show w5.ownsRow B _ 1 _ _ (_ ++ [Value.string (bs t)]); rw [← HXT.out]; first | exact hown3 | (rw [List.map_take]; exact hown3))
          have HK5 : Hid (k5 = ((A ++ [t]).take 33).length) := Lib.hid (by rw [HSH.out.2, List.length_append, ← HKL.out, hk5]; rfl)
          try simp only [← hk5]
          clear hown3 hgrow2 hlo2 hhi2 ha5 hk5 HO3 H3 B3 hBs3
          have hk := took_any rb R2 b2 ⟨#[93]⟩ _ H5.out
          rw [show (⟨#[93]⟩ : ByteArray).data.toList = [93] from rfl] at hk
          have HK := Lib.hid hk
          clear hk
          cases hq : dlit [93] R2 with
          | some r2 =>
            rw [hq] at HK
            have HC := Lib.hid (HT.out.close HGOT.out hq)
            clear hq
            go_wp2_with fail
            refine HK.out.mono ?_
            rintro e w6 ⟨rfl, h6, b6⟩
            have H6 : Hid (Dr w6 rb r2 b2) := Lib.hid h6
            have HO6 := Lib.hid (owns_but HO5.out b6 H5.out (by decide))
            have B6 : Hid (But B rb w w6) := Lib.hid (B5.out.trans (b6.mono hBs5))
            clear h6 b6 HK
            go_wp2_with fail
            go_ret
            have hke := HK5.out
            rw [HB.out] at B6 HO6
            refine ⟨B6.out, ?_⟩
            rcases HC.out with ⟨hb, ho⟩ | ⟨hb, ho, hl⟩
            · rw [hb] at H6
              rw [hke] at HO6 ⊢
              exact .inl ⟨A ++ [t], r2, ho, ⟨_, _, rfl, HO6.out⟩, H6.out⟩
            · rw [hb] at H6
              exact .inr ⟨ho, _, _, _, r2, rfl, H6.out, hl⟩
          | none =>
            rw [hq] at HK
            have HC := Lib.hid (HT.out.step HGOT.out hq)
            clear hq
            go_wp2_with fail
            refine HK.out.mono ?_
            rintro e w6 ⟨rfl, h6, b6⟩
            have H6 : Hid (Dr w6 rb R2 b2) := Lib.hid h6
            have HO6 := Lib.hid (owns_but HO5.out b6 H5.out (by decide))
            have B6 : Hid (But B rb w w6) := Lib.hid (B5.out.trans (b6.mono hBs5))
            have hBs6 : B ≤ w6.heap.size := Nat.le_trans hBs5 b6.size
            clear h6 b6 HK H5 HO5 B5 hBs5
            go_wp2_with fail
            refine (skip_any rb R2 b2 ⟨#[44]⟩ _ H6.out).mono ?_
            rintro e w7 ⟨rfl, h7, b7⟩
            have H7 : Hid (Dr w7 rb ((dlit [44] R2).getD R2) (b2 || (dlit [44] R2).isNone)) := Lib.hid h7
            have HO7 := Lib.hid (owns_but HO6.out b7 H6.out (by decide))
            have B7 : Hid (But B rb w w7) := Lib.hid (B6.out.trans (b7.mono hBs6))
            clear h7 b7 H6 HO6 B6
            go_wp2_with fail
            go_roundg (tm ((dlit [44] R2).getD R2) (b2 || (dlit [44] R2).isNone))
            case rel => exact ⟨A ++ [t], _, _, Lib.hid rfl, by have := HO7.out; rw [HK5.out] at this ⊢; exact this, H7.out, B7.out, Lib.hid HC.out.1⟩
            case measure => have := HG.out; have := HC.out.2; omega
        · have h32' : (k : Int) > 32 := by omega
          have HSH := Lib.hid (take_long t (by rw [← HKL.out]; exact h32))
          have H5 := H3
          have B5 := B3
          have hBs5 := hBs3
          have HO5 : Hid (w3.ownsRow B 9 1 (.slice va k vc) k (((A ++ [t]).take 33).map sv)) := Lib.hid (by rw [HSH.out]; exact HO3.out)
          have HK5 : Hid (k = ((A ++ [t]).take 33).length) := Lib.hid (by rw [HSH.out]; exact HKL.out)
          go_upto_region 9 with fail
          clear H3 B3 HO3 hBs3
          have hk := took_any rb R2 b2 ⟨#[93]⟩ _ H5.out
          rw [show (⟨#[93]⟩ : ByteArray).data.toList = [93] from rfl] at hk
          have HK := Lib.hid hk
          clear hk
          cases hq : dlit [93] R2 with
          | some r2 =>
            rw [hq] at HK
            have HC := Lib.hid (HT.out.close HGOT.out hq)
            clear hq
            go_wp2_with fail
            refine HK.out.mono ?_
            rintro e w6 ⟨rfl, h6, b6⟩
            have H6 : Hid (Dr w6 rb r2 b2) := Lib.hid h6
            have HO6 := Lib.hid (owns_but HO5.out b6 H5.out (by decide))
            have B6 : Hid (But B rb w w6) := Lib.hid (B5.out.trans (b6.mono hBs5))
            clear h6 b6 HK
            go_wp2_with fail
            go_ret
            have hke := HK5.out
            rw [HB.out] at B6 HO6
            refine ⟨B6.out, ?_⟩
            rcases HC.out with ⟨hb, ho⟩ | ⟨hb, ho, hl⟩
            · rw [hb] at H6
              rw [hke] at HO6 ⊢
              exact .inl ⟨A ++ [t], r2, ho, ⟨_, _, rfl, HO6.out⟩, H6.out⟩
            · rw [hb] at H6
              exact .inr ⟨ho, _, _, _, r2, rfl, H6.out, hl⟩
          | none =>
            rw [hq] at HK
            have HC := Lib.hid (HT.out.step HGOT.out hq)
            clear hq
            go_wp2_with fail
            refine HK.out.mono ?_
            rintro e w6 ⟨rfl, h6, b6⟩
            have H6 : Hid (Dr w6 rb R2 b2) := Lib.hid h6
            have HO6 := Lib.hid (owns_but HO5.out b6 H5.out (by decide))
            have B6 : Hid (But B rb w w6) := Lib.hid (B5.out.trans (b6.mono hBs5))
            have hBs6 : B ≤ w6.heap.size := Nat.le_trans hBs5 b6.size
            clear h6 b6 HK H5 HO5 B5 hBs5
            go_wp2_with fail
            refine (skip_any rb R2 b2 ⟨#[44]⟩ _ H6.out).mono ?_
            rintro e w7 ⟨rfl, h7, b7⟩
            have H7 : Hid (Dr w7 rb ((dlit [44] R2).getD R2) (b2 || (dlit [44] R2).isNone)) := Lib.hid h7
            have HO7 := Lib.hid (owns_but HO6.out b7 H6.out (by decide))
            have B7 : Hid (But B rb w w7) := Lib.hid (B6.out.trans (b7.mono hBs6))
            clear h7 b7 H6 HO6 B6
            go_wp2_with fail
            go_roundg (tm ((dlit [44] R2).getD R2) (b2 || (dlit [44] R2).isNone))
            case rel => exact ⟨A ++ [t], _, _, Lib.hid rfl, by have := HO7.out; rw [HK5.out] at this ⊢; exact this, H7.out, B7.out, Lib.hid HC.out.1⟩
            case measure => have := HG.out; have := HC.out.2; omega
end Go.Proofs.Ytokbakpbhpknfaa

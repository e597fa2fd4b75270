/-
  The reader of a derivation's text: a text in quotes. Condition: what is to be read is no longer than 10^9 bytes.
-/
import Derived.Test.YtokbakpbhpknfaaDvRdN
import Derived.Test.YtokbakpbhpknfaaDvRow
import Derived.Deep.LoopGhost
import Derived.Deep.QuietTactic
import Derived.Deep.AppendLies
import Derived.Deep.MidRow
import Derived.BigQuiet
namespace Go.Proofs.Ytokbakpbhpknfaa
open Go.RowKit
set_option linter.unusedVariables false

/-- Behind a text: what was read, or bad. -/
def TxtP (rb n : Nat) (w : World) (o : Option (List UInt8 × List UInt8)) (e : Ending) (w' : World) : Prop :=
  But w.heap.size rb w w' ∧ ((∃ t r, o = some (t, r) ∧ e = .returned (.string ⟨t.toArray⟩) ∧ Dr w' rb r false) ∨ (o = none ∧ ∃ s R', e = .returned (.string s) ∧ Dr w' rb R' true ∧ R'.length ≤ n))

/-- A text on its way. -/
structure TInv (o : Option (List UInt8 × List UInt8)) (n : Nat) (A R : List UInt8) (b : Bool) : Prop where
  most : A.length + R.length ≤ n + 1
  room : b = false → A.length + R.length ≤ n
  rest : R.length ≤ n
  bad : b = true → o = none
  good : b = false → o = preT A (unqL R)
def tm (R : List UInt8) (b : Bool) : Nat := 2 * R.length + (if b then 0 else 1)
theorem TInv.stop {o : Option (List UInt8 × List UInt8)} {n : Nat} {A R r : List UInt8} (h : TInv o n A R false) (hr : dlit [34] R = some r) : o = some (A, r) := by
  rw [h.good rfl, unq_done hr, preT_some, List.append_nil]
theorem TInv.step {o : Option (List UInt8 × List UInt8)} {n : Nat} {A R : List UInt8} (h : TInv o n A R false) (hr : dlit [34] R = none) :
    TInv o n (A ++ [(nextP R).1]) (nextP R).2.1 (nextP R).2.2 ∧ tm (nextP R).2.1 (nextP R).2.2 < tm R false := by
  have hl := nextP_len R
  have hm := h.room rfl
  cases hb : (nextP R).2.2 with
  | true =>
    refine ⟨⟨by simp; omega, (fun e => by cases e), by have := h.rest; omega, (fun _ => ?_), (fun e => by cases e)⟩, by unfold tm; simp; omega⟩
    rw [h.good rfl, unq_bad hr hb, preT_none]
  | false =>
    obtain ⟨h1, h2⟩ := unq_step hr hb
    refine ⟨⟨by simp; omega, (fun _ => by simp; omega), by have := h.rest; omega, (fun e => by cases e), (fun _ => ?_)⟩, by unfold tm; simp; omega⟩
    rw [h.good rfl, h1, preT_cons]

set_option maxRecDepth 100000 in
set_option maxHeartbeats 8000000 in
theorem text_any (rb : Nat) (R : List UInt8) (bad : Bool) (w : World) (h : Dr w rb R bad) (h9 : R.length ≤ 1000000000) :
    Calls Try.prog 39 #[.pointer (some ⟨rb, 0, none⟩)] w (TxtP rb R.length w (if bad then none else dtxt R)) := by
  obtain ⟨i0, hi, hz0, hz1, hz2⟩ := info_u8_parts
  have HI := Lib.hid hi
  have HZ0 := Lib.hid hz0
  have HZ1 := Lib.hid hz1
  have HZ2 := Lib.hid hz2
  clear hi hz0 hz1 hz2
  obtain ⟨o, ho⟩ : ∃ o, o = if bad then none else dtxt R := ⟨_, rfl⟩
  obtain ⟨n, hn⟩ : ∃ n, n = R.length := ⟨_, rfl⟩
  rw [← ho, ← hn]
  have hT : TInv o n [] ((dlit [34] R).getD R) (bad || (dlit [34] R).isNone) := by
    cases bad with
    | true =>
      have hle : ((dlit [34] R).getD R).length ≤ n := by
        cases hd : dlit [34] R with
        | none => rw [hn]; exact Nat.le_refl _
        | some r => have := dlit_len hd; simp; omega
      exact ⟨by simp; omega, (fun e => by cases e), hle, (fun _ => ho), (fun e => by cases e)⟩
    | false =>
      rw [if_neg (by simp)] at ho
      cases hd : dlit [34] R with
      | none => exact ⟨by simp; omega, (fun e => by cases e), by simp; omega, (fun _ => by rw [ho]; unfold dtxt; rw [hd]), (fun e => by cases e)⟩
      | some r =>
        have := dlit_len hd
        exact ⟨by simp; omega, (fun _ => by simp; omega), by simp; omega, (fun e => by cases e), (fun _ => by rw [ho]; unfold dtxt; rw [hd]; exact (preT_nil _).symm)⟩
  have H := Lib.hid h
  have HLT : rb < w.heap.size := h.lt
  rw [← hn] at h9
  clear h ho hn
  obtain ⟨B, hB⟩ : ∃ B, B = w.heap.size := ⟨_, rfl⟩
  have HB := Lib.hid hB
  rw [← hB] at HLT
  clear hB
  go_enter Try.func39, Try.ntmps39
  go_wp2_with fail
  refine (skip_any rb R bad ⟨#[34]⟩ _ H.out).mono ?_
  rintro e w1 ⟨rfl, h1, b1⟩
  have h1 : Dr w1 rb ((dlit [34] R).getD R) (bad || (dlit [34] R).isNone) := h1
  generalize (dlit [34] R).getD R = R1 at h1 hT
  generalize (bad || (dlit [34] R).isNone) = bad1 at h1 hT
  rw [← HB.out] at b1
  have H1 := Lib.hid h1
  have B1 := Lib.hid b1
  have HT := Lib.hid hT
  clear h1 b1 hT H
  go_wp2_with fail
  go_loopg [3] (tm R1 bad1) (fun gk v wr => ∃ A R' b', Hid (gk = tm R' b') ∧ wr.ownsRow B 5 1 v A.length (A.map bv) ∧ Dr wr rb R' b' ∧ But B rb w wr ∧ Hid (TInv o n A R' b'))
  case atStart => exact ⟨[], R1, bad1, Lib.hid rfl, World.ownsRow_nil _ _ _ _, H1.out, B1.out, HT⟩
  case round =>
    clear H1 B1 HT
    obtain ⟨A, R', b', HG, how, hd, hb, HT⟩ := hrel
    obtain ⟨va, vc, rfl⟩ := row_form how
    have hcv := convert_own how
    have HO := Lib.hid how
    have HD := Lib.hid hd
    have BB := Lib.hid hb
    have hBs : B ≤ wr.heap.size := by have := hb.size; have := HB.out; omega
    have c1 := Has.cellAt hd (i := 1) rfl
    clear how hd hb
    cases b' with
    | true =>
      go_wp2_with fail
      go_ret
      rw [HB.out] at BB
      exact ⟨BB.out, .inr ⟨HT.out.bad rfl, _, _, rfl, HD.out, HT.out.rest⟩⟩
    | false =>
      have hk := took_any rb R' false ⟨#[34]⟩ wr HD.out
      rw [show (⟨#[34]⟩ : ByteArray).data.toList = [34] from rfl] at hk
      have HK := Lib.hid hk
      clear hk
      cases hq : dlit [34] R' with
      | some r =>
        rw [hq] at HK
        have HS := Lib.hid (HT.out.stop hq)
        clear hq
        go_wp2_with fail
        refine HK.out.mono ?_
        rintro e w2 ⟨rfl, h2, b2⟩
        have H2 : Hid (Dr w2 rb r false) := Lib.hid h2
        have how2 := owns_but HO.out b2 HD.out (by decide)
        have hcv2 := convert_own how2
        have B2 : Hid (But B rb w w2) := Lib.hid (BB.out.trans (b2.mono hBs))
        clear h2 b2 HK hcv how2 c1
        go_wp2_with fail
        go_ret
        rw [HB.out] at B2
        exact ⟨B2.out, .inl ⟨A, r, HS.out, rfl, H2.out⟩⟩
      | none =>
        rw [hq] at HK
        have HS := Lib.hid (HT.out.step hq)
        clear hq
        go_wp2_with fail
        refine HK.out.mono ?_
        rintro e w2 ⟨rfl, h2, b2⟩
        have H2 : Hid (Dr w2 rb R' false) := Lib.hid h2
        have HO2 := Lib.hid (owns_but HO.out b2 HD.out (by decide))
        have B2 : Hid (But B rb w w2) := Lib.hid (BB.out.trans (b2.mono hBs))
        have hBs2 : B ≤ w2.heap.size := Nat.le_trans hBs b2.size
        clear h2 b2 HK hcv c1 HO HD BB hBs
        go_wp2_with fail
        refine (next_any rb R' false _ H2.out).mono ?_
        rintro e w3 ⟨rfl, h3, b3⟩
        obtain ⟨c, hc⟩ : ∃ c, c = (nextP R').1 := ⟨_, rfl⟩
        rw [← hc] at HS ⊢
        have H3 : Hid (Dr w3 rb (nextP R').2.1 (nextP R').2.2) := Lib.hid (by simpa using h3)
        have HO3 := Lib.hid (owns_but HO2.out b3 H2.out (by decide))
        have B3 : Hid (But B rb w w3) := Lib.hid (B2.out.trans (b3.mono hBs2))
        have hBs3 : B ≤ w3.heap.size := Nat.le_trans hBs2 b3.size
        have hA : A.length ≤ 1000000001 := by have := HT.out.most; omega
        clear h3 b3 HO2 B2 H2 hc hBs2
        go_wp2_with (at_builtin; go_must (refine wpList_append_lies _ rfl (.tmp 16) (.tmp 19) 38 rfl B 5 i0 (.int .u8 0) 1 1 Try.underlying38 HI.out HZ0.out HZ1.out HZ2.out rfl (by omega) _ A.length (A.map bv) rfl (HO3.out.alloc _) ⟨w3.heap.size, 0, none⟩ 1 1 [.int .u8 (c.toNat : Int)] rfl rfl ?c1 ?c2 ?c3 ?c4 ?c5 ?c6 _ rfl ?c7))
        case c1 => intro j u hj; rw [Addr.add_mid]; exact (Has.new w3 [.int .u8 (c.toNat : Int)] _).cellAt (by rw [Nat.zero_add]; exact hj)
        case c2 => intro u hu; simp at hu; subst hu; rfl
        case c3 => omega
        case c4 => unfold maxLen; omega
        case c5 => omega
        case c6 => simp; omega
        intro g cap2 w5 hown3 hgrow2 hlo2 hhi2
        have H5 : Hid (Dr w5 rb (nextP R').2.1 (nextP R').2.2) := Lib.hid (has_grown (H3.out.alloc _) (HO3.out.alloc _) (by decide) hgrow2)
        have B5 : Hid (But B rb w w5) := Lib.hid (but_grown (B3.out.alloc hBs3 _) (HO3.out.alloc _) (by simp; omega) hgrow2)
        have HO5 : Hid (w5.ownsRow B 5 1 (.slice (some ⟨g, 0, none⟩) (A.length + 1) cap2) (A ++ [c]).length ((A ++ [c]).map bv)) := Lib.hid (by rw [List.length_append, List.map_append]; exact hown3)
        clear hown3 hgrow2 hlo2 hhi2
        go_wp2_with fail
        go_roundg (tm (nextP R').2.1 (nextP R').2.2)
        case rel => exact ⟨A ++ [c], _, _, Lib.hid rfl, HO5.out, H5.out, B5.out, Lib.hid HS.out.1⟩
        case measure => have := HG.out; have := HS.out.2; omega
end Go.Proofs.Ytokbakpbhpknfaa

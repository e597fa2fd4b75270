/-
  The reference's unlist: the texts in brackets at a place. Condition: the text to be read is no longer than 10^9 bytes.
-/
import Derived.Test.YtokbakpbhpknfaaDvUnquote
namespace Go.Proofs.Ytokbakpbhpknfaa
open Go.RowKit
set_option linter.unusedVariables false

/-- What is still to be told of a list of which A is read. -/
def contL (A : List (List UInt8)) (r : List UInt8) : Option (List (List UInt8) × List UInt8) :=
  match dlit [93] r with
  | some r2 => some (A, r2)
  | none => if A = [] then itemsL r else match dlit [44] r with | none => none | some r2 => preL A (itemsL r2)
theorem contL_end {A : List (List UInt8)} {r r2 : List UInt8} (h : dlit [93] r = some r2) : contL A r = some (A, r2) := by unfold contL; rw [h]
theorem contL_first {r : List UInt8} (h : dlit [93] r = none) : contL [] r = itemsL r := by unfold contL; rw [h]; dsimp only; rw [if_pos rfl]
theorem contL_comma {A : List (List UInt8)} {r : List UInt8} (h : dlit [93] r = none) (hA : A ≠ []) : contL A r = match dlit [44] r with | none => none | some r2 => preL A (itemsL r2) := by unfold contL; rw [h]; dsimp only; rw [if_neg hA]
theorem dlst_cont (R : List UInt8) : dlst R = (dlit [91] R).bind (contL []) := by
  unfold dlst
  cases h : dlit [91] R with
  | none => rfl
  | some r =>
    show _ = contL [] r
    dsimp only
    cases h2 : dlit [93] r with
    | some r2 => rw [contL_end h2]
    | none => rw [contL_first h2]; rfl
theorem items_step {A : List (List UInt8)} {r1 t r' : List UInt8} (h1 : dtxt r1 = some (t, r')) : preL A (itemsL r1) = contL (A ++ [t]) r' := by
  have hne : A ++ [t] ≠ [] := by simp
  cases h2 : dlit [93] r' with
  | some r2 => rw [items_end h1 h2, contL_end h2]; rfl
  | none =>
    rw [contL_comma h2 hne]
    cases h3 : dlit [44] r' with
    | none => rw [items_bad h1 h2 h3]; rfl
    | some r2 => rw [items_more h1 h2 h3]; exact preL_cons A t _
theorem itemsL_bad {r : List UInt8} (h : dtxt r = none) : itemsL r = none := items_none h
def lstO (o : Option (List UInt8)) : Option (List (List UInt8) × List UInt8) := o.bind dlst
theorem lstO_cont (o : Option (List UInt8)) : lstO o = (litO [91] o).bind (contL []) := by
  cases o with
  | none => rfl
  | some r => exact dlst_cont r
theorem contL_suf {A : List (List UInt8)} : ∀ (n : Nat) (r : List UInt8) {l : List (List UInt8)} {r' : List UInt8}, r.length ≤ n → ditems n r = some (l, r') → ∃ q, r = q ++ r'
  | 0, r, l, r', _, h => by cases h
  | n + 1, r, l, r', hn, h => by
    cases h1 : dtxt r with
    | none => rw [ditems_none h1] at h; cases h
    | some p =>
      obtain ⟨t, r1⟩ := p
      obtain ⟨q1, hq1⟩ := dtxt_suf h1
      have hl := dtxt_len h1
      cases h2 : dlit [93] r1 with
      | some r2 =>
        rw [ditems_end h1 h2] at h; simp only [Option.some.injEq, Prod.mk.injEq] at h; obtain ⟨rfl, rfl⟩ := h
        exact ⟨q1 ++ [93], by rw [hq1, dlit_some h2]; simp⟩
      | none =>
        cases h3 : dlit [44] r1 with
        | none => rw [ditems_bad h1 h2 h3] at h; cases h
        | some r2 =>
          rw [ditems_more h1 h2 h3] at h; simp only [Option.map_eq_some_iff, Prod.mk.injEq] at h
          obtain ⟨⟨a, b⟩, h, rfl, rfl⟩ := h
          have := dlit_len h3
          obtain ⟨q, hq⟩ := contL_suf (A := A) n r2 (by omega) h
          exact ⟨q1 ++ 44 :: q, by rw [hq1, dlit_some h3, hq]; simp⟩
theorem dlst_suf {R : List UInt8} {l : List (List UInt8)} {r : List UInt8} (h : dlst R = some (l, r)) : ∃ q, R = q ++ r := by
  unfold dlst at h
  cases h1 : dlit [91] R with
  | none => rw [h1] at h; cases h
  | some x =>
    rw [h1] at h; dsimp only at h
    cases h2 : dlit [93] x with
    | some r2 =>
      rw [h2] at h; simp only [Option.some.injEq, Prod.mk.injEq] at h; obtain ⟨rfl, rfl⟩ := h
      exact ⟨[91, 93], by rw [dlit_some h1, dlit_some h2]; rfl⟩
    | none =>
      rw [h2] at h; dsimp only at h
      obtain ⟨q, hq⟩ := contL_suf (A := []) x.length x (Nat.le_refl _) h
      exact ⟨91 :: q, by rw [dlit_some h1, hq]; rfl⟩
theorem AtR.lst {R : List UInt8} {o : Option (List UInt8)} (h : AtR R o) : AtR R (restO (lstO o)) := by
  intro r hr
  cases o with
  | none => cases hr
  | some x =>
    obtain ⟨⟨t, r2⟩, h2, rfl⟩ := Option.map_eq_some_iff.1 hr
    obtain ⟨q, hq⟩ := dlst_suf (show dlst x = some (t, r2) from h2)
    obtain ⟨q2, hq2⟩ := h x rfl
    exact ⟨q2 ++ q, by rw [hq2, hq]; simp⟩

/-- A list on its way. -/
structure UInv (R : List UInt8) (O : Option (List (List UInt8) × List UInt8)) (A : List (List UInt8)) (o : Option (List UInt8)) : Prop where
  ans : O = o.bind (contL A)
  at_ : AtR R o
  room : ∀ r, o = some r → A.length + r.length ≤ R.length
  most : A.length ≤ R.length + 1
def oM (o : Option (List UInt8)) : Nat := match o with | none => 0 | some r => r.length + 1
theorem UInv.first {R : List UInt8} {o : Option (List UInt8)} (h : AtR R o) : UInv R (lstO o) [] (litO [91] o) :=
  ⟨lstO_cont o, h.litO, fun r hr => by have := (AtR.drop (r := r) (hr ▸ h.litO)).2; simpa using this, Nat.zero_le _⟩
/-- The place ahead of the next text. -/
def nextO (A : List (List UInt8)) (r : List UInt8) : Option (List UInt8) := if A = [] then some r else dlit [44] r
theorem UInv.next {R : List UInt8} {O : Option (List (List UInt8) × List UInt8)} {A : List (List UInt8)} {r : List UInt8} (h : UInv R O A (some r)) : AtR R (nextO A r) := by
  unfold nextO; split
  · exact h.at_
  · exact h.at_.lit
theorem UInv.step {R : List UInt8} {O : Option (List (List UInt8) × List UInt8)} {A : List (List UInt8)} {r : List UInt8} (h : UInv R O A (some r)) (h2 : dlit [93] r = none) :
    UInv R O (A ++ [txtV (txtO (nextO A r))]) (restO (txtO (nextO A r))) ∧ oM (restO (txtO (nextO A r))) < oM (some r) := by
  have hr := h.room r rfl
  have ha : O = contL A r := h.ans
  cases hn : nextO A r with
  | none =>
    refine ⟨⟨?_, (fun r hr => by cases hr), (fun r hr => by cases hr), by simp; omega⟩, by show 0 < r.length + 1; omega⟩
    show O = none
    unfold nextO at hn
    split at hn
    · cases hn
    · rename_i hA
      rw [ha, contL_comma h2 hA, hn]
  | some r1 =>
    have hr1 : r1.length ≤ r.length := by
      unfold nextO at hn
      split at hn
      · cases hn; exact Nat.le_refl _
      · have := dlit_len hn; omega
    have hO : O = preL A (itemsL r1) := by
      unfold nextO at hn
      split at hn
      · rename_i hA
        cases hn
        rw [ha, hA, contL_first h2, preL_nil]
      · rename_i hA
        rw [ha, contL_comma h2 hA, hn]
    cases ht : dtxt r1 with
    | none =>
      rw [show txtO (some r1) = none from ht]
      refine ⟨⟨?_, (fun r hr => by cases hr), (fun r hr => by cases hr), by simp; omega⟩, by show 0 < r.length + 1; omega⟩
      show O = none
      rw [hO, itemsL_bad ht]; rfl
    | some p =>
      obtain ⟨t, r'⟩ := p
      have hl := dtxt_len ht
      rw [show txtO (some r1) = some (t, r') from ht]
      refine ⟨⟨?_, ?_, (fun x hx => ?_), by simp; omega⟩, by show r'.length + 1 < r.length + 1; omega⟩
      · rw [hO, items_step ht]; rfl
      · have := AtR.txt (h.next); rw [hn, show txtO (some r1) = some (t, r') from ht] at this; exact this
      · have hx : x = r' := by cases hx; rfl
        rw [hx, List.length_append]; show A.length + 1 + r'.length ≤ _; omega
/-- What unlist tells. -/
def ULP (n : Nat) (O : Option (List (List UInt8) × List UInt8)) (w : World) (e : Ending) (w' : World) : Prop :=
  ∃ (a : Option Addr) (c : Nat) (l : List (List UInt8)), e = .returned (.tuple #[.slice a l.length c, .int .i64 (plc n (restO O))]) ∧ (∀ l' r, O = some (l', r) → l = l') ∧
    w'.ownsRow w.heap.size 9 1 (.slice a l.length c) l.length (l.map sv) ∧ Below w.heap.size w w'
theorem plc_some {n : Nat} {r : List UInt8} : ∃ k : Nat, plc n (some r) = (k : Int) := ⟨_, rfl⟩

set_option maxRecDepth 100000 in
set_option maxHeartbeats 16000000 in
theorem unlist_any (s : ByteArray) (o : Option (List UInt8)) (w : World) (hs : s.size ≤ 1000000000) (ho : AtR s.data.toList o) :
    Calls Try.prog 29 #[.string s, .int .i64 (plc s.size o)] w (ULP s.size (lstO o) w) := by
  have hsl : s.data.toList.length = s.size := by simp
  obtain ⟨i0, hi, hz0, hz1, hz2⟩ := info_str_parts
  have HI := Lib.hid hi
  have HZ0 := Lib.hid hz0
  have HZ1 := Lib.hid hz1
  have HZ2 := Lib.hid hz2
  clear hi hz0 hz1 hz2
  have hU := UInv.first ho
  have hk := lit_any s ⟨#[91]⟩ o w hs (by decide) ho
  rw [show (⟨#[91]⟩ : ByteArray).data.toList = [91] from rfl] at hk
  obtain ⟨o1, ho1⟩ : ∃ o1, o1 = litO [91] o := ⟨_, rfl⟩
  obtain ⟨O, hO⟩ : ∃ O, O = lstO o := ⟨_, rfl⟩
  obtain ⟨P, hP⟩ : ∃ P, P = plc s.size o := ⟨_, rfl⟩
  obtain ⟨P1, hP1⟩ : ∃ P, P = plc s.size o1 := ⟨_, rfl⟩
  rw [← ho1, ← hP, ← hP1] at hk
  rw [← hO, ← hP]
  rw [← ho1, ← hO] at hU
  obtain ⟨B, hB⟩ : ∃ B, B = w.heap.size := ⟨_, rfl⟩
  have HB := Lib.hid hB
  have HK := Lib.hid hk
  have HU := Lib.hid hU
  have HSL := Lib.hid hsl
  have HP1 := Lib.hid hP1
  clear hk hU ho1 hO hP hB hsl hP1 ho
  go_enter Try.func29, Try.ntmps29
  go_wp2_with fail
  refine HK.out.mono ?_
  rintro e w1 ⟨rfl, rfl⟩
  clear HK
  go_wp2_with fail
  go_loopg [1, 6] (oM o1) (fun gk v1 v6 wr => ∃ (o2 : Option (List UInt8)) (A : List (List UInt8)), Hid (gk = oM o2) ∧ v1 = .int .i64 (plc s.size o2) ∧ Hid (UInv s.data.toList O A o2) ∧ wr.ownsRow B 9 1 v6 A.length (A.map sv) ∧ Below B w wr)
  case atStart => exact ⟨o1, [], Lib.hid rfl, by rw [HP1.out], HU, World.ownsRow_nil _ _ _ _, Below.refl _ _⟩
  case round =>
    clear HP1 HU
    obtain ⟨o2, A, HG, rfl, HI2, how, hb⟩ := hrel
    obtain ⟨va, vc, rfl⟩ := row_form how
    have HO := Lib.hid how
    have HBB := Lib.hid hb
    have hBs : B ≤ wr.heap.size := by have := hb.size; have := HB.out; omega
    have hAm : A.length ≤ 1000000001 := by have := HI2.out.most; have := HSL.out; omega
    clear how hb
    have hk93 := lit_any s ⟨#[93]⟩ o2 wr hs (by decide) HI2.out.at_
    rw [show (⟨#[93]⟩ : ByteArray).data.toList = [93] from rfl] at hk93
    cases o2 with
    | none =>
      have HF : Hid (O = none) := Lib.hid HI2.out.ans
      rw [show plc s.size none = -1 from rfl, show plc s.size (litO [93] none) = -1 from rfl] at hk93
      rw [show plc s.size none = -1 from rfl]
      have HK := Lib.hid hk93
      clear hk93
      go_wp2_with fail
      refine HK.out.mono ?_
      rintro e w2 ⟨rfl, rfl⟩
      go_wp2_with fail
      go_ret2
      exact ⟨va, vc, A, by rw [HF.out]; rfl, (fun l' r h => by rw [HF.out] at h; cases h), by rw [← HB.out]; exact HO.out, by rw [← HB.out]; exact HBB.out⟩
    | some r =>
      obtain ⟨p, hp⟩ : ∃ p : Nat, plc s.size (some r) = (p : Int) := plc_some
      rw [hp] at hk93 ⊢
      have hp0 : (p : Int) ≥ 0 := by omega
      cases h93 : dlit [93] r with
      | some r2 =>
        have HF : Hid (O = some (A, r2)) := Lib.hid (by have := HI2.out.ans; rw [this]; exact contL_end h93)
        obtain ⟨p2, hp2⟩ : ∃ p : Nat, plc s.size (some r2) = (p : Int) := plc_some
        rw [show litO [93] (some r) = some r2 from h93, hp2] at hk93
        have hp2n : ¬ (p2 : Int) < 0 := by omega
        have HP2 := Lib.hid hp2
        have HK := Lib.hid hk93
        clear hk93 hp hp2 h93
        go_wp2_with fail
        refine HK.out.mono ?_
        rintro e w2 ⟨rfl, rfl⟩
        go_wp2_with fail
        refine HK.out.mono ?_
        rintro e w3 ⟨rfl, rfl⟩
        go_wp2_with fail
        go_ret2
        refine ⟨va, vc, A, ?_, (fun l' r h => by rw [HF.out] at h; cases h; rfl), by rw [← HB.out]; exact HO.out, by rw [← HB.out]; exact HBB.out⟩
        rw [HF.out, show restO (some (A, r2)) = some r2 from rfl, HP2.out]; rfl
      | none =>
        rw [show litO [93] (some r) = none from h93, show plc s.size none = -1 from rfl] at hk93
        obtain ⟨hst, hms⟩ := HI2.out.step h93
        have hnx := HI2.out.next
        have hkq := fun w => unquote_any s (nextO A r) w hs hnx
        obtain ⟨q, hq⟩ : ∃ q, q = txtO (nextO A r) := ⟨_, rfl⟩
        rw [← hq] at hst hms hkq
        have hkc : A ≠ [] → ∀ w, Calls Try.prog 27 #[.string s, .int .i64 (p : Int), .string ⟨#[44]⟩] w fun e w' => e = .returned (.int .i64 (plc s.size (nextO A r))) ∧ w = w' := by
          intro hA w
          have h := lit_any s ⟨#[44]⟩ (some r) w hs (by decide) HI2.out.at_
          rw [hp] at h
          rw [show nextO A r = dlit [44] r by unfold nextO; rw [if_neg hA]]
          exact h
        have hpn : A = [] → plc s.size (nextO A r) = (p : Int) := by intro hA; unfold nextO; rw [if_pos hA]; exact hp
        obtain ⟨o3, ho3⟩ : ∃ o3, o3 = nextO A r := ⟨_, rfl⟩
        rw [← ho3] at hkq hkc hpn
        obtain ⟨P3, hP3⟩ : ∃ P3, P3 = plc s.size o3 := ⟨_, rfl⟩
        rw [← hP3] at hkq hkc hpn
        obtain ⟨X, hX⟩ : ∃ X, X = bs (txtV q) := ⟨_, rfl⟩
        obtain ⟨P4, hP4⟩ : ∃ P4, P4 = plc s.size (restO q) := ⟨_, rfl⟩
        have hkq : ∀ w, Calls Try.prog 28 #[.string s, .int .i64 P3] w fun e w' => e = .returned (.tuple #[.string X, .int .i64 P4]) ∧ Below w.heap.size w w' := by
          intro w; rw [hX, hP4]; exact hkq w
        have HK := Lib.hid hk93
        have HKC := Lib.hid hkc
        have HKQ := Lib.hid hkq
        have HST := Lib.hid hst
        have HMS := Lib.hid hms
        have HX := Lib.hid hX
        have HP4 := Lib.hid hP4
        have HPN := Lib.hid hpn
        have HGM := HG
        clear hk93 hst hms hnx hq hkc hpn ho3 hP3 hX hP4 hkq h93 hp
        by_cases hA : A = []
        · have HPE := Lib.hid (HPN.out hA).symm
          subst hA
          have HO : Hid (wr.ownsRow B 9 1 (.slice va 0 vc) 0 []) := Lib.hid HO.out
          go_wp2_with fail
          refine HK.out.mono ?_
          rintro e w2 ⟨rfl, rfl⟩
          go_upto_region 7 with fail
          rw [HPE.out]
          clear HK HKC HPN
          go_wp2_with fail
          refine (HKQ.out _).mono ?_
          rintro e w4 ⟨rfl, b4⟩
          have HO4 := Lib.hid (HO.out.kept (row := none) (w' := w4) ⟨b4.os, b4.tape, b4.output, b4.size, fun k hk _ => b4.block k hk⟩ (by
            cases hv : (Value.slice va 0 vc).ownBlock with
            | none => exact .inl rfl
            | some g => exact .inr (by simp)))
          have B4 : Hid (Below B w w4) := Lib.hid (HBB.out.trans (b4.mono hBs))
          have hBs4 : B ≤ w4.heap.size := Nat.le_trans hBs b4.size
          clear b4 HO HBB hBs HKQ
          go_wp2_with (at_builtin; go_must (refine wpList_append_lies _ rfl (.tmp 31) (.tmp 33) 22 rfl B 9 i0 (.string ByteArray.empty) 1 16 Try.underlying22 HI.out HZ0.out HZ1.out HZ2.out rfl (by omega) _ 0 [] rfl (HO4.out.alloc _) ⟨w4.heap.size, 0, none⟩ 1 1 [.string X] rfl rfl ?a1 ?a2 ?a3 ?a4 ?a5 ?a6 _ rfl ?a7))
          case a1 => intro j u hj; rw [Addr.add_mid]; exact (Has.new w4 [.string X] _).cellAt (by rw [Nat.zero_add]; exact hj)
          case a2 => intro u hu; simp at hu; subst hu; rfl
          case a3 => omega
          case a4 => unfold maxLen; omega
          case a5 => omega
          case a6 => simp; omega
          intro g cap2 w5 hown3 hgrow2 hlo2 hhi2
          have B5 : Hid (Below B w w5) := Lib.hid ((B4.out.alloc hBs4 _).grown hgrow2 (by simp; omega) (fun k hk => (HO4.out.lt k hk).1))
          have HO5 : Hid (w5.ownsRow B 9 1 (.slice (some ⟨g, 0, none⟩) 1 cap2) ([] ++ [txtV q]).length (([] ++ [txtV q] : List (List UInt8)).map sv)) := Lib.hid (by
            show w5.ownsRow B _ 1 _ _ [Value.string (bs (txtV q))]
            rw [← HX.out]; first | exact hown3 | (simpa using hown3))
          clear hown3 hgrow2 hlo2 hhi2
          go_wp2_with fail
          go_roundg (oM (restO q))
          case rel => exact ⟨restO q, [] ++ [txtV q], Lib.hid rfl, by rw [HP4.out], HST, HO5.out, B5.out⟩
          case measure => have h1 := HG.out; have h2 := HMS.out; rw [h1]; exact h2
        · have hl0 : (A.length : Int) > 0 := by
            have : A.length ≠ 0 := fun e => hA (List.eq_nil_of_length_eq_zero e)
            omega
          have hl0' : 0 < A.length := by omega
          have HKC2 := Lib.hid (HKC.out hA)
          clear hA
          go_wp2_with fail
          refine HK.out.mono ?_
          rintro e w2 ⟨rfl, rfl⟩
          go_wp2_with fail
          refine (HKC2.out _).mono ?_
          rintro e w2 ⟨rfl, rfl⟩
          go_upto_region 7 with fail
          clear HK HKC HPN hl0
          go_wp2_with fail
          refine (HKQ.out _).mono ?_
          rintro e w4 ⟨rfl, b4⟩
          have HO4 := Lib.hid (HO.out.kept (row := none) (w' := w4) ⟨b4.os, b4.tape, b4.output, b4.size, fun k hk _ => b4.block k hk⟩ (by
            cases hv : (Value.slice va A.length vc).ownBlock with
            | none => exact .inl rfl
            | some g => exact .inr (by simp)))
          have B4 : Hid (Below B w w4) := Lib.hid (HBB.out.trans (b4.mono hBs))
          have hBs4 : B ≤ w4.heap.size := Nat.le_trans hBs b4.size
          clear b4 HO HBB hBs HKQ
          obtain ⟨m, hm⟩ : ∃ m, m = A.length := ⟨_, rfl⟩
          rw [← hm] at HO4 hAm ⊢
          have HM := Lib.hid hm
          clear hm hl0'
          go_wp2_with (at_builtin; go_must (refine wpList_append_lies _ rfl (.tmp 31) (.tmp 33) 22 rfl B 9 i0 (.string ByteArray.empty) 1 16 Try.underlying22 HI.out HZ0.out HZ1.out HZ2.out rfl (by omega) _ m (A.map sv) rfl (HO4.out.alloc _) ⟨w4.heap.size, 0, none⟩ 1 1 [.string X] rfl rfl ?b1 ?b2 ?b3 ?b4 ?b5 ?b6 _ rfl ?b7))
          case b1 => intro j u hj; rw [Addr.add_mid]; exact (Has.new w4 [.string X] _).cellAt (by rw [Nat.zero_add]; exact hj)
          case b2 => intro u hu; simp at hu; subst hu; rfl
          case b3 => omega
          case b4 => unfold maxLen; omega
          case b5 => omega
          case b6 => simp; omega
          intro g cap2 w5 hown3 hgrow2 hlo2 hhi2
          have B5 : Hid (Below B w w5) := Lib.hid ((B4.out.alloc hBs4 _).grown hgrow2 (by simp; omega) (fun k hk => (HO4.out.lt k hk).1))
          have HO5 : Hid (w5.ownsRow B 9 1 (.slice (some ⟨g, 0, none⟩) (m + 1) cap2) (A ++ [txtV q]).length ((A ++ [txtV q]).map sv)) := Lib.hid (by
            rw [List.length_append, List.map_append, ← HM.out]
            show w5.ownsRow B _ 1 _ _ (_ ++ [Value.string (bs (txtV q))])
            rw [← HX.out]; first | exact hown3 | (simpa using hown3))
          clear hown3 hgrow2 hlo2 hhi2
          go_wp2_with fail
          go_roundg (oM (restO q))
          case rel => exact ⟨restO q, A ++ [txtV q], Lib.hid rfl, by rw [HP4.out], HST, HO5.out, B5.out⟩
          case measure => have h1 := HG.out; have h2 := HMS.out; rw [h1]; exact h2
end Go.Proofs.Ytokbakpbhpknfaa

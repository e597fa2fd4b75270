/-
  The reference's unquote: the text in quotes at a place. Condition: the text to be read is no longer than 10^9 bytes.
-/
import Derived.Test.YtokbakpbhpknfaaDvLit
import Derived.Test.YtokbakpbhpknfaaDvRQuote
namespace Go.Proofs.Ytokbakpbhpknfaa
open Go.RowKit
set_option linter.unusedVariables false

theorem unqL_suf : ∀ (n : Nat) (R : List UInt8) {t r : List UInt8}, R.length ≤ n → unqL R = some (t, r) → ∃ q, R = q ++ r
  | _, [], t, r, _, h => by cases h
  | 0, c :: R, t, r, hn, h => by simp at hn
  | n + 1, c :: R, t, r, hn, h => by
    simp only [List.length_cons] at hn
    by_cases h1 : c = 34
    · subst h1; rw [unqL_end] at h; simp only [Option.some.injEq, Prod.mk.injEq] at h; obtain ⟨rfl, rfl⟩ := h; exact ⟨[34], rfl⟩
    · by_cases h2 : c = 92
      · subst h2
        cases R with
        | nil => rw [unqL_esc_nil] at h; cases h
        | cons d R =>
          rw [unqL_esc] at h
          cases hm : dmean d with
          | none => rw [hm] at h; cases h
          | some m =>
            rw [hm] at h; simp only [Option.map_eq_some_iff, Prod.mk.injEq] at h
            obtain ⟨⟨a, b⟩, h, rfl, rfl⟩ := h
            obtain ⟨q, hq⟩ := unqL_suf n R (by simp only [List.length_cons] at hn; omega) h
            exact ⟨92 :: d :: q, by rw [hq]; rfl⟩
      · rw [unqL_self R h1 h2] at h
        simp only [Option.map_eq_some_iff, Prod.mk.injEq] at h
        obtain ⟨⟨a, b⟩, h, rfl, rfl⟩ := h
        obtain ⟨q, hq⟩ := unqL_suf n R (by omega) h
        exact ⟨c :: q, by rw [hq]; rfl⟩
theorem dtxt_suf {R t r : List UInt8} (h : dtxt R = some (t, r)) : ∃ q, R = q ++ r := by
  unfold dtxt at h
  cases hl : dlit [34] R with
  | none => rw [hl] at h; cases h
  | some x =>
    rw [hl] at h
    obtain ⟨q, hq⟩ := unqL_suf _ x (Nat.le_refl _) h
    exact ⟨34 :: q, by rw [dlit_some hl, hq]; rfl⟩
def txtO (o : Option (List UInt8)) : Option (List UInt8 × List UInt8) := o.bind dtxt
def txtV (o : Option (List UInt8 × List UInt8)) : List UInt8 := match o with | none => [] | some p => p.1
def restO {α : Type} (o : Option (α × List UInt8)) : Option (List UInt8) := o.map (·.2)
theorem AtR.txt {R : List UInt8} {o : Option (List UInt8)} (h : AtR R o) : AtR R (restO (txtO o)) := by
  intro r hr
  cases o with
  | none => cases hr
  | some x =>
    obtain ⟨⟨t, r2⟩, h2, rfl⟩ := Option.map_eq_some_iff.1 hr
    obtain ⟨q, hq⟩ := dtxt_suf (show dtxt x = some (t, r2) from h2)
    obtain ⟨q2, hq2⟩ := h x rfl
    exact ⟨q2 ++ q, by rw [hq2, hq]; simp⟩
/-- What unquote tells. -/
def uqV (n : Nat) (o : Option (List UInt8 × List UInt8)) : Value := .tuple #[.string (bs (txtV o)), .int .i64 (plc n (restO o))]
theorem uqV_none (n : Nat) : uqV n none = .tuple #[.string ⟨#[]⟩, .int .i64 (-1)] := rfl
theorem uqV_some (n i : Nat) (A R : List UInt8) (hR : R.length = n) (hi : i ≤ n) : uqV n (some (A, R.drop i)) = .tuple #[.string (bs A), .int .i64 (i : Int)] := by
  show Value.tuple #[.string (bs A), .int .i64 ((n - (R.drop i).length : Nat) : Int)] = _
  rw [List.length_drop, hR, show n - (n - i) = i by omega]
theorem drop_at {R : List UInt8} {i : Nat} (h : i < R.length) : R.drop i = R.getD i 0 :: R.drop (i + 1) := by
  rw [List.drop_eq_getElem_cons h, List.getD_eq_getElem?_getD, List.getElem?_eq_getElem h]; rfl
theorem drop_end {R : List UInt8} {i : Nat} (h : ¬ i < R.length) : R.drop i = [] := List.drop_eq_nil_of_le (by omega)
theorem byte_ne {c b : UInt8} (h : c ≠ b) : ((c.toNat : Int) == (b.toNat : Int)) = false := by
  rw [beq_eq_false_iff_ne]; intro e; exact h (UInt8.toNat_inj.1 (by omega))

set_option maxRecDepth 100000 in
set_option maxHeartbeats 16000000 in
theorem unquote_any (s : ByteArray) (o : Option (List UInt8)) (w : World) (hs : s.size ≤ 1000000000) (ho : AtR s.data.toList o) :
    Calls Try.prog 28 #[.string s, .int .i64 (plc s.size o)] w fun e w' => e = .returned (uqV s.size (txtO o)) ∧ Below w.heap.size w w' := by
  have hsl : s.data.toList.length = s.size := by simp
  cases o with
  | none =>
    rw [show plc s.size none = -1 from rfl, show txtO none = none from rfl, uqV_none]
    go_enter Try.func28, Try.ntmps28
    go_wp2_with fail
    go_ret2
    exact ⟨rfl, Below.refl _ _⟩
  | some r =>
    obtain ⟨hd, hl⟩ := ho.drop
    rw [hsl] at hd hl
    obtain ⟨p, hp⟩ : ∃ p, p = s.size - r.length := ⟨_, rfl⟩
    rw [show plc s.size (some r) = ((s.size - r.length : Nat) : Int) from rfl, show txtO (some r) = dtxt r from rfl]
    rw [← hp] at hd ⊢
    have hps : p ≤ s.size := by omega
    have hp0 : ¬ (p : Int) < 0 := by omega
    rw [hd]
    clear hd hp hl ho
    by_cases hlt : p < s.size
    · have hpl : (p : Int) < (s.size : Int) := by omega
      have hge : ¬ (p : Int) ≥ (s.size : Int) := by omega
      have hg : s[p] = s.data.toList.getD p 0 := str_get s p hlt
      have hcons := drop_at (R := s.data.toList) (i := p) (by omega)
      obtain ⟨c, hc⟩ : ∃ c, c = s.data.toList.getD p 0 := ⟨_, rfl⟩
      rw [← hc] at hg hcons
      clear hc
      by_cases hq : c = 34
      · subst hq
        have hO : dtxt (s.data.toList.drop p) = unqL (s.data.toList.drop (p + 1)) := by
          rw [hcons]; unfold dtxt; rw [dlit_one]
        rw [hO]
        obtain ⟨O, hOO⟩ : ∃ O, O = unqL (s.data.toList.drop (p + 1)) := ⟨_, rfl⟩
        rw [← hOO]
        have HSL := Lib.hid hsl
        have HOO := Lib.hid hOO
        have hwp : IntKind.i64.wrap ((p : Int) + 1) = ((p + 1 : Nat) : Int) := by rw [IntKind.wrap_i64]; omega
        obtain ⟨p1, hp1⟩ : ∃ p1, p1 = p + 1 := ⟨_, rfl⟩
        rw [← hp1] at hwp HOO
        have hp1s : p1 ≤ s.size := by omega
        obtain ⟨i0, hi, hz0, hz1, hz2⟩ := info_u8_parts
        have HI := Lib.hid hi
        have HZ0 := Lib.hid hz0
        have HZ1 := Lib.hid hz1
        have HZ2 := Lib.hid hz2
        obtain ⟨B, hB⟩ : ∃ B, B = w.heap.size := ⟨_, rfl⟩
        rw [← hB]
        have HB := Lib.hid hB
        clear hi hz0 hz1 hz2 hB hO hcons hOO hsl hp1
        go_enter Try.func28, Try.ntmps28
        go_wp2_with fail
        clear hwp hg hlt hpl hge hp0 hps
        go_loopg [6, 7] (s.size - p1) (fun gk v6 v7 wr => ∃ (i : Nat) (A : List UInt8), gk = s.size - i ∧ i ≤ s.size ∧ v7 = .int .i64 (i : Int) ∧ Hid (O = preT A (unqL (s.data.toList.drop i)) ∧ A.length ≤ i) ∧ wr.ownsRow B 5 1 v6 A.length (A.map bv) ∧ Below B w wr)
        case atStart => exact ⟨p1, [], rfl, hp1s, rfl, Lib.hid ⟨by rw [HOO.out, preT_nil], Nat.zero_le _⟩, World.ownsRow_nil _ _ _ _, Below.refl _ _⟩
        case round =>
          clear HOO hp1s
          obtain ⟨i, A, rfl, his, rfl, HA, how, hb⟩ := hrel
          obtain ⟨va, vc, rfl⟩ := row_form how
          have hcv := convert_own how
          have HCV := Lib.hid hcv
          have HO := Lib.hid how
          have HBB := Lib.hid hb
          have hBs : B ≤ wr.heap.size := by have := hb.size; have := HB.out; omega
          obtain ⟨m, hm⟩ : ∃ m, m = A.length := ⟨_, rfl⟩
          rw [← hm] at HO HCV ⊢
          have hmi : m ≤ i := by rw [hm]; exact HA.out.2
          have HM := Lib.hid hm
          clear how hb hm hcv
          by_cases hlt : i < s.size
          · have hli : (i : Int) < (s.size : Int) := by omega
            have hg : s[i] = s.data.toList.getD i 0 := str_get s i hlt
            have hcons := drop_at (R := s.data.toList) (i := i) (by rw [HSL.out]; exact hlt)
            obtain ⟨c, hc⟩ : ∃ c, c = s.data.toList.getD i 0 := ⟨_, rfl⟩
            rw [← hc] at hg hcons
            have HC := Lib.hid hcons
            have hwi : IntKind.i64.wrap ((i : Int) + 1) = ((i + 1 : Nat) : Int) := by rw [IntKind.wrap_i64]; omega
            clear hc hcons
            by_cases h34 : c = 34
            · subst h34
              have HF : Hid (uqV s.size O = .tuple #[.string (bs A), .int .i64 ((i + 1 : Nat) : Int)]) := Lib.hid (by
                rw [HA.out.1, HC.out, unqL_end, preT_some, List.append_nil]; exact uqV_some _ _ _ _ HSL.out (by omega))
              have hcv := HCV.out
              go_wp2_with fail
              go_ret2
              exact ⟨by rw [HF.out]; rfl, HBB.out⟩
            · have n34 := byte_ne h34
              by_cases h92 : c = 92
              · subst h92
                obtain ⟨k, hk⟩ : ∃ k, k = i + 1 := ⟨_, rfl⟩
                rw [← hk] at hwi HC
                have HKI := Lib.hid hk
                by_cases hlt2 : k < s.size
                · have hlk : (k : Int) < (s.size : Int) := by omega
                  have hnk : ¬ (k : Int) ≥ (s.size : Int) := by omega
                  have hg2 : s[k] = s.data.toList.getD k 0 := str_get s k hlt2
                  have hcons2 := drop_at (R := s.data.toList) (i := k) (by rw [HSL.out]; exact hlt2)
                  obtain ⟨d, hd⟩ : ∃ d, d = s.data.toList.getD k 0 := ⟨_, rfl⟩
                  rw [← hd] at hg2 hcons2
                  have hwk : IntKind.i64.wrap ((k : Int) + 1) = ((k + 1 : Nat) : Int) := by rw [IntKind.wrap_i64]; omega
                  have HE : Hid (O = preT A (match dmean d with | none => none | some m => (unqL (s.data.toList.drop (k + 1))).map fun p => (m :: p.1, p.2))) := Lib.hid (by
                    rw [HA.out.1, HC.out, hcons2, unqL_esc]; rfl)
                  clear hd hcons2 hk n34
                  by_cases d110 : d = 110
                  · subst d110
                    have HQ : Hid (O = preT (A ++ [10]) (unqL (s.data.toList.drop (k + 1)))) := Lib.hid (by rw [HE.out]; exact preT_cons A 10 _)
                    clear HE h34
                    have hki : k = i + 1 := HKI.out
                    clear hki
                    have hmk : m ≤ k := by have := HKI.out; omega
                    go_upto_region 18 with fail
                    go_wp2_with (at_builtin; go_must (refine append_rowx rfl (.tmp 58) (.tmp 59) rfl B i0 HI.out HZ0.out HZ1.out HZ2.out _ m A rfl (.inl (HO.out.alloc _)) wr.heap.size 1 1 [10] rfl rfl ?n1 (by omega) (by omega) ?n6 ?n7))
                    case n1 => intro j u hj; first | exact (Has.new wr [.int .u8 10] _).cellAt hj | exact hj
                    case n6 => first | omega | (simp; omega)
                    intro v5 w5 hown3 hb3
                    have HO5 : Hid (w5.ownsRow B 5 1 v5 (A ++ [10]).length ((A ++ [10]).map bv)) := Lib.hid (by
                      rw [List.length_append, List.map_append, ← HM.out]; exact hown3)
                    have B5 : Hid (Below B w w5) := Lib.hid ((HBB.out.alloc hBs _).trans hb3)
                    clear hown3 hb3
                    go_wp2_with fail
                    go_roundg (s.size - (k + 1))
                    case rel => exact ⟨k + 1, A ++ [10], rfl, by omega, rfl, Lib.hid ⟨HQ.out, by rw [List.length_append, ← HM.out]; show m + 1 ≤ _; omega⟩, HO5.out, B5.out⟩
                    case measure => have := HKI.out; omega
                  · have e110 := byte_ne d110
                    by_cases d116 : d = 116
                    · subst d116
                      have HQ : Hid (O = preT (A ++ [9]) (unqL (s.data.toList.drop (k + 1)))) := Lib.hid (by rw [HE.out]; exact preT_cons A 9 _)
                      clear HE h34
                      have hki : k = i + 1 := HKI.out
                      clear hki
                      have hmk : m ≤ k := by have := HKI.out; omega
                      go_upto_region 20 with fail
                      go_wp2_with (at_builtin; go_must (refine append_rowx rfl (.tmp 63) (.tmp 64) rfl B i0 HI.out HZ0.out HZ1.out HZ2.out _ m A rfl (.inl (HO.out.alloc _)) wr.heap.size 1 1 [9] rfl rfl ?t1 (by omega) (by omega) ?t6 ?t7))
                      case t1 => intro j u hj; first | exact (Has.new wr [.int .u8 9] _).cellAt hj | exact hj
                      case t6 => first | omega | (simp; omega)
                      intro v5 w5 hown3 hb3
                      have HO5 : Hid (w5.ownsRow B 5 1 v5 (A ++ [9]).length ((A ++ [9]).map bv)) := Lib.hid (by
                        rw [List.length_append, List.map_append, ← HM.out]; exact hown3)
                      have B5 : Hid (Below B w w5) := Lib.hid ((HBB.out.alloc hBs _).trans hb3)
                      clear hown3 hb3
                      go_wp2_with fail
                      go_roundg (s.size - (k + 1))
                      case rel => exact ⟨k + 1, A ++ [9], rfl, by omega, rfl, Lib.hid ⟨HQ.out, by rw [List.length_append, ← HM.out]; show m + 1 ≤ _; omega⟩, HO5.out, B5.out⟩
                      case measure => have := HKI.out; omega
                    · have e116 := byte_ne d116
                      by_cases d92 : d = 92
                      · subst d92
                        have HQ : Hid (O = preT (A ++ [92]) (unqL (s.data.toList.drop (k + 1)))) := Lib.hid (by rw [HE.out]; exact preT_cons A 92 _)
                        clear HE h34
                        have hki : k = i + 1 := HKI.out
                        clear hki
                        have hmk : m ≤ k := by have := HKI.out; omega
                        go_upto_region 23 with fail
                        go_wp2_with (at_builtin; go_must (refine append_rowx rfl (.tmp 69) (.tmp 73) rfl B i0 HI.out HZ0.out HZ1.out HZ2.out _ m A rfl (.inl (HO.out.alloc _)) wr.heap.size 1 1 [92] rfl rfl ?e1 (by omega) (by omega) ?e6 ?e7))
                        case e1 => intro j u hj; first | exact (Has.new wr [.int .u8 92] _).cellAt hj | exact hj
                        case e6 => first | omega | (simp; omega)
                        intro v5 w5 hown3 hb3
                        have HO5 : Hid (w5.ownsRow B 5 1 v5 (A ++ [92]).length ((A ++ [92]).map bv)) := Lib.hid (by
                          rw [List.length_append, List.map_append, ← HM.out]; exact hown3)
                        have B5 : Hid (Below B w w5) := Lib.hid ((HBB.out.alloc hBs _).trans hb3)
                        clear hown3 hb3
                        go_wp2_with fail
                        go_roundg (s.size - (k + 1))
                        case rel => exact ⟨k + 1, A ++ [92], rfl, by omega, rfl, Lib.hid ⟨HQ.out, by rw [List.length_append, ← HM.out]; show m + 1 ≤ _; omega⟩, HO5.out, B5.out⟩
                        case measure => have := HKI.out; omega
                      · have e92 := byte_ne d92
                        by_cases d34 : d = 34
                        · subst d34
                          have HQ : Hid (O = preT (A ++ [34]) (unqL (s.data.toList.drop (k + 1)))) := Lib.hid (by rw [HE.out]; exact preT_cons A 34 _)
                          clear HE h34
                          have hki : k = i + 1 := HKI.out
                          clear hki
                          have hmk : m ≤ k := by have := HKI.out; omega
                          go_upto_region 23 with fail
                          go_wp2_with (at_builtin; go_must (refine append_rowx rfl (.tmp 69) (.tmp 73) rfl B i0 HI.out HZ0.out HZ1.out HZ2.out _ m A rfl (.inl (HO.out.alloc _)) wr.heap.size 1 1 [34] rfl rfl ?q1 (by omega) (by omega) ?q6 ?q7))
                          case q1 => intro j u hj; first | exact (Has.new wr [.int .u8 34] _).cellAt hj | exact hj
                          case q6 => first | omega | (simp; omega)
                          intro v5 w5 hown3 hb3
                          have HO5 : Hid (w5.ownsRow B 5 1 v5 (A ++ [34]).length ((A ++ [34]).map bv)) := Lib.hid (by
                            rw [List.length_append, List.map_append, ← HM.out]; exact hown3)
                          have B5 : Hid (Below B w w5) := Lib.hid ((HBB.out.alloc hBs _).trans hb3)
                          clear hown3 hb3
                          go_wp2_with fail
                          go_roundg (s.size - (k + 1))
                          case rel => exact ⟨k + 1, A ++ [34], rfl, by omega, rfl, Lib.hid ⟨HQ.out, by rw [List.length_append, ← HM.out]; show m + 1 ≤ _; omega⟩, HO5.out, B5.out⟩
                          case measure => have := HKI.out; omega
                        · have e34 := byte_ne d34
                          have HF : Hid (O = none) := Lib.hid (by
                            rw [HE.out, show dmean d = none by unfold dmean; rw [if_neg (by rintro (h | h) <;> contradiction), if_neg d110, if_neg d116]]; rfl)
                          have E110 : ((d.toNat : Int) == 110) = false := e110
                          have E116 : ((d.toNat : Int) == 116) = false := e116
                          have E92 : ((d.toNat : Int) == 92) = false := e92
                          have E34 : ((d.toNat : Int) == 34) = false := e34
                          clear d110 d116 d92 d34 h34 e110 e116 e92 e34
                          go_wp2_with fail
                          go_ret2
                          exact ⟨by rw [HF.out]; rfl, HBB.out⟩
                · have hnk : (k : Int) ≥ (s.size : Int) := by omega
                  have HF : Hid (O = none) := Lib.hid (by
                    rw [HA.out.1, HC.out, drop_end (i := k) (by rw [HSL.out]; exact hlt2), unqL_esc_nil]; rfl)
                  clear hk n34
                  go_wp2_with fail
                  go_ret2
                  exact ⟨by rw [HF.out]; rfl, HBB.out⟩
              · have n92 := byte_ne h92
                have HQ : Hid (O = preT (A ++ [c]) (unqL (s.data.toList.drop (i + 1)))) := Lib.hid (by rw [HA.out.1, HC.out, unqL_self _ h34 h92, preT_cons])
                have N34 : ((c.toNat : Int) == 34) = false := n34
                have N92 : ((c.toNat : Int) == 92) = false := n92
                clear h34 h92 n34 n92 HC
                go_upto_region 8 with fail
                go_wp2_with (at_builtin; go_must (refine append_rowx rfl (.tmp 33) (.tmp 37) rfl B i0 HI.out HZ0.out HZ1.out HZ2.out _ m A rfl (.inl (HO.out.alloc _)) wr.heap.size 1 1 [c] rfl rfl ?c1 (by omega) (by omega) ?c6 ?c7))
                case c1 => intro j u hj; first | exact (Has.new wr [.int .u8 (c.toNat : Int)] _).cellAt hj | exact hj
                case c6 => first | omega | (simp; omega)
                intro v5 w5 hown3 hb3
                have HO5 : Hid (w5.ownsRow B 5 1 v5 (A ++ [c]).length ((A ++ [c]).map bv)) := Lib.hid (by
                  rw [List.length_append, List.map_append, ← HM.out]; exact hown3)
                have B5 : Hid (Below B w w5) := Lib.hid ((HBB.out.alloc hBs _).trans hb3)
                clear hown3 hb3
                go_wp2_with fail
                go_roundg (s.size - (i + 1))
                case rel => exact ⟨i + 1, A ++ [c], rfl, by omega, rfl, Lib.hid ⟨HQ.out, by rw [List.length_append, ← HM.out]; show m + 1 ≤ _; omega⟩, HO5.out, B5.out⟩
                case measure => omega
          · have hli : ¬ (i : Int) < (s.size : Int) := by omega
            have HF : Hid (O = none) := Lib.hid (by rw [HA.out.1, drop_end (i := i) (by rw [HSL.out]; exact hlt), unqL_nil]; rfl)
            go_wp2_with fail
            go_ret2
            exact ⟨by rw [HF.out]; rfl, HBB.out⟩
      · have hO : dtxt (s.data.toList.drop p) = none := by
          rw [hcons]; unfold dtxt; rw [dlit_no _ (fun e => hq e.symm)]
        have n34 : ((c.toNat : Int) != 34) = true := by
          have h0 : ((c.toNat : Int) == 34) = false := byte_ne hq
          rw [bne, h0]; rfl
        rw [hO, uqV_none]
        clear hO hcons hsl hq
        go_enter Try.func28, Try.ntmps28
        go_wp2_with fail
        go_ret2
        exact ⟨rfl, Below.refl _ _⟩
    · have hge : (p : Int) ≥ (s.size : Int) := by omega
      have hO : dtxt (s.data.toList.drop p) = none := by rw [drop_end (by rw [hsl]; exact hlt)]; rfl
      rw [hO, uqV_none]
      clear hO hsl hlt
      go_enter Try.func28, Try.ntmps28
      go_wp2_with fail
      go_ret2
      exact ⟨rfl, Below.refl _ _⟩
end Go.Proofs.Ytokbakpbhpknfaa

/-
  The contract of the reference's want: the place behind some strings, or none. Conditions: at most 1000000 bytes.
-/
import Derived.Test.YthjihibocobndaaNRNext
import Derived.Test.YthjihibocobndaaNSkip
namespace Go.Proofs.Ythjihibocobndaa
open Go.RowKit
set_option linter.unusedVariables false

/-- What remains behind these strings. -/
def wantO (l : List (List UInt8)) (o : Option (List UInt8)) : Option (List UInt8) := o.bind (skipL l)
theorem wantO_nil (o : Option (List UInt8)) : wantO [] o = o := by
  cases o with
  | none => rfl
  | some r => simp [wantO, skipL]
theorem wantO_none {l : List (List UInt8)} : wantO l none = none := rfl
theorem wantO_fell {s : List UInt8} {l : List (List UInt8)} {o : Option (List UInt8)} (h : (nextO o).2 = none) : wantO (s :: l) o = none := by
  cases o with
  | none => rfl
  | some r =>
    cases hn : nextL r with
    | none => simp [wantO, skipL, hn]
    | some q => obtain ⟨a, r'⟩ := q; rw [nextO_some hn] at h; cases h
theorem wantO_other {s : List UInt8} {l : List (List UInt8)} {o : Option (List UInt8)} (h : ¬ (nextO o).1 = s) : wantO (s :: l) o = none := by
  cases o with
  | none => rfl
  | some r =>
    cases hn : nextL r with
    | none => simp [wantO, skipL, hn]
    | some q => obtain ⟨a, r'⟩ := q; rw [nextO_some hn] at h; simp only [] at h; simp [wantO, skipL, hn, h]
theorem wantO_go {s r' : List UInt8} {l : List (List UInt8)} {o : Option (List UInt8)} (h : (nextO o).2 = some r') (h1 : (nextO o).1 = s) : wantO (s :: l) o = wantO l (some r') := by
  cases o with
  | none => cases h
  | some r =>
    cases hn : nextL r with
    | none => rw [nextO_none hn] at h; cases h
    | some q =>
      obtain ⟨a, r''⟩ := q
      rw [nextO_some hn] at h h1
      cases h
      simp only [] at h1
      simp [wantO, skipL, hn, h1]
theorem At.skip : ∀ (l : List (List UInt8)) {R : List UInt8} {o : Option (List UInt8)}, At R o → At R (wantO l o)
  | [], R, o, h => by rw [wantO_nil]; exact h
  | s :: l, R, o, h => by
    cases hq : (nextO o).2 with
    | none => rw [wantO_fell hq]; exact At.none
    | some r' =>
      by_cases h1 : (nextO o).1 = s
      · rw [wantO_go hq h1]; exact At.skip l (by rw [← hq]; exact h.next)
      · rw [wantO_other h1]; exact At.none
theorem posI_some {R r : List UInt8} : ¬ posI R (some r) < 0 := by
  show ¬ ((R.length - r.length : Nat) : Int) < 0
  omega

set_option maxRecDepth 100000 in
set_option maxHeartbeats 8000000 in
theorem rwant_any (a : Option Addr) (n cap : Nat) (R : List UInt8) (l : List ByteArray) (b : Nat) (w : World) (hB : IsB w a n cap R) (h9 : R.length ≤ 1000000) (o : Option (List UInt8)) (ho : At R o)
    (hl : Has w b (l.map Value.string) 9) (hll : l.length ≤ 1000) :
    Calls Try.prog 22 #[.slice a n cap, .int .i64 (posI R o), .slice (some ⟨b, 0, none⟩) l.length l.length] w fun e w' => e = .returned (.int .i64 (posI R (wantO (l.map (·.data.toList)) o))) ∧ Below w.heap.size w w' := by
  have HB := Lib.hid hB
  have HL := Lib.hid hl
  have HO := Lib.hid ho
  have H9 := Lib.hid h9
  clear hB hl ho h9
  go_enter Try.func22, Try.ntmps22
  go_wp2_with fail
  go_loopw [1, 7] (fun aa ii wr => ∃ (j : Nat) (q : Option (List UInt8)), j ≤ l.length ∧ aa = .int .i64 (posI R q) ∧ ii = .int .i64 j ∧ At R q ∧ Below w.heap.size w wr ∧ wantO (l.map (·.data.toList)) o = wantO ((l.drop j).map (·.data.toList)) q) (fun _ ii _ => l.length - (intOf ii).toNat)
  case atStart => exact ⟨0, o, Nat.zero_le _, rfl, rfl, HO.out, Below.refl _ _, rfl⟩
  case round =>
    clear HO
    obtain ⟨j, q, hj, rfl, rfl, hat, hbel, hsk⟩ := hrel
    have HAT := Lib.hid hat
    have HBEL := Lib.hid hbel
    have HSK := Lib.hid hsk
    clear hat hbel hsk
    by_cases hlt : j < l.length
    · have hji : (j : Int) < (l.length : Int) := by omega
      obtain ⟨s, hs⟩ : ∃ s, s = l.getD j ⟨#[]⟩ := ⟨_, rfl⟩
      have HSJ : Hid (wantO (l.map (·.data.toList)) o = wantO (s.data.toList :: (l.drop (j + 1)).map (·.data.toList)) q) := Lib.hid (by rw [HSK.out, skip_drop hlt, ← hs])
      have HS := Lib.hid hs
      have HK := Lib.hid (rnext_any a n cap R wr (HB.out.later HBEL.out) H9.out q HAT.out)
      clear hs HSK
      go_wp2_with fail
      refine HK.out.mono ?_
      rintro e w1 ⟨rfl, b1⟩
      have HB1 := Lib.hid (HBEL.out.trans (b1.mono HBEL.out.size))
      have hcs : w1.cell? ⟨b, j, none⟩ = some (.string s) := (HL.out.below HB1.out HL.out.lt).cellAt (by rw [List.getElem?_map, List.getElem?_eq_getElem hlt, HS.out, List.getD_eq_getElem?_getD, List.getElem?_eq_getElem hlt]; rfl)
      obtain ⟨sx, hsx⟩ : ∃ sx : ByteArray, sx = ⟨(nextO q).1.toArray⟩ := ⟨_, rfl⟩
      rw [← hsx]
      have hsx2 : sx.toList = (nextO q).1 := by rw [hsx, ByteArray.toList_eq]
      have hst : s.toList = s.data.toList := ByteArray.toList_eq s
      clear b1 HK HS hsx
      by_cases heq : (nextO q).1 = s.data.toList
      · have htest : (sx.toList == s.toList) = true := by rw [hsx2, hst, heq]; simp
        cases hq : (nextO q).2 with
        | none =>
          have HF : Hid (wantO (l.map (·.data.toList)) o = none) := Lib.hid (by rw [HSJ.out]; exact wantO_fell hq)
          rw [show posI R none = -1 from rfl]
          clear hq heq hsx2 hst
          go_wp2_with fail
          go_ret
          exact ⟨by rw [HF.out]; rfl, HB1.out⟩
        | some r' =>
          have HF : Hid (wantO (l.map (·.data.toList)) o = wantO ((l.drop (j + 1)).map (·.data.toList)) (some r')) := Lib.hid (by rw [HSJ.out]; exact wantO_go hq heq)
          have HA : Hid (At R (some r')) := Lib.hid (by rw [← hq]; exact HAT.out.next)
          obtain ⟨k, hk⟩ : ∃ k, k = posI R (some r') := ⟨_, rfl⟩
          have hk0 : ¬ k < 0 := by rw [hk]; exact posI_some
          rw [← hk]
          have HKK := Lib.hid hk
          clear hq heq hsx2 hst hk
          go_wp2_with fail
          clear hcs htest
          go_roundw
          case rel => exact ⟨j + 1, some r', by omega, by rw [HKK.out], by go_num, HA.out, HB1.out, HF.out⟩
          case measure => simp [intOf]; omega
      · have htest : (sx.toList == s.toList) = false := by rw [hsx2, hst]; simpa using heq
        have HF : Hid (wantO (l.map (·.data.toList)) o = none) := Lib.hid (by rw [HSJ.out]; exact wantO_other heq)
        obtain ⟨k, hk⟩ : ∃ k, k = posI R (nextO q).2 := ⟨_, rfl⟩
        rw [← hk]
        clear heq hsx2 hst hk
        go_wp2_with fail
        go_ret
        exact ⟨by rw [HF.out]; rfl, HB1.out⟩
    · obtain rfl : j = l.length := by omega
      have HF : Hid (wantO (l.map (·.data.toList)) o = q) := Lib.hid (by rw [HSK.out, List.drop_of_length_le (Nat.le_refl _)]; exact wantO_nil q)
      go_wp2_with fail
      go_ret
      exact ⟨by rw [HF.out]; rfl, HBEL.out⟩

end Go.Proofs.Ythjihibocobndaa

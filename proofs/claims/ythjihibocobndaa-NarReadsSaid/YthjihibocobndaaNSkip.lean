/-
  The contracts of the reader's data and skip. No condition but that the reader is one.
-/
import Derived.Test.YthjihibocobndaaNNext2
import Derived.Test.YthjihibocobndaaNSrc
import Derived.Test.YthjihibocobndaaTRSame
namespace Go.Proofs.Ythjihibocobndaa
open Go.RowKit
set_option linter.unusedVariables false

theorem Rd.later {rb : Nat} {w0 w w' : World} {R : List UInt8} (h : Rd rb w0 R w) (hb : Below w.heap.size w w') : Rd rb w0 R w' := by
  obtain ⟨a, len, cap, hx, hB, hbel, h0, hR⟩ := h
  exact ⟨a, len, cap, hx.below hb hx.lt, hB, hbel.trans (hb.mono (Nat.le_of_lt hx.lt)), h0, hR⟩
theorem Rd.lt {rb : Nat} {w0 w : World} {R : List UInt8} (h : Rd rb w0 R w) : rb < w.heap.size := by
  obtain ⟨a, len, cap, hx, _⟩ := h; exact hx.lt
theorem Rd.isB {rb : Nat} {w0 w : World} {R : List UInt8} (h : Rd rb w0 R w) {a : Option Addr} {n c : Nat} {x : List UInt8} (hB : IsB w0 a n c x) : IsB w a n c x := by
  obtain ⟨_, _, _, _, _, hbel, h0, _⟩ := h
  exact hB.later (hbel.mono h0)
/-- Other blocks do not matter to the reader. -/
theorem Rd.other {rb q : Nat} {w0 w w' : World} {R : List UInt8} (h : Rd rb w0 R w) (hb : But w.heap.size q w w') (hq : rb < q) : Rd rb w0 R w' := by
  obtain ⟨a, len, cap, hx, hB, hbel, h0, hR⟩ := h
  exact ⟨a, len, cap, hx.but hb hx.lt (by omega), hB, hbel.trans ((hb.mono (Nat.le_of_lt hx.lt)).below (by omega)), h0, hR⟩

def ownV (lo : Nat) (x : List UInt8) (v : Value) (w' : World) : Prop := w'.ownsRow lo 5 1 v x.length (x.map bv)

theorem own_mono {w : World} {B B' n size : Nat} {e : TypeId} {v : Value} {xs : List Value} (h : w.ownsRow B e size v n xs) (hb : B' ≤ B) : w.ownsRow B' e size v n xs := by
  refine ⟨h.1, ?_⟩
  rcases h.2 with h0 | ⟨g, cap, cur, h1, h2, h3⟩
  · exact .inl h0
  · exact .inr ⟨g, cap, cur, h1, Nat.le_trans hb h2, h3⟩

set_option maxRecDepth 100000 in
set_option maxHeartbeats 8000000 in
theorem data_any (rb : Nat) (w0 : World) (R : List UInt8) (w : World) (hrd : Rd rb w0 R w) :
    Calls Try.prog 41 #[.pointer (some ⟨rb, 0, none⟩)] w (RP rb w0 w (nextL R) (ownV w.heap.size)) := by
  obtain ⟨i0, hi, hz0, hz1, hz2⟩ := info_u8w_parts
  have HI := Lib.hid hi
  have HZ0 := Lib.hid hz0
  have HZ1 := Lib.hid hz1
  have HZ2 := Lib.hid hz2
  clear hi hz0 hz1 hz2
  have HK := Lib.hid (next_any rb w0 R w hrd)
  clear hrd
  go_enter Try.func41, Try.ntmps41
  go_wp2_with fail
  refine HK.out.mono ?_
  rintro e w1 ⟨hbut, hm⟩
  have HBUT := Lib.hid hbut
  have HMM := Lib.hid hm
  clear hbut hm HK
  cases ht : nextL R with
  | none =>
    have := HMM.out
    rw [ht] at this
    subst this
    have HT := Lib.hid ht
    clear ht HMM
    go_wp2_with fail
    exact ⟨rfl, HBUT.out, rfl⟩
  | some q =>
    have := HMM.out
    rw [ht] at this
    obtain ⟨v, rfl, ⟨a3, n3, c3, rfl, hv3⟩, hr⟩ := this
    have HL := Lib.hid (hr.isB hv3)
    have HRD := Lib.hid hr
    have hr3 := hv3.room
    have hm3 := hv3.most
    have HT := Lib.hid ht
    clear ht HMM hv3 hr
    go_wp2_with (at_builtin; refine wpList_append_src rfl _ _ 22 rfl w1.heap.size 5 i0 (.int .u8 0) 1 1 Try.underlying22 HI.out HZ0.out HZ1.out HZ2.out rfl (by omega) (.slice none 0 0) 0 [] rfl (World.ownsRow_nil _ _ _ _) a3 n3 c3 (q.1.map bv) rfl (by simp [HL.out.length]) HL.out.nil (srcB HL.out) (bv_one q.1) (by omega) (by omega) (Nat.le_refl _) ?_)
    intro v' w2 hown hgr
    have HO := Lib.hid hown
    have HG : Hid (Below w1.heap.size w1 w2) := Lib.hid ((Below.refl _ _).grown hgr (Nat.le_refl _) (fun q hq => by cases hq))
    clear hown hgr
    go_wp2_with fail
    go_ret
    refine ⟨HBUT.out.trans (But.of_below (HG.out.mono HBUT.out.size)), ?_⟩
    rw [HT.out]
    refine ⟨_, rfl, ?_, HRD.out.later HG.out⟩
    have h := own_mono HO.out HBUT.out.size
    unfold ownV
    rw [HL.out.length]; exact h

theorem skip_drop {l : List ByteArray} {j : Nat} (hj : j < l.length) : (l.drop j).map (·.data.toList) = (l.getD j ⟨#[]⟩).data.toList :: (l.drop (j + 1)).map (·.data.toList) := by
  rw [List.drop_eq_getElem_cons hj, List.map_cons, List.getD_eq_getElem?_getD, List.getElem?_eq_getElem hj]; rfl

def SkipO (l : List ByteArray) (R : List UInt8) : Option (Unit × List UInt8) := (skipL (l.map (·.data.toList)) R).map fun r => ((), r)
def noneV (x : Unit) (v : Value) (w' : World) : Prop := v = .tuple #[]

set_option maxRecDepth 100000 in
set_option maxHeartbeats 8000000 in
theorem skip_any (rb : Nat) (w0 : World) (R : List UInt8) (l : List ByteArray) (b : Nat) (w : World) (hrd : Rd rb w0 R w) (hl : Has w b (l.map Value.string) 9) (hb : b ≠ rb) (hll : l.length ≤ 1000) :
    Calls Try.prog 28 #[.pointer (some ⟨rb, 0, none⟩), .slice (some ⟨b, 0, none⟩) l.length l.length] w (RP rb w0 w (SkipO l R) noneV) := by
  have HRD := Lib.hid hrd
  have HL := Lib.hid hl
  clear hrd hl
  go_enter Try.func28, Try.ntmps28
  go_wp2_with fail
  go_loopw [8] (fun ii wr => ∃ (j : Nat) (Q : List UInt8), j ≤ l.length ∧ ii = .int .i64 j ∧ Rd rb w0 Q wr ∧ But w.heap.size rb w wr ∧ skipL (l.map (·.data.toList)) R = skipL ((l.drop j).map (·.data.toList)) Q) (fun ii _ => l.length - (intOf ii).toNat)
  case atStart => exact ⟨0, R, Nat.zero_le _, rfl, HRD.out, But.refl _ _ _, rfl⟩
  case round =>
    clear HRD
    obtain ⟨j, Q, hj, rfl, hrd, hbut, hsk⟩ := hrel
    have HRD := Lib.hid hrd
    have HBUT := Lib.hid hbut
    have HSK := Lib.hid hsk
    clear hrd hbut hsk
    by_cases hlt : j < l.length
    · have hji : (j : Int) < (l.length : Int) := by omega
      obtain ⟨s, hs⟩ : ∃ s, s = l.getD j ⟨#[]⟩ := ⟨_, rfl⟩
      have hcs : wr.cell? ⟨b, j, none⟩ = some (.string s) := (HL.out.but HBUT.out HL.out.lt hb).cellAt (by rw [List.getElem?_map, List.getElem?_eq_getElem hlt, hs, List.getD_eq_getElem?_getD, List.getElem?_eq_getElem hlt]; rfl)
      have HSJ : Hid (skipL (l.map (·.data.toList)) R = skipL (s.data.toList :: (l.drop (j + 1)).map (·.data.toList)) Q) := Lib.hid (by rw [HSK.out, skip_drop hlt, ← hs])
      clear hs HSK
      have HK := Lib.hid (next_any rb w0 Q wr HRD.out)
      go_wp2_with fail
      refine HK.out.mono ?_
      rintro e w1 ⟨hbut, hm⟩
      have HB1 := Lib.hid (HBUT.out.trans (hbut.mono HBUT.out.size))
      have HMM := Lib.hid hm
      clear hbut hm HK hcs
      cases ht : nextL Q with
      | none =>
        have := HMM.out
        rw [ht] at this
        subst this
        have HF : Hid (SkipO l R = none) := Lib.hid (by unfold SkipO; rw [HSJ.out, skipL, ht]; rfl)
        clear ht HMM
        go_wp2_with fail
        exact ⟨rfl, HB1.out, by rw [HF.out]⟩
      | some q =>
        have := HMM.out
        rw [ht] at this
        obtain ⟨v, rfl, ⟨a3, n3, c3, rfl, hv3⟩, hr⟩ := this
        have hcv := convert_b (hr.isB hv3)
        obtain ⟨sx, hsx⟩ : ∃ sx : ByteArray, sx = ⟨q.1.toArray⟩ := ⟨_, rfl⟩
        rw [← hsx] at hcv
        have hsx2 : sx.toList = q.1 := by rw [hsx, ByteArray.toList_eq]
        have hst : s.toList = s.data.toList := ByteArray.toList_eq s
        have HR1 := Lib.hid hr
        have HHT := Lib.hid ht
        by_cases heq : q.1 = s.data.toList
        · have htest : (sx.toList == s.toList) = true := by rw [hsx2, hst, heq]; simp
          have HF : Hid (skipL (l.map (·.data.toList)) R = skipL ((l.drop (j + 1)).map (·.data.toList)) q.2) := Lib.hid (by rw [HSJ.out, skipL, HHT.out]; simp only [heq, if_true])
          clear ht HMM hv3 hr hsx hsx2 hst heq
          go_wp2_with fail
          clear hcv htest
          go_roundw
          case rel => exact ⟨j + 1, q.2, by omega, by go_num, HR1.out, HB1.out, HF.out⟩
          case measure => simp [intOf]; omega
        · have htest : (sx.toList == s.toList) = false := by rw [hsx2, hst]; simpa using heq
          have HF : Hid (SkipO l R = none) := Lib.hid (by unfold SkipO; rw [HSJ.out, skipL, HHT.out]; simp only [heq, if_false]; rfl)
          clear ht HMM hv3 hr hsx hsx2 hst heq
          go_wp2_with fail
          refine (giveUp_any _).mono ?_
          rintro e w2 ⟨rfl, rfl⟩
          go_wp2_with fail
          exact ⟨rfl, HB1.out, by rw [HF.out]⟩
    · obtain rfl : j = l.length := by omega
      have HF : Hid (SkipO l R = some ((), Q)) := Lib.hid (by unfold SkipO; rw [HSK.out, List.drop_of_length_le (Nat.le_refl _)]; rfl)
      go_wp2_with fail
      first | go_end0 | (simp only [Exit.inBlock, Exit.then]; refine bodyPost_ret (results_none rfl _ _ _) rfl ?_) | refine bodyPost_ret (results_none rfl _ _ _) rfl ?_
      refine ⟨HBUT.out, ?_⟩
      rw [HF.out]
      exact ⟨_, rfl, rfl, HRD.out⟩

theorem skip_1 (rb : Nat) (w0 : World) (R : List UInt8) (a : ByteArray) (w : World) (hrd : Rd rb w0 R w) :
    Calls Try.prog 28 #[.pointer (some ⟨rb, 0, none⟩), .slice (some ⟨w.heap.size, 0, none⟩) 1 1] (w.alloc (.cells #[.string a] 9)) (RP rb w0 w ((skipL [a.data.toList] R).map fun r => ((), r)) noneV) :=
  (skip_any rb w0 R [a] w.heap.size _ (hrd.later ((Below.refl _ _).alloc (Nat.le_refl _) _)) (Has.new w [.string a] _) (by have := hrd.lt; omega) (by simp)).mono fun e w' h =>
    ⟨(But.of_below ((Below.refl _ _).alloc (Nat.le_refl _) _)).trans (h.1.mono (by simp)), h.2⟩
theorem skip_2 (rb : Nat) (w0 : World) (R : List UInt8) (a c : ByteArray) (w : World) (hrd : Rd rb w0 R w) :
    Calls Try.prog 28 #[.pointer (some ⟨rb, 0, none⟩), .slice (some ⟨w.heap.size, 0, none⟩) 2 2] (w.alloc (.cells #[.string a, .string c] 9)) (RP rb w0 w ((skipL [a.data.toList, c.data.toList] R).map fun r => ((), r)) noneV) :=
  (skip_any rb w0 R [a, c] w.heap.size _ (hrd.later ((Below.refl _ _).alloc (Nat.le_refl _) _)) (Has.new w [.string a, .string c] _) (by have := hrd.lt; omega) (by simp)).mono fun e w' h =>
    ⟨(But.of_below ((Below.refl _ _).alloc (Nat.le_refl _) _)).trans (h.1.mono (by simp)), h.2⟩

end Go.Proofs.Ythjihibocobndaa

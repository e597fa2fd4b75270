/-
  The contracts of the reader's file and link. No condition but that the reader is one.
-/
import Derived.Test.YthjihibocobndaaNSkip
import Derived.Test.YthjihibocobndaaNLoad
import Derived.Test.YthjihibocobndaaNAwake
import Derived.Test.YthjihibocobndaaTTake
import Derived.Laws.Rows
namespace Go.Proofs.Ythjihibocobndaa
open Go.RowKit
set_option linter.unusedVariables false

/-- Five cells read as a tree, as long as of the blocks from lo on those stay that are not in X. -/
def Stab (lo : Nat) (X : List Nat) (w : World) (n : Nat) (cs : List Value) (t : T) : Prop :=
  ∀ w', w.heap.size ≤ w'.heap.size → (∀ k, lo ≤ k → k < w.heap.size → k ∉ X → w'.heap[k]? = w.heap[k]?) → IsT w' n cs t
def treeV (lo : Nat) (t : T) (v : Value) (w' : World) : Prop := ∃ n cs, v = .agg cs.toArray ∧ Stab lo [] w' n cs t

theorem owns_same {w w' : World} {B n size : Nat} {e : TypeId} {v : Value} {xs : List Value} (h : w.ownsRow B e size v n xs) (hs : ∀ k, B ≤ k → k < w.heap.size → w'.heap[k]? = w.heap[k]?) : w'.ownsRow B e size v n xs := by
  refine ⟨h.1, ?_⟩
  rcases h.2 with h0 | ⟨g, cap, cur, h1, h2, h3, h4⟩
  · exact .inl h0
  · exact .inr ⟨g, cap, cur, h1, h2, (hs g h2 (Array.getElem?_eq_some_iff.1 h3).1).trans h3, h4⟩

theorem tree_far {w : World} {q : Nat} {L : List Value} {t e : TypeId} (h : Has w q L t) (ht : t ≠ e) : ∀ cs f, w.heap[q]? ≠ some (.cells cs e f) := fun cs f h2 => by
  have h1 : w.heap[q]? = some (.cells L.toArray t (0, 0)) := h
  rw [h1] at h2
  cases h2
  exact ht rfl
theorem Rd.far {rb : Nat} {w0 w : World} {R : List UInt8} (h : Rd rb w0 R w) {e : TypeId} (he : 50 ≠ e) : ∀ cs f, w.heap[rb]? ≠ some (.cells cs e f) := by
  obtain ⟨a, len, cap, hx, _⟩ := h; exact tree_far hx he
theorem Rd.short {rb : Nat} {w0 w : World} {R s r : List UInt8} (h : Rd rb w0 R w) (hn : nextL R = some (s, r)) : s.length ≤ 140737488355328 := by
  obtain ⟨_, _, _, _, _, _, _, hR⟩ := h
  have := congrArg List.length (next_some hn).1
  rw [List.length_append, strN_length] at this
  omega

theorem skip_1s (rb : Nat) (w0 : World) (R : List UInt8) (a : ByteArray) (s : List UInt8) (hs : a.data.toList = s) (w : World) (hrd : Rd rb w0 R w) :
    Calls Try.prog 28 #[.pointer (some ⟨rb, 0, none⟩), .slice (some ⟨w.heap.size, 0, none⟩) 1 1] (w.alloc (.cells #[.string a] 9)) (RP rb w0 w ((skipL [s] R).map fun r => ((), r)) noneV) := by
  rw [← hs]; exact skip_1 rb w0 R a w hrd
theorem skip_2s (rb : Nat) (w0 : World) (R : List UInt8) (a c : ByteArray) (s u : List UInt8) (hs : a.data.toList = s) (hu : c.data.toList = u) (w : World) (hrd : Rd rb w0 R w) :
    Calls Try.prog 28 #[.pointer (some ⟨rb, 0, none⟩), .slice (some ⟨w.heap.size, 0, none⟩) 2 2] (w.alloc (.cells #[.string a, .string c] 9)) (RP rb w0 w ((skipL [s, u] R).map fun r => ((), r)) noneV) := by
  rw [← hs, ← hu]; exact skip_2 rb w0 R a c w hrd
theorem cells_one (k : Int) (x : Bool) (a : Option Addr) (n c : Nat) : ([.int .u8 k, .bool x, .slice a n c, .slice none 0 0, .slice none 0 0] : List Value).toArray.all (·.oneCell') = true := by
  refine all_oneCell_toArray ?_
  intro v hv
  simp only [List.mem_cons, List.not_mem_nil, or_false] at hv
  rcases hv with rfl | rfl | rfl | rfl | rfl <;> rfl

theorem contents_ne : ¬ sContents = sExec := by decide
theorem leaf_stab {lo : Nat} {w : World} {a : Option Addr} {c : Nat} {L : List Value} (k : UInt8) (x : Bool) (d : List UInt8) (hL : L = [.int .u8 (k.toNat : Int), .bool x, .slice a d.length c, .slice none 0 0, .slice none 0 0]) (h : w.ownsRow lo 5 1 (.slice a d.length c) d.length (d.map bv)) (hm : d.length ≤ 140737488355328) :
    Stab lo [] w 1 L (.mk k x d [] []) := by
  subst hL
  intro w' hsz hs
  obtain ⟨a', c', he, hB⟩ := isB_owned (owns_same h (fun q h1 h2 => hs q h1 h2 (by simp))) hm
  cases he
  exact ⟨_, _, _, _, _, _, _, _, _, rfl, hB, isS_no w', isK_no _ w'⟩

set_option maxRecDepth 100000 in
set_option maxHeartbeats 4000000 in
theorem file_any (rb : Nat) (w0 : World) (R0 : List UInt8) (w : World) (hrd : Rd rb w0 R0 w) :
    Calls Try.prog 35 #[.pointer (some ⟨rb, 0, none⟩)] w (RP rb w0 w (fileL R0) (treeV w.heap.size)) := by
  have HRD := Lib.hid hrd
  have hrA0 := hrd.lt
  clear hrd
  go_enter Try.func35, Try.ntmps35
  go_upto_region 2 with fail
  obtain ⟨A, hA⟩ : ∃ A, A = w.heap.size := ⟨_, rfl⟩
  rw [← hA] at hrA0 ⊢
  obtain ⟨x1, hx1⟩ : ∃ x1, x1 = w.alloc (.cells #[.int .u8 0, .bool false, .slice none 0 0, .slice none 0 0, .slice none 0 0] 26) := ⟨_, rfl⟩
  obtain ⟨w1, hx2⟩ : ∃ x2, x2 = x1.alloc (.cells #[.int .u8 1, .bool false, .slice none 0 0, .slice none 0 0, .slice none 0 0] 26) := ⟨_, rfl⟩
  rw [← hx1, ← hx2]
  have e1 : x1.heap.size = A + 1 := by rw [hx1, hA]; simp
  have G1 : Hid (Has w1 A [.int .u8 0, .bool false, .slice none 0 0, .slice none 0 0, .slice none 0 0] 26) := Lib.hid (by rw [hx2, hx1, hA]; exact (Has.new w [.int .u8 0, .bool false, .slice none 0 0, .slice none 0 0, .slice none 0 0] _).alloc _)
  have X1 : Hid (Has w1 (A + 1) [.int .u8 1, .bool false, .slice none 0 0, .slice none 0 0, .slice none 0 0] 26) := Lib.hid (by rw [hx2, ← e1]; exact Has.new x1 [.int .u8 1, .bool false, .slice none 0 0, .slice none 0 0, .slice none 0 0] _)
  have b1 : Below w.heap.size w w1 := by rw [hx2, hx1]; exact ((Below.refl _ _).alloc (Nat.le_refl _) _).alloc (by simp) _
  have BU1 : Hid (But w.heap.size rb w w1) := Lib.hid (But.of_below b1)
  have RD1 := Lib.hid (HRD.out.later b1)
  have HA := Lib.hid hA
  clear hA hx1 hx2 b1 e1 HRD
  have HK := Lib.hid (next_any rb w0 R0 w1 RD1.out)
  go_wp2_with fail
  refine HK.out.mono ?_
  rintro e w2 ⟨hb, hm⟩
  have G2 := Lib.hid (G1.out.but hb G1.out.lt (by omega))
  have X2 := Lib.hid (X1.out.but hb X1.out.lt (by omega))
  have BU2 := Lib.hid (BU1.out.trans (hb.mono BU1.out.size))
  have HM := Lib.hid hm
  clear hb hm HK G1 BU1 X1
  cases ht : nextL R0 with
  | none =>
    have hm := HM.out
    rw [ht] at hm
    subst hm
    have HF : Hid (fileL R0 = none) := Lib.hid (by simp [fileL, ht])
    clear HM ht
    go_wp2_with fail
    exact ⟨rfl, BU2.out, by rw [HF.out]⟩
  | some q =>
    obtain ⟨s1, R1⟩ := q
    have hm := HM.out
    rw [ht] at hm
    obtain ⟨v, rfl, ⟨a0, n0, c0, rfl, hv⟩, hr⟩ := hm
    have RD2 := Lib.hid hr
    have hcv := convert_b (hr.isB hv)
    obtain ⟨sx1, hsx⟩ : ∃ sx : ByteArray, sx = ⟨s1.toArray⟩ := ⟨_, rfl⟩
    rw [← hsx] at hcv
    have hsx2 : sx1.toList = s1 := by rw [hsx, ByteArray.toList_eq]
    have HSX1 := Lib.hid hsx2
    have T1 := Lib.hid ht
    clear hr hv hsx hsx2 HM ht RD1
    by_cases hs1 : s1 = sExec
    · have htest : (sx1.toList == [101, 120, 101, 99, 117, 116, 97, 98, 108, 101]) = true := by rw [HSX1.out]; rw [hs1]; rfl
      have hc1 := X2.out.cellAt (i := 1) rfl
      have hf1 := X2.out.frozen 1
      go_upto_region 5 with fail
      clear hc1 hf1 htest hcv
      obtain ⟨w3, hw⟩ : ∃ x, x = w2.setCell ⟨A + 1, 1, none⟩ (.bool true) := ⟨_, rfl⟩
      have hb : But w2.heap.size (A + 1) w2 w3 := by rw [hw]; exact (But.refl _ _ _).setB 1 _
      have X3 : Hid (Has w3 (A + 1) [.int .u8 1, .bool true, .slice none 0 0, .slice none 0 0, .slice none 0 0] 26) := Lib.hid (by rw [hw]; exact X2.out.set 1 _)
      have G3 := Lib.hid (G2.out.but hb G2.out.lt (by omega))
      have BU3 : Hid (But w.heap.size rb w w3) := Lib.hid (by rw [hw]; exact BU2.out.setCell (p := ⟨A + 1, 1, none⟩) (.inl (by show w.heap.size ≤ A + 1; have := HA.out; omega)) _)
      have RD3 := Lib.hid (RD2.out.other hb (by omega))
      rw [← hw]
      clear hw hb G2 BU2 X2 RD2
      have HK := Lib.hid (skip_1s rb w0 R1 ⟨#[]⟩ [] rfl w3 RD3.out)
      go_wp2_with fail
      refine HK.out.mono ?_
      rintro e w4 ⟨hb, hm⟩
      have G4 := Lib.hid (G3.out.but hb G3.out.lt (by omega))
      have X4 := Lib.hid (X3.out.but hb X3.out.lt (by omega))
      have BU4 := Lib.hid (BU3.out.trans (hb.mono BU3.out.size))
      have HM := Lib.hid hm
      clear hb hm HK G3 BU3 X3
      cases ht : skipL [[]] R1 with
      | none =>
        have hm := HM.out
        rw [ht] at hm
        subst hm
        have HF : Hid (fileL R0 = none) := Lib.hid (by simp [fileL, T1.out, hs1, ht])
        clear HM ht
        go_wp2_with fail
        exact ⟨rfl, BU4.out, by rw [HF.out]⟩
      | some q =>
        have hm := HM.out
        rw [ht] at hm
        obtain ⟨R2, rfl⟩ : ∃ R, R = q := ⟨_, rfl⟩
        obtain ⟨v, rfl, hv, hr⟩ : ∃ v, e = .returned v ∧ noneV () v w4 ∧ Rd rb w0 R2 w4 := hm
        cases hv
        have RD4 := Lib.hid hr
        have T3 := Lib.hid ht
        clear hr HM ht RD3
        have HK := Lib.hid (next_any rb w0 R2 w4 RD4.out)
        go_wp2_with fail
        refine HK.out.mono ?_
        rintro e w5 ⟨hb, hm⟩
        have G5 := Lib.hid (G4.out.but hb G4.out.lt (by omega))
        have X5 := Lib.hid (X4.out.but hb X4.out.lt (by omega))
        have BU5 := Lib.hid (BU4.out.trans (hb.mono BU4.out.size))
        have HM := Lib.hid hm
        clear hb hm HK G4 BU4 X4
        cases ht : nextL R2 with
        | none =>
          have hm := HM.out
          rw [ht] at hm
          subst hm
          have HF : Hid (fileL R0 = none) := Lib.hid (by simp [fileL, T1.out, hs1, T3.out, ht])
          clear HM ht
          go_wp2_with fail
          exact ⟨rfl, BU5.out, by rw [HF.out]⟩
        | some q =>
          obtain ⟨s3, R3⟩ := q
          have hm := HM.out
          rw [ht] at hm
          obtain ⟨v, rfl, ⟨a0, n0, c0, rfl, hv⟩, hr⟩ := hm
          have RD5 := Lib.hid hr
          have hcv := convert_b (hr.isB hv)
          obtain ⟨sx3, hsx⟩ : ∃ sx : ByteArray, sx = ⟨s3.toArray⟩ := ⟨_, rfl⟩
          rw [← hsx] at hcv
          have hsx2 : sx3.toList = s3 := by rw [hsx, ByteArray.toList_eq]
          have HSX3 := Lib.hid hsx2
          have T4 := Lib.hid ht
          clear hr hv hsx hsx2 HM ht RD4
          by_cases hs3 : s3 = sContents
          · have htest : (sx3.toList == [99, 111, 110, 116, 101, 110, 116, 115]) = true := by rw [HSX3.out]; rw [hs3]; rfl
            have HK := Lib.hid (data_any rb w0 R3 w5 RD5.out)
            go_wp2_with fail
            refine HK.out.mono ?_
            rintro e w6 ⟨hb, hm⟩
            have G6 := Lib.hid (G5.out.but hb G5.out.lt (by omega))
            have X6 := Lib.hid (X5.out.but hb X5.out.lt (by omega))
            have BU6 := Lib.hid (BU5.out.trans (hb.mono BU5.out.size))
            have HM := Lib.hid hm
            have HLEN5 := Lib.hid BU5.out.size
            clear hb hm HK G5 BU5 X5
            cases ht : nextL R3 with
            | none =>
              have hm := HM.out
              rw [ht] at hm
              subst hm
              have HF : Hid (fileL R0 = none) := Lib.hid (by simp [fileL, fileB, T1.out, hs1, T3.out, T4.out, hs3, ht])
              clear HM ht
              go_wp2_with fail
              exact ⟨rfl, BU6.out, by rw [HF.out]⟩
            | some q =>
              obtain ⟨s4, R4⟩ := q
              have hm := HM.out
              rw [ht] at hm
              obtain ⟨v, rfl, hv, hr⟩ := hm
              have hsh := RD5.out.short ht
              obtain ⟨ao, co, rfl, _⟩ := isB_owned hv hsh
              have RD6 := Lib.hid hr
              have O6 := Lib.hid (own_mono hv HLEN5.out)
              have HSH := Lib.hid hsh
              have T5 := Lib.hid ht
              clear hr hv hsh HM ht RD5
              have hc2 := X6.out.cellAt (i := 2) rfl
              have hf2 := X6.out.frozen 2
              clear htest hcv
              go_upto_region 10 with fail
              clear hc2 hf2
              obtain ⟨w7, hw⟩ : ∃ x, x = w6.setCell ⟨A + 1, 2, none⟩ (.slice ao s4.length co) := ⟨_, rfl⟩
              have hb : But w6.heap.size (A + 1) w6 w7 := by rw [hw]; exact (But.refl _ _ _).setB 2 _
              have X7 : Hid (Has w7 (A + 1) [.int .u8 1, .bool true, .slice ao s4.length co, .slice none 0 0, .slice none 0 0] 26) := Lib.hid (by rw [hw]; exact X6.out.set 2 _)
              have G7 := Lib.hid (G6.out.but hb G6.out.lt (by omega))
              have O7 := Lib.hid (owns_but O6.out hb (tree_far X6.out (by decide)))
              have BU7 : Hid (But w.heap.size rb w w7) := Lib.hid (by rw [hw]; exact BU6.out.setCell (p := ⟨A + 1, 2, none⟩) (.inl (by show w.heap.size ≤ A + 1; have := HA.out; omega)) _)
              have RD7 := Lib.hid (RD6.out.other hb (by omega))
              rw [← hw]
              clear hw hb G6 BU6 X6 RD6 O6
              have HK := Lib.hid (skip_1s rb w0 R4 ⟨#[41]⟩ sClose rfl w7 RD7.out)
              go_wp2_with fail
              refine HK.out.mono ?_
              rintro e w8 ⟨hb, hm⟩
              have G8 := Lib.hid (G7.out.but hb G7.out.lt (by omega))
              have X8 := Lib.hid (X7.out.but hb X7.out.lt (by omega))
              have O8 := Lib.hid (owns_but O7.out hb (RD7.out.far (by decide)))
              have BU8 := Lib.hid (BU7.out.trans (hb.mono BU7.out.size))
              have HM := Lib.hid hm
              clear hb hm HK G7 BU7 X7 O7
              cases ht : skipL [sClose] R4 with
              | none =>
                have hm := HM.out
                rw [ht] at hm
                subst hm
                have HF : Hid (fileL R0 = none) := Lib.hid (by simp [fileL, fileB, T1.out, hs1, T3.out, T4.out, hs3, T5.out, ht])
                clear HM ht
                go_wp2_with fail
                exact ⟨rfl, BU8.out, by rw [HF.out]⟩
              | some q =>
                have hm := HM.out
                rw [ht] at hm
                obtain ⟨R5, rfl⟩ : ∃ R, R = q := ⟨_, rfl⟩
                obtain ⟨v, rfl, hv, hr⟩ : ∃ v, e = .returned v ∧ noneV () v w8 ∧ Rd rb w0 R5 w8 := hm
                cases hv
                have RD8 := Lib.hid hr
                have T7 := Lib.hid ht
                clear hr HM ht RD7
                obtain ⟨L, hL⟩ : ∃ L : List Value, L = [.int .u8 1, .bool true, .slice ao s4.length co, .slice none 0 0, .slice none 0 0] := ⟨_, rfl⟩
                rw [← hL] at X8
                have hLI : Hid ((Try.prog.info? 26).map (·.size) = some L.toArray.size) := Lib.hid (by rw [hL]; exact infoL rfl)
                have hLS : Hid ((#[.int .u8 0, .bool false, .slice none 0 0, .slice none 0 0, .slice none 0 0] : Array Value).size = L.toArray.size) := Lib.hid (by rw [hL]; rfl)
                have hLO : Hid (L.toArray.all (·.oneCell') = true) := Lib.hid (by rw [hL]; exact cells_one _ _ _ _ _)
                have HL := Lib.hid hL
                have HG : Hid (w8.heap[A]? = some (.cells #[.int .u8 0, .bool false, .slice none 0 0, .slice none 0 0, .slice none 0 0] 26 (0, 0))) := Lib.hid G8.out
                clear hL
                go_wp2_with (first
                  | (refine wpList_load_rowG (by rfl) 26 _ rfl (A + 1) rfl 26 L.toArray (0, 0) _ X8.out Try.underlying26 rfl hLI.out ?_)
                  | (refine wpList_store_row rfl 26 _ _ rfl A L.toArray rfl rfl 26 _ HG.out hLI.out hLS.out hLO.out ?_))
                refine bodyPost_ret (results_cell_row (fn := Try.f35) (p := 2) (ty := 26) Try.results35 _ _ A 26 L.toArray (0, 0) _ rfl (setRow_heap _ _ _ _ _ _ HG.out) Try.underlying26 rfl hLI.out) rfl ?_
                have hb : But w8.heap.size A w8 (w8.setRow A L.toArray) := (But.refl _ _ _).setRow (.inr rfl) _
                refine ⟨BU8.out.setRow (.inl (by rw [HA.out]; exact Nat.le_refl _)) _, ?_⟩
                have HF : fileL R0 = some (.mk 1 true s4 [] [], R5) := by simp [fileL, fileB, T1.out, hs1, T3.out, T4.out, hs3, T5.out, T7.out]
                rw [HF]
                refine ⟨_, rfl, ⟨1, L, rfl, ?_⟩, RD8.out.other hb hrA0⟩
                exact leaf_stab 1 true s4 HL.out (owns_but O8.out hb (tree_far G8.out (by decide))) HSH.out
          · have htest : (sx3.toList == [99, 111, 110, 116, 101, 110, 116, 115]) = false := by rw [HSX3.out]; exact beq_eq_false_iff_ne.2 hs3
            go_wp2_with fail
            refine (giveUp_any _).mono ?_
            rintro e wx ⟨rfl, rfl⟩
            have HF : Hid (fileL R0 = none) := Lib.hid (by simp [fileL, T1.out, hs1, T3.out, T4.out, hs3])
            go_wp2_with fail
            exact ⟨rfl, BU5.out, by rw [HF.out]⟩
    · have htest : (sx1.toList == [101, 120, 101, 99, 117, 116, 97, 98, 108, 101]) = false := by rw [HSX1.out]; exact beq_eq_false_iff_ne.2 hs1
      by_cases hs1' : s1 = sContents
      · have htest2 : (sx1.toList == [99, 111, 110, 116, 101, 110, 116, 115]) = true := by rw [HSX1.out]; rw [hs1']; rfl
        have HK := Lib.hid (data_any rb w0 R1 w2 RD2.out)
        go_wp2_with fail
        refine HK.out.mono ?_
        rintro e w3 ⟨hb, hm⟩
        have G3 := Lib.hid (G2.out.but hb G2.out.lt (by omega))
        have X3 := Lib.hid (X2.out.but hb X2.out.lt (by omega))
        have BU3 := Lib.hid (BU2.out.trans (hb.mono BU2.out.size))
        have HM := Lib.hid hm
        have HLEN2 := Lib.hid BU2.out.size
        clear hb hm HK G2 BU2 X2
        cases ht : nextL R1 with
        | none =>
          have hm := HM.out
          rw [ht] at hm
          subst hm
          have HF : Hid (fileL R0 = none) := Lib.hid (by simp [fileL, fileB, T1.out, contents_ne, hs1', ht])
          clear HM ht
          go_wp2_with fail
          exact ⟨rfl, BU3.out, by rw [HF.out]⟩
        | some q =>
          obtain ⟨s2, R2⟩ := q
          have hm := HM.out
          rw [ht] at hm
          obtain ⟨v, rfl, hv, hr⟩ := hm
          have hsh := RD2.out.short ht
          obtain ⟨ao, co, rfl, _⟩ := isB_owned hv hsh
          have RD3 := Lib.hid hr
          have O3 := Lib.hid (own_mono hv HLEN2.out)
          have HSH := Lib.hid hsh
          have T2 := Lib.hid ht
          clear hr hv hsh HM ht RD2
          have hc2 := X3.out.cellAt (i := 2) rfl
          have hf2 := X3.out.frozen 2
          clear htest htest2 hcv
          go_upto_region 10 with fail
          clear hc2 hf2
          obtain ⟨w4, hw⟩ : ∃ x, x = w3.setCell ⟨A + 1, 2, none⟩ (.slice ao s2.length co) := ⟨_, rfl⟩
          have hb : But w3.heap.size (A + 1) w3 w4 := by rw [hw]; exact (But.refl _ _ _).setB 2 _
          have X4 : Hid (Has w4 (A + 1) [.int .u8 1, .bool false, .slice ao s2.length co, .slice none 0 0, .slice none 0 0] 26) := Lib.hid (by rw [hw]; exact X3.out.set 2 _)
          have G4 := Lib.hid (G3.out.but hb G3.out.lt (by omega))
          have O4 := Lib.hid (owns_but O3.out hb (tree_far X3.out (by decide)))
          have BU4 : Hid (But w.heap.size rb w w4) := Lib.hid (by rw [hw]; exact BU3.out.setCell (p := ⟨A + 1, 2, none⟩) (.inl (by show w.heap.size ≤ A + 1; have := HA.out; omega)) _)
          have RD4 := Lib.hid (RD3.out.other hb (by omega))
          rw [← hw]
          clear hw hb G3 BU3 X3 RD3 O3
          have HK := Lib.hid (skip_1s rb w0 R2 ⟨#[41]⟩ sClose rfl w4 RD4.out)
          go_wp2_with fail
          refine HK.out.mono ?_
          rintro e w5 ⟨hb, hm⟩
          have G5 := Lib.hid (G4.out.but hb G4.out.lt (by omega))
          have X5 := Lib.hid (X4.out.but hb X4.out.lt (by omega))
          have O5 := Lib.hid (owns_but O4.out hb (RD4.out.far (by decide)))
          have BU5 := Lib.hid (BU4.out.trans (hb.mono BU4.out.size))
          have HM := Lib.hid hm
          clear hb hm HK G4 BU4 X4 O4
          cases ht : skipL [sClose] R2 with
          | none =>
            have hm := HM.out
            rw [ht] at hm
            subst hm
            have HF : Hid (fileL R0 = none) := Lib.hid (by simp [fileL, fileB, T1.out, contents_ne, hs1', T2.out, ht])
            clear HM ht
            go_wp2_with fail
            exact ⟨rfl, BU5.out, by rw [HF.out]⟩
          | some q =>
            have hm := HM.out
            rw [ht] at hm
            obtain ⟨R3, rfl⟩ : ∃ R, R = q := ⟨_, rfl⟩
            obtain ⟨v, rfl, hv, hr⟩ : ∃ v, e = .returned v ∧ noneV () v w5 ∧ Rd rb w0 R3 w5 := hm
            cases hv
            have RD5 := Lib.hid hr
            have T4 := Lib.hid ht
            clear hr HM ht RD4
            obtain ⟨L, hL⟩ : ∃ L : List Value, L = [.int .u8 1, .bool false, .slice ao s2.length co, .slice none 0 0, .slice none 0 0] := ⟨_, rfl⟩
            rw [← hL] at X5
            have hLI : Hid ((Try.prog.info? 26).map (·.size) = some L.toArray.size) := Lib.hid (by rw [hL]; exact infoL rfl)
            have hLS : Hid ((#[.int .u8 0, .bool false, .slice none 0 0, .slice none 0 0, .slice none 0 0] : Array Value).size = L.toArray.size) := Lib.hid (by rw [hL]; rfl)
            have hLO : Hid (L.toArray.all (·.oneCell') = true) := Lib.hid (by rw [hL]; exact cells_one _ _ _ _ _)
            have HL := Lib.hid hL
            have HG : Hid (w5.heap[A]? = some (.cells #[.int .u8 0, .bool false, .slice none 0 0, .slice none 0 0, .slice none 0 0] 26 (0, 0))) := Lib.hid G5.out
            clear hL
            go_wp2_with (first
              | (refine wpList_load_rowG (by rfl) 26 _ rfl (A + 1) rfl 26 L.toArray (0, 0) _ X5.out Try.underlying26 rfl hLI.out ?_)
              | (refine wpList_store_row rfl 26 _ _ rfl A L.toArray rfl rfl 26 _ HG.out hLI.out hLS.out hLO.out ?_))
            refine bodyPost_ret (results_cell_row (fn := Try.f35) (p := 2) (ty := 26) Try.results35 _ _ A 26 L.toArray (0, 0) _ rfl (setRow_heap _ _ _ _ _ _ HG.out) Try.underlying26 rfl hLI.out) rfl ?_
            have hb : But w5.heap.size A w5 (w5.setRow A L.toArray) := (But.refl _ _ _).setRow (.inr rfl) _
            refine ⟨BU5.out.setRow (.inl (by rw [HA.out]; exact Nat.le_refl _)) _, ?_⟩
            have HF : fileL R0 = some (.mk 1 false s2 [] [], R3) := by simp [fileL, fileB, T1.out, contents_ne, hs1', T2.out, T4.out]
            rw [HF]
            refine ⟨_, rfl, ⟨1, L, rfl, ?_⟩, RD5.out.other hb hrA0⟩
            exact leaf_stab 1 false s2 HL.out (owns_but O5.out hb (tree_far G5.out (by decide))) HSH.out
      · have htest2 : (sx1.toList == [99, 111, 110, 116, 101, 110, 116, 115]) = false := by rw [HSX1.out]; exact beq_eq_false_iff_ne.2 hs1'
        go_wp2_with fail
        refine (giveUp_any _).mono ?_
        rintro e wx ⟨rfl, rfl⟩
        have HF : Hid (fileL R0 = none) := Lib.hid (by simp [fileL, T1.out, hs1, hs1'])
        go_wp2_with fail
        exact ⟨rfl, BU2.out, by rw [HF.out]⟩

set_option maxRecDepth 100000 in
set_option maxHeartbeats 4000000 in
theorem link_any (rb : Nat) (w0 : World) (R0 : List UInt8) (w : World) (hrd : Rd rb w0 R0 w) :
    Calls Try.prog 36 #[.pointer (some ⟨rb, 0, none⟩)] w (RP rb w0 w (linkL R0) (treeV w.heap.size)) := by
  have HRD := Lib.hid hrd
  have hrA0 := hrd.lt
  clear hrd
  go_enter Try.func36, Try.ntmps36
  go_upto_region 1 with fail
  obtain ⟨A, hA⟩ : ∃ A, A = w.heap.size := ⟨_, rfl⟩
  rw [← hA] at hrA0 ⊢
  obtain ⟨w1, hx1⟩ : ∃ x1, x1 = w.alloc (.cells #[.int .u8 0, .bool false, .slice none 0 0, .slice none 0 0, .slice none 0 0] 26) := ⟨_, rfl⟩
  rw [← hx1]
  have G1 : Hid (Has w1 A [.int .u8 0, .bool false, .slice none 0 0, .slice none 0 0, .slice none 0 0] 26) := Lib.hid (by rw [hx1, hA]; exact Has.new w [.int .u8 0, .bool false, .slice none 0 0, .slice none 0 0, .slice none 0 0] _)
  have b1 : Below w.heap.size w w1 := by rw [hx1]; exact (Below.refl _ _).alloc (Nat.le_refl _) _
  have BU1 : Hid (But w.heap.size rb w w1) := Lib.hid (But.of_below b1)
  have RD1 := Lib.hid (HRD.out.later b1)
  have HA := Lib.hid hA
  clear hA hx1 b1 HRD
  have HK := Lib.hid (skip_1s rb w0 R0 ⟨#[116, 97, 114, 103, 101, 116]⟩ sTarget rfl w1 RD1.out)
  go_wp2_with fail
  refine HK.out.mono ?_
  rintro e w2 ⟨hb, hm⟩
  have G2 := Lib.hid (G1.out.but hb G1.out.lt (by omega))
  have BU2 := Lib.hid (BU1.out.trans (hb.mono BU1.out.size))
  have HM := Lib.hid hm
  clear hb hm HK G1 BU1
  cases ht : skipL [sTarget] R0 with
  | none =>
    have hm := HM.out
    rw [ht] at hm
    subst hm
    have HF : Hid (linkL R0 = none) := Lib.hid (by simp [linkL, ht])
    clear HM ht
    go_wp2_with fail
    exact ⟨rfl, BU2.out, by rw [HF.out]⟩
  | some q =>
    have hm := HM.out
    rw [ht] at hm
    obtain ⟨R1, rfl⟩ : ∃ R, R = q := ⟨_, rfl⟩
    obtain ⟨v, rfl, hv, hr⟩ : ∃ v, e = .returned v ∧ noneV () v w2 ∧ Rd rb w0 R1 w2 := hm
    cases hv
    have RD2 := Lib.hid hr
    have T1 := Lib.hid ht
    clear hr HM ht RD1
    have HK := Lib.hid (data_any rb w0 R1 w2 RD2.out)
    go_wp2_with fail
    refine HK.out.mono ?_
    rintro e w3 ⟨hb, hm⟩
    have G3 := Lib.hid (G2.out.but hb G2.out.lt (by omega))
    have BU3 := Lib.hid (BU2.out.trans (hb.mono BU2.out.size))
    have HM := Lib.hid hm
    have HLEN2 := Lib.hid BU2.out.size
    clear hb hm HK G2 BU2
    cases ht : nextL R1 with
    | none =>
      have hm := HM.out
      rw [ht] at hm
      subst hm
      have HF : Hid (linkL R0 = none) := Lib.hid (by simp [linkL, T1.out, ht])
      clear HM ht
      go_wp2_with fail
      exact ⟨rfl, BU3.out, by rw [HF.out]⟩
    | some q =>
      obtain ⟨s2, R2⟩ := q
      have hm := HM.out
      rw [ht] at hm
      obtain ⟨v, rfl, hv, hr⟩ := hm
      have hsh := RD2.out.short ht
      obtain ⟨ao, co, rfl, _⟩ := isB_owned hv hsh
      have RD3 := Lib.hid hr
      have O3 := Lib.hid (own_mono hv HLEN2.out)
      have HSH := Lib.hid hsh
      have T2 := Lib.hid ht
      clear hr hv hsh HM ht RD2
      go_upto_region 3 with fail
      obtain ⟨B, hB⟩ : ∃ B, B = w3.heap.size := ⟨_, rfl⟩
      rw [← hB]
      obtain ⟨w4, hw⟩ : ∃ x, x = w3.alloc (.cells #[.int .u8 2, .bool false, .slice ao s2.length co, .slice none 0 0, .slice none 0 0] 26) := ⟨_, rfl⟩
      have hb := (Below.refl w3.heap.size w3).alloc (Nat.le_refl _) (.cells #[.int .u8 2, .bool false, .slice ao s2.length co, .slice none 0 0, .slice none 0 0] 26)
      rw [← hw] at hb ⊢
      have X4 : Hid (Has w4 B [.int .u8 2, .bool false, .slice ao s2.length co, .slice none 0 0, .slice none 0 0] 26) := Lib.hid (by rw [hw, hB]; exact Has.new w3 [.int .u8 2, .bool false, .slice ao s2.length co, .slice none 0 0, .slice none 0 0] _)
      have G4 := Lib.hid (G3.out.below hb G3.out.lt)
      have O4 := Lib.hid (owns_same O3.out (fun k _ hk => hb.block k hk))
      have BU4 := Lib.hid (BU3.out.trans (But.of_below (hb.mono BU3.out.size)))
      have RD4 := Lib.hid (RD3.out.later hb)
      have hrB : rb < B := by rw [hB]; exact RD3.out.lt
      clear hw hb hB G3 O3 BU3 RD3
      have HK := Lib.hid (skip_1s rb w0 R2 ⟨#[41]⟩ sClose rfl w4 RD4.out)
      go_wp2_with fail
      refine HK.out.mono ?_
      rintro e w5 ⟨hb, hm⟩
      have G5 := Lib.hid (G4.out.but hb G4.out.lt (by omega))
      have X5 := Lib.hid (X4.out.but hb X4.out.lt (by omega))
      have O5 := Lib.hid (owns_but O4.out hb (RD4.out.far (by decide)))
      have BU5 := Lib.hid (BU4.out.trans (hb.mono BU4.out.size))
      have HM := Lib.hid hm
      clear hb hm HK G4 BU4 X4 O4
      cases ht : skipL [sClose] R2 with
      | none =>
        have hm := HM.out
        rw [ht] at hm
        subst hm
        have HF : Hid (linkL R0 = none) := Lib.hid (by simp [linkL, T1.out, T2.out, ht])
        clear HM ht
        go_wp2_with fail
        exact ⟨rfl, BU5.out, by rw [HF.out]⟩
      | some q =>
        have hm := HM.out
        rw [ht] at hm
        obtain ⟨R3, rfl⟩ : ∃ R, R = q := ⟨_, rfl⟩
        obtain ⟨v, rfl, hv, hr⟩ : ∃ v, e = .returned v ∧ noneV () v w5 ∧ Rd rb w0 R3 w5 := hm
        cases hv
        have RD5 := Lib.hid hr
        have T4 := Lib.hid ht
        clear hr HM ht RD4
        obtain ⟨L, hL⟩ : ∃ L : List Value, L = [.int .u8 2, .bool false, .slice ao s2.length co, .slice none 0 0, .slice none 0 0] := ⟨_, rfl⟩
        rw [← hL] at X5
        have hLI : Hid ((Try.prog.info? 26).map (·.size) = some L.toArray.size) := Lib.hid (by rw [hL]; exact infoL rfl)
        have hLS : Hid ((#[.int .u8 0, .bool false, .slice none 0 0, .slice none 0 0, .slice none 0 0] : Array Value).size = L.toArray.size) := Lib.hid (by rw [hL]; rfl)
        have hLO : Hid (L.toArray.all (·.oneCell') = true) := Lib.hid (by rw [hL]; exact cells_one _ _ _ _ _)
        have HL := Lib.hid hL
        have HG : Hid (w5.heap[A]? = some (.cells #[.int .u8 0, .bool false, .slice none 0 0, .slice none 0 0, .slice none 0 0] 26 (0, 0))) := Lib.hid G5.out
        clear hL
        go_wp2_with (first
          | (refine wpList_load_rowG (by rfl) 26 _ rfl B rfl 26 L.toArray (0, 0) _ X5.out Try.underlying26 rfl hLI.out ?_)
          | (refine wpList_store_row rfl 26 _ _ rfl A L.toArray rfl rfl 26 _ HG.out hLI.out hLS.out hLO.out ?_))
        refine bodyPost_ret (results_cell_row (fn := Try.f36) (p := 2) (ty := 26) Try.results36 _ _ A 26 L.toArray (0, 0) _ rfl (setRow_heap _ _ _ _ _ _ HG.out) Try.underlying26 rfl hLI.out) rfl ?_
        have hb : But w5.heap.size A w5 (w5.setRow A L.toArray) := (But.refl _ _ _).setRow (.inr rfl) _
        refine ⟨BU5.out.setRow (.inl (by rw [HA.out]; exact Nat.le_refl _)) _, ?_⟩
        have HF : linkL R0 = some (.mk 2 false s2 [] [], R3) := by simp [linkL, T1.out, T2.out, T4.out]
        rw [HF]
        refine ⟨_, rfl, ⟨1, L, rfl, ?_⟩, RD5.out.other hb hrA0⟩
        exact leaf_stab 2 false s2 HL.out (owns_but O5.out hb (tree_far G5.out (by decide))) HSH.out

end Go.Proofs.Ythjihibocobndaa

/-
  The reference's words are the program's: or for exclusive or, sums in another order; the padded bytes.
-/
import Derived.Test.YtokbakpbhpknfaaGreatDoorWriteN
import Derived.Test.YtokbakpbhpknfaaGreatDoorOfN
import Derived.Laws.AppendOwnNone
import Derived.Deep.QuietTactic
import Derived.BigQuiet
import Derived.StillTailTactics
import Derived.Deep.RegionHeld3
import Derived.Deep.MidRow
import Derived.IntWalk
import Derived.Deep.DeepCutAuto
import Derived.Deep.CutBlock
import Derived.BigRegion
namespace Go.Proofs.YtokbakpbhpknfaaGreatDoor
open Go.RowKit
set_option linter.unusedVariables false

theorem testBit_not32 (w : Nat) (hw : w < 4294967296) (i : Nat) : (4294967295 - w).testBit i = (decide (i < 32) && !w.testBit i) := by
  have h := Nat.testBit_two_pow_sub_succ (x := w) (n := 32) (by simpa using hw) i
  rw [← h]
  congr 1
  omega

theorem choice_or (w x y : Nat) (hw : w < 4294967296) : (w &&& x) ||| ((4294967295 - w) &&& y) = choice w x y := by
  unfold choice
  apply Nat.eq_of_testBit_eq
  intro i
  simp only [Nat.testBit_or, Nat.testBit_xor, Nat.testBit_and, testBit_not32 w hw]
  cases w.testBit i <;> cases x.testBit i <;> cases y.testBit i <;> cases decide (i < 32) <;> rfl

theorem major_or (s t u : Nat) : ((s &&& t) ||| (s &&& u)) ||| (t &&& u) = major s t u := by
  unfold major
  apply Nat.eq_of_testBit_eq
  intro i
  simp only [Nat.testBit_or, Nat.testBit_xor, Nat.testBit_and]
  cases s.testBit i <;> cases t.testBit i <;> cases u.testBit i <;> rfl

theorem first_ref (a : S8) (k p : Nat) : (((a.z + k) % 4294967296 + p) % 4294967296 + turn3 a.w 6 11 25) % 4294967296 = (a.z + turn3 a.w 6 11 25 + k + p) % 4294967296 := by omega

theorem firstOf_ref (a : S8) (k p : Nat) : ((((a.z + k) % 4294967296 + p) % 4294967296 + turn3 a.w 6 11 25) % 4294967296 + choice a.w a.x a.y) % 4294967296 = firstOf a k p := by
  unfold firstOf; omega

theorem nextW_ref (B l : List Nat) (i : Nat) (hi : ¬ i < 16) : (((l.getD (i - 16) 0 + l.getD (i - 7) 0) % 4294967296 + small (l.getD (i - 15) 0)) % 4294967296 + great (l.getD (i - 2) 0)) % 4294967296 = nextW B l i := by
  unfold nextW; rw [if_neg hi]; omega

/-- How many noughts stand behind the mark. -/
def padZ (n : Nat) : Nat := (119 - n % 64) % 64
theorem padZ_lt (n : Nat) : padZ n < 64 := Nat.mod_lt _ (by omega)
theorem padZ_mod (n : Nat) : (n + 1 + padZ n) % 64 = 56 := by unfold padZ; omega
theorem padZ_least (n k : Nat) (hk : k < padZ n) : (n + 1 + k) % 64 ≠ 56 := by unfold padZ at hk; omega

/-- The number's bytes, the highest first. -/
def lenB (n : Nat) : List Nat := (List.range 8).map fun i => n * 8 % 18446744073709551616 / 2 ^ (56 - 8 * i) % 256
/-- The bytes, the mark, the noughts, the number. -/
def padL (M : List Nat) : List Nat := M ++ (128 :: (List.replicate (padZ M.length) 0 ++ lenB M.length))
theorem padL_length (M : List Nat) : (padL M).length = M.length + 9 + padZ M.length := by simp [padL, lenB]; omega
theorem padL_mod (M : List Nat) : (padL M).length % 64 = 0 := by rw [padL_length]; unfold padZ; omega

theorem set_mid (A X C : List Nat) (j v : Nat) (hj : j < X.length) : (A ++ (X ++ C)).set (A.length + j) v = A ++ (X.set j v ++ C) := by
  rw [List.set_append_right _ _ (by omega), Nat.add_sub_cancel_left, List.set_append_left _ _ hj]

theorem endL_pad (T : List Nat) (N : Nat) (hT : T.length = N % 64) :
    endL T N 8 = (T ++ (128 :: (List.replicate (padZ N) 0 ++ lenB N))) ++ List.replicate (128 - endN (N % 64)) 0 := by
  have hz : padZ N + (N % 64) + 9 = endN (N % 64) := by unfold padZ endN; split <;> omega
  obtain ⟨A, hA⟩ : ∃ A, A = T ++ (128 :: List.replicate (padZ N) 0) := ⟨_, rfl⟩
  have hAl : A.length = endN (N % 64) - 8 := by rw [hA]; simp; omega
  have he : endN (N % 64) ≤ 128 := by unfold endN; split <;> omega
  have he2 : 64 ≤ endN (N % 64) := by unfold endN; split <;> omega
  obtain ⟨C, hC⟩ : ∃ C, C = List.replicate (128 - endN (N % 64)) 0 := ⟨_, rfl⟩
  obtain ⟨f, hf⟩ : ∃ f : Nat → Nat, ∀ i, N * 8 % 18446744073709551616 / 2 ^ (8 * i) % 256 = f i := ⟨_, fun _ => rfl⟩
  have h0 : endL T N 0 = A ++ ([0, 0, 0, 0, 0, 0, 0, 0] ++ C) := by
    show (end0 T (N % 64)).set (N % 64) 128 = _
    unfold end0
    have e8 : ([0, 0, 0, 0, 0, 0, 0, 0] : List Nat) = List.replicate 8 0 := rfl
    rw [List.take_of_length_le (by omega), List.set_append_right _ _ (by omega), hT, Nat.sub_self, hA, hC, e8,
      show 128 - N % 64 = (padZ N + (8 + (128 - endN (N % 64)))) + 1 from by omega, List.replicate_succ, List.set_cons_zero, List.append_assoc, List.cons_append,
      List.replicate_append_replicate, List.replicate_append_replicate]
  have step : ∀ i, i < 8 → ∀ X : List Nat, X.length = 8 → endL T N i = A ++ (X ++ C) → endL T N (i + 1) = A ++ (X.set (7 - i) (f i) ++ C) := by
    intro i hi X hX h
    show (endL T N i).set (endN (N % 64) - 1 - i) (N * 8 % 18446744073709551616 / 2 ^ (8 * i) % 256) = _
    rw [h, hf, show endN (N % 64) - 1 - i = A.length + (7 - i) from by omega]
    exact set_mid A X C _ _ (by omega)
  have h8 := step 7 (by omega) _ rfl (step 6 (by omega) _ rfl (step 5 (by omega) _ rfl (step 4 (by omega) _ rfl (step 3 (by omega) _ rfl (step 2 (by omega) _ rfl (step 1 (by omega) _ rfl (step 0 (by omega) _ rfl h0)))))))
  rw [h8]
  have hl : lenB N = [f 7, f 6, f 5, f 4, f 3, f 2, f 1, f 0] := by
    simp only [← hf]; rfl
  rw [hl, hA, hC]
  simp

theorem stAt_take (S M : List Nat) (q : Nat) (hq : 64 * q ≤ M.length) : stAt S (M.take (64 * q)) q = stAt S M q := by
  have h := stAt_append S (M.take (64 * q)) (M.drop (64 * q)) q (by rw [List.length_take]; omega)
  rw [List.take_append_drop] at h
  exact h.symm

theorem dig_pad (M : List Nat) : dig M = bytesL (stAt startL (padL M) ((padL M).length / 64)) 32 := by
  obtain ⟨q, hq⟩ : ∃ q, q = M.length / 64 := ⟨_, rfl⟩
  obtain ⟨E, hE⟩ : ∃ E, E = M.drop (64 * q) ++ (128 :: (List.replicate (padZ M.length) 0 ++ lenB M.length)) := ⟨_, rfl⟩
  have hs : padL M = M.take (64 * q) ++ E := by rw [hE, ← List.append_assoc, List.take_append_drop]; rfl
  have hz : padZ M.length + (M.length % 64) + 9 = endN (M.length % 64) := by unfold padZ endN; split <;> omega
  have hEl : E.length = endN (M.length % 64) := by rw [hE]; simp [lenB]; omega
  have hmod : endN (M.length % 64) % 64 = 0 := by unfold endN; split <;> rfl
  have hl : (padL M).length / 64 = q + endN (M.length % 64) / 64 := by rw [hs, List.length_append, hEl, List.length_take]; omega
  unfold dig sumL
  rw [← hq, endL_pad _ _ (by rw [List.length_drop]; omega), ← hE, stAt_append _ E _ _ (by omega), hl, hs, stAt_more startL (M.take (64 * q)) E q (by rw [List.length_take]; omega), stAt_take _ _ _ (by omega)]

end Go.Proofs.YtokbakpbhpknfaaGreatDoor

namespace Go.Proofs.YtokbakpbhpknfaaGreatDoor
open Go.RowKit
set_option linter.unusedVariables false

theorem info_u8 : (Tryz.prog.info? 5).map (fun i => (i.zero, i.size, i.bytes)) = some (some (.int .u8 0), 1, 1) := by kernel_rfl

/-- What a row that the call itself made reads as. -/
theorem isN_of_owns {w : World} {base n : Nat} {v : Value} {l : List Nat} (hs : ∀ x ∈ l, x < 256) (h : w.ownsRow base 5 1 v n (l.map byv)) :
    ∃ a cap, v = .slice a n cap ∧ IsN w a n cap l ∧ ∀ x, a = some x → base ≤ x.block := by
  have hl : l.length = n := by simpa using h.1
  rcases h.2 with ⟨rfl, rfl⟩ | ⟨g, cap, cur, rfl, hb, hg, hnc, hcm, hcs, htake⟩
  · exact ⟨none, 0, rfl, ⟨hl, .inl rfl, fun _ => ⟨rfl, rfl⟩, ⟨Nat.le_refl _, Nat.zero_le _⟩, hs⟩, fun x hx => by cases hx⟩
  · refine ⟨some ⟨g, 0, none⟩, cap, rfl, ⟨hl, .inr ⟨g, 0, rfl, ?_, ?_⟩, (fun hx => by cases hx), ⟨hnc, hcm⟩, hs⟩, fun x hx => by cases hx; exact hb⟩
    · rcases Nat.lt_or_ge g w.heap.size with hlt | hge
      · exact hlt
      · rw [Array.getElem?_eq_none hge] at hg; cases hg
    · intro i hi
      have h2 : w.ownsRow base 5 1 (.slice (some ⟨g, 0, none⟩) n cap) n (l.map byv) := h
      rw [Nat.zero_add, h2.cellAt i (by omega)]
      simp [hi, byv, List.getD]

/-- 'append' of bytes that came in, nil and empty ones too, onto nil or onto a row of the call's own. -/
theorem wpList_append_nat {P : Program} {w : World} {ops : Array Oper} {rest : List Oper} {o : Oper} {a : Act} {Q : Exit → Act → World → Prop} (hgd : o.guard = none) (s x : Operand) (t : TypeId)
    (ho : o.op = .call { callee := .builtin .append, args := #[s, x], argTypes := #[t, t] })
    (base : Nat) (e : TypeId) (i : TypeInfo) (ht : P.underlying t = some (.slice e)) (hi : P.info? e = some i) (hz : i.zero = some (.int .u8 0))
    (hsize : i.size = 1) (hby : i.bytes = 1)
    (v : Value) (n : Nat) (l : List Nat) (hs : a.eval s = v) (hown : w.ownsRow base e 1 v n (l.map byv))
    (ao : Option Addr) (m c : Nat) (k : List Nat) (hx : a.eval x = .slice ao m c) (hsrc : IsN w ao m c k)
    (hbytes : n + m ≤ 140737488355328) (hbase : base ≤ w.heap.size)
    (h : ∀ v' w', w'.ownsRow base e 1 v' (n + m) ((l ++ k).map byv) → w.grownBy w' v.ownBlock → wpList P ops Q rest (a.put o.dst v') w') : wpList P ops Q (o :: rest) a w := by
  obtain ⟨h1, h2, h4, _, _⟩ := hsrc
  cases ao with
  | none =>
    obtain ⟨rfl, rfl⟩ := h4 rfl
    obtain rfl : k = [] := List.eq_nil_of_length_eq_zero h1
    refine wpList_append_own_none hgd s x t ho base e i 1 ht hi v n (l.map byv) hs hown hx ?_
    exact h v w (by simpa using hown) (World.grownBy.refl w _)
  | some ad =>
    refine wpList_append_own w hgd s x t ho base e i _ 1 1 ht hi hz hsize hby rfl (by omega) v n (l.map byv) hs hown ad m c (k.map byv) hx (by simp [h1]) ?_ ?_ (by unfold maxLen; omega) (by omega) hbase ?_
    · intro j u hj
      rcases h2 with h0 | ⟨b, off, he, hlt, hby'⟩
      · subst h0
        obtain rfl : k = [] := List.eq_nil_of_length_eq_zero h1
        simp at hj
      · cases he
        have hjl : j < k.length := by have := (List.getElem?_eq_some_iff.1 hj).1; simpa using this
        rw [Addr.add_mid, hby' j hjl, ← hj, map_get byv k j hjl]; rfl
    · intro u hu
      obtain ⟨b, _, rfl⟩ := List.mem_map.1 hu
      rfl
    · intro v' w' h5 h6 _
      exact h v' w' (by rw [List.map_append]; exact h5) h6

/-- One byte in a new block. -/
theorem isN_one (w : World) (t : TypeId) (x : Nat) (hx : x < 256) : IsN (w.alloc (.cells #[.int .u8 (x : Int)] t)) (some ⟨w.heap.size, 0, none⟩) 1 1 [x] := by
  have hh : Has (w.alloc (.cells #[.int .u8 (x : Int)] t)) w.heap.size [.int .u8 (x : Int)] t := Has.new w _ _
  refine ⟨rfl, .inr ⟨w.heap.size, 0, rfl, by simp, ?_⟩, (fun h => by cases h), ⟨Nat.le_refl _, by unfold maxLen; omega⟩, by intro y hy; simp at hy; omega⟩
  intro i hi
  have : i = 0 := by simp at hi; omega
  subst this
  exact hh.cellAt rfl

theorem wpList_build_to {P : Program} {ops : Array Oper} {rest : List Oper} {o : Oper} {a : Act} {w : World} {Q : Exit → Act → World → Prop} (hg : o.guard = none) (t : TypeId) (parts : Array (Nat × Operand)) (ho : o.op = .build t parts)
    (cs : Array Value) (hb : P.built t (parts.map fun (i, x) => (i, a.eval x)).toList = some cs)
    (h : wpList P ops Q rest (a.put o.dst (.agg cs)) w) : wpList P ops Q (o :: rest) a w :=
  wpList_build hg t parts ho (by rw [hb]; rfl) (by rw [hb]; exact h)

def WKL : List Nat := wordsK ++ startL
theorem WKL_length : WKL.length = 72 := rfl
theorem info_WK : (Tryz.prog.info? 77).map (·.size) = some (WKL.map wv).toArray.size := by kernel_rfl

set_option maxRecDepth 100000 in
set_option maxHeartbeats 1000000 in
theorem make_any (w : World) :
    Calls Tryz.prog 53 #[] w fun e w' => e = .returned (.agg (WKL.map wv).toArray) ∧ Below w.heap.size w w' := by
  have hz : ∀ w : World, (zeroValue 77).run Tryz.prog w = .ok (.agg ((List.replicate 72 0).map wv).toArray) w := fun w => by kernel_rfl
  obtain ⟨Z, hZ⟩ : ∃ Z, Z = ((List.replicate 72 0).map wv).toArray := ⟨_, rfl⟩
  rw [← hZ] at hz
  have hZl : Z.size = (WKL.map wv).toArray.size := by rw [hZ]; rfl
  have HZ := Lib.hid hZl
  have one : (WKL.map wv).toArray.all (·.oneCell') = true := by
    refine all_oneCell_toArray ?_
    intro v hv
    obtain ⟨x, _, rfl⟩ := List.mem_map.1 hv
    rfl
  have hbk : Tryz.prog.built 77 [(0, .agg (wordsK.map wv).toArray), (1, .agg (startL.map wv).toArray)] = some (WKL.map wv).toArray := by kernel_rfl
  obtain ⟨KK, hKK⟩ : ∃ KK, KK = (wordsK.map wv).toArray := ⟨_, rfl⟩
  obtain ⟨HH, hHH⟩ : ∃ HH, HH = (startL.map wv).toArray := ⟨_, rfl⟩
  obtain ⟨W, hW⟩ : ∃ W, W = (WKL.map wv).toArray := ⟨_, rfl⟩
  have IW := Lib.hid info_WK
  rw [← hKK, ← hHH, ← hW] at hbk
  rw [← hW] at HZ one IW ⊢
  have HBK := Lib.hid hbk
  have HONE := Lib.hid one
  have HKK := Lib.hid hKK
  have HHH := Lib.hid hHH
  clear hZ hZl one hbk hKK hHH hW
  go_enter Tryz.func53, Tryz.ntmps53
  go_upto_region 1 with fail
  obtain ⟨w1, hw1⟩ : ∃ w1, w1 = w.alloc (.cells Z 77) := ⟨_, rfl⟩
  rw [show w.alloc (.cells Z 77) = w1 from hw1.symm]
  have hg : w1.heap[w.heap.size]? = some (.cells Z 77 (0, 0)) := by rw [hw1]; exact heap_alloc_new w _
  have b1 : Below w.heap.size w w1 := by rw [hw1]; exact (Below.refl _ _).alloc (Nat.le_refl _) _
  have HG := Lib.hid hg
  clear hw1 hg hz
  go_wp2_with (first
    | (refine wpList_build_to rfl 74 _ rfl KK (by rw [HKK.out]; kernel_rfl) ?_)
    | (refine wpList_build_to rfl 75 _ rfl HH (by rw [HHH.out]; kernel_rfl) ?_)
    | (refine wpList_build_to rfl 77 _ rfl W ((congrArg (Tryz.prog.built 77) (show _ = [(0, Value.agg KK), (1, Value.agg HH)] from by simp only [List.map_toArray, List.map_cons, List.map_nil]; rfl)).trans HBK.out) ?_)
    | (refine wpList_store_row rfl 77 _ _ rfl w.heap.size W rfl rfl 77 _ HG.out IW.out HZ.out HONE.out ?_))
  have hres : ∀ tmps : Array Value, tmps.getD 0 undef = .pointer (some ⟨w.heap.size, 0, none⟩) → (results Tryz.f53 tmps).run Tryz.prog (w1.setRow w.heap.size W) = .ok (.agg W) (w1.setRow w.heap.size W) :=
    fun tmps hp => results_cell_row (fn := Tryz.f53) (p := 0) (ty := 77) Tryz.results53 tmps _ w.heap.size 77 W (0, 0) _ hp (setRow_heap _ _ _ _ _ _ HG.out) Tryz.underlying77 rfl IW.out
  refine bodyPost_ret (hres _ rfl) rfl ?_
  exact ⟨rfl, below_setRow b1 (Nat.le_refl _) _⟩

end Go.Proofs.YtokbakpbhpknfaaGreatDoor

namespace Go.Proofs.YtokbakpbhpknfaaGreatDoor
open Go.RowKit
set_option linter.unusedVariables false

theorem info_parts8 {P : Program} {t : TypeId} {z : Value} (h : (P.info? t).map (fun i => (i.zero, i.size, i.bytes)) = some (some z, 1, 1)) : ∃ i, P.info? t = some i ∧ i.zero = some z ∧ i.size = 1 ∧ i.bytes = 1 := by
  obtain ⟨i, hi, he⟩ := Option.map_eq_some_iff.1 h
  simp only [Prod.mk.injEq] at he
  exact ⟨i, hi, he.1, he.2.1, he.2.2⟩

theorem rep_snoc (j : Nat) : List.replicate (j + 1) (0 : Nat) = List.replicate j 0 ++ [0] := List.replicate_succ'

def lenAt (n i : Nat) : Nat := n * 8 % 18446744073709551616 / 2 ^ (56 - 8 * i) % 256
theorem lenAt_lt (n i : Nat) : lenAt n i < 256 := Nat.mod_lt _ (by omega)
theorem lenB_eq (n : Nat) : lenB n = (List.range 8).map (lenAt n) := rfl
theorem lenB_snoc (n i : Nat) : (List.range (i + 1)).map (lenAt n) = (List.range i).map (lenAt n) ++ [lenAt n i] := by
  rw [List.range_succ, List.map_append]; rfl

def headL (B : List Nat) (j i : Nat) : List Nat := B ++ (128 :: (List.replicate j 0 ++ (List.range i).map (lenAt B.length)))
theorem headL_small {B : List Nat} (hB : ∀ x ∈ B, x < 256) (j i : Nat) : ∀ x ∈ headL B j i, x < 256 := by
  intro x hx
  unfold headL at hx
  rcases List.mem_append.1 hx with h | h
  · exact hB x h
  · rcases List.mem_cons.1 h with h | h
    · omega
    · rcases List.mem_append.1 h with h | h
      · have := (List.mem_replicate.1 h).2; omega
      · obtain ⟨k, _, rfl⟩ := List.mem_map.1 h
        exact lenAt_lt _ _
theorem headL_length (B : List Nat) (j i : Nat) : (headL B j i).length = B.length + 1 + j + i := by simp [headL]; omega
theorem headL_zero (B : List Nat) (j : Nat) : headL B (j + 1) 0 = headL B j 0 ++ [0] := by simp [headL, rep_snoc]
theorem headL_len (B : List Nat) (j i : Nat) : headL B j (i + 1) = headL B j i ++ [lenAt B.length i] := by simp [headL, lenB_snoc]
theorem headL_pad (B : List Nat) : headL B (padZ B.length) 8 = padL B := rfl
theorem headL_start (B : List Nat) : headL B 0 0 = B ++ [128] := by simp [headL]

theorem has_of_full {w : World} {base X n : Nat} {e : TypeId} {xs : List Value} (h : w.ownsRow base e 1 (.slice (some ⟨X, 0, none⟩) n n) n xs) (hn : 0 < n) : Has w X xs e := by
  rcases h.2 with ⟨_, h0⟩ | ⟨g, cap, cur, hv, _, hg, _, _, hcs, ht⟩
  · omega
  · simp only [Value.slice.injEq, Option.some.injEq, Addr.mk.injEq] at hv
    obtain ⟨⟨rfl, _, _⟩, _, rfl⟩ := hv
    have : cur = xs.toArray := by
      rw [← ht, Nat.mul_one, List.take_of_length_le (by simp; omega)]
    rw [this] at hg
    exact hg

theorem right_7 (x : Nat) (w : World) (hx : x < 4294967296) : Calls Tryz.prog 82 #[.int .u32 (x : Int), .int .i64 7] w fun e w' => e = .returned (.int .u32 (rotr x 7 : Int)) ∧ ∃ k, w' = w.drewN k := right_any x 7 w hx (by omega) (by omega)
theorem right_18 (x : Nat) (w : World) (hx : x < 4294967296) : Calls Tryz.prog 82 #[.int .u32 (x : Int), .int .i64 18] w fun e w' => e = .returned (.int .u32 (rotr x 18 : Int)) ∧ ∃ k, w' = w.drewN k := right_any x 18 w hx (by omega) (by omega)
theorem right_17 (x : Nat) (w : World) (hx : x < 4294967296) : Calls Tryz.prog 82 #[.int .u32 (x : Int), .int .i64 17] w fun e w' => e = .returned (.int .u32 (rotr x 17 : Int)) ∧ ∃ k, w' = w.drewN k := right_any x 17 w hx (by omega) (by omega)
theorem right_19 (x : Nat) (w : World) (hx : x < 4294967296) : Calls Tryz.prog 82 #[.int .u32 (x : Int), .int .i64 19] w fun e w' => e = .returned (.int .u32 (rotr x 19 : Int)) ∧ ∃ k, w' = w.drewN k := right_any x 19 w hx (by omega) (by omega)
theorem right_6 (x : Nat) (w : World) (hx : x < 4294967296) : Calls Tryz.prog 82 #[.int .u32 (x : Int), .int .i64 6] w fun e w' => e = .returned (.int .u32 (rotr x 6 : Int)) ∧ ∃ k, w' = w.drewN k := right_any x 6 w hx (by omega) (by omega)
theorem right_11 (x : Nat) (w : World) (hx : x < 4294967296) : Calls Tryz.prog 82 #[.int .u32 (x : Int), .int .i64 11] w fun e w' => e = .returned (.int .u32 (rotr x 11 : Int)) ∧ ∃ k, w' = w.drewN k := right_any x 11 w hx (by omega) (by omega)
theorem right_25 (x : Nat) (w : World) (hx : x < 4294967296) : Calls Tryz.prog 82 #[.int .u32 (x : Int), .int .i64 25] w fun e w' => e = .returned (.int .u32 (rotr x 25 : Int)) ∧ ∃ k, w' = w.drewN k := right_any x 25 w hx (by omega) (by omega)
theorem right_2 (x : Nat) (w : World) (hx : x < 4294967296) : Calls Tryz.prog 82 #[.int .u32 (x : Int), .int .i64 2] w fun e w' => e = .returned (.int .u32 (rotr x 2 : Int)) ∧ ∃ k, w' = w.drewN k := right_any x 2 w hx (by omega) (by omega)
theorem right_13 (x : Nat) (w : World) (hx : x < 4294967296) : Calls Tryz.prog 82 #[.int .u32 (x : Int), .int .i64 13] w fun e w' => e = .returned (.int .u32 (rotr x 13 : Int)) ∧ ∃ k, w' = w.drewN k := right_any x 13 w hx (by omega) (by omega)
theorem right_22 (x : Nat) (w : World) (hx : x < 4294967296) : Calls Tryz.prog 82 #[.int .u32 (x : Int), .int .i64 22] w fun e w' => e = .returned (.int .u32 (rotr x 22 : Int)) ∧ ∃ k, w' = w.drewN k := right_any x 22 w hx (by omega) (by omega)

def lst8 (a : S8) : List Nat := [a.s, a.t, a.u, a.v, a.w, a.x, a.y, a.z]
def shl (s t u v q x y z : Nat) : Nat → List Nat
  | 0 => [s, s, t, u, v, q, x, y]
  | 1 => [s, t, t, u, v, q, x, y]
  | 2 => [s, t, u, u, v, q, x, y]
  | 3 => [s, t, u, v, v, q, x, y]
  | 4 => [s, t, u, v, q, q, x, y]
  | 5 => [s, t, u, v, q, x, x, y]
  | 6 => [s, t, u, v, q, x, y, y]
  | _ => [s, t, u, v, q, x, y, z]
theorem shl_length (s t u v q x y z k : Nat) (hk : k ≤ 7) : (shl s t u v q x y z k).length = 8 := by
  match k, hk with
  | 0, _ | 1, _ | 2, _ | 3, _ | 4, _ | 5, _ | 6, _ | 7, _ => rfl
theorem shl_step (s t u v q x y z k : Nat) (h1 : 1 ≤ k) (hk : k ≤ 7) : (shl s t u v q x y z k).set k ((shl s t u v q x y z k).getD (k - 1) 0) = shl s t u v q x y z (k - 1) := by
  match k, h1, hk with
  | 1, _, _ | 2, _, _ | 3, _, _ | 4, _, _ | 5, _, _ | 6, _, _ | 7, _, _ => rfl

theorem right_z (x : Nat) (n : Int) (w : World) (hx : x < 4294967296) (n0 : 1 ≤ n) (n1 : n ≤ 31) : Calls Tryz.prog 82 #[.int .u32 (x : Int), .int .i64 n] w fun e w' => e = .returned (.int .u32 (rotr x n.toNat : Int)) ∧ ∃ k, w' = w.drewN k := by
  have h := right_any x n.toNat w hx (by omega) (by omega)
  rw [show ((n.toNat : Nat) : Int) = n from by omega] at h
  exact h

def addL (S R : List Nat) : Nat → List Nat
  | 0 => S
  | j + 1 => (addL S R j).set j (((addL S R j).getD j 0 + R.getD j 0) % 4294967296)
theorem addL_length (S R : List Nat) (h : S.length = 8) : ∀ j, (addL S R j).length = 8
  | 0 => h
  | j + 1 => by simp [addL, addL_length S R h j]
theorem addL_lst (e0 e1 e2 e3 e4 e5 e6 e7 : Nat) (a : S8) : addL [e0, e1, e2, e3, e4, e5, e6, e7] (lst8 a) 8 =
    [(e0 + a.s) % 4294967296, (e1 + a.t) % 4294967296, (e2 + a.u) % 4294967296, (e3 + a.v) % 4294967296, (e4 + a.w) % 4294967296, (e5 + a.x) % 4294967296, (e6 + a.y) % 4294967296, (e7 + a.z) % 4294967296] := rfl
theorem addL_mix (S B : List Nat) (h : S.length = 8) : addL S (lst8 (rounds S (sched B 64) 64)) 8 = mixL S B := by
  obtain ⟨e0, e1, e2, e3, e4, e5, e6, e7, rfl⟩ := list8 S h
  rw [addL_lst]
  simp [mixL]
theorem addL_lt (S R : List Nat) (hS : ∀ x ∈ S, x < 4294967296) : ∀ j, ∀ x ∈ addL S R j, x < 4294967296
  | 0 => hS
  | j + 1 => by
    intro x hx
    rcases List.mem_or_eq_of_mem_set hx with h | h
    · exact addL_lt S R hS j x h
    · rw [h]; exact Nat.mod_lt _ (by omega)
theorem lst8_lt {a : S8} (h : a.small) : ∀ x ∈ lst8 a, x < 4294967296 := by
  obtain ⟨h1, h2, h3, h4, h5, h6, h7, h8⟩ := h
  intro x hx
  simp only [lst8, List.mem_cons, List.not_mem_nil, or_false] at hx
  rcases hx with rfl | rfl | rfl | rfl | rfl | rfl | rfl | rfl <;> assumption

theorem made64 : (madeCells (Value.int .u32 0).cells (64 * 1)).toList = (List.replicate 64 0).map wv := by kernel_rfl

theorem info_u32 : (Tryz.prog.info? 73).map (fun i => (i.zero, i.size, i.bytes)) = some (some (.int .u32 0), 1, 4) := by kernel_rfl
theorem info_parts32 {P : Program} {t : TypeId} {z : Value} (h : (P.info? t).map (fun i => (i.zero, i.size, i.bytes)) = some (some z, 1, 4)) : ∃ i, P.info? t = some i ∧ i.zero = some z ∧ i.size = 1 ∧ i.bytes = 4 := by
  obtain ⟨i, hi, he⟩ := Option.map_eq_some_iff.1 h
  simp only [Prod.mk.injEq] at he
  exact ⟨i, hi, he.1, he.2.1, he.2.2⟩

theorem But.drewN {B b : Nat} {x w : World} (h : But B b x w) (n : Nat) : But B b x (w.drewN n) := ⟨h.os, h.tape, h.output, h.size, h.block⟩
theorem But.grown {B b : Nat} {x w w' : World} (h : But B b x w) (hg : w.grownBy w' none) (hB : B ≤ w.heap.size) : But B b x w' :=
  h.trans (.of_below ((Below.refl _ _).grown hg hB (by intro k hk; cases hk)))

set_option maxRecDepth 100000 in
set_option maxHeartbeats 20000000 in
theorem rof_n (a : Option Addr) (n cap : Nat) (B : List Nat) (w : World) (hB : IsN w a n cap B) (hn : n ≤ 1099511627776) :
    Calls Tryz.prog 52 #[.agg (WKL.map wv).toArray, .slice a n cap] w fun e w' => e = .returned (.agg ((dig B).map byv).toArray) ∧ Below w.heap.size w w' := by
  obtain ⟨i0, hi, hz0, hz1, hz2⟩ := info_parts8 info_u8
  obtain ⟨WK, hWK⟩ : ∃ WK, WK = (WKL.map wv).toArray := ⟨_, rfl⟩
  rw [← hWK]
  have HWK := Lib.hid hWK
  have HB := Lib.hid hB
  have HBL := Lib.hid hB.length
  have HI := Lib.hid hi
  have HZ0 := Lib.hid hz0
  have HZ1 := Lib.hid hz1
  have HZ2 := Lib.hid hz2
  clear hWK hB hi hz0 hz1 hz2
  go_enter Tryz.func52, Tryz.ntmps52
  go_upto_region 2 with fail
  rw [zeros32]
  obtain ⟨w2, hw2⟩ : ∃ w2, w2 = (w.alloc (.cells WK 77)).alloc (.cells ((List.replicate 32 0).map byv).toArray 30) := ⟨_, rfl⟩
  have k2 : Has w2 w.heap.size (WKL.map wv) 77 := by rw [hw2, HWK.out]; exact (Has.new w _ _).alloc _
  have o2 : Has w2 (w.heap.size + 1) ((List.replicate 32 0).map byv) 30 := by
    have := Has.new (w.alloc (.cells WK 77)) ((List.replicate 32 0).map byv) 30
    rw [hw2]; simpa using this
  have b2 : Below w.heap.size w w2 := by rw [hw2]; exact ((Below.refl _ _).alloc (by omega) _).alloc (by simp) _
  have s2 : w2.heap.size = w.heap.size + 2 := by rw [hw2]; simp
  rw [← hw2]
  have HB2 := Lib.hid (HB.out.later b2)
  obtain ⟨G, hG⟩ : ∃ G, G = w.heap.size := ⟨_, rfl⟩
  rw [← hG] at k2 o2 b2 s2 ⊢
  have HG := Lib.hid hG
  have K2 := Lib.hid k2
  have O2 := Lib.hid o2
  have B2 := Lib.hid b2
  clear hw2 hG k2 o2 b2
  have hG2 : G + 2 ≤ w2.heap.size := by omega
  go_upto_region 3 with (at_builtin; refine wpList_append_nat rfl (.tmp 23) (.tmp 24) 45 rfl (G + 2) 5 i0 Tryz.underlying45 HI.out HZ0.out HZ1.out HZ2.out _ 0 [] rfl (World.ownsRow_nil _ _ _ _) a n cap B rfl HB2.out (by omega) hG2 ?_; intro v3 w3 hown3 hgrow3)
  have hown3 : w3.ownsRow (G + 2) 5 1 v3 n (B.map byv) := by simpa using hown3
  have b3 : Below (G + 2) w2 w3 := ((Below.refl _ _).grown hgrow3 hG2 (by intro k hk; cases hk))
  have s3 := b3.size
  have OW3 := Lib.hid hown3
  have B3 := Lib.hid b3
  have ON := Lib.hid ((hown3.alloc (.cells #[.int .u8 128] 5)))
  have IO := Lib.hid (isN_one w3 5 128 (by omega))
  clear hown3 hgrow3 b3
  go_upto_block 0 with (at_builtin; refine wpList_append_nat rfl (.tmp 26) (.tmp 27) 45 rfl (G + 2) 5 i0 Tryz.underlying45 HI.out HZ0.out HZ1.out HZ2.out v3 n B rfl ON.out (some ⟨w3.heap.size, 0, none⟩) 1 1 [128] rfl IO.out (by omega) (by simp; omega) ?_; intro v4 w4 hown4 hgrow4)
  have b4 : Below (G + 2) w2 w4 := (B3.out.alloc (by omega) _).grown hgrow4 (by simp; omega) (fun k hk => (OW3.out.lt k hk).1)
  rw [← headL_start] at hown4
  have OW4 := Lib.hid hown4
  have B4 := Lib.hid b4
  have hpz := padZ_lt B.length
  have hpm := padZ_mod B.length
  have hpl := padZ_least B.length
  rw [HBL.out] at hpz hpm hpl
  obtain ⟨z, hzd⟩ : ∃ z, z = padZ n := ⟨_, rfl⟩
  rw [← hzd] at hpz hpm hpl
  have HZD := Lib.hid hzd
  have HPL := Lib.hid hpl
  have HPM := Lib.hid hpm
  clear hown4 hgrow4 b4 B3 OW3 ON IO hzd hpl hpm
  go_wp2_with fail
  go_loopw [5] (fun v wr => ∃ j, j ≤ z ∧ wr.ownsRow (G + 2) 5 1 v (n + 1 + j) ((headL B j 0).map byv) ∧ Below (G + 2) w2 wr) (fun v _ => n + 1 + z - sliceLen v)
  case atStart => exact ⟨0, Nat.zero_le _, OW4.out, B4.out⟩
  case round =>
    clear OW4 B4
    obtain ⟨j, hj, hown, hbel⟩ := hrel
    obtain ⟨aj, cj, rfl, hI, hge⟩ := isN_of_owns (headL_small HB.out.small j 0) hown
    have hsz := hbel.size
    by_cases hlt : j < z
    · have hne : ((n : Int) + 1 + (j : Int)) % 64 ≠ 56 := by have := HPL.out j hlt; omega
      have hneB : (((n : Int) + 1 + (j : Int)) % 64 != 56) = true := by rw [bne_iff_ne]; omega
      have OW := Lib.hid hown
      have BE := Lib.hid hbel
      have ON := Lib.hid (hown.alloc (.cells #[.int .u8 0] 5))
      have IO := Lib.hid (isN_one wr 5 0 (by omega))
      clear hown hbel hI hge
      go_wp2_with (at_builtin; refine wpList_append_nat rfl (.tmp 33) (.tmp 34) 45 rfl (G + 2) 5 i0 Tryz.underlying45 HI.out HZ0.out HZ1.out HZ2.out (.slice aj (n + 1 + j) cj) (n + 1 + j) (headL B j 0) rfl ON.out (some ⟨wr.heap.size, 0, none⟩) 1 1 [0] rfl IO.out (by omega) (by simp; omega) ?_; intro v5 w5 hown5 hgrow5)
      rw [← headL_zero] at hown5
      have hbel5 : Below (G + 2) w2 w5 := (BE.out.alloc (by omega) _).grown hgrow5 (by simp; omega) (fun k hk => (OW.out.lt k hk).1)
      obtain ⟨a5, c5, rfl, _, _⟩ := isN_of_owns (headL_small HB.out.small (j + 1) 0) hown5
      go_roundw
      case rel => exact ⟨j + 1, by omega, hown5, hbel5⟩
      case measure => simp [sliceLen]; omega
    · obtain rfl : j = z := by omega
      have hneB : (((n : Int) + 1 + (j : Int)) % 64 != 56) = false := by have := HPM.out; rw [bne_eq_false_iff_eq]; omega
      have OW := Lib.hid hown
      have BE := Lib.hid hbel
      clear hown hbel hI hge
      go_wp2_with fail
      clear hneB
      go_loopw [5, 6] (fun v ii wr => ∃ i, i ≤ 8 ∧ ii = .int .i64 (i : Nat) ∧ wr.ownsRow (G + 2) 5 1 v (n + 1 + j + i) ((headL B j i).map byv) ∧ Below (G + 2) w2 wr) (fun _ ii _ => 8 - (intOf ii).toNat)
      case atStart => exact ⟨0, Nat.zero_le _, rfl, OW.out, BE.out⟩
      case round =>
        clear OW BE
        obtain ⟨i, hi8, rfl, hown, hbel⟩ := hrel
        obtain ⟨aj, cj, rfl, hI, hge⟩ := isN_of_owns (headL_small HB.out.small j i) hown
        have hsz := hbel.size
        by_cases hlt : i < 8
        · have x1 : (0 : Int) ≤ 56 - 8 * (i : Int) := by omega
          have x2 : (i : Int) < 8 := by omega
          obtain ⟨m8, hm8⟩ : ∃ m8, m8 = n * 8 := ⟨_, rfl⟩
          have hwn : IntKind.u64.wrap (n : Int) = (n : Int) := by rw [wrap_mod]; omega
          have hw8 : IntKind.u64.wrap ((n : Int) * 8) = ((m8 : Nat) : Int) := by rw [wrap_mod]; omega
          obtain ⟨y, hy⟩ : ∃ y, y = lenAt n i := ⟨_, rfl⟩
          have hy2 : y < 256 := by rw [hy]; exact lenAt_lt n i
          have e2 : ((m8 : Nat) : Int) / 2 ^ (56 - 8 * i) % 256 = ((y : Nat) : Int) := by
            rw [hy]
            unfold lenAt
            rw [Nat.mod_eq_of_lt (show n * 8 < 18446744073709551616 by omega), ← hm8]
            simp
          have HY := Lib.hid hy
          have HNN := Lib.hid hn
          have OW := Lib.hid hown
          have BE := Lib.hid hbel
          have ON := Lib.hid (OW.out.alloc (.cells #[.int .u8 (y : Int)] 5))
          have IO := Lib.hid (isN_one wr 5 y hy2)
          have hb1 : n + 1 + j + i + 1 ≤ 140737488355328 := by omega
          have HB1 := Lib.hid hb1
          clear hm8 hn hy hb1 hown hbel hI hge
          go_wp2_with (at_builtin; refine wpList_append_nat rfl (.tmp 40) (.tmp 50) 45 rfl (G + 2) 5 i0 Tryz.underlying45 HI.out HZ0.out HZ1.out HZ2.out (.slice aj (n + 1 + j + i) cj) (n + 1 + j + i) (headL B j i) rfl ON.out (some ⟨wr.heap.size, 0, none⟩) 1 1 [y] rfl IO.out HB1.out (by simp; omega) ?_; intro v5 w5 hown5 hgrow5)
          rw [HY.out, ← HBL.out, ← headL_len, HBL.out] at hown5
          have hbel5 : Below (G + 2) w2 w5 := (BE.out.alloc (by omega) _).grown hgrow5 (by simp; omega) (fun k hk => (OW.out.lt k hk).1)
          obtain ⟨a5, c5, rfl, _, _⟩ := isN_of_owns (headL_small HB.out.small j (i + 1)) hown5
          go_roundw
          case rel => exact ⟨i + 1, by omega, by go_num, hown5, hbel5⟩
          case measure => simp [intOf]; omega
        · obtain rfl : i = 8 := by omega
          have hjp : padZ B.length = j := by rw [HBL.out]; exact HZD.out.symm
          have hpad : headL B j 8 = padL B := by rw [← hjp]; rfl
          rw [hpad] at hI
          obtain ⟨m, hm⟩ : ∃ m, m = n + 1 + j + 8 := ⟨_, rfl⟩
          rw [← hm] at hI ⊢
          have hml : (padL B).length = m := hI.length
          obtain ⟨Q, hQ⟩ : ∃ Q, m = 64 * Q := ⟨m / 64, by have := padL_mod B; rw [hml] at this; omega⟩
          have hn0 : m ≠ 0 := by omega
          have hmn : m ≤ 1099511627776 + 100 := by omega
          rcases hI.at_ with h0 | ⟨bm, om, rfl, hbm, hby⟩
          · exact absurd h0 hn0
          have hbmG : G + 2 ≤ bm := hge _ rfl
          have hroom := hI.room
          unfold maxLen at hroom
          have HBY := Lib.hid hby
          have BE := Lib.hid hbel
          have HQ := Lib.hid hQ
          have HML := Lib.hid hml
          have kG := Lib.hid (K2.out.below hbel (by omega))
          have oG := Lib.hid (O2.out.below hbel (by omega))
          have hrG : wr.rangeAt G 64 (startL.map wv) := by
            intro x v hx
            have hxl : x < 8 := by have := (List.getElem?_eq_some_iff.1 hx).1; simpa [startL] using this
            refine kG.out.cellAt ?_
            rw [← hx, List.getElem?_map, List.getElem?_map]
            unfold WKL
            rw [List.getElem?_append_right (by rw [wordsK_length]; omega), wordsK_length, Nat.add_sub_cancel_left]
          have HRG := Lib.hid hrG
          have hi8b : (Tryz.prog.info? 75).map (·.size) = some (startL.map wv).length := by kernel_rfl
          have hi8a : (Tryz.prog.info? 75).map (·.size) = some (startL.map wv).toArray.size := by kernel_rfl
          have one8 : (startL.map wv).toArray.all (·.oneCell') = true := by
            refine all_oneCell_toArray ?_
            intro v hv
            obtain ⟨x, _, rfl⟩ := List.mem_map.1 hv
            rfl
          have HI8B := Lib.hid hi8b
          have HI8A := Lib.hid hi8a
          have H81 := Lib.hid one8
          clear hown hbel hge hI hjp hpad hm hml hQ hby hrG hi8b hi8a one8 HPL HPM HZD hn
          go_upto_region 10 with fail
          go_upto_block 4 with (first
            | (refine wpList_load_mid rfl 75 _ rfl G 64 rfl (startL.map wv) _ HRG.out Tryz.underlying75 rfl HI8B.out ?_)
            | (refine wpList_store_row rfl 75 _ _ rfl wr.heap.size (startL.map wv).toArray rfl rfl 75 _ (heap_alloc_last _ _) HI8A.out rfl H81.out ?_))
          obtain ⟨w10, hw10⟩ : ∃ w10, w10 = (wr.alloc (.cells ((List.replicate 8 0).map wv).toArray 75)).setRow wr.heap.size (startL.map wv).toArray := ⟨_, rfl⟩
          have hw10' : w10 = wr.alloc (.cells (startL.map wv).toArray 75) := by rw [hw10]; exact World.setRow_alloc_new wr _ _ _
          rw [show (wr.alloc (.cells #[.int .u32 0, .int .u32 0, .int .u32 0, .int .u32 0, .int .u32 0, .int .u32 0, .int .u32 0, .int .u32 0] 75)).setRow wr.heap.size (startL.map wv).toArray = w10 from by rw [hw10]; rfl]
          have K10 : Hid (Has w10 G (WKL.map wv) 77) := Lib.hid (by rw [hw10']; exact kG.out.alloc _)
          have O10 : Hid (Has w10 (G + 1) ((List.replicate 32 0).map byv) 30) := Lib.hid (by rw [hw10']; exact oG.out.alloc _)
          have Y10 : Hid (Bys w10 bm om (padL B)) := Lib.hid (by rw [hw10']; exact HBY.out.below ((Below.refl _ _).alloc (Nat.le_refl _) _) hbm)
          have S10 : Hid (Has w10 wr.heap.size (startL.map wv) 75) := Lib.hid (by rw [hw10']; exact Has.new wr _ _)
          have B10 : Hid (Below G w w10) := Lib.hid (by rw [hw10']; exact (B2.out.trans (BE.out.mono (by omega))).alloc (by omega) _)
          have z10 : w10.heap.size = wr.heap.size + 1 := by rw [hw10']; simp
          obtain ⟨P7, hP7⟩ : ∃ P7, P7 = wr.heap.size := ⟨_, rfl⟩
          rw [← hP7] at S10 z10 hbm hsz ⊢
          clear hw10 hw10' HRG HI8B HI8A H81 kG oG BE hP7 HBY
          go_wp2_with fail
          go_loopw [8] (fun at_ wr => ∃ k : Nat, k ≤ Q ∧ at_ = .int .i64 (64 * (k : Int)) ∧ Has wr P7 ((stAt startL (padL B) k).map wv) 75 ∧ But w10.heap.size P7 w10 wr) (fun at_ _ => 64 * Q - (intOf at_).toNat)
          case atStart => exact ⟨0, Nat.zero_le _, rfl, S10.out, But.refl _ _ _⟩
          case round =>
            clear S10
            obtain ⟨k, hk, rfl, hS, hbut⟩ := hrel
            have hsz2 := hbut.size
            by_cases hkQ : k < Q
            · have i1 : 64 * (k : Int) < (m : Int) := by have := HQ.out; omega
              have i2 : (0 : Int) ≤ 64 * (k : Int) := by omega
              have HS := Lib.hid hS
              have HBT := Lib.hid hbut
              clear hS hbut
              obtain ⟨i4, hi4, hz4, hs4, hb4⟩ := info_parts32 info_u32
              have hb464 : i4.bytes * 64 ≤ 281474976710656 := by rw [hb4]; omega
              have HI4 := Lib.hid hi4
              have HZ4 := Lib.hid hz4
              have HS4 := Lib.hid hs4
              have HB4 := Lib.hid hb464
              clear hi4 hz4 hs4 hb4 hb464
              go_upto_block 6 with (at_make; refine wpList_make_full _ rfl _ _ 125 rfl wr.heap.size 73 i4 (.int .u32 0) 1 Tryz.underlying125 HI4.out HZ4.out HS4.out _ _ _ _ 64 rfl rfl rfl rfl HB4.out (by unfold maxLen; omega) (Nat.le_refl _) ?_; intro w11 hown11 hgrow11)
              rw [made64] at hown11
              have hX : Has w11 wr.heap.size ((sched ((((padL B).drop (64 * k)).take 64)) 0).map wv) 73 := has_of_full hown11 (by omega)
              have hbut11 : But w10.heap.size P7 w10 w11 := HBT.out.grown hgrow11 hsz2
              have hS11 : Has w11 P7 ((stAt startL (padL B) k).map wv) 75 := HS.out.below ((Below.refl _ _).grown hgrow11 (Nat.le_refl _) (by intro k hk; cases hk)) HS.out.lt
              obtain ⟨D, hD⟩ : ∃ D, D = (((padL B).drop (64 * k)).take 64) := ⟨_, rfl⟩
              rw [← hD] at hX
              have hX7 : w10.heap.size ≤ wr.heap.size := hsz2
              obtain ⟨X, hXd⟩ : ∃ X, X = wr.heap.size := ⟨_, rfl⟩
              rw [← hXd] at hX hX7 ⊢
              have hXlt : X < w11.heap.size := hX.lt
              have hDl : D.length = 64 := by rw [hD, List.length_take, List.length_drop, HML.out]; have := HQ.out; omega
              have hDs : ∀ x ∈ D, x < 256 := by rw [hD]; exact fun x hx => headL_small HB.out.small (padZ B.length) 8 x (List.mem_of_mem_drop (List.mem_of_mem_take hx))
              have hY11 : Bys w11 bm om (padL B) := Y10.out.but hbut11 (by omega) (by omega)
              have hDat : ∀ q, q < 64 → w11.cell? ⟨bm, om + (64 * k + q), none⟩ = some (.int .u8 ((D.getD q 0 : Nat) : Int)) := by
                intro q hq
                rw [hY11 (64 * k + q) (by rw [HML.out]; have := HQ.out; omega), hD]
                simp [List.getD, hq]
              have X11 := Lib.hid hX
              have HBT11 := Lib.hid hbut11
              have S11 := Lib.hid hS11
              have HDAT := Lib.hid hDat
              have HD := Lib.hid hD
              have HDL := Lib.hid hDl
              have HDS := Lib.hid hDs
              have hbX : bm ≠ X := by omega
              clear hown11 hgrow11 hX hbut11 hS11 hXd hDl hDs hY11 hDat hD HS HBT HI4 HZ4 HS4 HB4
              go_wp2_with fail
              go_loopw [10] (fun ii wr => ∃ i : Nat, i ≤ 64 ∧ ii = .int .i64 (i : Nat) ∧ Has wr X ((sched D i).map wv) 73 ∧ But w11.heap.size X w11 wr) (fun ii _ => 64 - (intOf ii).toNat)
              case atStart => exact ⟨0, Nat.zero_le _, rfl, X11.out, But.refl _ _ _⟩
              case round =>
                clear X11
                obtain ⟨i, hi64, rfl, hX, hbut⟩ := hrel
                have hfl := sched_length D i
                by_cases hi : i < 64
                · have zf := hX.frozen i
                  have ck := hX.cellAt (map_get wv (sched D i) i (by omega))
                  have HSX : Hid ((sched D i).set i (nextW D (sched D i) i) = sched D (i + 1)) := Lib.hid rfl
                  have hil : (i : Int) < 64 := by omega
                  by_cases h16 : i < 16
                  · as_aux_lemma =>
                      have hi16 : (i : Int) < 16 := by omega
                      have HN : Hid (nextW D (sched D i) i = word4 (D.getD (4 * i) 0) (D.getD (4 * i + 1) 0) (D.getD (4 * i + 2) 0) (D.getD (4 * i + 3) 0)) := Lib.hid (by unfold nextW; rw [if_pos h16])
                      obtain ⟨q, hq⟩ : ∃ q, q = 64 * k + 4 * i := ⟨_, rfl⟩
                      have d0 := (World.cell?_of_block (w := w11) (hbut.block bm (by omega) hbX)).trans (HDAT.out (4 * i) (by omega))
                      have d1 := (World.cell?_of_block (w := w11) (hbut.block bm (by omega) hbX)).trans (HDAT.out (4 * i + 1) (by omega))
                      have d2 := (World.cell?_of_block (w := w11) (hbut.block bm (by omega) hbX)).trans (HDAT.out (4 * i + 2) (by omega))
                      have d3 := (World.cell?_of_block (w := w11) (hbut.block bm (by omega) hbX)).trans (HDAT.out (4 * i + 3) (by omega))
                      rw [← hq] at d0
                      rw [show 64 * k + (4 * i + 1) = q + 1 from by omega] at d1
                      rw [show 64 * k + (4 * i + 2) = q + 2 from by omega] at d2
                      rw [show 64 * k + (4 * i + 3) = q + 3 from by omega] at d3
                      have x0 := getD_all HDS.out (by omega) (4 * i)
                      have x1 := getD_all HDS.out (by omega) (4 * i + 1)
                      have x2 := getD_all HDS.out (by omega) (4 * i + 2)
                      have x3 := getD_all HDS.out (by omega) (4 * i + 3)
                      generalize D.getD (4 * i) 0 = v0 at *
                      generalize D.getD (4 * i + 1) 0 = v1 at *
                      generalize D.getD (4 * i + 2) 0 = v2 at *
                      generalize D.getD (4 * i + 3) 0 = v3 at *
                      have hqm : (q : Int) + 3 < (m : Int) := by have := HQ.out; omega
                      have hq0 : (0 : Int) ≤ (q : Int) := by omega
                      have HQE := Lib.hid (show 64 * (k : Int) + 4 * (i : Int) = (q : Int) from by omega)
                      have HX := Lib.hid hX
                      have HBU := Lib.hid hbut
                      clear hq hX hbut
                      go_upto_region 20 with fail
                      rw [HQE.out]
                      have w0 : v0 * 16777216 < 4294967296 := by omega
                      obtain ⟨y1, hy1⟩ : ∃ y1, y1 = v0 * 16777216 + v1 * 65536 := ⟨_, rfl⟩
                      obtain ⟨y2, hy2⟩ : ∃ y2, y2 = y1 + v2 * 256 := ⟨_, rfl⟩
                      have W1 : IntKind.u32.wrap ((v0 : Int) * 16777216 + (v1 : Int) * 65536) = (y1 : Int) := by simp [IntKind.wrap, IntKind.bits, IntKind.signed]; omega
                      have W2 : IntKind.u32.wrap ((y1 : Int) + (v2 : Int) * 256) = (y2 : Int) := by simp [IntKind.wrap, IntKind.bits, IntKind.signed]; omega
                      have W3 : IntKind.u32.wrap ((y2 : Int) + (v3 : Int)) = ((word4 v0 v1 v2 v3 : Nat) : Int) := by unfold word4; simp [IntKind.wrap, IntKind.bits, IntKind.signed]; omega
                      clear hy1 hy2 w0
                      generalize word4 v0 v1 v2 v3 = y3 at *
                      go_region
                      all_goals
                        go_wp2_with fail
                        go_roundw
                        case rel =>
                          refine ⟨i + 1, by omega, by go_num, ?_, (HBU.out.setB i _).drew⟩
                          rw [← HSX.out, HN.out, List.map_set]
                          exact HX.out.set _ _
                        case measure => simp [intOf]; omega
                  · as_aux_lemma =>
                      have hi16 : ¬ (i : Int) < 16 := by omega
                      have hlts := sched_lt D HDS.out i
                      have HN := Lib.hid (nextW_ref D (sched D i) i h16)
                      have d0 := hX.cellAt (map_get wv (sched D i) (i - 16) (by omega))
                      have d1 := hX.cellAt (map_get wv (sched D i) (i - 15) (by omega))
                      have d2 := hX.cellAt (map_get wv (sched D i) (i - 7) (by omega))
                      have d3 := hX.cellAt (map_get wv (sched D i) (i - 2) (by omega))
                      have x0 := getD_all hlts (by omega) (i - 16)
                      have x1 := getD_all hlts (by omega) (i - 15)
                      have x2 := getD_all hlts (by omega) (i - 7)
                      have x3 := getD_all hlts (by omega) (i - 2)
                      generalize (sched D i).getD (i - 16) 0 = v0 at *
                      generalize (sched D i).getD (i - 15) 0 = v1 at *
                      generalize (sched D i).getD (i - 7) 0 = v2 at *
                      generalize (sched D i).getD (i - 2) 0 = v3 at *
                      simp only [wv] at d0 d1 d2 d3 ck
                      have P1 : bits .xor .u32 (rotr v1 7 : Int) (rotr v1 18 : Int) = ((rotr v1 7 ^^^ rotr v1 18 : Nat) : Int) := u32_xor_nat _ _ (rotr_lt _ _ x1) (rotr_lt _ _ x1)
                      have P2 : bits .xor .u32 ((rotr v1 7 ^^^ rotr v1 18 : Nat) : Int) ((v1 : Int) / 8) = (small v1 : Int) := by
                        rw [show (v1 : Int) / 8 = ((v1 / 8 : Nat) : Int) from by simp, u32_xor_nat _ _ (xor_lt _ _ (rotr_lt _ _ x1) (rotr_lt _ _ x1)) (by omega)]; rfl
                      have P3 : bits .xor .u32 (rotr v3 17 : Int) (rotr v3 19 : Int) = ((rotr v3 17 ^^^ rotr v3 19 : Nat) : Int) := u32_xor_nat _ _ (rotr_lt _ _ x3) (rotr_lt _ _ x3)
                      have P4 : bits .xor .u32 ((rotr v3 17 ^^^ rotr v3 19 : Nat) : Int) ((v3 : Int) / 1024) = (great v3 : Int) := by
                        rw [show (v3 : Int) / 1024 = ((v3 / 1024 : Nat) : Int) from by simp, u32_xor_nat _ _ (xor_lt _ _ (rotr_lt _ _ x3) (rotr_lt _ _ x3)) (by omega)]; rfl
                      have s1 := small_lt x1
                      have s3 := great_lt x3
                      obtain ⟨z1, hz1⟩ : ∃ z1, z1 = (v0 + v2) % 4294967296 := ⟨_, rfl⟩
                      obtain ⟨z2, hz2⟩ : ∃ z2, z2 = (z1 + small v1) % 4294967296 := ⟨_, rfl⟩
                      obtain ⟨z3, hz3⟩ : ∃ z3, z3 = (z2 + great v3) % 4294967296 := ⟨_, rfl⟩
                      have Z1 : IntKind.u32.wrap ((v0 : Int) + (v2 : Int)) = (z1 : Int) := by
                        simp [IntKind.wrap, IntKind.bits, IntKind.signed]; omega
                      have Z2 : IntKind.u32.wrap ((z1 : Int) + (small v1 : Int)) = (z2 : Int) := by
                        simp [IntKind.wrap, IntKind.bits, IntKind.signed]; omega
                      have Z3 : IntKind.u32.wrap ((z2 : Int) + (great v3 : Int)) = (z3 : Int) := by
                        simp [IntKind.wrap, IntKind.bits, IntKind.signed]; omega
                      have HZ : Hid (nextW D (sched D i) i = z3) := Lib.hid (by rw [← HN.out, hz3, hz2, hz1])
                      have NE1 := Lib.hid (show (⟨X, i, none⟩ : Addr) ≠ ⟨X, i - 16, none⟩ from fun e => by have := congrArg Addr.off e; simp only at this; omega)
                      have NE2 := Lib.hid (show (⟨X, i, none⟩ : Addr) ≠ ⟨X, i - 7, none⟩ from fun e => by have := congrArg Addr.off e; simp only at this; omega)
                      have D0 := Lib.hid d0
                      have D2 := Lib.hid d2
                      have HX := Lib.hid hX
                      have HBU := Lib.hid hbut
                      clear hz1 hz2 hz3 hX hbut hlts HN
                      have t5 : (16 : Int) ≤ (i : Int) := by omega
                      have t6 : (7 : Int) ≤ (i : Int) := by omega
                      have t1 : (0 : Int) ≤ (i : Int) - 16 := by omega
                      have t2 : (0 : Int) ≤ (i : Int) - 7 := by omega
                      have t3 : (i : Int) - 16 < 64 := by omega
                      have t4 : (i : Int) - 7 < 64 := by omega
                      go_upto_region 23 with fail
                      have q1 : IntKind.i64.wrap ((i : Int) - 16) = (i : Int) - 16 := IntWalk.i64_in _ (by omega)
                      have q2 : IntKind.i64.wrap ((i : Int) - 7) = (i : Int) - 7 := IntWalk.i64_in _ (by omega)
                      have q3 : ((i : Int) - 16).toNat = i - 16 := by omega
                      have q4 : ((i : Int) - 7).toNat = i - 7 := by omega
                      go_region_held3 (fun w' => w'.cell? ⟨X, i - 16, none⟩ = some (.int .u32 (v0 : Int)) ∧ w'.cell? ⟨X, i - 7, none⟩ = some (.int .u32 (v2 : Int)))
                        (first
                          | go_keep
                          | exact ⟨(World.cell?_setCell_other _ _ _ _ NE1.out).trans D0.out, (World.cell?_setCell_other _ _ _ _ NE2.out).trans D2.out⟩)
                        (first
                          | (go_at_call 82; ((with_reducible refine (right_z _ _ _ (by assumption) (by decide) (by decide)).mono ?_); rintro e w' ⟨rfl, kk, rfl⟩)))
                      all_goals
                        go_wp2_with fail
                        go_roundw
                        case rel =>
                          refine ⟨i + 1, by omega, by go_num, ?_, (HBU.out.drewN _).setB i _⟩
                          rw [← HSX.out, HZ.out, List.map_set]
                          exact (HX.out.drewN _).set _ _
                        case measure => simp [intOf]; omega
                · obtain rfl : i = 64 := by omega
                  -- CUT3A
                  have hX64 := hX
                  have BX := Lib.hid hbut
                  have X64 := Lib.hid hX
                  have hszX := hbut.size
                  have S64 := Lib.hid (S11.out.but hbut (by omega) (by omega))
                  have K64 := Lib.hid ((K10.out.but HBT11.out (by omega) (by omega)).but hbut (by omega) (by omega))
                  have hRS : wr.rangeAt P7 0 ((stAt startL (padL B) k).map wv) := fun j v hj => by rw [Nat.zero_add]; exact S64.out.cellAt hj
                  clear hX hbut hX64
                  have hsl := stAt_length startL (padL B) rfl k
                  have hss := stAt_lt startL (padL B) (by decide) k
                  obtain ⟨e0, e1, e2, e3, e4, e5, e6, e7, hSe⟩ := list8 (stAt startL (padL B) k) hsl
                  have i8a : (Tryz.prog.info? 75).map (·.size) = some ((stAt startL (padL B) k).map wv).toArray.size := by rw [List.size_toArray, List.length_map, hsl]; kernel_rfl
                  have I8A := Lib.hid i8a
                  have R8 := Lib.hid (show wr.heap[P7]? = some (.cells ((stAt startL (padL B) k).map wv).toArray 75 (0, 0)) from S64.out)
                  have z8 : (((List.replicate 8 0).map wv).toArray : Array Value).size = ((stAt startL (padL B) k).map wv).toArray.size := by simp [hsl]
                  have o8 : ((stAt startL (padL B) k).map wv).toArray.all (·.oneCell') = true := by
                    refine all_oneCell_toArray ?_
                    intro v hv
                    obtain ⟨x, _, rfl⟩ := List.mem_map.1 hv
                    rfl
                  have Z8 := Lib.hid z8
                  have O8 := Lib.hid o8
                  have HSE := Lib.hid hSe
                  have HSS := Lib.hid hss
                  have HSL := Lib.hid hsl
                  obtain ⟨RR, hRR⟩ : ∃ RR, RR = ((stAt startL (padL B) k).map wv).toArray := ⟨_, rfl⟩
                  rw [← hRR] at I8A R8 Z8 O8
                  have HRR := Lib.hid hRR
                  clear hRS i8a z8 o8 hSe hss hsl hRR
                  go_upto_block 8 with (first
                    | (refine wpList_load_row rfl 75 _ rfl P7 rfl 75 RR (0, 0) _ R8.out Tryz.underlying75 rfl I8A.out ?_)
                    | (refine wpList_store_row rfl 75 _ _ rfl wr.heap.size RR rfl rfl 75 _ (heap_alloc_last _ _) I8A.out Z8.out O8.out ?_))
                  obtain ⟨w12, hw12⟩ : ∃ w12, w12 = (wr.alloc (.cells ((List.replicate 8 0).map wv).toArray 75)).setRow wr.heap.size RR := ⟨_, rfl⟩
                  have hw12' : w12 = wr.alloc (.cells RR 75) := by rw [hw12]; exact World.setRow_alloc_new wr _ _ _
                  rw [show (wr.alloc (.cells #[.int .u32 0, .int .u32 0, .int .u32 0, .int .u32 0, .int .u32 0, .int .u32 0, .int .u32 0, .int .u32 0] 75)).setRow wr.heap.size RR = w12 from by rw [hw12]; rfl]
                  have V12 : Hid (Has w12 wr.heap.size ((lst8 (rounds (stAt startL (padL B) k) (sched D 64) 0)).map wv) 75) := Lib.hid (by
                    have e : lst8 (rounds (stAt startL (padL B) k) (sched D 64) 0) = stAt startL (padL B) k := by
                      show [_, _, _, _, _, _, _, _] = _
                      unfold rounds S8.of
                      rw [HSE.out]; rfl
                    rw [e, hw12', HRR.out]; exact Has.new wr _ _)
                  have X12 : Hid (Has w12 X ((sched D 64).map wv) 73) := Lib.hid (by rw [hw12']; exact X64.out.alloc _)
                  have K12 : Hid (Has w12 G (WKL.map wv) 77) := Lib.hid (by rw [hw12']; exact K64.out.alloc _)
                  have S12 : Hid (Has w12 P7 ((stAt startL (padL B) k).map wv) 75) := Lib.hid (by rw [hw12']; exact S64.out.alloc _)
                  have BX12 : Hid (But w11.heap.size X w11 w12) := Lib.hid (by rw [hw12']; exact BX.out.alloc hszX _)
                  have hVX : X < wr.heap.size := X64.out.lt
                  obtain ⟨V, hV⟩ : ∃ V, V = wr.heap.size := ⟨_, rfl⟩
                  rw [← hV] at V12 hVX hszX ⊢
                  have s12 : w12.heap.size = V + 1 := by rw [hw12', hV]; simp
                  clear hw12 hw12' hV X64 K64 S64 BX I8A R8 Z8 O8 HRR
                  go_wp2_with fail
                  go_loopw [15] (fun ii wr => ∃ i : Nat, i ≤ 64 ∧ ii = .int .i64 (i : Nat) ∧ Has wr V ((lst8 (rounds (stAt startL (padL B) k) (sched D 64) i)).map wv) 75 ∧ But w12.heap.size V w12 wr) (fun ii _ => 64 - (intOf ii).toNat)
                  case atStart => exact ⟨0, Nat.zero_le _, rfl, V12.out, But.refl _ _ _⟩
                  case round =>
                    clear V12
                    obtain ⟨i, hi64, rfl, hV, hbut⟩ := hrel
                    by_cases hi : i < 64
                    · as_aux_lemma =>
                        have hil : (i : Int) < 64 := by omega
                        have hKr := K12.out.but hbut (by omega) (by omega)
                        have hXr := X12.out.but hbut (by omega) (by omega)
                        have eK : WKL.getD i 0 = wordsK.getD i 0 := by
                          unfold WKL
                          rw [List.getD_eq_getElem?_getD, List.getElem?_append_left (by rw [wordsK_length]; omega), ← List.getD_eq_getElem?_getD]
                        have cw : wr.cell? ⟨G, i, none⟩ = some (wv (wordsK.getD i 0)) := by
                          rw [← eK]; exact hKr.cellAt (map_get wv WKL i (by rw [WKL_length]; omega))
                        clear eK
                        have cp := hXr.cellAt (map_get wv (sched D 64) i (by rw [sched_length]; omega))
                        have hkw : wordsK.getD i 0 < 4294967296 := getD_all (l := wordsK) (by decide) (by omega) i
                        have hkp : (sched D 64).getD i 0 < 4294967296 := getD_all (sched_lt D HDS.out 64) (by omega) i
                        obtain ⟨g1, g2, g3, g4, g5, g6, g7, g8⟩ := rounds_small (stAt startL (padL B) k) (sched D 64) HSS.out i
                        have HN : Hid (rounds (stAt startL (padL B) k) (sched D 64) (i + 1) = (rounds (stAt startL (padL B) k) (sched D 64) i).next (wordsK.getD i 0) ((sched D 64).getD i 0)) := Lib.hid rfl
                        generalize wordsK.getD i 0 = kw at *
                        generalize (sched D 64).getD i 0 = pw at *
                        generalize rounds (stAt startL (padL B) k) (sched D 64) i = a8 at *
                        obtain ⟨s, t, u, v, q, x, y, z⟩ := a8
                        simp only at g1 g2 g3 g4 g5 g6 g7 g8
                        simp only [wv] at cw cp
                        have hV' : Has wr V ([s, t, u, v, q, x, y, z].map wv) 75 := hV
                        have Q1 : bits .and .u32 (q : Int) (x : Int) = ((q &&& x : Nat) : Int) := u32_and_nat _ _ g5 g6
                        obtain ⟨nq, hnq⟩ : ∃ nq, nq = 4294967295 - q := ⟨_, rfl⟩
                        have Q2 := not32' q nq g5 hnq
                        have Q3 : bits .and .u32 (nq : Int) (y : Int) = ((nq &&& y : Nat) : Int) := u32_and_nat _ _ (by omega) g7
                        have Q4 : bits .or .u32 ((q &&& x : Nat) : Int) ((nq &&& y : Nat) : Int) = ((choice q x y : Nat) : Int) := by
                          rw [u32_or_nat _ _ (and_lt g5) (and_lt (by omega)), hnq, choice_or q x y g5]
                        have Q5 : bits .and .u32 (s : Int) (t : Int) = ((s &&& t : Nat) : Int) := u32_and_nat _ _ g1 g2
                        have Q6 : bits .and .u32 (s : Int) (u : Int) = ((s &&& u : Nat) : Int) := u32_and_nat _ _ g1 g3
                        have Q7 : bits .and .u32 (t : Int) (u : Int) = ((t &&& u : Nat) : Int) := u32_and_nat _ _ g2 g3
                        have Q8 : bits .or .u32 ((s &&& t : Nat) : Int) ((s &&& u : Nat) : Int) = (((s &&& t) ||| (s &&& u) : Nat) : Int) := u32_or_nat _ _ (and_lt g1) (and_lt g1)
                        have Q9 : bits .or .u32 (((s &&& t) ||| (s &&& u) : Nat) : Int) ((t &&& u : Nat) : Int) = ((major s t u : Nat) : Int) := by
                          rw [u32_or_nat _ _ (Nat.or_lt_two_pow (n := 32) (and_lt g1) (and_lt g1)) (and_lt g2), major_or]
                        have R1 : bits .xor .u32 (rotr q 6 : Int) (rotr q 11 : Int) = ((rotr q 6 ^^^ rotr q 11 : Nat) : Int) := u32_xor_nat _ _ (rotr_lt _ _ g5) (rotr_lt _ _ g5)
                        have R2 : bits .xor .u32 ((rotr q 6 ^^^ rotr q 11 : Nat) : Int) (rotr q 25 : Int) = ((turn3 q 6 11 25 : Nat) : Int) := by
                          rw [u32_xor_nat _ _ (xor_lt _ _ (rotr_lt _ _ g5) (rotr_lt _ _ g5)) (rotr_lt _ _ g5)]; rfl
                        have R3 : bits .xor .u32 (rotr s 2 : Int) (rotr s 13 : Int) = ((rotr s 2 ^^^ rotr s 13 : Nat) : Int) := u32_xor_nat _ _ (rotr_lt _ _ g1) (rotr_lt _ _ g1)
                        have R4 : bits .xor .u32 ((rotr s 2 ^^^ rotr s 13 : Nat) : Int) (rotr s 22 : Int) = ((turn3 s 2 13 22 : Nat) : Int) := by
                          rw [u32_xor_nat _ _ (xor_lt _ _ (rotr_lt _ _ g1) (rotr_lt _ _ g1)) (rotr_lt _ _ g1)]; rfl
                        have m1 := choice_lt (x := x) (y := y) g5
                        have m2 := major_lt (u := u) g1 g2
                        have m3 := turn3_lt q 6 11 25 g5
                        have m4 := turn3_lt s 2 13 22 g1
                        have hfirst := firstOf_ref ⟨s, t, u, v, q, x, y, z⟩ kw pw
                        obtain ⟨ch, hch⟩ : ∃ ch, ch = choice q x y := ⟨_, rfl⟩
                        obtain ⟨mj, hmj⟩ : ∃ mj, mj = major s t u := ⟨_, rfl⟩
                        obtain ⟨tq, htq⟩ : ∃ tq, tq = turn3 q 6 11 25 := ⟨_, rfl⟩
                        obtain ⟨ts, hts⟩ : ∃ ts, ts = turn3 s 2 13 22 := ⟨_, rfl⟩
                        rw [← hch] at Q4 m1
                        rw [← hmj] at Q9 m2
                        rw [← htq] at R2 m3
                        rw [← hts] at R4 m4
                        obtain ⟨n1, h1'⟩ : ∃ n1, n1 = (z + kw) % 4294967296 := ⟨_, rfl⟩
                        obtain ⟨n2, h2'⟩ : ∃ n2, n2 = (n1 + pw) % 4294967296 := ⟨_, rfl⟩
                        obtain ⟨n3, h3'⟩ : ∃ n3, n3 = (n2 + tq) % 4294967296 := ⟨_, rfl⟩
                        obtain ⟨n4, h4'⟩ : ∃ n4, n4 = (n3 + ch) % 4294967296 := ⟨_, rfl⟩
                        obtain ⟨n5, h5'⟩ : ∃ n5, n5 = (ts + mj) % 4294967296 := ⟨_, rfl⟩
                        obtain ⟨n6, h6'⟩ : ∃ n6, n6 = (n4 + n5) % 4294967296 := ⟨_, rfl⟩
                        obtain ⟨n7, h7'⟩ : ∃ n7, n7 = (v + n4) % 4294967296 := ⟨_, rfl⟩
                        have Z1 := add32 _ _ _ h1'
                        have Z2 := add32 _ _ _ h2'
                        have Z3 := add32 _ _ _ h3'
                        have Z4 := add32 _ _ _ h4'
                        have Z5 := add32 _ _ _ h5'
                        have Z6 := add32 _ _ _ h6'
                        have Z7 := add32 _ _ _ h7'
                        have HN2 : Hid (rounds (stAt startL (padL B) k) (sched D 64) (i + 1) = ⟨n6, s, t, u, n7, q, x, y⟩) := Lib.hid (by
                          have e4 : n4 = firstOf ⟨s, t, u, v, q, x, y, z⟩ kw pw := by rw [h4', h3', h2', h1', htq, hch]; exact hfirst
                          have e5 : n5 = secondOf ⟨s, t, u, v, q, x, y, z⟩ := by rw [h5', hts, hmj]; rfl
                          rw [HN.out, h7', h6', e4, e5]; rfl)
                        have c0 : wr.cell? ⟨V, 0, none⟩ = some (.int .u32 (s : Int)) := hV'.cellAt rfl
                        have c1 : wr.cell? ⟨V, 1, none⟩ = some (.int .u32 (t : Int)) := hV'.cellAt rfl
                        have c2 : wr.cell? ⟨V, 2, none⟩ = some (.int .u32 (u : Int)) := hV'.cellAt rfl
                        have c4 : wr.cell? ⟨V, 4, none⟩ = some (.int .u32 (q : Int)) := hV'.cellAt rfl
                        have c5 : wr.cell? ⟨V, 5, none⟩ = some (.int .u32 (x : Int)) := hV'.cellAt rfl
                        have c6 : wr.cell? ⟨V, 6, none⟩ = some (.int .u32 (y : Int)) := hV'.cellAt rfl
                        have c7 : wr.cell? ⟨V, 7, none⟩ = some (.int .u32 (z : Int)) := hV'.cellAt rfl
                        have HVV := Lib.hid hV'
                        have HBU := Lib.hid hbut
                        clear hnq h1' h2' h3' h4' h5' h6' h7' HN hch hmj htq hts hfirst hV hV' hbut hKr hXr
                        go_upto_region 28 with fail
                        go_quiet ((go_at_call 82; exact Calls.quiet_of (right_z _ _ _ (by assumption) (by decide) (by decide))))
                        go_upto_region 29 with fail
                        obtain ⟨w28, hw28⟩ : ∃ w28, w28 = wr.drewN nq := ⟨_, rfl⟩
                        rw [← hw28]
                        have HV28 : Hid (Has w28 V ([s, t, u, v, q, x, y, z].map wv) 75) := Lib.hid (by rw [hw28]; exact HVV.out)
                        have HB28 : Hid (But w12.heap.size V w12 w28) := Lib.hid (by rw [hw28]; exact HBU.out.drewN _)
                        clear hw28 c0 c1 c2 c4 c5 c6 c7 cw cp HVV HBU
                        have c0 : w28.cell? ⟨V, 0, none⟩ = some (.int .u32 (s : Int)) := HV28.out.cellAt rfl
                        have c1 : w28.cell? ⟨V, 1, none⟩ = some (.int .u32 (t : Int)) := HV28.out.cellAt rfl
                        have c2 : w28.cell? ⟨V, 2, none⟩ = some (.int .u32 (u : Int)) := HV28.out.cellAt rfl
                        go_quiet ((go_at_call 82; exact Calls.quiet_of (right_z _ _ _ (by assumption) (by decide) (by decide))))
                        go_upto_block 10 with fail
                        obtain ⟨w29, hw29⟩ : ∃ w29, w29 = w28.drewN nq := ⟨_, rfl⟩
                        rw [← hw29]
                        have HV29 : Hid (Has w29 V ((shl s t u v q x y z 7).map wv) 75) := Lib.hid (by rw [hw29]; exact HV28.out)
                        have HB29 : Hid (But w12.heap.size V w12 w29) := Lib.hid (by rw [hw29]; exact HB28.out.drewN _)
                        clear hw29 c0 c1 c2 HV28 HB28
                        go_wp2_with fail
                        go_loopw [18] (fun kk wr => ∃ e : Nat, e ≤ 7 ∧ kk = .int .i64 (e : Nat) ∧ Has wr V ((shl s t u v q x y z e).map wv) 75 ∧ But w12.heap.size V w12 wr) (fun kk _ => (intOf kk).toNat)
                        case atStart => exact ⟨7, Nat.le_refl _, rfl, HV29.out, HB29.out⟩
                        case round =>
                          clear HV29 HB29
                          obtain ⟨e, he7, rfl, hv, hb⟩ := hrel
                          have hsl := shl_length s t u v q x y z e he7
                          by_cases h0 : 0 < e
                          · have d0 := hv.cellAt (map_get wv (shl s t u v q x y z e) (e - 1) (by omega))
                            have d1 := hv.cellAt (map_get wv (shl s t u v q x y z e) e (by omega))
                            have z1 := hv.frozen e
                            have HST := Lib.hid (shl_step s t u v q x y z e h0 he7)
                            generalize (shl s t u v q x y z e).getD (e - 1) 0 = y0 at *
                            simp only [wv] at d0 d1
                            have t1 : (0 : Int) < (e : Int) := by omega
                            have t2 : (1 : Int) ≤ (e : Int) := by omega
                            have t3 : (e : Int) ≤ 7 := by omega
                            have HV := Lib.hid hv
                            have HBB := Lib.hid hb
                            clear hv hb
                            go_wp2_with fail
                            go_roundw
                            case rel =>
                              refine ⟨e - 1, by omega, ?_, ?_, HBB.out.setB e _⟩
                              · exact congrArg (Value.int .i64) (show (e : Int) - 1 = ((e - 1 : Nat) : Int) by omega)
                              · rw [← HST.out, List.map_set]; exact HV.out.set _ _
                            case measure => simp [intOf]; omega
                          · obtain rfl : e = 0 := by omega
                            have hv' : Has wr V ([s, s, t, u, v, q, x, y].map wv) 75 := hv
                            have d0 : wr.cell? ⟨V, 0, none⟩ = some (.int .u32 (s : Int)) := hv'.cellAt rfl
                            have d4 : wr.cell? ⟨V, 4, none⟩ = some (.int .u32 (v : Int)) := hv'.cellAt rfl
                            have z0 := hv'.frozen 0
                            have z4 := hv'.frozen 4
                            have HV := Lib.hid hv'
                            have HBB := Lib.hid hb
                            clear hv hv' hb
                            go_wp2_with fail
                            go_roundw
                            case rel =>
                              refine ⟨i + 1, by omega, by go_num, ?_, (HBB.out.setB 4 _).setB 0 _⟩
                              rw [HN2.out]
                              exact (HV.out.set 4 _).set 0 _
                            case measure => simp [intOf]; omega
                    · obtain rfl : i = 64 := by omega
                      have hszV := hbut.size
                      have V13 := Lib.hid hV
                      have BV13 := Lib.hid hbut
                      have S13 := Lib.hid (S12.out.but hbut (by omega) (by omega))
                      have hlV := hV.lt
                      clear hV hbut
                      go_upto_block 12 with fail
                      go_wp2_with fail
                      obtain ⟨w13, hw13⟩ : ∃ w13, w13 = wr := ⟨_, rfl⟩
                      rw [← hw13] at V13 BV13 S13 hszV hlV ⊢
                      clear hw13
                      go_loopw [19] (fun ii wr => ∃ j : Nat, j ≤ 8 ∧ ii = .int .i64 (j : Nat) ∧ Has wr P7 ((addL (stAt startL (padL B) k) (lst8 (rounds (stAt startL (padL B) k) (sched D 64) 64)) j).map wv) 75 ∧ But w13.heap.size P7 w13 wr) (fun ii _ => 8 - (intOf ii).toNat)
                      case atStart => exact ⟨0, Nat.zero_le _, rfl, S13.out, But.refl _ _ _⟩
                      case round =>
                        clear S13
                        obtain ⟨j8, hj8, rfl, hh, hb⟩ := hrel
                        have hal := addL_length (stAt startL (padL B) k) (lst8 (rounds (stAt startL (padL B) k) (sched D 64) 64)) HSL.out j8
                        by_cases hlt8 : j8 < 8
                        · have d0 := hh.cellAt (map_get wv _ j8 (by omega))
                          have d1 := (V13.out.but hb hlV (by omega)).cellAt (map_get wv _ j8 (show j8 < 8 from hlt8))
                          have z0 := hh.frozen j8
                          have x0 := getD_all (addL_lt _ (lst8 (rounds (stAt startL (padL B) k) (sched D 64) 64)) HSS.out j8) (by omega) j8
                          have x1 := getD_all (lst8_lt (rounds_small (stAt startL (padL B) k) (sched D 64) HSS.out 64)) (by omega) j8
                          have HAD : Hid ((addL (stAt startL (padL B) k) (lst8 (rounds (stAt startL (padL B) k) (sched D 64) 64)) j8).set j8 (((addL (stAt startL (padL B) k) (lst8 (rounds (stAt startL (padL B) k) (sched D 64) 64)) j8).getD j8 0 + (lst8 (rounds (stAt startL (padL B) k) (sched D 64) 64)).getD j8 0) % 4294967296) = addL (stAt startL (padL B) k) (lst8 (rounds (stAt startL (padL B) k) (sched D 64) 64)) (j8 + 1)) := Lib.hid rfl
                          generalize (addL (stAt startL (padL B) k) (lst8 (rounds (stAt startL (padL B) k) (sched D 64) 64)) j8).getD j8 0 = y0 at *
                          generalize (lst8 (rounds (stAt startL (padL B) k) (sched D 64) 64)).getD j8 0 = y1 at *
                          simp only [wv] at d0 d1
                          obtain ⟨y2, hy2⟩ : ∃ y2, y2 = (y0 + y1) % 4294967296 := ⟨_, rfl⟩
                          have Z1 := add32 _ _ _ hy2
                          rw [← hy2] at HAD
                          have hjl : (j8 : Int) < 8 := by omega
                          have HHH := Lib.hid hh
                          have HBB := Lib.hid hb
                          clear hh hb hy2
                          go_wp2_with fail
                          go_region
                          all_goals
                            go_wp2_with fail
                            go_roundw
                            case rel =>
                              refine ⟨j8 + 1, by omega, by go_num, ?_, (HBB.out.setB j8 _).drew⟩
                              rw [← HAD.out, List.map_set]
                              exact HHH.out.set _ _
                            case measure => simp [intOf]; omega
                        · obtain rfl : j8 = 8 := by omega
                          have hmix : Has wr P7 ((stAt startL (padL B) (k + 1)).map wv) 75 := by
                            have e : stAt startL (padL B) (k + 1) = mixL (stAt startL (padL B) k) D := by rw [HD.out]; rfl
                            rw [e, ← addL_mix _ D HSL.out]; exact hh
                          have q1 : Below w10.heap.size w11 w12 := (BX12.out.mono (by omega)).below (by omega)
                          have q2 : Below w10.heap.size w12 w13 := (BV13.out.mono (by omega)).below (by omega)
                          have hbb : But w10.heap.size P7 w10 wr := ((HBT11.out.trans (.of_below q1)).trans (.of_below q2)).trans (hb.mono (by omega))
                          have HM := Lib.hid hmix
                          have HBB := Lib.hid hbb
                          clear hh hb hmix q1 q2 hbb
                          go_wp2_with fail
                          go_roundw
                          case rel => exact ⟨k + 1, by omega, by go_num, HM.out, HBB.out⟩
                          case measure => simp [intOf]; omega
                  -- CUT3B
            · obtain rfl : k = Q := by omega
              have i1 : ¬ 64 * (k : Int) < (m : Int) := by have := HQ.out; omega
              have hdig : dig B = bytesL (stAt startL (padL B) k) 32 := by
                rw [dig_pad, HML.out, HQ.out, Nat.mul_div_cancel_left _ (by omega : 0 < 64)]
              have hss := stAt_lt startL (padL B) (by decide) k
              have hsl := stAt_length startL (padL B) rfl k
              generalize stAt startL (padL B) k = SS at *
              have HDG := Lib.hid hdig
              have HSS := Lib.hid hss
              have HSL := Lib.hid hsl
              have HS := Lib.hid hS
              have O13 := Lib.hid (O10.out.but hbut (by omega) (by omega))
              have BW : Below G w wr := B10.out.trans ((hbut.mono (by omega)).below (by omega))
              have HBW := Lib.hid BW
              have hlS := hS.lt
              clear hdig hss hsl hS hbut BW
              go_upto_region 41 with fail
              rw [zeros32]
              obtain ⟨w14, hw14⟩ : ∃ w14, w14 = wr.alloc (.cells ((List.replicate 32 0).map byv).toArray 30) := ⟨_, rfl⟩
              rw [show wr.alloc (.cells ((List.replicate 32 0).map byv).toArray 30) = w14 from hw14.symm]
              have T14 : Hid (Has w14 wr.heap.size ((bytesL SS (4 * 0)).map byv) 30) := Lib.hid (by rw [hw14]; exact Has.new wr _ _)
              have S14 : Hid (Has w14 P7 (SS.map wv) 75) := Lib.hid (by rw [hw14]; exact HS.out.alloc _)
              have O14 : Hid (Has w14 (G + 1) ((List.replicate 32 0).map byv) 30) := Lib.hid (by rw [hw14]; exact O13.out.alloc _)
              have B14 : Hid (Below G w w14) := Lib.hid (by rw [hw14]; exact HBW.out.alloc (by omega) _)
              obtain ⟨O, hO⟩ : ∃ O, O = wr.heap.size := ⟨_, rfl⟩
              rw [← hO] at T14 hlS ⊢
              have s14 : w14.heap.size = O + 1 := by rw [hw14, hO]; simp
              have hGO : G + 1 < O := by omega
              clear hw14 hO HS O13 HBW
              go_wp2_with fail
              go_loopw [21] (fun ii wr => ∃ i : Nat, i ≤ 8 ∧ ii = .int .i64 (i : Nat) ∧ Has wr O ((bytesL SS (4 * i)).map byv) 30 ∧ But w14.heap.size O w14 wr) (fun ii _ => 8 - (intOf ii).toNat)
              case atStart => exact ⟨0, Nat.zero_le _, rfl, T14.out, But.refl _ _ _⟩
              case round =>
                clear T14
                obtain ⟨i, hi8, rfl, hT, hbt⟩ := hrel
                by_cases hlt8 : i < 8
                · have il : (i : Int) < 8 := by omega
                  have HTT := Lib.hid hT
                  have HBT := Lib.hid hbt
                  clear hT hbt
                  go_wp2_with fail
                  go_loopw [22] (fun jj wr => ∃ j : Nat, j ≤ 4 ∧ jj = .int .i64 (j : Nat) ∧ Has wr O ((bytesL SS (4 * i + j)).map byv) 30 ∧ But w14.heap.size O w14 wr) (fun jj _ => 4 - (intOf jj).toNat)
                  case atStart => exact ⟨0, Nat.zero_le _, rfl, HTT.out, HBT.out⟩
                  case round =>
                    clear HTT HBT
                    obtain ⟨j4, hj4, rfl, hT, hbt⟩ := hrel
                    by_cases hlt4 : j4 < 4
                    · have jl : (j4 : Int) < 4 := by omega
                      have hbl := bytesL_length SS (4 * i + j4)
                      have d0 := (S14.out.but hbt (by omega) (by omega)).cellAt (map_get wv SS i (by rw [HSL.out]; exact hlt8))
                      have d1 := hT.cellAt (map_get byv (bytesL SS (4 * i + j4)) (4 * i + j4) (by omega))
                      have z1 := hT.frozen (4 * i + j4)
                      have hy := getD_all HSS.out (by omega) i
                      have HSET : Hid ((bytesL SS (4 * i + j4)).set (4 * i + j4) (byteAt SS (4 * i + j4)) = bytesL SS (4 * i + (j4 + 1))) := Lib.hid rfl
                      have HBA : Hid (byteAt SS (4 * i + j4) = SS.getD i 0 / 2 ^ (24 - 8 * j4) % 256) := Lib.hid (by
                        unfold byteAt
                        rw [show (4 * i + j4) / 4 = i from by omega, show 24 - (4 * i + j4) % 4 * 8 = 24 - 8 * j4 from by omega])
                      generalize SS.getD i 0 = y0 at *
                      simp only [wv] at d0
                      simp only [byv] at d1
                      have x1 : (0 : Int) ≤ 24 - 8 * (j4 : Int) := by omega
                      have e1 : (24 - 8 * (j4 : Int)).toNat = 24 - 8 * j4 := by omega
                      have x2 : (0 : Int) ≤ 4 * (i : Int) + (j4 : Int) := by omega
                      have x3 : 4 * (i : Int) + (j4 : Int) < 32 := by omega
                      have e2 : (4 * (i : Int) + (j4 : Int)).toNat = 4 * i + j4 := by omega
                      have HTT := Lib.hid hT
                      have HBT := Lib.hid hbt
                      clear hT hbt
                      go_wp2_with fail
                      go_roundw
                      case rel =>
                        refine ⟨j4 + 1, by omega, by go_num, ?_, HBT.out.setB (4 * i + j4) _⟩
                        have e : byv (y0 / 2 ^ (24 - 8 * j4) % 256) = .int .u8 ((y0 : Int) / 2 ^ (24 - 8 * j4) % 256) := by unfold byv; simp
                        rw [← HSET.out, HBA.out, List.map_set, e]
                        exact HTT.out.set _ _
                      case measure => simp [intOf]; omega
                    · obtain rfl : j4 = 4 := by omega
                      have HTT := Lib.hid hT
                      have HBT := Lib.hid hbt
                      clear hT hbt
                      go_wp2_with fail
                      go_roundw
                      case rel => exact ⟨i + 1, by omega, by go_num, by rw [show 4 * (i + 1) = 4 * i + 4 from by omega]; exact HTT.out, HBT.out⟩
                      case measure => simp [intOf]; omega
                · obtain rfl : i = 8 := by omega
                  have hT' : Has wr O ((dig B).map byv) 30 := by rw [HDG.out]; exact hT
                  have hl1 := dig_length B
                  have p1 := info_32 (dig B) hl1
                  have p2 := size_zeros 32 (dig B) hl1
                  have p3 := one_bytes (dig B)
                  have hO1 := O14.out.but hbt (by omega) (by omega)
                  have hBB : Below G w wr := B14.out.trans ((hbt.mono (by omega)).below (by omega))
                  obtain ⟨R2, hR2⟩ : ∃ R2, R2 = ((dig B).map byv).toArray := ⟨_, rfl⟩
                  have p4 : wr.heap[G + 1]? = some (.cells ((List.replicate 32 0).map byv).toArray 30 (0, 0)) := hO1
                  have p5 : wr.heap[O]? = some (.cells R2 30 (0, 0)) := by rw [hR2]; exact hT'
                  rw [← hR2] at p1 p2 p3
                  have P1 := Lib.hid p1
                  have P2 := Lib.hid p2
                  have P3 := Lib.hid p3
                  have P4 := Lib.hid p4
                  have P5 := Lib.hid p5
                  have HR2 := Lib.hid hR2
                  have HBB := Lib.hid hBB
                  clear p1 p2 p3 p4 p5 hR2 hT hT' hO1 hBB hbt
                  go_wp2_with (first
                    | (refine wpList_load_row rfl 30 _ rfl O rfl 30 R2 (0, 0) _ P5.out Tryz.underlying30 rfl P1.out ?_)
                    | (refine wpList_store_row rfl 30 _ _ rfl (G + 1) R2 rfl rfl 30 _ P4.out P1.out P2.out P3.out ?_))
                  have hres : ∀ tmps : Array Value, tmps.getD 4 undef = .pointer (some ⟨G + 1, 0, none⟩) → (results Tryz.f52 tmps).run Tryz.prog (wr.setRow (G + 1) R2) = .ok (.agg R2) (wr.setRow (G + 1) R2) :=
                    fun tmps hp => results_cell_row (fn := Tryz.f52) (p := 4) (ty := 30) Tryz.results52 tmps _ (G + 1) 30 R2 (0, 0) _ hp (setRow_heap _ _ _ _ _ _ P4.out) Tryz.underlying30 rfl P1.out
                  refine bodyPost_ret (hres _ rfl) rfl ?_
                  exact ⟨by rw [HR2.out], by rw [← HG.out]; exact below_setRow HBB.out (by omega) _⟩

end Go.Proofs.YtokbakpbhpknfaaGreatDoor

namespace Go.Proofs.YtokbakpbhpknfaaGreatDoor
open Go.RowKit
set_option linter.unusedVariables false

set_option maxRecDepth 100000 in
set_option maxHeartbeats 2000000 in
theorem rsum_n (a : Option Addr) (n cap : Nat) (B : List Nat) (w : World) (hB : IsN w a n cap B) (hn : n ≤ 1099511627776) :
    Calls Tryz.prog 29 #[.slice a n cap] w fun e w' => e = .returned (.agg ((dig B).map byv).toArray) ∧ Below w.heap.size w w' := by
  have HB := Lib.hid hB
  have HN := Lib.hid hn
  clear hB hn
  go_enter Tryz.func29, Tryz.ntmps29
  go_wp2_with fail
  rw [zeros32]
  obtain ⟨w1, hw1⟩ : ∃ w1, w1 = w.alloc (.cells ((List.replicate 32 0).map byv).toArray 30) := ⟨_, rfl⟩
  have o1 : Has w1 w.heap.size ((List.replicate 32 0).map byv) 30 := by rw [hw1]; exact Has.new w _ _
  have b1 : Below w.heap.size w w1 := by rw [hw1]; exact (Below.refl _ _).alloc (by omega) _
  have s1 : w1.heap.size = w.heap.size + 1 := by rw [hw1]; simp
  rw [← hw1]
  clear hw1
  refine (make_any w1).mono ?_
  rintro e w2 ⟨rfl, b2⟩
  have o2 := o1.below b2 (by omega)
  have bb2 : Below w.heap.size w w2 := b1.trans (b2.mono (by omega))
  have s2 := b2.size
  obtain ⟨WK, hWK⟩ : ∃ WK, WK = (WKL.map wv).toArray := ⟨_, rfl⟩
  rw [← hWK]
  have HWK := Lib.hid hWK
  have hc := Lib.hid (rof_n a n cap B w2 (HB.out.later bb2) HN.out)
  rw [← hWK] at hc
  clear b1 b2 o1 hWK
  go_wp2_with fail
  refine hc.out.mono ?_
  rintro e w4 ⟨rfl, b4⟩
  have o4 := o2.below b4 (by omega)
  have bb4 : Below w.heap.size w w4 := bb2.trans (b4.mono (by omega))
  have p1 := info_32 (dig B) (dig_length B)
  have p2 := size_zeros 32 (dig B) (dig_length B)
  have p3 := one_bytes (dig B)
  have p4 : w4.heap[w.heap.size]? = some (.cells ((List.replicate 32 0).map byv).toArray 30 (0, 0)) := o4
  obtain ⟨R2, hR2⟩ : ∃ R2, R2 = ((dig B).map byv).toArray := ⟨_, rfl⟩
  rw [← hR2] at p1 p2 p3 ⊢
  have P1 := Lib.hid p1
  have P2 := Lib.hid p2
  have P3 := Lib.hid p3
  have P4 := Lib.hid p4
  have HR2 := Lib.hid hR2
  clear p1 p2 p3 p4 hR2 o2 o4 bb2 b4 hc
  go_wp2_with (refine wpList_store_row rfl 30 _ _ rfl w.heap.size R2 rfl rfl 30 _ P4.out P1.out P2.out P3.out ?_)
  have hres : ∀ tmps : Array Value, tmps.getD 2 undef = .pointer (some ⟨w.heap.size, 0, none⟩) → (results Tryz.f29 tmps).run Tryz.prog (w4.setRow w.heap.size R2) = .ok (.agg R2) (w4.setRow w.heap.size R2) :=
    fun tmps hp => results_cell_row (fn := Tryz.f29) (p := 2) (ty := 30) Tryz.results29 tmps _ w.heap.size 30 R2 (0, 0) _ hp (setRow_heap _ _ _ _ _ _ P4.out) Tryz.underlying30 rfl P1.out
  refine bodyPost_ret (hres _ rfl) rfl ?_
  exact ⟨by rw [HR2.out], below_setRow bb4 (Nat.le_refl _) _⟩

end Go.Proofs.YtokbakpbhpknfaaGreatDoor

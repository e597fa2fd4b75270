/-
  Bytes that are appended to a row of the call's own; the reference's turned words.
-/
import Derived.Test.YtaknkiejjnilnaaDoorGF
import Derived.Test.YtaknkiejjnilnaaDoorRefMath
import Derived.Laws.AppendOwnNone
import Derived.Deep.QuietTactic
import Derived.BigQuiet
namespace Go.Proofs.YtaknkiejjnilnaaDoor
open Go.RowKit
set_option linter.unusedVariables false

theorem info_u8 : (Tryd.prog.info? 5).map (fun i => (i.zero, i.size, i.bytes)) = some (some (.int .u8 0), 1, 1) := by kernel_rfl

/-- What a row that the call itself made reads as. -/
theorem isN_of_owns {w : World} {base n : Nat} {v : Value} {l : List Nat} (hs : ∀ x ∈ l, x < 256) (h : w.ownsRow base 5 1 v n (l.map byv)) :
    ∃ a cap, v = .slice a n cap ∧ IsN w a n cap l ∧ ∀ x, a = some x → base ≤ x.block := by
  have hl : l.length = n := by simpa using h.1
  rcases h.2 with ⟨rfl, rfl⟩ | ⟨g, cap, cur, rfl, hb, hg, hnc, hcm, hcs, htake⟩
  · exact ⟨none, 0, rfl, ⟨hl, .inl rfl, fun _ => ⟨rfl, rfl⟩, ⟨Nat.le_refl _, Nat.zero_le _⟩, hs⟩, fun x hx => by cases hx⟩
  · refine ⟨some ⟨g, 0, none⟩, cap, rfl, ⟨hl, .inr ⟨g, 0, rfl, ?_, ?_⟩, (fun hx => by cases hx), ⟨hnc, hcm⟩, hs⟩, fun x hx => by cases hx; exact hb⟩
    · rcases Nat.lt_or_ge g w.heap.size with hlt | hge
      · exact hlt
      · rw [Array.getElem?_eq_none hge] at hg; cases hg
    · intro i hi
      have h2 : w.ownsRow base 5 1 (.slice (some ⟨g, 0, none⟩) n cap) n (l.map byv) := h
      rw [Nat.zero_add, h2.cellAt i (by omega)]
      simp [hi, byv, List.getD]

/-- 'append' of bytes that came in, nil and empty ones too, onto nil or onto a row of the call's own. -/
theorem wpList_append_nat {P : Program} {w : World} {ops : Array Oper} {rest : List Oper} {o : Oper} {a : Act} {Q : Exit → Act → World → Prop} (hgd : o.guard = none) (s x : Operand) (t : TypeId)
    (ho : o.op = .call { callee := .builtin .append, args := #[s, x], argTypes := #[t, t] })
    (base : Nat) (e : TypeId) (i : TypeInfo) (ht : P.underlying t = some (.slice e)) (hi : P.info? e = some i) (hz : i.zero = some (.int .u8 0))
    (hsize : i.size = 1) (hby : i.bytes = 1)
    (v : Value) (n : Nat) (l : List Nat) (hs : a.eval s = v) (hown : w.ownsRow base e 1 v n (l.map byv))
    (ao : Option Addr) (m c : Nat) (k : List Nat) (hx : a.eval x = .slice ao m c) (hsrc : IsN w ao m c k)
    (hbytes : n + m ≤ 140737488355328) (hbase : base ≤ w.heap.size)
    (h : ∀ v' w', w'.ownsRow base e 1 v' (n + m) ((l ++ k).map byv) → w.grownBy w' v.ownBlock → wpList P ops Q rest (a.put o.dst v') w') : wpList P ops Q (o :: rest) a w := by
  obtain ⟨h1, h2, h4, _, _⟩ := hsrc
  cases ao with
  | none =>
    obtain ⟨rfl, rfl⟩ := h4 rfl
    obtain rfl : k = [] := List.eq_nil_of_length_eq_zero h1
    refine wpList_append_own_none hgd s x t ho base e i 1 ht hi v n (l.map byv) hs hown hx ?_
    exact h v w (by simpa using hown) (World.grownBy.refl w _)
  | some ad =>
    refine wpList_append_own w hgd s x t ho base e i _ 1 1 ht hi hz hsize hby rfl (by omega) v n (l.map byv) hs hown ad m c (k.map byv) hx (by simp [h1]) ?_ ?_ (by unfold maxLen; omega) (by omega) hbase ?_
    · intro j u hj
      rcases h2 with h0 | ⟨b, off, he, hlt, hby'⟩
      · subst h0
        obtain rfl : k = [] := List.eq_nil_of_length_eq_zero h1
        simp at hj
      · cases he
        have hjl : j < k.length := by have := (List.getElem?_eq_some_iff.1 hj).1; simpa using this
        rw [Addr.add_mid, hby' j hjl, ← hj, map_get byv k j hjl]; rfl
    · intro u hu
      obtain ⟨b, _, rfl⟩ := List.mem_map.1 hu
      rfl
    · intro v' w' h5 h6 _
      exact h v' w' (by rw [List.map_append]; exact h5) h6

/-- One byte in a new block. -/
theorem isN_one (w : World) (t : TypeId) (x : Nat) (hx : x < 256) : IsN (w.alloc (.cells #[.int .u8 (x : Int)] t)) (some ⟨w.heap.size, 0, none⟩) 1 1 [x] := by
  have hh : Has (w.alloc (.cells #[.int .u8 (x : Int)] t)) w.heap.size [.int .u8 (x : Int)] t := Has.new w _ _
  refine ⟨rfl, .inr ⟨w.heap.size, 0, rfl, by simp, ?_⟩, (fun h => by cases h), ⟨Nat.le_refl _, by unfold maxLen; omega⟩, by intro y hy; simp at hy; omega⟩
  intro i hi
  have : i = 0 := by simp at hi; omega
  subst this
  exact hh.cellAt rfl

theorem wpList_build_to {P : Program} {ops : Array Oper} {rest : List Oper} {o : Oper} {a : Act} {w : World} {Q : Exit → Act → World → Prop} (hg : o.guard = none) (t : TypeId) (parts : Array (Nat × Operand)) (ho : o.op = .build t parts)
    (cs : Array Value) (hb : P.built t (parts.map fun (i, x) => (i, a.eval x)).toList = some cs)
    (h : wpList P ops Q rest (a.put o.dst (.agg cs)) w) : wpList P ops Q (o :: rest) a w :=
  wpList_build hg t parts ho (by rw [hb]; rfl) (by rw [hb]; exact h)

def WKL : List Nat := wordsK ++ startL
theorem WKL_length : WKL.length = 72 := rfl
theorem info_WK : (Tryd.prog.info? 47).map (·.size) = some (WKL.map wv).toArray.size := by kernel_rfl

set_option maxRecDepth 100000 in
set_option maxHeartbeats 1000000 in
theorem make_any (w : World) :
    Calls Tryd.prog 17 #[] w fun e w' => e = .returned (.agg (WKL.map wv).toArray) ∧ Below w.heap.size w w' := by
  have hz : ∀ w : World, (zeroValue 47).run Tryd.prog w = .ok (.agg ((List.replicate 72 0).map wv).toArray) w := fun w => by kernel_rfl
  obtain ⟨Z, hZ⟩ : ∃ Z, Z = ((List.replicate 72 0).map wv).toArray := ⟨_, rfl⟩
  rw [← hZ] at hz
  have hZl : Z.size = (WKL.map wv).toArray.size := by rw [hZ]; rfl
  have HZ := Lib.hid hZl
  have one : (WKL.map wv).toArray.all (·.oneCell') = true := by
    refine all_oneCell_toArray ?_
    intro v hv
    obtain ⟨x, _, rfl⟩ := List.mem_map.1 hv
    rfl
  have hbk : Tryd.prog.built 47 [(0, .agg (wordsK.map wv).toArray), (1, .agg (startL.map wv).toArray)] = some (WKL.map wv).toArray := by kernel_rfl
  obtain ⟨KK, hKK⟩ : ∃ KK, KK = (wordsK.map wv).toArray := ⟨_, rfl⟩
  obtain ⟨HH, hHH⟩ : ∃ HH, HH = (startL.map wv).toArray := ⟨_, rfl⟩
  obtain ⟨W, hW⟩ : ∃ W, W = (WKL.map wv).toArray := ⟨_, rfl⟩
  have IW := Lib.hid info_WK
  rw [← hKK, ← hHH, ← hW] at hbk
  rw [← hW] at HZ one IW ⊢
  have HBK := Lib.hid hbk
  have HONE := Lib.hid one
  have HKK := Lib.hid hKK
  have HHH := Lib.hid hHH
  clear hZ hZl one hbk hKK hHH hW
  go_enter Tryd.func17, Tryd.ntmps17
  go_upto_region 1 with fail
  obtain ⟨w1, hw1⟩ : ∃ w1, w1 = w.alloc (.cells Z 47) := ⟨_, rfl⟩
  rw [show w.alloc (.cells Z 47) = w1 from hw1.symm]
  have hg : w1.heap[w.heap.size]? = some (.cells Z 47 (0, 0)) := by rw [hw1]; exact heap_alloc_new w _
  have b1 : Below w.heap.size w w1 := by rw [hw1]; exact (Below.refl _ _).alloc (Nat.le_refl _) _
  have HG := Lib.hid hg
  clear hw1 hg hz
  go_wp2_with (first
    | (refine wpList_build_to rfl 44 _ rfl KK (by rw [HKK.out]; kernel_rfl) ?_)
    | (refine wpList_build_to rfl 45 _ rfl HH (by rw [HHH.out]; kernel_rfl) ?_)
    | (refine wpList_build_to rfl 47 _ rfl W ((congrArg (Tryd.prog.built 47) (show _ = [(0, Value.agg KK), (1, Value.agg HH)] from by simp only [List.map_toArray, List.map_cons, List.map_nil]; rfl)).trans HBK.out) ?_)
    | (refine wpList_store_row rfl 47 _ _ rfl w.heap.size W rfl rfl 47 _ HG.out IW.out HZ.out HONE.out ?_))
  have hres : ∀ tmps : Array Value, tmps.getD 0 undef = .pointer (some ⟨w.heap.size, 0, none⟩) → (results Tryd.f17 tmps).run Tryd.prog (w1.setRow w.heap.size W) = .ok (.agg W) (w1.setRow w.heap.size W) :=
    fun tmps hp => results_cell_row (fn := Tryd.f17) (p := 0) (ty := 47) Tryd.results17 tmps _ w.heap.size 47 W (0, 0) _ hp (setRow_heap _ _ _ _ _ _ HG.out) Tryd.underlying47 rfl IW.out
  refine bodyPost_ret (hres _ rfl) rfl ?_
  exact ⟨rfl, below_setRow b1 (Nat.le_refl _) _⟩

end Go.Proofs.YtaknkiejjnilnaaDoor

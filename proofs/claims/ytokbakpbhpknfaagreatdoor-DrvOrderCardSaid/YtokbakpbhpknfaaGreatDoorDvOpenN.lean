/-
  A derivation that comes in. No program text but types.
-/
import Derived.Test.YtokbakpbhpknfaaGreatDoorTreeN
import Derived.Deep.Slices
import Derived.Deep.MidRow
import Derived.ProofKit
import Derived.OpenShut
import Derived.SizedLaws
import Derived.Test.YtokbakpbhpknfaaGreatDoorBut
import Derived.Laws.Rows
import Derived.BigFrame
import Derived.Laws.IdiomStrings
import Derived.WalkKit
import Derived.Deep.LoopGhost
import Derived.Deep.QuietTactic
import Derived.BigQuiet
import Derived.Deep.Cut
namespace Go.Proofs.YtokbakpbhpknfaaGreatDoor
open Go.RowKit Go.ChangeShapes Go.WideShapes
set_option linter.unusedVariables false

theorem weights_all {H : Type} {P : Program} {e : TypeId} : ∀ (l : List (DataW H)) (i : Nat) (d : DataW H), l[i]? = some d → ∀ n ∈ d.weights P e, n ∈ DataW.weightsAll P e l
  | [], i, d, h, n, hn => by simp at h
  | d0 :: l, 0, d, h, n, hn => by
    simp only [List.getElem?_cons_zero, Option.some.injEq] at h
    subst h
    rw [DataW.weightsAll]
    exact List.mem_append_left _ hn
  | d0 :: l, i + 1, d, h, n, hn => by
    rw [DataW.weightsAll]
    exact List.mem_append_right _ (weights_all l i d (by simpa using h) n hn)

theorem five_list {α : Type} {l : List α} (h : l.length = 5) : ∃ a b c d e, l = [a, b, c, d, e] := by
  match l, h with
  | [a, b, c, d, e], _ => exact ⟨a, b, c, d, e, rfl⟩

section
variable {H : Type} {enc : TypeId × Value → H} {w : World} {base : Nat} {held : Bool}

theorem isS_of {fuel : Nat} {c : Value} {x : DataW H × List MemPlace} (h : DataW.trod enc Tryz.prog w base (fun _ => true) held fuel 22 [c] = some x)
    (hw : ∀ m ∈ x.1.weights Tryz.prog 22, m ≤ reachBytes) : ∃ a len cap l, c = .slice a len cap ∧ IsS w a len cap l ∧ (∀ i, i < l.length → (l.getD i ⟨#[]⟩).size ≤ 140737488355328) ∧ l.length * 16 ≤ 140737488355328 := by
  rcases Deep.open_slice1 Tryz.underlying22 (by kernel_rfl) h with ⟨hc, _⟩ | ⟨y, len, cap, m, n, V, D, Pl, hc, _, hl, hm, hmm, hxx, hx⟩
  · simp at hc
    exact ⟨none, 0, 0, [], hc, ⟨rfl, .inl rfl, fun _ => ⟨rfl, rfl⟩, ⟨Nat.le_refl _, Nat.zero_le _⟩⟩, fun i hi => by simp at hi, by simp⟩
  · simp at hc
    have hb16 : Tryz.prog.bytesOf 9 = 16 := by kernel_rfl
    have h16 : len * 16 ≤ 140737488355328 := by
      have := hw ((len + (m - len)) * Tryz.prog.bytesOf 9) (by rw [hxx]; simp [DataW.weights, Tryz.underlying22])
      rw [hb16] at this
      unfold reachBytes at this
      omega
    have hle : len ≤ m := by rw [hmm]; split <;> omega
    have hall : ∀ i, i < len → ∃ s : ByteArray, V i = .string s ∧ s.size ≤ 140737488355328 := fun i hi => by
      obtain ⟨s, hs, hd, _⟩ := DataW.trod_string Tryz.underlying9 (hx i (by omega)).2
      have hD : D i = .lit (.string s.data.toList) := congrArg (·.1) hd
      have := hw s.data.toList.length (by
        rw [hxx]
        simp only [DataW.weights, Tryz.underlying22, List.mem_cons, List.mem_append]
        refine .inr (.inl (weights_all _ i (D i) (by rw [List.getElem?_map, List.getElem?_range hi]; rfl) _ ?_))
        rw [hD]; simp [DataW.weights])
      unfold reachBytes at this
      refine ⟨s, by simpa using hs, ?_⟩
      have e : s.data.toList.length = s.size := by rw [Array.length_toList]; rfl
      omega
    obtain ⟨f, hf⟩ := Deep.choose_lt hall
    refine ⟨some y, len, cap, (List.range len).map f, hc, ⟨by simp, ?_, (fun h => by cases h), ⟨hl, hm⟩⟩, fun i hi => by
      have hi' : i < len := by simpa using hi
      have e1 : ((List.range len).map f).getD i ⟨#[]⟩ = f i := by simp [List.getD, hi']
      rw [e1]; exact (hf i hi').2, by simpa using h16⟩
    rcases Nat.eq_zero_or_pos len with h0 | h0
    · exact .inl h0
    · right
      obtain ⟨b, off, spot⟩ := y
      have hc0 := (hx 0 (by omega)).1
      have hspot : spot = none := by simpa [Addr.add] using World.cell?_spot hc0
      subst hspot
      have hb := World.block_lt_of_cell? w _ hc0
      refine ⟨b, off, rfl, by simpa [Addr.add] using hb, fun i hi => ?_⟩
      have hci := (hx i (by omega)).1
      rw [Addr.add_mid, (hf i hi).1] at hci
      rw [hci]
      have e1 : ((List.range len).map f).getD i ⟨#[]⟩ = f i := by simp [List.getD, hi]
      rw [e1]

/-- What came in is no longer than memory. -/
structure SmallD (s0 : ByteArray) (l1 l2 : List ByteArray) (s3 s4 : ByteArray) : Prop where
  z0 : s0.size ≤ 140737488355328
  z1 : ∀ s ∈ l1, s.size ≤ 140737488355328
  z2 : ∀ s ∈ l2, s.size ≤ 140737488355328
  z3 : s3.size ≤ 140737488355328
  z4 : s4.size ≤ 140737488355328
  n1 : l1.length * 16 ≤ 140737488355328
  n2 : l2.length * 16 ≤ 140737488355328
theorem all_of_get {l : List ByteArray} {n : Nat} (h : ∀ i, i < l.length → (l.getD i ⟨#[]⟩).size ≤ n) : ∀ s ∈ l, s.size ≤ n := by
  intro s hs
  obtain ⟨i, hi, rfl⟩ := List.getElem_of_mem hs
  have := h i hi
  rwa [List.getD_eq_getElem?_getD, List.getElem?_eq_getElem hi] at this
theorem str_of {fuel : Nat} {c : Value} {x : DataW H × List MemPlace} (h : DataW.trod enc Tryz.prog w base (fun _ => true) held fuel 9 [c] = some x)
    (hw : ∀ m ∈ x.1.weights Tryz.prog 9, m ≤ reachBytes) : ∃ s : ByteArray, c = .string s ∧ s.size ≤ 140737488355328 := by
  obtain ⟨s, hs, hd, _⟩ := DataW.trod_string Tryz.underlying9 h
  have hD : x.1 = .lit (.string s.data.toList) := congrArg (·.1) hd
  have := hw s.data.toList.length (by rw [hD]; simp [DataW.weights])
  unfold reachBytes at this
  refine ⟨s, by simpa using hs, ?_⟩
  have e : s.data.toList.length = s.size := by rw [Array.length_toList]; rfl
  omega

set_option maxRecDepth 100000 in
/-- A derivation that came in. -/
theorem open_drv {r : Reach} {b0 : Nat} {v : Value} {d : DataW H} {p : List MemPlace} (hv : Value.okWide Tryz.prog w r b0 24 v) (h : DataW.Trod enc Tryz.prog w base (fun _ => true) held 24 v d p)
    (hw : ∀ m ∈ d.weights Tryz.prog 24, m ≤ reachBytes) : ∃ (s0 : ByteArray) (a1 : Option Addr) (n1 c1 : Nat) (l1 : List ByteArray) (a2 : Option Addr) (n2 c2 : Nat) (l2 : List ByteArray) (s3 s4 : ByteArray),
      v = .agg #[.string s0, .slice a1 n1 c1, .slice a2 n2 c2, .string s3, .string s4] ∧ IsS w a1 n1 c1 l1 ∧ IsS w a2 n2 c2 l2 ∧ SmallD s0 l1 l2 s3 s4 := by
  obtain ⟨cs, rfl, hsz⟩ := okWide_struct Tryz.underlying24 hv
  obtain ⟨fuel, hf⟩ := h
  have hf' : DataW.trod enc Tryz.prog w base (fun _ => true) held fuel 24 cs.toList = some (d, p) := by simpa [Value.cells] using hf
  obtain ⟨xs, n, rfl, hx, hlen, hxl, hg⟩ := DataW.trod_struct Tryz.underlying24 hf'
  have hC : Tryz.prog.cellsOf 24 = 5 := by kernel_rfl
  have k0 : Tryz.prog.cellsOf 9 = 1 := by kernel_rfl
  have k3 : Tryz.prog.cellsOf 22 = 1 := by kernel_rfl
  rw [hC] at hlen
  have hd : d = .agg (xs.map (·.1)) := congrArg (·.1) hx
  have hW : ∀ m ∈ DataW.weightsEach Tryz.prog [9, 22, 22, 9, 9] (xs.map (·.1)), m ≤ reachBytes := by
    rw [hd] at hw
    simpa [DataW.weights, Tryz.underlying24] using hw
  obtain ⟨c0, c1, c2, c3, c4, hcs⟩ := five_list hlen
  obtain ⟨y0, y1, y2, y3, y4, rfl⟩ := five_list (show xs.length = 5 from hxl)
  rw [hcs] at hg
  have g0 : DataW.trod enc Tryz.prog w base (fun _ => true) held n 9 [c0] = some y0 := by simpa [k0] using hg 0 _ rfl
  have g1 : DataW.trod enc Tryz.prog w base (fun _ => true) held n 22 [c1] = some y1 := by simpa [k0, k3] using hg 1 _ rfl
  have g2 : DataW.trod enc Tryz.prog w base (fun _ => true) held n 22 [c2] = some y2 := by simpa [k0, k3] using hg 2 _ rfl
  have g3 : DataW.trod enc Tryz.prog w base (fun _ => true) held n 9 [c3] = some y3 := by simpa [k0, k3] using hg 3 _ rfl
  have g4 : DataW.trod enc Tryz.prog w base (fun _ => true) held n 9 [c4] = some y4 := by simpa [k0, k3] using hg 4 _ rfl
  obtain ⟨s0, hs0, z0⟩ := str_of g0 (fun m hm => hW m (DataW.weights_mem_each (j := 0) rfl rfl m hm))
  obtain ⟨a1, n1, m1, l1, ha1, h1, z1, t1⟩ := isS_of g1 (fun m hm => hW m (DataW.weights_mem_each (j := 1) rfl rfl m hm))
  obtain ⟨a2, n2, m2, l2, ha2, h2, z2, t2⟩ := isS_of g2 (fun m hm => hW m (DataW.weights_mem_each (j := 2) rfl rfl m hm))
  obtain ⟨s3, hs3, z3⟩ := str_of g3 (fun m hm => hW m (DataW.weights_mem_each (j := 3) rfl rfl m hm))
  obtain ⟨s4, hs4, z4⟩ := str_of g4 (fun m hm => hW m (DataW.weights_mem_each (j := 4) rfl rfl m hm))
  refine ⟨s0, a1, n1, m1, l1, a2, n2, m2, l2, s3, s4, ?_, h1, h2, ⟨z0, all_of_get z1, all_of_get z2, z3, z4, t1, t2⟩⟩
  rw [hs0, ha1, ha2, hs3, hs4] at hcs
  congr 1
  exact Array.toList_inj.1 hcs
end
end Go.Proofs.YtokbakpbhpknfaaGreatDoor

namespace Go.Proofs.YtokbakpbhpknfaaGreatDoor
open Go.RowKit
set_option linter.unusedVariables false

/-- A whole row is loaded, guarded or not. -/
theorem wpList_load_rowG {P : Program} {ops : Array Oper} {rest : List Oper} {o : Oper} {a : Act} {w : World} {Q : Exit → Act → World → Prop} (hw : Region.wanted o (yielded ops a.tmps) = true) (ty : TypeId) (x : Operand) (ho : o.op = .load ty x)
    (g : Nat) (hx : a.eval x = .pointer (some ⟨g, 0, none⟩)) (t : TypeId) (cs : Array Value) (fr : Nat × Nat) (d : TypeDesc) (hg : w.heap[g]? = some (.cells cs t fr))
    (hu : P.underlying ty = some d) (hd : (match d with | .struct _ | .array _ _ => true | _ => false) = true) (hi : (P.info? ty).map (·.size) = some cs.size)
    (h : wpList P ops Q rest (a.put o.dst (.agg cs)) w) : wpList P ops Q (o :: rest) a w :=
  BigFrame.wpList_want hw fun _ hK => wp_load_row ty x ho g hx t cs fr d hg hu hd hi (hK _ _ h)

end Go.Proofs.YtokbakpbhpknfaaGreatDoor

namespace Go.Proofs.YtokbakpbhpknfaaGreatDoor
open Go.RowKit
set_option linter.unusedVariables false

theorem below_rf {B : Nat} {a w : World} (h : Below B a w) (n : Nat) : Below B a (w.drewN n) := ⟨h.os, h.tape, h.output, h.size, h.block⟩

set_option maxRecDepth 100000 in
set_option maxHeartbeats 4000000 in
theorem rfsame_any (a a' : Option Addr) (n n' cap cap' : Nat) (l l' : List ByteArray) (w : World) (hS : IsS w a n cap l) (hS' : IsS w a' n' cap' l') (hn : n ≤ 140737488355328) (hn' : n' ≤ 140737488355328) :
    Calls Tryz.prog 34 #[.slice a n cap, .slice a' n' cap'] w fun e w' => ∃ b, e = .returned (.bool b) ∧ (b = true ↔ l = l') ∧ Below w.heap.size w w' := by
  have hnl := hS.length
  have hnl' := hS'.length
  by_cases hne : n = n'
  · subst hne
    have HNL := Lib.hid hnl
    have HNL' := Lib.hid hnl'
    have hat := hS.at_
    have hat' := hS'.at_
    clear hS hS' hnl hnl' hn'
    go_enter Tryz.func34, Tryz.ntmps34
    go_wp2_with fail
    go_loopg [5] (n + 1) (fun gk v5 wr => Below w.heap.size w wr ∧ ∃ i : Nat, gk = n + 1 - i ∧ i ≤ n ∧ v5 = .int .i64 i ∧ Hid (∀ j, j < i → l.getD j ⟨#[]⟩ = l'.getD j ⟨#[]⟩))
    case atStart => exact ⟨Below.refl _ _, 0, rfl, Nat.zero_le _, rfl, Lib.hid (fun j hj => by omega)⟩
    case round =>
      obtain ⟨hb, i, rfl, hin, rfl, heq⟩ := hrel
      have HB := Lib.hid hb
      clear hb
      by_cases hlt : i < n
      · rcases hat with h0 | ⟨b, off, rfl, hb, hc⟩
        · omega
        rcases hat' with h0 | ⟨b', off', rfl, hb', hc'⟩
        · omega
        have hii : (i : Int) < (n : Int) := by omega
        have c1 := (HB.out.cell (p := ⟨b, off + i, none⟩) hb).trans (hc i hlt)
        have c2 := (HB.out.cell (p := ⟨b', off' + i, none⟩) hb').trans (hc' i hlt)
        obtain ⟨x, hx⟩ : ∃ x, x = l.getD i ⟨#[]⟩ := ⟨_, rfl⟩
        obtain ⟨y, hy⟩ : ∃ y, y = l'.getD i ⟨#[]⟩ := ⟨_, rfl⟩
        rw [← hx] at c1
        rw [← hy] at c2
        have HX := Lib.hid hx
        have HY := Lib.hid hy
        clear hx hy hc hc'
        by_cases hxy : x = y
        · have he : (x.toList == y.toList) = true := by rw [hxy]; simp
          have HEQ : Hid (∀ j, j < i + 1 → l.getD j ⟨#[]⟩ = l'.getD j ⟨#[]⟩) := Lib.hid (fun j hj => by
            by_cases e : j = i
            · rw [e, ← HX.out, ← HY.out, hxy]
            · exact heq.out j (by omega))
          clear hxy
          go_wp2_with fail
          go_quiet (fail)
          go_wp2_with fail
          go_roundg (n + 1 - (i + 1))
          case rel => exact ⟨below_rf HB.out _, i + 1, rfl, by omega, by go_num, HEQ⟩
          case measure => omega
        · have he : (x.toList == y.toList) = false := by
            have h : x.toList ≠ y.toList := fun h => hxy (bytes_ext (by rw [ByteArray.toList_eq, ByteArray.toList_eq] at h; exact h))
            simpa using h
          have HNE : Hid (¬ l = l') := Lib.hid (fun h => hxy (by rw [HX.out, HY.out, h]))
          clear hxy
          go_wp2_with fail
          go_quiet (fail)
          go_wp2_with fail
          go_ret
          exact ⟨false, rfl, ⟨(fun h => by cases h), (fun h => absurd h HNE.out)⟩, below_rf HB.out _⟩
      · have hii : ¬ (i : Int) < (n : Int) := by omega
        obtain rfl : i = n := by omega
        have HE : Hid (l = l') := Lib.hid (by
          apply List.ext_getElem (by rw [HNL.out, HNL'.out])
          intro j h1 h2
          have := heq.out j (by rw [HNL.out] at h1; exact h1)
          rw [List.getD_eq_getElem?_getD, List.getElem?_eq_getElem h1, List.getD_eq_getElem?_getD, List.getElem?_eq_getElem h2] at this
          exact this)
        clear hat hat'
        go_wp2_with fail
        go_ret
        exact .inr ⟨rfl, HE.out, HB.out⟩
  · have hni : ¬ (n : Int) = (n' : Int) := by omega
    have HNE : Hid (¬ l = l') := Lib.hid (fun h => hne (by rw [← hnl, ← hnl', h]))
    clear hS hS' hnl hnl' hne
    go_enter Tryz.func34, Tryz.ntmps34
    go_wp2_with fail
    go_ret
    exact ⟨false, rfl, ⟨(fun h => by cases h), (fun h => absurd h HNE.out)⟩, Below.refl _ _⟩

end Go.Proofs.YtokbakpbhpknfaaGreatDoor

namespace Go.Proofs.YtokbakpbhpknfaaGreatDoor
open Go.RowKit
set_option linter.unusedVariables false

theorem toL_yes {s t : ByteArray} (h : s = t) : (s.toList == t.toList) = true := by rw [h]; simp
theorem toL_no {s t : ByteArray} (h : ¬ s = t) : (s.toList == t.toList) = false := by
  have h : s.toList ≠ t.toList := fun e => h (bytes_ext (by rw [ByteArray.toList_eq, ByteArray.toList_eq] at e; exact e))
  simpa using h
/-- Are they alike? -/
def sameD (s0 : ByteArray) (l1 l2 : List ByteArray) (s3 s4 t0 : ByteArray) (k1 k2 : List ByteArray) (t3 t4 : ByteArray) : Prop := s0 = t0 ∧ s3 = t3 ∧ s4 = t4 ∧ l1 = k1 ∧ l2 = k2

set_option maxRecDepth 100000 in
set_option maxHeartbeats 16000000 in
theorem dsame_any (s0 s3 s4 t0 t3 t4 : ByteArray) (a1 a2 b1 b2 : Option Addr) (n1 c1 n2 c2 m1 d1 m2 d2 : Nat) (l1 l2 k1 k2 : List ByteArray) (w : World) (h1 : IsS w a1 n1 c1 l1) (h2 : IsS w a2 n2 c2 l2) (g1 : IsS w b1 m1 d1 k1) (g2 : IsS w b2 m2 d2 k2)
    (z1 : n1 ≤ 140737488355328) (z2 : n2 ≤ 140737488355328) (y1 : m1 ≤ 140737488355328) (y2 : m2 ≤ 140737488355328) :
    Calls Tryz.prog 16 #[.agg #[.string s0, .slice a1 n1 c1, .slice a2 n2 c2, .string s3, .string s4], .agg #[.string t0, .slice b1 m1 d1, .slice b2 m2 d2, .string t3, .string t4]] w fun e w' => ∃ b, e = .returned (.bool b) ∧ (b = true ↔ sameD s0 l1 l2 s3 s4 t0 k1 k2 t3 t4) ∧ Below w.heap.size w w' := by
  have I1 := Lib.hid h1
  have I2 := Lib.hid h2
  have J1 := Lib.hid g1
  have J2 := Lib.hid g2
  clear h1 h2 g1 g2
  go_enter Tryz.func16, Tryz.ntmps16
  go_upto_region 1 with fail
  obtain ⟨G, hG⟩ : ∃ G, G = w.heap.size := ⟨_, rfl⟩
  rw [← hG]
  obtain ⟨x1, hx1⟩ : ∃ x, x = w.alloc (.cells #[.string s0, .slice a1 n1 c1, .slice a2 n2 c2, .string s3, .string s4] 24) := ⟨_, rfl⟩
  obtain ⟨w1, hw1⟩ : ∃ x, x = x1.alloc (.cells #[.string t0, .slice b1 m1 d1, .slice b2 m2 d2, .string t3, .string t4] 24) := ⟨_, rfl⟩
  rw [← hx1, ← hw1]
  have e1 : x1.heap.size = G + 1 := by rw [hx1, hG]; simp
  have P1 : Hid (Has w1 G [.string s0, .slice a1 n1 c1, .slice a2 n2 c2, .string s3, .string s4] 24) := Lib.hid (by rw [hw1, hx1, hG]; exact (Has.new w [.string s0, .slice a1 n1 c1, .slice a2 n2 c2, .string s3, .string s4] _).alloc _)
  have Q1 : Hid (Has w1 (G + 1) [.string t0, .slice b1 m1 d1, .slice b2 m2 d2, .string t3, .string t4] 24) := Lib.hid (by rw [hw1, ← e1]; exact Has.new x1 [.string t0, .slice b1 m1 d1, .slice b2 m2 d2, .string t3, .string t4] _)
  have B1 : Hid (Below G w w1) := Lib.hid (by rw [hw1, hx1, hG]; exact ((Below.refl _ _).alloc (Nat.le_refl _) _).alloc (by simp) _)
  have HG := Lib.hid hG
  try rw [e1]
  clear hx1 hw1 e1 hG
  have p0 := P1.out.cellAt (i := 0) rfl
  have q0 := Q1.out.cellAt (i := 0) rfl
  have p3 := P1.out.cellAt (i := 3) rfl
  have q3 := Q1.out.cellAt (i := 3) rfl
  have p4 := P1.out.cellAt (i := 4) rfl
  have q4 := Q1.out.cellAt (i := 4) rfl
  have p1 := P1.out.cellAt (i := 1) rfl
  have q1 := Q1.out.cellAt (i := 1) rfl
  have p2 := P1.out.cellAt (i := 2) rfl
  have q2 := Q1.out.cellAt (i := 2) rfl
  by_cases e0 : s0 = t0
  · have hy0 := toL_yes e0
    have E0 := Lib.hid e0
    clear e0
    by_cases e3 : s3 = t3
    · have hy3 := toL_yes e3
      have E3 := Lib.hid e3
      clear e3
      by_cases e4 : s4 = t4
      · have hy4 := toL_yes e4
        have E4 := Lib.hid e4
        clear e4
        go_wp2_with fail
        refine (rfsame_any a1 b1 n1 m1 c1 d1 l1 k1 _ (I1.out.later (by rw [← HG.out]; exact B1.out)) (J1.out.later (by rw [← HG.out]; exact B1.out)) z1 y1).mono ?_
        rintro e w2 ⟨b, rfl, hb, x2⟩
        have B2 : Hid (Below G w w2) := Lib.hid (B1.out.trans (x2.mono (Nat.le_of_lt P1.out.lt)))
        have P2 := Lib.hid (P1.out.below x2 P1.out.lt)
        have Q2 := Lib.hid (Q1.out.below x2 Q1.out.lt)
        clear x2 p0 q0 p1 q1 p2 q2 p3 q3 p4 q4
        have p2 := P2.out.cellAt (i := 2) rfl
        have q2 := Q2.out.cellAt (i := 2) rfl
        cases b with
        | false =>
          have ne : Hid (¬ l1 = k1) := Lib.hid (fun e => by have := hb.2 e; cases this)
          clear hb
          go_wp2_with fail
          go_ret
          exact ⟨false, rfl, ⟨(fun h => by cases h), (fun h => absurd h.2.2.2.1 ne.out)⟩, by rw [← HG.out]; exact B2.out⟩
        | true =>
          have L1 := Lib.hid (hb.1 rfl)
          clear hb
          go_wp2_with fail
          refine (rfsame_any a2 b2 n2 m2 c2 d2 l2 k2 _ (I2.out.later (by rw [← HG.out]; exact B2.out)) (J2.out.later (by rw [← HG.out]; exact B2.out)) z2 y2).mono ?_
          rintro e w3 ⟨b, rfl, hb, x3⟩
          have B3 : Hid (Below G w w3) := Lib.hid (B2.out.trans (x3.mono (Nat.le_of_lt P2.out.lt)))
          have HB := Lib.hid hb
          clear x3 p2 q2 hb
          go_wp2_with fail
          go_ret
          exact ⟨b, rfl, ⟨(fun h => ⟨E0.out, E3.out, E4.out, L1.out, HB.out.1 h⟩), (fun h => HB.out.2 h.2.2.2.2)⟩, by rw [← HG.out]; exact B3.out⟩
      · have ne : ¬ s4 = t4 := e4
        have hn := toL_no e4
        have NE := Lib.hid ne
        clear e4 ne
        go_wp2_with fail
        go_ret
        exact ⟨false, rfl, ⟨(fun h => by cases h), (fun h => absurd h.2.2.1 NE.out)⟩, by rw [← HG.out]; exact B1.out⟩
    · have ne : ¬ s3 = t3 := e3
      have hn := toL_no e3
      have NE := Lib.hid ne
      clear e3 ne
      go_wp2_with fail
      go_ret
      exact ⟨false, rfl, ⟨(fun h => by cases h), (fun h => absurd h.2.1 NE.out)⟩, by rw [← HG.out]; exact B1.out⟩
  · have ne : ¬ s0 = t0 := e0
    have hn := toL_no e0
    have NE := Lib.hid ne
    clear e0 ne
    go_wp2_with fail
    go_ret
    exact ⟨false, rfl, ⟨(fun h => by cases h), (fun h => absurd h.1 NE.out)⟩, by rw [← HG.out]; exact B1.out⟩
end Go.Proofs.YtokbakpbhpknfaaGreatDoor

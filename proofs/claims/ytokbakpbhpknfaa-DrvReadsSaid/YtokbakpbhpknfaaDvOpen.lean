/-
  A derivation that comes in. No program text but types.
-/
import Derived.Test.YtokbakpbhpknfaaTree
import Derived.Deep.Slices
import Derived.Deep.MidRow
import Derived.ProofKit
import Derived.OpenShut
import Derived.SizedLaws
namespace Go.Proofs.Ytokbakpbhpknfaa
open Go.RowKit Go.ChangeShapes Go.WideShapes
set_option linter.unusedVariables false

theorem weights_all {H : Type} {P : Program} {e : TypeId} : ∀ (l : List (DataW H)) (i : Nat) (d : DataW H), l[i]? = some d → ∀ n ∈ d.weights P e, n ∈ DataW.weightsAll P e l
  | [], i, d, h, n, hn => by simp at h
  | d0 :: l, 0, d, h, n, hn => by
    simp only [List.getElem?_cons_zero, Option.some.injEq] at h
    subst h
    rw [DataW.weightsAll]
    exact List.mem_append_left _ hn
  | d0 :: l, i + 1, d, h, n, hn => by
    rw [DataW.weightsAll]
    exact List.mem_append_right _ (weights_all l i d (by simpa using h) n hn)

theorem five_list {α : Type} {l : List α} (h : l.length = 5) : ∃ a b c d e, l = [a, b, c, d, e] := by
  match l, h with
  | [a, b, c, d, e], _ => exact ⟨a, b, c, d, e, rfl⟩

section
variable {H : Type} {enc : TypeId × Value → H} {w : World} {base : Nat} {held : Bool}

theorem isS_of {fuel : Nat} {c : Value} {x : DataW H × List MemPlace} (h : DataW.trod enc Try.prog w base (fun _ => true) held fuel 22 [c] = some x)
    (hw : ∀ m ∈ x.1.weights Try.prog 22, m ≤ reachBytes) : ∃ a len cap l, c = .slice a len cap ∧ IsS w a len cap l ∧ (∀ i, i < l.length → (l.getD i ⟨#[]⟩).size ≤ 140737488355328) ∧ l.length * 16 ≤ 140737488355328 := by
  rcases Deep.open_slice1 Try.underlying22 (by kernel_rfl) h with ⟨hc, _⟩ | ⟨y, len, cap, m, n, V, D, Pl, hc, _, hl, hm, hmm, hxx, hx⟩
  · simp at hc
    exact ⟨none, 0, 0, [], hc, ⟨rfl, .inl rfl, fun _ => ⟨rfl, rfl⟩, ⟨Nat.le_refl _, Nat.zero_le _⟩⟩, fun i hi => by simp at hi, by simp⟩
  · simp at hc
    have hb16 : Try.prog.bytesOf 9 = 16 := by kernel_rfl
    have h16 : len * 16 ≤ 140737488355328 := by
      have := hw ((len + (m - len)) * Try.prog.bytesOf 9) (by rw [hxx]; simp [DataW.weights, Try.underlying22])
      rw [hb16] at this
      unfold reachBytes at this
      omega
    have hle : len ≤ m := by rw [hmm]; split <;> omega
    have hall : ∀ i, i < len → ∃ s : ByteArray, V i = .string s ∧ s.size ≤ 140737488355328 := fun i hi => by
      obtain ⟨s, hs, hd, _⟩ := DataW.trod_string Try.underlying9 (hx i (by omega)).2
      have hD : D i = .lit (.string s.data.toList) := congrArg (·.1) hd
      have := hw s.data.toList.length (by
        rw [hxx]
        simp only [DataW.weights, Try.underlying22, List.mem_cons, List.mem_append]
        refine .inr (.inl (weights_all _ i (D i) (by rw [List.getElem?_map, List.getElem?_range hi]; rfl) _ ?_))
        rw [hD]; simp [DataW.weights])
      unfold reachBytes at this
      refine ⟨s, by simpa using hs, ?_⟩
      have e : s.data.toList.length = s.size := by rw [Array.length_toList]; rfl
      omega
    obtain ⟨f, hf⟩ := Deep.choose_lt hall
    refine ⟨some y, len, cap, (List.range len).map f, hc, ⟨by simp, ?_, (fun h => by cases h), ⟨hl, hm⟩⟩, fun i hi => by
      have hi' : i < len := by simpa using hi
      have e1 : ((List.range len).map f).getD i ⟨#[]⟩ = f i := by simp [List.getD, hi']
      rw [e1]; exact (hf i hi').2, by simpa using h16⟩
    rcases Nat.eq_zero_or_pos len with h0 | h0
    · exact .inl h0
    · right
      obtain ⟨b, off, spot⟩ := y
      have hc0 := (hx 0 (by omega)).1
      have hspot : spot = none := by simpa [Addr.add] using World.cell?_spot hc0
      subst hspot
      have hb := World.block_lt_of_cell? w _ hc0
      refine ⟨b, off, rfl, by simpa [Addr.add] using hb, fun i hi => ?_⟩
      have hci := (hx i (by omega)).1
      rw [Addr.add_mid, (hf i hi).1] at hci
      rw [hci]
      have e1 : ((List.range len).map f).getD i ⟨#[]⟩ = f i := by simp [List.getD, hi]
      rw [e1]

/-- What came in is no longer than memory. -/
structure SmallD (s0 : ByteArray) (l1 l2 : List ByteArray) (s3 s4 : ByteArray) : Prop where
  z0 : s0.size ≤ 140737488355328
  z1 : ∀ s ∈ l1, s.size ≤ 140737488355328
  z2 : ∀ s ∈ l2, s.size ≤ 140737488355328
  z3 : s3.size ≤ 140737488355328
  z4 : s4.size ≤ 140737488355328
  n1 : l1.length * 16 ≤ 140737488355328
  n2 : l2.length * 16 ≤ 140737488355328
theorem all_of_get {l : List ByteArray} {n : Nat} (h : ∀ i, i < l.length → (l.getD i ⟨#[]⟩).size ≤ n) : ∀ s ∈ l, s.size ≤ n := by
  intro s hs
  obtain ⟨i, hi, rfl⟩ := List.getElem_of_mem hs
  have := h i hi
  rwa [List.getD_eq_getElem?_getD, List.getElem?_eq_getElem hi] at this
theorem str_of {fuel : Nat} {c : Value} {x : DataW H × List MemPlace} (h : DataW.trod enc Try.prog w base (fun _ => true) held fuel 9 [c] = some x)
    (hw : ∀ m ∈ x.1.weights Try.prog 9, m ≤ reachBytes) : ∃ s : ByteArray, c = .string s ∧ s.size ≤ 140737488355328 := by
  obtain ⟨s, hs, hd, _⟩ := DataW.trod_string Try.underlying9 h
  have hD : x.1 = .lit (.string s.data.toList) := congrArg (·.1) hd
  have := hw s.data.toList.length (by rw [hD]; simp [DataW.weights])
  unfold reachBytes at this
  refine ⟨s, by simpa using hs, ?_⟩
  have e : s.data.toList.length = s.size := by rw [Array.length_toList]; rfl
  omega

set_option maxRecDepth 100000 in
/-- A derivation that came in. -/
theorem open_drv {r : Reach} {b0 : Nat} {v : Value} {d : DataW H} {p : List MemPlace} (hv : Value.okWide Try.prog w r b0 24 v) (h : DataW.Trod enc Try.prog w base (fun _ => true) held 24 v d p)
    (hw : ∀ m ∈ d.weights Try.prog 24, m ≤ reachBytes) : ∃ (s0 : ByteArray) (a1 : Option Addr) (n1 c1 : Nat) (l1 : List ByteArray) (a2 : Option Addr) (n2 c2 : Nat) (l2 : List ByteArray) (s3 s4 : ByteArray),
      v = .agg #[.string s0, .slice a1 n1 c1, .slice a2 n2 c2, .string s3, .string s4] ∧ IsS w a1 n1 c1 l1 ∧ IsS w a2 n2 c2 l2 ∧ SmallD s0 l1 l2 s3 s4 := by
  obtain ⟨cs, rfl, hsz⟩ := okWide_struct Try.underlying24 hv
  obtain ⟨fuel, hf⟩ := h
  have hf' : DataW.trod enc Try.prog w base (fun _ => true) held fuel 24 cs.toList = some (d, p) := by simpa [Value.cells] using hf
  obtain ⟨xs, n, rfl, hx, hlen, hxl, hg⟩ := DataW.trod_struct Try.underlying24 hf'
  have hC : Try.prog.cellsOf 24 = 5 := by kernel_rfl
  have k0 : Try.prog.cellsOf 9 = 1 := by kernel_rfl
  have k3 : Try.prog.cellsOf 22 = 1 := by kernel_rfl
  rw [hC] at hlen
  have hd : d = .agg (xs.map (·.1)) := congrArg (·.1) hx
  have hW : ∀ m ∈ DataW.weightsEach Try.prog [9, 22, 22, 9, 9] (xs.map (·.1)), m ≤ reachBytes := by
    rw [hd] at hw
    simpa [DataW.weights, Try.underlying24] using hw
  obtain ⟨c0, c1, c2, c3, c4, hcs⟩ := five_list hlen
  obtain ⟨y0, y1, y2, y3, y4, rfl⟩ := five_list (show xs.length = 5 from hxl)
  rw [hcs] at hg
  have g0 : DataW.trod enc Try.prog w base (fun _ => true) held n 9 [c0] = some y0 := by simpa [k0] using hg 0 _ rfl
  have g1 : DataW.trod enc Try.prog w base (fun _ => true) held n 22 [c1] = some y1 := by simpa [k0, k3] using hg 1 _ rfl
  have g2 : DataW.trod enc Try.prog w base (fun _ => true) held n 22 [c2] = some y2 := by simpa [k0, k3] using hg 2 _ rfl
  have g3 : DataW.trod enc Try.prog w base (fun _ => true) held n 9 [c3] = some y3 := by simpa [k0, k3] using hg 3 _ rfl
  have g4 : DataW.trod enc Try.prog w base (fun _ => true) held n 9 [c4] = some y4 := by simpa [k0, k3] using hg 4 _ rfl
  obtain ⟨s0, hs0, z0⟩ := str_of g0 (fun m hm => hW m (DataW.weights_mem_each (j := 0) rfl rfl m hm))
  obtain ⟨a1, n1, m1, l1, ha1, h1, z1, t1⟩ := isS_of g1 (fun m hm => hW m (DataW.weights_mem_each (j := 1) rfl rfl m hm))
  obtain ⟨a2, n2, m2, l2, ha2, h2, z2, t2⟩ := isS_of g2 (fun m hm => hW m (DataW.weights_mem_each (j := 2) rfl rfl m hm))
  obtain ⟨s3, hs3, z3⟩ := str_of g3 (fun m hm => hW m (DataW.weights_mem_each (j := 3) rfl rfl m hm))
  obtain ⟨s4, hs4, z4⟩ := str_of g4 (fun m hm => hW m (DataW.weights_mem_each (j := 4) rfl rfl m hm))
  refine ⟨s0, a1, n1, m1, l1, a2, n2, m2, l2, s3, s4, ?_, h1, h2, ⟨z0, all_of_get z1, all_of_get z2, z3, z4, t1, t2⟩⟩
  rw [hs0, ha1, ha2, hs3, hs4] at hcs
  congr 1
  exact Array.toList_inj.1 hcs
end
end Go.Proofs.Ytokbakpbhpknfaa

/-
  A slice of calls that came in.
-/
import Derived.Test.YtgjckddcnmbceaaGreatDoorTOpen
import Derived.Test.YtgjckddcnmbceaaGreatDoorJPlays
import Derived.Test.YtgjckddcnmbceaaGreatDoorNArg
import Derived.Deep.Grids
namespace Go.Proofs.YtgjckddcnmbceaaGreatDoor
open Go.RowKit Go.ChangeShapes Go.WideShapes
set_option linter.unusedVariables false

theorem six_list {α : Type} {l : List α} (h : l.length = 6) : ∃ a b c d e f, l = [a, b, c, d, e, f] := by
  match l, h with
  | [a, b, c, d, e, f], _ => exact ⟨a, b, c, d, e, f, rfl⟩
theorem weights_allQ {H : Type} {P : Program} {e : TypeId} : ∀ (l : List (DataW H)) (i : Nat) (d : DataW H), l[i]? = some d → ∀ n ∈ d.weights P e, n ∈ DataW.weightsAll P e l
  | [], i, d, h, n, hn => by simp at h
  | d0 :: l, 0, d, h, n, hn => by
    simp only [List.getElem?_cons_zero, Option.some.injEq] at h
    subst h
    rw [DataW.weightsAll]
    exact List.mem_append_left _ hn
  | d0 :: l, i + 1, d, h, n, hn => by
    rw [DataW.weightsAll]
    exact List.mem_append_right _ (weights_allQ l i d (by simpa using h) n hn)
section
variable {H : Type} {enc : TypeId × Value → H} {w : World} {base : Nat} {held : Bool}

theorem isO_of {fuel : Nat} {c : Value} {x : DataW H × List MemPlace} (h : DataW.trod enc Tryz.prog w base (fun _ => true) held fuel 34 [c] = some x) : ∃ a len cap l, c = .slice a len cap ∧ IsO w w.heap.size a len cap l := by
  rcases Deep.open_slice1 Tryz.underlying34 (by kernel_rfl) h with ⟨hc, _⟩ | ⟨y, len, cap, m, n, V, D, Pl, hc, _, hl, hm, hmm, hxx, hx⟩
  · simp at hc
    exact ⟨none, 0, 0, [], hc, rfl, .inl rfl, Nat.zero_le _⟩
  · simp at hc
    have hall : ∀ i, i < len → ∃ b : Bool, V i = .bool b := fun i hi => by
      have hle : len ≤ m := by rw [hmm]; split <;> omega
      obtain ⟨b, hb, _⟩ := DataW.trod_bool Tryz.underlying4 (hx i (by omega)).2
      exact ⟨b, by simpa using hb⟩
    obtain ⟨f, hf⟩ := Deep.choose_lt hall
    have hle : len ≤ m := by rw [hmm]; split <;> omega
    refine ⟨some y, len, cap, (List.range len).map f, hc, by simp, ?_, Nat.le_trans hl hm⟩
    rcases Nat.eq_zero_or_pos len with h0 | h0
    · exact .inl h0
    · right
      obtain ⟨b, off, spot⟩ := y
      have hc0 := (hx 0 (by omega)).1
      have hspot : spot = none := by simpa [Addr.add] using World.cell?_spot hc0
      subst hspot
      have hb := World.block_lt_of_cell? w _ hc0
      have hb' : b < w.heap.size := by simpa [Addr.add] using hb
      refine ⟨b, off, rfl, hb', .inl hb', fun i hi => ?_⟩
      have hci := (hx i (by omega)).1
      rw [Addr.add_mid, hf i hi] at hci
      rw [hci]
      have e1 : ((List.range len).map f).getD i false = f i := by simp [List.getD, hi]
      rw [e1]

theorem act_of {fuel : Nat} {cs : List Value} {x : DataW H × List MemPlace} (h : DataW.trod enc Tryz.prog w base (fun _ => true) held fuel 36 cs = some x)
    (hw : ∀ m ∈ x.1.weights Tryz.prog 36, m ≤ reachBytes) : ActOk w cs := by
  obtain ⟨xs, n, rfl, hx, hlen, hxl, hg⟩ := DataW.trod_struct Tryz.underlying36 h
  have hC : Tryz.prog.cellsOf 36 = 6 := by kernel_rfl
  have k0 : Tryz.prog.cellsOf 5 = 1 := by kernel_rfl
  have k1 : Tryz.prog.cellsOf 3 = 1 := by kernel_rfl
  have k2 : Tryz.prog.cellsOf 33 = 1 := by kernel_rfl
  have k3 : Tryz.prog.cellsOf 34 = 1 := by kernel_rfl
  rw [hC] at hlen
  have hW : ∀ m ∈ DataW.weightsEach Tryz.prog [5, 33, 5, 34, 3, 3] (xs.map (·.1)), m ≤ reachBytes := by
    rw [hx] at hw
    simpa [DataW.weights, Tryz.underlying36] using hw
  obtain ⟨c0, c1, c2, c3, c4, c5, rfl⟩ := six_list hlen
  obtain ⟨y0, y1, y2, y3, y4, y5, rfl⟩ := six_list (show xs.length = 6 from hxl)
  have g0 : DataW.trod enc Tryz.prog w base (fun _ => true) held n 5 [c0] = some y0 := by simpa [k0] using hg 0 _ rfl
  have g1 : DataW.trod enc Tryz.prog w base (fun _ => true) held n 33 [c1] = some y1 := by simpa [k2] using hg 1 _ rfl
  have g2 : DataW.trod enc Tryz.prog w base (fun _ => true) held n 5 [c2] = some y2 := by simpa [k0] using hg 2 _ rfl
  have g3 : DataW.trod enc Tryz.prog w base (fun _ => true) held n 34 [c3] = some y3 := by simpa [k3] using hg 3 _ rfl
  have g4 : DataW.trod enc Tryz.prog w base (fun _ => true) held n 3 [c4] = some y4 := by simpa [k1] using hg 4 _ rfl
  have g5 : DataW.trod enc Tryz.prog w base (fun _ => true) held n 3 [c5] = some y5 := by simpa [k1] using hg 5 _ rfl
  obtain ⟨z, hz, _, hzw⟩ := DataW.trod_int Tryz.underlying5 g0
  obtain ⟨a, len, cap, l, rfl, hB⟩ := isB_of g1 (fun m hm => hW m (DataW.weights_mem_each (j := 1) rfl rfl m hm))
  obtain ⟨N, hN, _, hNw⟩ := DataW.trod_int Tryz.underlying5 g2
  obtain ⟨ka, kl, kc, ks, rfl, hO⟩ := isO_of g3
  obtain ⟨tn, ht, _, htw⟩ := DataW.trod_int Tryz.underlying3 g4
  obtain ⟨ct, hct, _, hcw⟩ := DataW.trod_int Tryz.underlying3 g5
  simp only [List.cons.injEq, and_true] at hz hN ht hct
  subst hz hN ht hct
  obtain ⟨q, hq⟩ := wf_u8 hzw
  have hq2 := q.toNat_lt
  exact ⟨z, N, a, len, cap, l, ka, kl, kc, tn, ct, rfl, by omega, by omega, hB⟩

theorem isActs_of {fuel : Nat} {c : Value} {x : DataW H × List MemPlace} (h : DataW.trod enc Tryz.prog w base (fun _ => true) held fuel 22 [c] = some x)
    (hw : ∀ m ∈ x.1.weights Tryz.prog 22, m ≤ reachBytes) : ∃ a len cap, c = .slice a len cap ∧ IsActs w a len cap := by
  have hC : Tryz.prog.cellsOf 36 = 6 := by kernel_rfl
  rcases Deep.open_slice Tryz.underlying22 h with ⟨hc, _⟩ | ⟨y, len, cap, m, n, D, Pl, hc, _, hl, hm, hmm, hxx, hx⟩
  · simp at hc
    exact ⟨none, 0, 0, hc, .inl rfl, Nat.zero_le _⟩
  · simp at hc
    have hlm : len ≤ m := by rw [hmm]; split <;> omega
    have hall : ∀ i, i < len → ∃ cs : List Value, ActOk w cs ∧ cs.length = 6 ∧ ∀ j, j < 6 → w.cell? (y.add (i * 6 + j)) = cs[j]? := by
      intro i hi
      obtain ⟨cs', hcs', ht⟩ := hx i (by omega)
      rw [hC] at hcs'
      obtain ⟨_, hl6, hat⟩ := World.cells?_some hcs'
      refine ⟨cs', act_of ht (fun q hq => hw q ?_), hl6, fun j hj => ?_⟩
      · rw [hxx]
        simp only [DataW.weights, Tryz.underlying22, List.mem_cons, List.mem_append]
        exact .inr (.inl (weights_allQ _ i (D i) (by rw [List.getElem?_map, List.getElem?_range hi]; rfl) q hq))
      · have := hat j (by omega)
        rw [Deep.add_add] at this
        exact this
    obtain ⟨f, hf⟩ := Deep.choose_lt hall
    refine ⟨some y, len, cap, hc, ?_, Nat.le_trans hl hm⟩
    rcases Nat.eq_zero_or_pos len with h0 | h0
    · exact .inl h0
    · right
      obtain ⟨b, off, spot⟩ := y
      obtain ⟨_, hl0, hc0⟩ := hf 0 (by omega)
      have hc00 := hc0 0 (by omega)
      rw [List.getElem?_eq_getElem (by omega)] at hc00
      have hspot : spot = none := by simpa [Addr.add] using World.cell?_spot hc00
      subst hspot
      have hb := World.block_lt_of_cell? w _ hc00
      refine ⟨b, off, rfl, by simpa [Addr.add] using hb, fun i hi => ?_⟩
      obtain ⟨ho, hl6, hcs⟩ := hf i hi
      refine ⟨f i, ho, fun j u hj => ?_⟩
      have hj6 : j < 6 := by
        obtain ⟨h1, _⟩ := List.getElem?_eq_some_iff.1 hj
        omega
      have := hcs j hj6
      rw [Addr.add_mid] at this
      rw [Nat.add_assoc, this, hj]
end

end Go.Proofs.YtgjckddcnmbceaaGreatDoor

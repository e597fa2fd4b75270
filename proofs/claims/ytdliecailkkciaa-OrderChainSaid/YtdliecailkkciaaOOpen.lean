/-
  Texts and rows of texts that come in. No program text but types.
-/
import Derived.Test.YtdliecailkkciaaOGraph
import Derived.Deep.Slices
import Derived.Deep.MidRow
import Derived.ProofKit
import Derived.OpenShut
import Derived.SizedLaws
namespace Go.Proofs.Ytdliecailkkciaa
open Go.RowKit Go.ChangeShapes Go.WideShapes
set_option linter.unusedVariables false

theorem weights_all {H : Type} {P : Program} {e : TypeId} : ∀ (l : List (DataW H)) (i : Nat) (d : DataW H), l[i]? = some d → ∀ n ∈ d.weights P e, n ∈ DataW.weightsAll P e l
  | [], i, d, h, n, hn => by simp at h
  | d0 :: l, 0, d, h, n, hn => by
    simp only [List.getElem?_cons_zero, Option.some.injEq] at h
    subst h
    rw [DataW.weightsAll]
    exact List.mem_append_left _ hn
  | d0 :: l, i + 1, d, h, n, hn => by
    rw [DataW.weightsAll]
    exact List.mem_append_right _ (weights_all l i d (by simpa using h) n hn)

section
variable {H : Type} {enc : TypeId × Value → H} {w : World} {base : Nat} {held : Bool}

theorem isS_of {fuel : Nat} {c : Value} {x : DataW H × List MemPlace} (h : DataW.trod enc Try.prog w base (fun _ => true) held fuel 22 [c] = some x)
    (hw : ∀ m ∈ x.1.weights Try.prog 22, m ≤ reachBytes) : ∃ a len cap l, c = .slice a len cap ∧ IsS w a len cap l ∧ (∀ i, i < l.length → (l.getD i ⟨#[]⟩).size ≤ 140737488355328) ∧ l.length * 16 ≤ 140737488355328 := by
  rcases Deep.open_slice1 Try.underlying22 (by kernel_rfl) h with ⟨hc, _⟩ | ⟨y, len, cap, m, n, V, D, Pl, hc, _, hl, hm, hmm, hxx, hx⟩
  · simp at hc
    exact ⟨none, 0, 0, [], hc, ⟨rfl, .inl rfl, fun _ => ⟨rfl, rfl⟩, ⟨Nat.le_refl _, Nat.zero_le _⟩⟩, fun i hi => by simp at hi, by simp⟩
  · simp at hc
    have hb16 : Try.prog.bytesOf 9 = 16 := by kernel_rfl
    have h16 : len * 16 ≤ 140737488355328 := by
      have := hw ((len + (m - len)) * Try.prog.bytesOf 9) (by rw [hxx]; simp [DataW.weights, Try.underlying22])
      rw [hb16] at this
      unfold reachBytes at this
      omega
    have hle : len ≤ m := by rw [hmm]; split <;> omega
    have hall : ∀ i, i < len → ∃ s : ByteArray, V i = .string s ∧ s.size ≤ 140737488355328 := fun i hi => by
      obtain ⟨s, hs, hd, _⟩ := DataW.trod_string Try.underlying9 (hx i (by omega)).2
      have hD : D i = .lit (.string s.data.toList) := congrArg (·.1) hd
      have := hw s.data.toList.length (by
        rw [hxx]
        simp only [DataW.weights, Try.underlying22, List.mem_cons, List.mem_append]
        refine .inr (.inl (weights_all _ i (D i) (by rw [List.getElem?_map, List.getElem?_range hi]; rfl) _ ?_))
        rw [hD]; simp [DataW.weights])
      unfold reachBytes at this
      refine ⟨s, by simpa using hs, ?_⟩
      have e : s.data.toList.length = s.size := by rw [Array.length_toList]; rfl
      omega
    obtain ⟨f, hf⟩ := Deep.choose_lt hall
    refine ⟨some y, len, cap, (List.range len).map f, hc, ⟨by simp, ?_, (fun h => by cases h), ⟨hl, hm⟩⟩, fun i hi => by
      have hi' : i < len := by simpa using hi
      have e1 : ((List.range len).map f).getD i ⟨#[]⟩ = f i := by simp [List.getD, hi']
      rw [e1]; exact (hf i hi').2, by simpa using h16⟩
    rcases Nat.eq_zero_or_pos len with h0 | h0
    · exact .inl h0
    · right
      obtain ⟨b, off, spot⟩ := y
      have hc0 := (hx 0 (by omega)).1
      have hspot : spot = none := by simpa [Addr.add] using World.cell?_spot hc0
      subst hspot
      have hb := World.block_lt_of_cell? w _ hc0
      refine ⟨b, off, rfl, by simpa [Addr.add] using hb, fun i hi => ?_⟩
      have hci := (hx i (by omega)).1
      rw [Addr.add_mid, (hf i hi).1] at hci
      rw [hci]
      have e1 : ((List.range len).map f).getD i ⟨#[]⟩ = f i := by simp [List.getD, hi]
      rw [e1]

theorem all_of {l : List ByteArray} (h : ∀ i, i < l.length → (l.getD i ⟨#[]⟩).size ≤ 140737488355328) : ∀ s ∈ l, s.size ≤ 140737488355328 := by
  intro s hs
  obtain ⟨i, hi, rfl⟩ := List.getElem_of_mem hs
  have := h i hi
  rw [List.getD_eq_getElem?_getD, List.getElem?_eq_getElem hi] at this
  exact this
theorem isSS_of {fuel : Nat} {c : Value} {x : DataW H × List MemPlace} (h : DataW.trod enc Try.prog w base (fun _ => true) held fuel 23 [c] = some x)
    (hw : ∀ m ∈ x.1.weights Try.prog 23, m ≤ reachBytes) : ∃ a len cap ls, c = .slice a len cap ∧ IsSS w a len cap ls ∧ ∀ l ∈ ls, (∀ s ∈ l, s.size ≤ 140737488355328) ∧ l.length ≤ 8796093022208 := by
  rcases Deep.open_slice1 Try.underlying23 (by kernel_rfl) h with ⟨hc, _⟩ | ⟨y, len, cap, m, n, V, D, Pl, hc, _, hl, hm, hmm, hxx, hx⟩
  · simp at hc
    exact ⟨none, 0, 0, [], hc, ⟨rfl, .inl rfl, fun _ => ⟨rfl, rfl⟩, ⟨Nat.le_refl _, Nat.zero_le _⟩⟩, fun l hl => by cases hl⟩
  · simp at hc
    have hle : len ≤ m := by rw [hmm]; split <;> omega
    have hall : ∀ i, i < len → ∃ l : List ByteArray, (∃ ao n c, V i = .slice ao n c ∧ IsS w ao n c l) ∧ (∀ s ∈ l, s.size ≤ 140737488355328) ∧ l.length ≤ 8796093022208 := fun i hi => by
      obtain ⟨ao, n, c, l, he, hS, hz, hl16⟩ := isS_of (x := (D i, Pl i)) (hx i (by omega)).2 (fun q hq => hw q (by
        rw [hxx]
        simp only [DataW.weights, Try.underlying23, List.mem_cons, List.mem_append]
        exact .inr (.inl (weights_all _ i (D i) (by rw [List.getElem?_map, List.getElem?_range hi]; rfl) q hq))))
      exact ⟨l, ⟨ao, n, c, he, hS⟩, all_of hz, by omega⟩
    obtain ⟨f, hf⟩ := Deep.choose_lt hall
    have hget : ∀ i, i < len → ((List.range len).map f).getD i [] = f i := fun i hi => by simp [List.getD, hi]
    refine ⟨some y, len, cap, (List.range len).map f, hc, ⟨by simp, ?_, (fun h => by cases h), ⟨hl, hm⟩⟩, fun l hl => by
      obtain ⟨i, hi, rfl⟩ := List.mem_map.1 hl
      exact (hf i (List.mem_range.1 hi)).2⟩
    rcases Nat.eq_zero_or_pos len with h0 | h0
    · exact .inl h0
    · right
      obtain ⟨b, off, spot⟩ := y
      have hc0 := (hx 0 (by omega)).1
      have hspot : spot = none := by simpa [Addr.add] using World.cell?_spot hc0
      subst hspot
      have hb := World.block_lt_of_cell? w _ hc0
      refine ⟨b, off, rfl, by simpa [Addr.add] using hb, fun i hi => ?_⟩
      obtain ⟨ao, n, c, he, hS⟩ := (hf i hi).1
      have hci := (hx i (by omega)).1
      rw [Addr.add_mid, he] at hci
      exact ⟨ao, n, c, hci, by rw [hget i hi]; exact hS⟩
end
end Go.Proofs.Ytdliecailkkciaa

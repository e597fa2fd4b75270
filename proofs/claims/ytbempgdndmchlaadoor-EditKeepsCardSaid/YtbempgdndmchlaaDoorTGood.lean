/-
  Trees that are right, and what follows of them: their names, how many parts they have. No program text.
-/
import Derived.Test.YtbempgdndmchlaaDoorTTake
import Derived.Test.YtbempgdndmchlaaDoorTFlat
namespace Go.Proofs.YtbempgdndmchlaaDoor
open Go.RowKit
set_option linter.unusedVariables false

theorem takeT_facts {k : UInt8} {x : Bool} {d : List UInt8} {ns : List ByteArray} {ks : List T} {D n b : Nat} {r : Nat × Nat} (h : takeT (.mk k x d ns ks) D n b = some r) :
    D ≤ 16 ∧ n + 1 ≤ 4096 ∧ formedT (.mk k x d ns ks) = true ∧ takeL ks (D + 1) (n + 1) (b + d.length) = some r := by
  rw [takeT_mk] at h
  split at h
  · rename_i hc; exact ⟨hc.1, hc.2.1, hc.2.2.2, h⟩
  · cases h

theorem formed_lens {k : UInt8} {x : Bool} {d : List UInt8} {ns : List ByteArray} {ks : List T} (h : formedT (.mk k x d ns ks) = true) : ns.length = ks.length ∧ ∀ i, i < ns.length → (ns.getD i ⟨#[]⟩).size ≤ 80 := by
  by_cases h3 : k = 3
  · subst h3
    rw [formedT_dir] at h
    simp only [Bool.and_eq_true, decide_eq_true_eq] at h
    refine ⟨h.1.2, fun i hi => ?_⟩
    have hr := h.2
    unfold risingT at hr
    rw [List.all_eq_true] at hr
    have := hr i (List.mem_range.2 hi)
    simp only [Bool.and_eq_true] at this
    have hn := this.1
    unfold tName at hn
    simp only [Bool.and_eq_true, decide_eq_true_eq] at hn
    have h80 := hn.1.1.1.1.2
    have : (ns.getD i ⟨#[]⟩).data.toList.length = (ns.getD i ⟨#[]⟩).size := by simp
    omega
  · rw [formedT_other h3] at h
    simp only [Bool.and_eq_true, List.isEmpty_iff] at h
    obtain ⟨⟨rfl, rfl⟩, _⟩ := h
    exact ⟨rfl, fun i hi => by simp at hi⟩

mutual
theorem take_size : ∀ (t : T) (D n b : Nat) (r : Nat × Nat), takeT t D n b = some r → n + sizeN t = r.1
  | .mk k x d ns ks, D, n, b, r, h => by
    have hf := takeT_facts h
    have := takeL_size ks _ _ _ r hf.2.2.2
    rw [sizeN_mk]; omega
theorem takeL_size : ∀ (l : List T) (D n b : Nat) (r : Nat × Nat), takeL l D n b = some r → n + sizeNL l = r.1
  | [], D, n, b, r, h => by rw [takeL] at h; cases h; simp [sizeNL]
  | k :: l, D, n, b, r, h => by
    rw [takeL] at h
    cases hk : takeT k D n b with
    | none => rw [hk] at h; cases h
    | some q =>
      rw [hk] at h
      have h1 := take_size k _ _ _ q hk
      have h2 := takeL_size l _ _ _ r h
      rw [sizeNL_cons]; omega
end

theorem size_most {t : T} {r : Nat × Nat} (h : sizeT t = some r) : sizeN t = r.1 ∧ sizeN t ≤ 4096 := by
  have h1 := take_size t 0 0 0 r h
  have h2 := takeT_le t 0 0 0 r h
  omega

/-- It is a tree, or stands in one. -/
def Good (t : T) : Prop := ∃ D c b r, takeT t D c b = some r

theorem Good.of {t : T} {q : Nat × Nat} (h : sizeT t = some q) : Good t := ⟨0, 0, 0, q, h⟩
theorem Good.lens {k : UInt8} {x : Bool} {d : List UInt8} {ns : List ByteArray} {ks : List T} (h : Good (.mk k x d ns ks)) : ns.length = ks.length := by
  obtain ⟨D, c, b, r, h⟩ := h
  exact (formed_lens (takeT_facts h).2.2.1).1
theorem Good.kid {k : UInt8} {x : Bool} {d : List UInt8} {ns : List ByteArray} {ks : List T} (h : Good (.mk k x d ns ks)) (i : Nat) (hi : i < ks.length) : Good (ks.getD i default) := by
  obtain ⟨D, c, b, r, h⟩ := h
  have hL := (takeT_facts h).2.2.2
  cases hp : takeL (ks.take i) (D + 1) (c + 1) (b + d.length) with
  | none => rw [takeL_none hp] at hL; cases hL
  | some q =>
    have hs := takeL_step hi hp
    cases hk : takeT (ks.getD i default) (D + 1) q.1 q.2 with
    | none =>
      rw [hk] at hs
      rw [takeL_none hs] at hL; cases hL
    | some r' => exact ⟨_, _, _, r', hk⟩

theorem rangeAt_has {w : World} {b : Nat} {L : List Value} {t : TypeId} (h : Has w b L t) : w.rangeAt b 0 L := fun j v hv => by
  rw [Nat.zero_add]; exact h.cellAt hv

end Go.Proofs.YtbempgdndmchlaaDoor

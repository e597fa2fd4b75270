/-
  How long archives are. No program text.
-/
import Derived.Test.YthjihibocobndaaNMath
namespace Go.Proofs.Ythjihibocobndaa
open Go.RowKit
set_option linter.unusedVariables false

theorem strN_most (s : List UInt8) : (strN s).length ≤ s.length + 15 := by
  rw [strN_length]; unfold padN; omega

theorem ents_len (N : Nat) (ih : ∀ t, sizeN t ≤ N → Good t → (nodeT t).length + 300 ≤ 66000 * sizeN t) :
    ∀ (ks : List T) (ns : List ByteArray), sizeNL ks ≤ N → (∀ i, i < ks.length → Good (ks.getD i default)) → (∀ i, i < ns.length → (ns.getD i ⟨#[]⟩).size ≤ 80) → (entsT ks ns).length ≤ 66000 * sizeNL ks
  | [], ns, _, _, _ => by simp [entsT]
  | k :: r, [], _, _, _ => by simp [entsT]
  | k :: r, nm :: s, hN, hg, h8 => by
    rw [sizeNL_cons] at hN ⊢
    have b1 : nm.size ≤ 80 := by have := h8 0 (by simp); simpa using this
    have e1 : nm.data.toList.length = nm.size := by rw [Array.length_toList]; rfl
    have h0 := strN_most sEntry
    have h1 := strN_most sOpen
    have h2 := strN_most sName
    have h3 := strN_most nm.data.toList
    have h4 := strN_most sNode
    have h5 := ih k (by omega) (by have := hg 0 (by simp); simpa using this)
    have h6 := strN_most sClose
    have h7 := ents_len N ih r s (by omega) (fun i hi => by have := hg (i + 1) (by simpa using hi); simpa using this) (fun i hi => by have := h8 (i + 1) (by simpa using hi); simpa using this)
    have l0 : sEntry.length = 5 := rfl
    have l1 : sOpen.length = 1 := rfl
    have l2 : sName.length = 4 := rfl
    have l4 : sNode.length = 4 := rfl
    have l6 : sClose.length = 1 := rfl
    rw [entsT]
    simp only [List.length_append]
    omega

theorem node_len (N : Nat) : ∀ t, sizeN t ≤ N → Good t → (nodeT t).length + 300 ≤ 66000 * sizeN t := by
  induction N with
  | zero => intro t h; have := sizeN_pos t; omega
  | succ N ih =>
    intro t hN hg
    obtain ⟨k, x, d, ns, ks⟩ := t
    rw [sizeN_mk] at hN ⊢
    have hd := hg.data
    have h0 := strN_most sOpen
    have h1 := strN_most sType
    have h2 := strN_most sClose
    have h3 := strN_most sRegular
    have h4 := strN_most sExec
    have h5 := strN_most []
    have h6 := strN_most sContents
    have h7 := strN_most d
    have h8 := strN_most sSymlink
    have h9 := strN_most sTarget
    have ha := strN_most sDirectory
    have hb := ents_len N ih ks ns (by omega) (fun i hi => hg.kid i hi) hg.short
    have l0 : sOpen.length = 1 := rfl
    have l1 : sType.length = 4 := rfl
    have l2 : sClose.length = 1 := rfl
    have l3 : sRegular.length = 7 := rfl
    have l4 : sExec.length = 10 := rfl
    have l6 : sContents.length = 8 := rfl
    have l8 : sSymlink.length = 7 := rfl
    have l9 : sTarget.length = 6 := rfl
    have la : sDirectory.length = 9 := rfl
    rw [List.length_nil] at h5
    rcases formed_cases hg.formed with ⟨rfl, rfl, rfl⟩ | ⟨rfl, rfl, rfl, rfl⟩ | ⟨rfl, rfl, rfl, hl⟩
    · rw [nodeT_1]
      cases x
      · simp only [List.length_append, Bool.false_eq_true, if_false, List.length_nil]; omega
      · simp only [List.length_append, if_true]; omega
    · rw [nodeT_2]; simp only [List.length_append]; omega
    · rw [nodeT_3]; simp only [List.length_append]; omega

theorem arch_len {t : T} {q : Nat × Nat} (h : sizeT t = some q) : (archT t).length ≤ 1000000000 := by
  have h1 := node_len (sizeN t) t (Nat.le_refl _) (.of h)
  have h2 := (size_most h).2
  have h3 := strN_most sMagic
  have l3 : sMagic.length = 13 := rfl
  unfold archT
  rw [List.length_append]; omega

end Go.Proofs.Ythjihibocobndaa

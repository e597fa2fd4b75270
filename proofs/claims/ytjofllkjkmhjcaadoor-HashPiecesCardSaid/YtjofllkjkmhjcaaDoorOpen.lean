/-
  A slice of bytes that came in, opened to the list of its bytes.
-/
import Derived.Test.YtjofllkjkmhjcaaDoorIsN
import Derived.ProofKit
import Derived.OpenShut
namespace Go.Proofs.YtjofllkjkmhjcaaDoor
open Go.RowKit
set_option linter.unusedVariables false

/-- A slice of integers that came in: it is nil; or it leads to a row of 'cap' cells. -/
def IsRow (k : IntKind) (w : World) (a : Option Addr) (len cap : Nat) (zs : List Int) : Prop :=
  (a = none ∧ len = 0 ∧ cap = 0 ∧ zs = []) ∨
  ∃ x, a = some x ∧ len ≤ cap ∧ cap ≤ maxLen ∧ zs.length = cap ∧ (∀ i, i < zs.length → w.cell? (x.add i) = some (.int k (zs.getD i 0))) ∧ ∀ n ∈ zs, (Lit.int k n).wf = true

theorem u8_range {z : Int} (h : (Lit.int .u8 z).wf = true) : 0 ≤ z ∧ z ≤ 255 := by
  simp only [Lit.wf, Bool.and_eq_true, decide_eq_true_eq] at h
  have hmin : IntKind.u8.min = 0 := rfl
  have hmax : IntKind.u8.max = 255 := rfl
  omega

theorem bytes_of_n {w : World} {a : Option Addr} {len cap : Nat} {zs : List Int} (h : IsRow .u8 w a len cap zs) : ∃ l, IsN w a len cap l := by
  rcases h with ⟨rfl, rfl, rfl, rfl⟩ | ⟨x, rfl, hl, hm, hz, hcell, hwz⟩
  · exact ⟨[], rfl, .inl rfl, fun _ => ⟨rfl, rfl⟩, ⟨by omega, by unfold maxLen; omega⟩, fun x hx => by cases hx⟩
  · refine ⟨(zs.take len).map Int.toNat, by simp; omega, ?_, (fun h => by cases h), ⟨hl, hm⟩, ?_⟩
    · rcases Nat.eq_zero_or_pos len with h0 | h0
      · exact .inl h0
      · right
        obtain ⟨b, off, spot⟩ := x
        have hc := hcell 0 (by omega)
        have hspot : spot = none := by simpa [Addr.add] using World.cell?_spot hc
        subst hspot
        have hb := World.block_lt_of_cell? w _ hc
        refine ⟨b, off, rfl, by simpa [Addr.add] using hb, ?_⟩
        intro i hi
        have hi' : i < len := by simp at hi; omega
        have hc := hcell i (by omega)
        have hadd : (⟨b, off, none⟩ : Addr).add i = ⟨b, off + i, none⟩ := by cases i <;> simp [Addr.add]
        rw [hadd] at hc
        have hz2 : zs.getD i 0 = zs[i]'(by omega) := by simp [List.getD, List.getElem?_eq_getElem (show i < zs.length by omega)]
        have hr := u8_range (hwz (zs[i]'(by omega)) (List.getElem_mem _))
        rw [hc, hz2]
        have e1 : ((zs.take len).map Int.toNat).getD i 0 = (zs[i]'(by omega)).toNat := by
          simp [List.getD, hi', List.getElem?_eq_getElem (show i < zs.length by omega)]
        rw [e1]
        congr 2
        omega
    · intro x hx
      obtain ⟨z, hz, rfl⟩ := List.mem_map.1 hx
      have := u8_range (hwz z (List.mem_of_mem_take hz))
      omega

end Go.Proofs.YtjofllkjkmhjcaaDoor

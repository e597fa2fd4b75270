/-
  What a slice of bytes that came in is told as: a list of bytes in its cells. No conditions.
-/
import Derived.Test.YtcmgafehidgkmaaRows
import Derived.Test.YtcmgafehidgkmaaLen
import Derived.Test.YtcmgafehidgkmaaBits
import Derived.ProofKit
import Derived.OpenShut
namespace Go.Proofs.Ytcmgafehidgkmaa.Nam
open Go.RowKit

theorem add_at (g j : Nat) : (⟨g, 0, none⟩ : Addr).add j = ⟨g, j, none⟩ := by
  cases j <;> simp [Addr.add]
theorem info_u8 : (Try.prog.info? 5).map (fun i => (i.zero, i.size, i.bytes)) = some (some (.int .u8 0), 1, 1) := by kernel_rfl

/-- A slice of integers that came in: it is nil; or it leads to a row of 'cap' cells. -/
def IsRow (k : IntKind) (w : World) (a : Option Addr) (len cap : Nat) (zs : List Int) : Prop :=
  (a = none ∧ len = 0 ∧ cap = 0 ∧ zs = []) ∨
  ∃ x, a = some x ∧ len ≤ cap ∧ cap ≤ maxLen ∧ zs.length = cap ∧ (∀ i, i < zs.length → w.cell? (x.add i) = some (.int k (zs.getD i 0))) ∧ ∀ n ∈ zs, (Lit.int k n).wf = true

/-- A slice of bytes that came in, as the list of its bytes: where there is one, they lie in old cells. -/
structure IsB (w : World) (a : Option Addr) (len cap : Nat) (l : List UInt8) : Prop where
  length : l.length = len
  at_ : len = 0 ∨ ∃ b off, a = some ⟨b, off, none⟩ ∧ b < w.heap.size ∧ By w b off l
  most : len ≤ maxLen
  nil : a = none → len = 0 ∧ cap = 0
  room : len ≤ cap ∧ cap ≤ maxLen

theorem bytes_of {w : World} {a : Option Addr} {len cap : Nat} {zs : List Int} (h : IsRow .u8 w a len cap zs) : ∃ l, IsB w a len cap l := by
  rcases h with ⟨rfl, rfl, rfl, rfl⟩ | ⟨x, rfl, hl, hm, hz, hcell, hwz⟩
  · exact ⟨[], rfl, .inl rfl, by unfold maxLen; omega, fun _ => ⟨rfl, rfl⟩, by omega, by unfold maxLen; omega⟩
  · refine ⟨(zs.take len).map fun z => UInt8.ofNat z.toNat, by simp; omega, ?_, by omega, (fun h => by cases h), hl, hm⟩
    rcases Nat.eq_zero_or_pos len with h0 | h0
    · exact .inl h0
    · right
      obtain ⟨b, off, spot⟩ := x
      have hc := hcell 0 (by omega)
      have hspot : spot = none := by simpa [Addr.add] using World.cell?_spot hc
      subst hspot
      have hb := World.block_lt_of_cell? w _ hc
      refine ⟨b, off, rfl, by simpa [Addr.add] using hb, ?_⟩
      intro i hi
      have hi' : i < len := by simp at hi; omega
      have hc := hcell i (by omega)
      have hr := range_u8 hwz i
      have hadd : (⟨b, off, none⟩ : Addr).add i = ⟨b, off + i, none⟩ := by cases i <;> simp [Addr.add]
      rw [hadd] at hc
      rw [hc]
      have e1 : ((zs.take len).map fun z => UInt8.ofNat z.toNat).getD i 0 = UInt8.ofNat (zs[i]?.getD 0).toNat := by
        simp [List.getD, hi', List.getElem?_eq_getElem (show i < zs.length by omega)]
      rw [e1, List.getD_eq_getElem?_getD]
      generalize zs[i]?.getD 0 = z at hr
      have e2 : (UInt8.ofNat z.toNat).toNat = z.toNat := by
        rw [UInt8.toNat_ofNat']; omega
      rw [e2]
      congr 2
      omega

end Go.Proofs.Ytcmgafehidgkmaa.Nam

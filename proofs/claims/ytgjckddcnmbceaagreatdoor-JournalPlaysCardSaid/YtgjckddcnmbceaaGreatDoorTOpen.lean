/-
  A slice of bytes that came in, opened to the list of its bytes.
-/
import Derived.Test.YtgjckddcnmbceaaGreatDoorSDat
import Derived.Deep.Slices
import Derived.Deep.MidRow
import Derived.ProofKit
import Derived.OpenShut
import Derived.SizedLaws
namespace Go.Proofs.YtgjckddcnmbceaaGreatDoor
open Go.RowKit Go.ChangeShapes Go.WideShapes
set_option linter.unusedVariables false

theorem byte_range {z : Int} (h : (Lit.int .u8 z).wf = true) : 0 ≤ z ∧ z ≤ 255 := by
  simp only [Lit.wf, Bool.and_eq_true, decide_eq_true_eq] at h
  have hmin : IntKind.u8.min = 0 := rfl
  have hmax : IntKind.u8.max = 255 := rfl
  omega

theorem byte_back {z : Int} (h : (Lit.int .u8 z).wf = true) : (((UInt8.ofNat z.toNat).toNat : Nat) : Int) = z := by
  have := byte_range h
  rw [UInt8.toNat_ofNat']
  omega

section
variable {H : Type} {enc : TypeId × Value → H} {w : World} {base : Nat} {held : Bool}

theorem isB_of {fuel : Nat} {c : Value} {x : DataW H × List MemPlace} (h : DataW.trod enc Tryz.prog w base (fun _ => true) held fuel 33 [c] = some x)
    (hw : ∀ m ∈ x.1.weights Tryz.prog 33, m ≤ reachBytes) : ∃ a len cap l, c = .slice a len cap ∧ IsB w a len cap l := by
  rcases open_ints Tryz.underlying33 Tryz.underlying5 (by kernel_rfl) h with ⟨hc, _⟩ | ⟨y, len, cap, zs, hc, _, hl, hm, hz, hx, hcell, hwz⟩
  · simp at hc
    exact ⟨none, 0, 0, [], hc, rfl, .inl rfl, fun _ => ⟨rfl, rfl⟩, ⟨Nat.le_refl _, Nat.zero_le _⟩, Nat.zero_le _⟩
  · simp at hc
    have hz' : zs.length = cap := by simpa using hz
    have hb1 : Tryz.prog.bytesOf 5 = 1 := by kernel_rfl
    have hcap : cap ≤ reachBytes := by
      have := hw (((lits .u8 (zs.take len) : List (DataW H)).length + (lits .u8 (zs.drop len) : List (DataW H)).length) * Tryz.prog.bytesOf 5) (by rw [hx]; simp [DataW.weights, Tryz.underlying33])
      rw [hb1] at this
      simp [lits] at this
      omega
    refine ⟨some y, len, cap, (zs.take len).map (fun z => UInt8.ofNat z.toNat), hc, by simp; omega, ?_, (fun h => by cases h), ⟨hl, hm⟩, by unfold reachBytes at hcap; omega⟩
    rcases Nat.eq_zero_or_pos len with h0 | h0
    · exact .inl h0
    · right
      obtain ⟨b, off, spot⟩ := y
      have hc0 := hcell 0 (by omega)
      have hspot : spot = none := by simpa [Addr.add] using World.cell?_spot hc0
      subst hspot
      have hb := World.block_lt_of_cell? w _ hc0
      refine ⟨b, off, rfl, by simpa [Addr.add] using hb, fun i hi => ?_⟩
      have hci := hcell i (by omega)
      rw [Addr.add_mid] at hci
      have hz2 : zs.getD i 0 = zs[i]'(by omega) := by simp [List.getD, List.getElem?_eq_getElem (show i < zs.length by omega)]
      have hr := byte_back (hwz (zs[i]'(by omega)) (List.getElem_mem _))
      rw [hci, hz2]
      have e1 : ((zs.take len).map (fun z => UInt8.ofNat z.toNat)).getD i 0 = UInt8.ofNat (zs[i]'(by omega)).toNat := by
        simp [List.getD, hi, List.getElem?_eq_getElem (show i < zs.length by omega)]
      rw [e1, hr]

end

end Go.Proofs.YtgjckddcnmbceaaGreatDoor

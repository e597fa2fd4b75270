/-
  Two writes over two sectors, one of them torn. No program text.
-/
import Derived.Test.YtjidiholhhdanaaSMath
namespace Go.Proofs.Ytjidiholhhdanaa
open Go.RowKit
set_option linter.unusedVariables false

theorem good_two (a b : List UInt8) (ha : a.length = 256) (hb : b.length = 256) : Good 2 [(0, a), (1, b)] := by
  intro k hk
  match k, hk with
  | 0, _ => exact ⟨(show (0 : Nat) < 2 by decide), ha⟩
  | 1, _ => exact ⟨(show (1 : Nat) < 2 by decide), hb⟩
theorem two_lat {Z p : List UInt8} (hZ : Z.length = 256 * 2) (hp : p.length = 256) (i : Nat) (hi : i < 2) : sec (splice (splice Z (256 * 0) p) (256 * 1) p) i = p := by
  have h1 : (splice Z (256 * 0) p).length = 256 * 2 := by rw [length_splice _ _ _ (fits hZ (show 0 < 2 by omega) (Nat.le_of_eq hp)), hZ]
  match i, hi with
  | 0, _ => rw [sec_splice_other h1 (by omega) (by omega) (Nat.le_of_eq hp) (by omega), sec_splice_same hZ (by omega) hp]
  | 1, _ => rw [sec_splice_same h1 (by omega) hp]
theorem two_len {Z p : List UInt8} (hZ : Z.length = 256 * 2) (hp : p.length = 256) : (splice (splice Z (256 * 0) p) (256 * 1) p).length = 256 * 2 := by
  have h1 : (splice Z (256 * 0) p).length = 256 * 2 := by rw [length_splice _ _ _ (fits hZ (show 0 < 2 by omega) (Nat.le_of_eq hp)), hZ]
  rw [length_splice _ _ _ (fits h1 (show 1 < 2 by omega) (Nat.le_of_eq hp)), h1]
theorem two_get (p d : List UInt8) (i : Nat) (hi : i < 2) : getW [(0, p), (1, p)] i d = p := by
  match i, hi with
  | 0, _ => rfl
  | 1, _ => rfl
/-- What is read behind the Restart, of the torn sector and of the other one. -/
theorem torn_get {Z a b : List UInt8} (hZ : Z.length = 256 * 2) (ha : a.length = 256) (hb : b.length = 256) (t : Nat) (ht : t < 2) (c : Nat) (hc : c ≤ 256) :
    sec (latK [(0, b), (1, b)] (resK [true, true] (t : Int) c [(0, b), (1, b)] (syncK [(0, a), (1, a)] Z 2) 2) (splice (splice (splice (splice Z (256 * 0) a) (256 * 1) a) (256 * 0) b) (256 * 1) b) 2) t = b.take c ++ a.drop c ∧
    sec (latK [(0, b), (1, b)] (resK [true, true] (t : Int) c [(0, b), (1, b)] (syncK [(0, a), (1, a)] Z 2) 2) (splice (splice (splice (splice Z (256 * 0) a) (256 * 1) a) (256 * 0) b) (256 * 1) b) 2) (1 - t) = b := by
  have ga := good_two a a ha ha
  have gb := good_two b b hb hb
  obtain ⟨D, hD⟩ : ∃ D, D = syncK [(0, a), (1, a)] Z 2 := ⟨_, rfl⟩
  have hDl : D.length = 256 * 2 := by rw [hD]; exact syncK_length hZ ga 2 (Nat.le_refl _)
  have hDs : ∀ i, i < 2 → sec D i = a := by
    intro i hi
    rw [hD, sync_get hZ ga hi 2 (Nat.le_refl _)]
    exact two_get a _ i hi
  have hL1 := two_len hZ ha
  have hL2 := two_len hL1 hb
  rw [← hD]
  have hlat : ∀ i, i < 2 → sec (splice (splice (splice (splice Z (256 * 0) a) (256 * 1) a) (256 * 0) b) (256 * 1) b) i = getW [(0, b), (1, b)] i (sec D i) := by
    intro i hi
    rw [two_lat hL1 hb i hi, two_get b _ i hi]
  have hr := lat_res (keep := [true, true]) (torn := (t : Int)) (cut := c) hDl hL2 gb hlat
  have hr1 := hr t ht
  have hr2 := hr (1 - t) (by omega)
  rw [show ([(0, b), (1, b)] : List Wr).length = 2 from rfl] at hr1 hr2
  rw [hr1, hr2]
  have l0 : ∀ (c : Nat), (landL D (0, b) c).length = 256 * 2 := fun c => landL_length hDl (show (0 : Nat) < 2 by decide) hb
  match t, ht with
  | 0, _ =>
    have e : resK [true, true] ((0 : Nat) : Int) c [(0, b), (1, b)] D 2 = landL (landL D (0, b) c) (1, b) 256 := rfl
    rw [e]
    unfold landL
    have l1 := l0 c
    unfold landL at l1
    refine ⟨?_, ?_⟩
    · rw [sec_splice_other l1 (show (1 : Nat) < 2 by decide) (show (0 : Nat) < 2 by decide) (by rw [List.length_take]; omega) (show (0 : Nat) ≠ 1 by decide)]
      have := sec_splice_part hDl (show 0 < 2 by omega) hb hc
      rw [this, hDs 0 (by omega)]
    · show sec (splice _ (256 * 1) (b.take 256)) 1 = b
      rw [List.take_of_length_le (Nat.le_of_eq hb), sec_splice_same l1 (show (1 : Nat) < 2 by decide) hb]
  | 1, _ =>
    have e : resK [true, true] ((1 : Nat) : Int) c [(0, b), (1, b)] D 2 = landL (landL D (0, b) 256) (1, b) c := rfl
    rw [e]
    unfold landL
    have l1 := l0 256
    unfold landL at l1
    have hw : ∀ i, i < 2 → i ≠ 0 → sec (splice D (256 * 0) (b.take 256)) i = a := fun i hi hne => by
      rw [sec_splice_other hDl (show (0 : Nat) < 2 by decide) hi (by rw [List.length_take]; omega) hne, hDs i hi]
    refine ⟨?_, ?_⟩
    · have := sec_splice_part l1 (show 1 < 2 by omega) hb hc
      rw [this, hw 1 (by omega) (by omega)]
    · show sec (splice _ (256 * 1) (b.take c)) 0 = b
      rw [sec_splice_other l1 (show (1 : Nat) < 2 by decide) (show (0 : Nat) < 2 by decide) (by rw [List.length_take]; omega) (show (0 : Nat) ≠ 1 by decide), List.take_of_length_le (Nat.le_of_eq hb), sec_splice_same hDl (show (0 : Nat) < 2 by decide) hb]

end Go.Proofs.Ytjidiholhhdanaa

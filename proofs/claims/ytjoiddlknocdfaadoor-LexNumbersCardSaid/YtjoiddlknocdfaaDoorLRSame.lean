/-
  The contract of the reference's Same at two lists of the same tokens. Conditions: none but a bound on their number.
-/
import Derived.Test.YtjoiddlknocdfaaDoorLJoinWalk
namespace Go.Proofs.YtjoiddlknocdfaaDoor
open Go.RowKit
set_option linter.unusedVariables false

set_option maxRecDepth 100000 in
set_option maxHeartbeats 4000000 in
theorem rsame_any (g1 g2 n c1 c2 : Nat) (ts : List Tk) (hn : n = ts.length) (hn9 : n ≤ 9000) (w : World) (h1 : TksAt w g1 ts) (h2 : TksAt w g2 ts) :
    Calls Tryd.prog 12 #[.slice (some ⟨g1, 0, none⟩) n c1, .slice (some ⟨g2, 0, none⟩) n c2] w fun e w' => e = .returned (.bool true) ∧ Below w.heap.size w w' := by
  have HN := Lib.hid hn
  have H1 := Lib.hid h1
  have H2 := Lib.hid h2
  clear hn h1 h2
  go_enter Tryd.func12, Tryd.ntmps12
  go_wp2_with fail
  go_loopg [5] n (fun gk v5 wr => ∃ (i : Nat), gk = n - i ∧ i ≤ n ∧ v5 = .int .i64 i ∧ Below w.heap.size w wr)
  case atStart => exact ⟨0, rfl, Nat.zero_le _, rfl, Below.refl _ _⟩
  case round =>
    obtain ⟨i, rfl, hin, rfl, hb⟩ := hrel
    have HBR := Lib.hid hb
    clear hb
    by_cases hlt : i < n
    · obtain ⟨t, ht⟩ : ∃ t, ts[i]? = some t := ⟨_, List.getElem?_eq_getElem (by rw [← HN.out]; exact hlt)⟩
      obtain ⟨a0, a1, a2⟩ := H1.out.2 i t ht
      obtain ⟨b0, b1, b2⟩ := H2.out.2 i t ht
      have d0 := (HBR.out.cell (p := ⟨g1, i * 3, none⟩) H1.out.1).trans a0
      have d1 := (HBR.out.cell (p := ⟨g1, i * 3 + 1, none⟩) H1.out.1).trans a1
      have d2 := (HBR.out.cell (p := ⟨g1, i * 3 + 2, none⟩) H1.out.1).trans a2
      have e0 := (HBR.out.cell (p := ⟨g2, i * 3, none⟩) H2.out.1).trans b0
      have e1 := (HBR.out.cell (p := ⟨g2, i * 3 + 1, none⟩) H2.out.1).trans b1
      have e2 := (HBR.out.cell (p := ⟨g2, i * 3 + 2, none⟩) H2.out.1).trans b2
      have hii : (i : Int) < (n : Int) := by omega
      obtain ⟨kd, hkd⟩ : ∃ kd, kd = t.kind := ⟨_, rfl⟩
      obtain ⟨at_, hat⟩ : ∃ at_, at_ = t.at_ := ⟨_, rfl⟩
      obtain ⟨tx, htx⟩ : ∃ tx : ByteArray, tx = ⟨t.text.toArray⟩ := ⟨_, rfl⟩
      rw [← hkd] at d0 e0
      rw [← htx] at d1 e1
      rw [← hat] at d2 e2
      clear a0 a1 a2 b0 b1 b2 ht hkd hat htx
      go_wp2_with fail
      go_quiet (fail)
      go_wp2_with fail
      go_roundg (n - (i + 1))
      case rel => exact ⟨i + 1, rfl, by omega, by go_num, below_drewN HBR.out _⟩
      case measure => omega
    · obtain rfl : i = n := by omega
      have hii : ¬ (i : Int) < (i : Int) := by omega
      go_wp2_with fail
      go_ret
      exact ⟨rfl, HBR.out⟩

end Go.Proofs.YtjoiddlknocdfaaDoor

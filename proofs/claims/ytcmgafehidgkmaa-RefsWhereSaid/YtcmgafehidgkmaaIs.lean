/-
  Is it a path: the program's Is. No conditions.
-/
import Derived.Test.YtcmgafehidgkmaaParse
import Derived.Deep.RegionHeld3
namespace Go.Proofs.Ytcmgafehidgkmaa.Nam
open Go.RowKit
set_option linter.unusedVariables false

/-- What Parse tells, in one form. -/
theorem parse_form {o : Option (List UInt8 × List UInt8)} {w w' : World} {e : Ending} (h : ParsePost o w e w') :
    ∃ (D : List UInt8) (n : ByteArray) (k : Int), e = .returned (.tuple #[.agg (D.map bv).toArray, .string n, .int .i64 k]) ∧ D.length = 20 ∧
      ((∃ m, o = some (D, m) ∧ n = ⟨m.toArray⟩ ∧ k = 0) ∨ (o = none ∧ D = zU ∧ n = ⟨#[]⟩ ∧ k = 4)) := by
  obtain ⟨hs, hn, _⟩ := h
  cases o with
  | none => exact ⟨zU, _, _, hn rfl, rfl, .inr ⟨rfl, rfl, rfl, rfl⟩⟩
  | some q =>
    obtain ⟨d, m⟩ := q
    obtain ⟨hd, he⟩ := hs d m rfl
    exact ⟨d, _, _, he, hd, .inl ⟨m, rfl, rfl, rfl⟩⟩

/-- The cells of twenty bytes, ready for a store. -/
structure C20 (C : Array Value) : Prop where
  info : (Try.prog.info? 38).map (·.size) = some C.size
  size : C.size = 20
  one : C.all (·.oneCell') = true

theorem c20 (D : List UInt8) (h : D.length = 20) : C20 (D.map bv).toArray := ⟨info_u20 D h, by simp [h], one_bv D⟩

set_option maxRecDepth 100000 in
set_option maxHeartbeats 4000000 in
theorem is_any (s : ByteArray) (w : World) :
    Calls Try.prog 31 #[.string s] w fun e w' => e = .returned (.bool (parseP s.data.toList).isSome) ∧ Below w.heap.size w w' := by
  obtain ⟨O, hO⟩ : ∃ O, O = parseP s.data.toList := ⟨_, rfl⟩
  have HO := Lib.hid hO
  rw [← hO]
  clear hO
  go_enter Try.func31, Try.ntmps31
  go_wp2_with fail
  refine (parse_any s _).mono ?_
  rintro e w1 hq
  have b1 := hq.2.2
  obtain ⟨D, n, k, rfl, hD, hk⟩ := parse_form hq
  rw [← HO.out] at hk
  have hc := c20 D hD
  obtain ⟨C, hC⟩ : ∃ C, C = (D.map bv).toArray := ⟨_, rfl⟩
  rw [← hC] at hc ⊢
  have hkb : (k == 0) = O.isSome := by
    rcases hk with ⟨m, rfl, _, rfl⟩ | ⟨rfl, _, _, rfl⟩ <;> rfl
  obtain ⟨r, hr⟩ : ∃ r, r = O.isSome := ⟨_, rfl⟩
  have HR := Lib.hid hr
  rw [← hr] at hkb
  have I1 := Lib.hid hc.info
  have I2 := Lib.hid hc.size
  have I3 := Lib.hid hc.one
  have B1 := Lib.hid b1
  clear hq hk hC hc b1 hr hD
  go_wp2_with (refine wpList_store_row rfl 38 _ _ rfl w1.heap.size C rfl rfl 38 _ (heap_alloc_new w1 _) I1.out I2.out.symm I3.out ?_)
  go_ret
  exact ⟨by rw [← HR.out]; rfl, below_setRow (B1.out.alloc B1.out.size _) B1.out.size _⟩

end Go.Proofs.Ytcmgafehidgkmaa.Nam

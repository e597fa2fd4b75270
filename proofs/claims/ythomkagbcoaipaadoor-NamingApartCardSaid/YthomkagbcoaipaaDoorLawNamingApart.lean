/-
  The statement Rows.NamingApartCardSaid: for every input the law NamingApart returns true, and each argument reads as it read; the first state and the primes are those of the program's text. Conditions: none of its own.
-/
import Derived.Test.YthomkagbcoaipaaDoorCards
import Derived.Test.YthomkagbcoaipaaDoorLaid
import Derived.Test.YthomkagbcoaipaaDoorArg
import Derived.Test.YthomkagbcoaipaaDoorNamApart
import Derived.SevenTiedAt
import Derived.ChangeOld
import Derived.SizedLaws
import Derived.Carry
import Derived.ShutString
namespace Go.Proofs.YthomkagbcoaipaaDoor.namingApart
open Go.ChangeShapes Go.WideShapes Go.ChangeAt Go.RowKit
open Go.ChangeMaps (open_string shut_string)
set_option linter.unusedVariables false

theorem own : ownKnob Tryd.prog.godebug = none := by kernel_rfl
theorem laidOut : laidOutB Tryd.prog = true := by kernel_rfl
theorem bytes_u8 : Tryd.prog.bytesOf 5 = 1 := by kernel_rfl

set_option maxRecDepth 100000 in
theorem lifted (os : Os) (started : os.Started) (H : Type) (enc : TypeId × Value → H) :
    ReturnsInHanded {} Tryd.checked os 4 .any (fun w args => (Rows.namingApartSpec.pre enc Tryd.prog Tryd.f4 Rows.namingApartRow.domain false w args ∧ laidMetH Tryd.prog Rows.namingApartRow.laid w) ∧ sizedMet enc Tryd.prog Tryd.f4 (OpenSpec.ofChange Rows.namingApartSpec) false w args)
      (Rows.namingApartSpec.post enc Tryd.prog Tryd.f4 false true false false) := by
  refine returnsInHanded_of_change_and (C := Tryd.checked) (X := fun w _ => laidMetH Tryd.prog Rows.namingApartRow.laid w) (fun _ _ _ hh h => h.of_heap hh) own started (by kernel_rfl) Tryd.func4
    (ChangeSpec.witness_shaped (enc := enc) (C := Tryd.checked) (os := os) (X := fun w _ => laidMetH Tryd.prog Rows.namingApartRow.laid w) false (World.laidAll Tryd.prog os Rows.namingApartRow.laid) #[.string ByteArray.empty, .string ByteArray.empty, .agg (Array.replicate 32 (.int .u8 0)), .agg (Array.replicate 32 (.int .u8 0)), .string ByteArray.empty, .string ByteArray.empty] 8 (World.laidAll_os _ _ _)
      (World.shaped_of_ZipB (by kernel_rfl) (by kernel_rfl)) (by kernel_rfl) (by kernel_rfl) (by kernel_rfl)
      (by rw [MakeChecks.laidMetH_plain _ _ _ (by kernel_rfl)]; exact laidMet_laidAll _ (by kernel_rfl) (by kernel_rfl))) ?_
  intro W base args ds gs before hval0 hW _ hsz0 hL _
  have hl : LaidW W := laid_met hL
  clear hL
  have hsz : (DataW.weightsEach Tryd.prog (Tryd.f4.params.toList ++ Rows.namingApartSpec.plain.varTypes Tryd.prog) (ds ++ gs)).all (· ≤ reachBytes) = true := hsz0
  have hval : ∀ (j : Nat) t v, Tryd.f4.params[j]? = some t → args[j]? = some v → Value.okWide Tryd.prog W .any base t v := hval0
  have hW' := hW
  obtain ⟨p, q, hA0, hV, rfl, hfz, hnd⟩ := hW
  have hA : DataW.TrodAll enc Tryd.prog W 0 (fun _ => true) true Tryd.f4.params.toList args.toList ds p := hA0
  rw [Tryd.params4] at hA hval hsz
  obtain ⟨v0, vs0, d0, ds0, p0, q0, hargs, rfl, rfl, h0, r0⟩ := trodAll_cons hA
  obtain ⟨v1, vs1, d1, ds1, p1, q1, rfl, rfl, rfl, h1, r1⟩ := trodAll_cons r0
  obtain ⟨v2, vs2, d2, ds2, p2, q2, rfl, rfl, rfl, h2, r2⟩ := trodAll_cons r1
  obtain ⟨v3, vs3, d3, ds3, p3, q3, rfl, rfl, rfl, h3, r3⟩ := trodAll_cons r2
  obtain ⟨v4, vs4, d4, ds4, p4, q4, rfl, rfl, rfl, h4, r4⟩ := trodAll_cons r3
  obtain ⟨v5, vs5, d5, ds5, p5, q5, rfl, rfl, rfl, h5, r5⟩ := trodAll_cons r4
  obtain ⟨rfl, rfl, rfl⟩ := trodAll_nil r5
  obtain rfl : args = #[v0, v1, v2, v3, v4, v5] := by cases args; simp_all
  obtain ⟨rfl, rfl⟩ := trodVars_none hV
  have str0 : ∀ bytes : List UInt8, d0 = .lit (.string bytes) → bytes.length ≤ 140737488351232 := fun bytes hb => by have hs := sized_string hsz (j := 0) (t := 9) (bytes := bytes) rfl (by rw [hb]; rfl); unfold reachBytes at hs; omega
  obtain ⟨a0, rfl, rfl, rfl, w0⟩ := open_string Tryd.underlying9 (hval 0 9 v0 rfl rfl) h0
  have str1 : ∀ bytes : List UInt8, d1 = .lit (.string bytes) → bytes.length ≤ 140737488351232 := fun bytes hb => by have hs := sized_string hsz (j := 1) (t := 9) (bytes := bytes) rfl (by rw [hb]; rfl); unfold reachBytes at hs; omega
  obtain ⟨a1, rfl, rfl, rfl, w1⟩ := open_string Tryd.underlying9 (hval 1 9 v1 rfl rfl) h1
  obtain ⟨C2, rfl⟩ : ∃ xs, v2 = .agg xs := by
    have h := hval 2 22 v2 rfl rfl
    simp only [Value.okWide, Tryd.underlying22] at h
    obtain ⟨cs, h1, _⟩ := h
    exact ⟨cs, h1⟩
  have k2 := h2
  have lt2 : ∀ x ∈ p2, x.block < W.heap.size := by obtain ⟨m, hm⟩ := k2; exact DataW.trod_lt m _ _ _ hm
  obtain ⟨D2, rfl, len2⟩ := open_a32 h2
  obtain ⟨C3, rfl⟩ : ∃ xs, v3 = .agg xs := by
    have h := hval 3 22 v3 rfl rfl
    simp only [Value.okWide, Tryd.underlying22] at h
    obtain ⟨cs, h1, _⟩ := h
    exact ⟨cs, h1⟩
  have k3 := h3
  have lt3 : ∀ x ∈ p3, x.block < W.heap.size := by obtain ⟨m, hm⟩ := k3; exact DataW.trod_lt m _ _ _ hm
  obtain ⟨D3, rfl, len3⟩ := open_a32 h3
  have str4 : ∀ bytes : List UInt8, d4 = .lit (.string bytes) → bytes.length ≤ 140737488351232 := fun bytes hb => by have hs := sized_string hsz (j := 4) (t := 9) (bytes := bytes) rfl (by rw [hb]; rfl); unfold reachBytes at hs; omega
  obtain ⟨a4, rfl, rfl, rfl, w4⟩ := open_string Tryd.underlying9 (hval 4 9 v4 rfl rfl) h4
  have str5 : ∀ bytes : List UInt8, d5 = .lit (.string bytes) → bytes.length ≤ 140737488351232 := fun bytes hb => by have hs := sized_string hsz (j := 5) (t := 9) (bytes := bytes) rfl (by rw [hb]; rfl); unfold reachBytes at hs; omega
  obtain ⟨a5, rfl, rfl, rfl, w5⟩ := open_string Tryd.underlying9 (hval 5 9 v5 rfl rfl) h5
  clear hA0 hval0
  refine (walk_NamingApart W a0 w0 (by have := str0 _ rfl; simpa using this) a1 w1 (by have := str1 _ rfl; simpa using this) D2 len2 D3 len3 a4 w4 (by have := str4 _ rfl; simpa using this) a5 w5 (by have := str5 _ rfl; simpa using this) hl).mono fun e W' ⟨he, bel⟩ => ?_
  subst he
  exact ⟨_, rfl, _, _, _, [], _, [], hW', trodAll_mk1 (shut_bool Tryd.underlying4 _), (trodAll_cons_mk (shut_string Tryd.underlying9 w0) (trodAll_cons_mk (shut_string Tryd.underlying9 w1) (trodAll_cons_mk (Below.trod laidOut (by kernel_rfl) (of_decide_eq_true (by kernel_rfl)) k2 bel lt2) (trodAll_cons_mk (Below.trod laidOut (by kernel_rfl) (of_decide_eq_true (by kernel_rfl)) k3 bel lt3) (trodAll_cons_mk (shut_string Tryd.underlying9 w4) (trodAll_cons_mk (shut_string Tryd.underlying9 w5) trodAll_mk0)))))), rfl, bel.frame _, fun h => by cases h⟩

theorem over : Rows.namingApartRow.holds Tryd.pinned (OpenSpec.ofChange Rows.namingApartSpec) :=
  OpenClaim.holds_of_wide 4 Tryd.f4 rfl rfl rfl rfl rfl rfl rfl ⟨rfl, rfl, rfl, rfl, rfl⟩ rfl rfl rfl rfl rfl (by kernel_rfl) Tryd.func4 (by kernel_rfl)
    (of_decide_eq_true (by kernel_rfl)) (by unfold Func.isWrapper; first | (rw [if_pos (by decide +kernel)]; kernel_rfl) | (rw [if_neg (by decide +kernel)]; exact ⟨rfl, rfl⟩))
    (fun os started H enc _ => lifted os started H enc)

/-- The statement. -/
theorem proved : Rows.NamingApartCardSaid :=
  Claim7.holds_tied_plain_at .later [] [.data, .data] true Rows.namingApartCard.stood.harness false
    over (fun _ h => by cases h) (by kernel_rfl) (fun _ h => by cases h) namingApart_row_tie rfl ⟨rfl, rfl⟩ (by kernel_rfl) rfl
    (fun f fn hf hfn => by
      obtain rfl : f = 4 := Option.some.inj ((show Tryd.prog.funcNamed "staddle/staddlelaw06.NamingApart" = some 4 by kernel_rfl).symm.trans hf) |>.symm
      obtain rfl : fn = Tryd.f4 := (Option.some.inj (Tryd.func4.symm.trans hfn)).symm
      exact ⟨by kernel_rfl, fun j t ht => by
        rw [Tryd.params4] at ht
        have hm : t ∈ [9, 9, 22, 22, 9, 9] := by simpa using Array.mem_of_getElem? ht
        have hall : ([9, 9, 22, 22, 9, 9].all fun u => !Tryd.prog.wantsStandIn u) = true := by kernel_rfl
        exact (show Tryd.prog.wantsStandIn t = false by simpa using List.all_eq_true.1 hall t hm)⟩)
    (by kernel_rfl)
end Go.Proofs.YthomkagbcoaipaaDoor.namingApart

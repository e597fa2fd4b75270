/-
  The contract of the reference's Encode: the same signs. Conditions: at most a thousand bytes.
-/
import Derived.Test.YtokbakpbhpknfaaRowN
import Derived.Test.YtokbakpbhpknfaaMathN
import Derived.Deep.AppendLies
namespace Go.Proofs.Ytokbakpbhpknfaa.Nam
open Go.RowKit

theorem info_int : (Try.prog.info? 3).map (fun i => (i.zero, i.size, i.bytes)) = some (some (.int .i64 0), 1, 8) := by kernel_rfl

theorem sign_any (v : Nat) (h : v < 32) (w : World) :
    Calls Try.prog 63 #[.int .i64 (v : Int)] w fun e w' => e = .returned (.int .u8 ((sgn v).toNat : Int)) ∧ w = w' := by
  have h2 : (v : Int) < 32 := by omega
  go_enter Try.func63, Try.ntmps63
  go_wp2
  go_ret
  refine ⟨ret_u8 ?_, rfl⟩
  rw [← sign_at v h]

theorem take_rev (l : List UInt8) (t : Nat) (h : t < l.length) : l.reverse.take (t + 1) = l.reverse.take t ++ [l.getD (l.length - 1 - t) 0] := by
  rw [take_one l.reverse 0 t (by rw [List.length_reverse]; exact h)]
  congr 2
  rw [List.getD_eq_getElem?_getD, List.getD_eq_getElem?_getD, List.getElem?_reverse h]

/-- 'string(b)' of bytes that came in, nil and empty ones too. -/
theorem convert_b {w : World} {a : Option Addr} {n cap : Nat} {l : List UInt8} (h : IsB w a n cap l) :
    (convert 38 9 (.slice a n cap)).run Try.prog w = .ok (.string ⟨l.toArray⟩) w := by
  obtain ⟨h1, h2, h3, h4, _⟩ := h
  have hnil : n = 0 → (convert 38 9 (.slice a n cap)).run Try.prog w = .ok (.string ⟨l.toArray⟩) w := by
    intro h0
    subst h0
    obtain rfl : l = [] := List.eq_nil_of_length_eq_zero h1
    cases a with
    | none =>
      obtain ⟨_, rfl⟩ := h4 rfl
      rw [run_convert_bytes_string w 38 9 5 none 0 0 Try.underlying38 Try.underlying5 Try.underlying9]
      rfl
    | some x =>
      have := run_convert_bytes_back (P := Try.prog) w 38 9 5 x cap [] Try.underlying38 Try.underlying5 Try.underlying9 (fun j hj => by simp at hj)
      rw [List.length_nil] at this
      exact this
  rcases h2 with h0 | ⟨b, off, rfl, hlt, hby⟩
  · exact hnil h0
  · subst h1
    refine run_convert_bytes_back (P := Try.prog) w 38 9 5 ⟨b, off, none⟩ cap l Try.underlying38 Try.underlying5 Try.underlying9 (fun j hj => ?_)
    have hadd : (⟨b, off, none⟩ : Addr).add j = ⟨b, off + j, none⟩ := by cases j <;> simp [Addr.add]
    rw [hadd, hby j hj]
    simp [List.getD, hj]

end Go.Proofs.Ytokbakpbhpknfaa.Nam

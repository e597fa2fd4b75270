/-
  All steps of the parser together, by the steps' number. Conditions: the parser's block.
-/
import Derived.Test.YtnajafnbickiiaaDoorPOpW
import Derived.Test.YtnajafnbickiiaaDoorPNum
namespace Go.Proofs.YtnajafnbickiiaaDoor
open Go.RowKit
set_option linter.unusedVariables false

theorem thing_inv {n d : Nat} {ts : List Tk} {x : Ex} {r : List Tk} (h : pg n .thing d ts = .ok x r) :
    ∃ m t q, n = m + 1 ∧ d ≠ 60 ∧ ts = t :: q ∧ ((t.kind = 3 ∧ x = .mk 1 (decV t.text) [] [] t.at_ ∧ r = q) ∨ (t.kind = 1 ∧ x = .mk 3 0 t.text [] t.at_ ∧ r = q) ∨
      (t.kind = 4 ∧ t.text = [40] ∧ ∃ u r', pg m .expr (d + 1) q = .ok x (u :: r') ∧ stT (u :: r') 0 [41] = true ∧ r = r')) := by
  cases n with
  | zero => simp [pg] at h
  | succ m =>
    simp only [pg] at h
    split at h
    · cases h
    · rename_i hd
      split at h
      · cases h
      · match ts, h with
        | [], h => cases h
        | t :: q, h =>
          simp only at h
          refine ⟨m, t, q, rfl, hd, rfl, ?_⟩
          split at h
          · rename_i h3
            simp only [PR.ok.injEq] at h
            exact .inl ⟨h3, h.1.symm, h.2.symm⟩
          · split at h
            · rename_i h1
              simp only [PR.ok.injEq] at h
              exact .inr (.inl ⟨h1, h.1.symm, h.2.symm⟩)
            · split at h
              · cases h
              · split at h
                · rename_i h4
                  split at h
                  · rename_i x1 r1 he
                    split at h
                    · rename_i hs
                      simp only [PR.ok.injEq] at h
                      match r1, he, hs, h with
                      | [], he, hs, h => simp [stT] at hs
                      | u :: r', he, hs, h =>
                        obtain ⟨rfl, rfl⟩ := h
                        exact .inr (.inr ⟨h4.1, h4.2, u, r', he, hs, rfl⟩)
                    · cases h
                  · rename_i hne
                    exact (hne _ _ h).elim
                · cases h
theorem expr_inv {n d : Nat} {ts : List Tk} {x : Ex} {r : List Tk} (h : pg n .expr d ts = .ok x r) :
    ∃ m, n = m + 1 ∧ d ≠ 60 ∧ (nmT ts 0 && stT ts 1 [58]) = false ∧ stT ts 0 [123] = false ∧ noWord ts = true ∧ pg m (.op 1) (d + 1) ts = .ok x r := by
  cases n with
  | zero => simp [pg] at h
  | succ m =>
    simp only [pg] at h
    split at h
    · cases h
    · rename_i hd
      split at h
      · cases h
      · rename_i hn
        split at h
        · cases h
        · rename_i hb
          split at h
          · cases h
          · rename_i hw
            exact ⟨m, rfl, hd, by simpa using hn, by simpa using hb, by simpa [noWord] using hw, h⟩
theorem right_inv {n d : Nat} {g : List UInt8 × Nat × Bool} {ts : List Tk} {x : Ex} {r : List Tk} (h : pg n (.right g) d ts = .ok x r) :
    ∃ m, n = m + 1 ∧ d ≠ 60 ∧ pg m (.op (if g.2.2 = true then g.2.1 else g.2.1 + 1)) (d + 1) ts = .ok x r := by
  cases n with
  | zero => simp [pg] at h
  | succ m =>
    simp only [pg] at h
    split at h
    · cases h
    · rename_i hd
      exact ⟨m, rfl, hd, h⟩
theorem signs_st : ∀ sg ∈ signsP, 1 ≤ sg.2.1 ∧ sg.2.1 ≤ 8 := by decide

/-- This function reads what the step says. -/
def Reads (f : Nat) (args : Array Value) (nt : Nt) (n pb g d : Nat) (rm : Int) : Prop :=
  ∀ (W : World) (o c : Nat) (t1 : List Tk) (y : Ex) (r1 : List Tk), Ps W pb g o c t1 d rm → pg n nt d t1 = .ok y r1 → Calls Tryd.prog f args W (PX pb g d rm W y r1)
structure AllR (n pb g d : Nat) (rm : Int) : Prop where
  thing : Reads 69 #[.pointer (some ⟨pb, 0, none⟩)] .thing n pb g d rm
  sel : Reads 58 #[.pointer (some ⟨pb, 0, none⟩)] .sel n pb g d rm
  pre : Reads 46 #[.pointer (some ⟨pb, 0, none⟩)] .pre n pb g d rm
  right : ∀ sg, sg ∈ signsP → Reads 48 #[.pointer (some ⟨pb, 0, none⟩), .agg (sgC sg).toArray] (.right sg) n pb g d rm
  op : ∀ s : Nat, 1 ≤ s → Reads 33 #[.pointer (some ⟨pb, 0, none⟩), .int .i64 (s : Int)] (.op s) n pb g d rm
  expr : Reads 14 #[.pointer (some ⟨pb, 0, none⟩)] .expr n pb g d rm

theorem all_ok (pb g : Nat) (rm : Int) (n : Nat) : ∀ d, d ≤ 60 → AllR n pb g d rm := by
  induction n using Nat.strongRecOn with
  | ind n ih =>
    intro d hd
    refine ⟨?_, ?_, ?_, ?_, ?_, ?_⟩
    · intro W o c ts y r hps hp
      obtain ⟨m, t, q, rfl, h60, rfl, hc⟩ := thing_inv hp
      rcases hc with ⟨hk, rfl, rfl⟩ | ⟨hk, rfl, rfl⟩ | ⟨hk, htx, u, r', he, hs, rfl⟩
      · exact thing_num hps (by omega) hk
      · exact thing_name hps (by omega) hk
      · exact thing_paren hps (by omega) hk htx y u r hs fun W2 o2 c2 h2 => (ih m (by omega) (d + 1) (by omega)).expr W2 o2 c2 q y (u :: r) h2 he
    · intro W o c ts y r hps hp
      exact sel_ok hps y r hp fun m hm W2 o2 c2 t1 y1 r1 h2 h3 => (ih m hm d hd).thing W2 o2 c2 t1 y1 r1 h2 h3
    · intro W o c ts y r hps hp
      exact pre_ok hps y r hp fun m hm W2 o2 c2 t1 y1 r1 h2 h3 => (ih m hm d hd).sel W2 o2 c2 t1 y1 r1 h2 h3
    · intro sg hsg W o c ts y r hps hp
      obtain ⟨m, rfl, h60, ho⟩ := right_inv hp
      have h8 := signs_st sg hsg
      exact right_ok hps (by omega) ⟨sg.1.toArray⟩ sg.2.1 sg.2.2 h8.2 y r fun W2 h2 => (ih m (by omega) (d + 1) (by omega)).op _ (by split <;> omega) W2 o c ts y r h2 ho
    · intro s hs W o c ts y r hps hp
      exact op_ok hs hps y r hp (fun m hm W2 o2 c2 t1 y1 r1 h2 h3 => (ih m hm d hd).pre W2 o2 c2 t1 y1 r1 h2 h3) fun m hm W2 o2 c2 t1 sg y1 r1 hsg h2 h3 => (ih m hm d hd).right sg hsg W2 o2 c2 t1 y1 r1 h2 h3
    · intro W o c ts y r hps hp
      obtain ⟨m, rfl, h60, hn, hb, hw, ho⟩ := expr_inv hp
      exact expr_ok hps (by omega) hn hb hw y r fun W2 h2 => (ih m (by omega) (d + 1) (by omega)).op 1 (by omega) W2 o c ts y r h2 ho
end Go.Proofs.YtnajafnbickiiaaDoor

/-
  What stands at a path of a tree, as functions; a struct's slot and a number as results. No program text.
-/
import Derived.Test.YtnfhmndepfmmoaaDoorTSplit
import Derived.Test.YtnfhmndepfmmoaaDoorTGood
import Derived.Test.YtnfhmndepfmmoaaDoorTOpen
import Derived.Test.YtnfhmndepfmmoaaDoorTCount
import Derived.Test.YtnfhmndepfmmoaaDoorECopy
import Derived.Laws.ResultCell
import Derived.Laws.Rows
namespace Go.Proofs.YtnfhmndepfmmoaaDoor
open Go.RowKit
set_option linter.unusedVariables false

/-- What stands behind some names, or the error's number. -/
def findT : List ByteArray → T → Int ⊕ T
  | [], t => .inr t
  | nm :: r, .mk k x d ns ks => if k ≠ 3 then .inl 8 else if Lib.idxOfS ns nm < 0 ∨ (ks.length : Int) ≤ Lib.idxOfS ns nm then .inl 6 else findT r (ks.getD (Lib.idxOfS ns nm).toNat default)

theorem at_ret {fn : Func} {P : Program} {p u : Tmp} {ty : TypeId} (h : fn.results = #[.cell p ty, .tmp u]) (tmps : Array Value) (w : World) (g : Nat) (t : TypeId) (cs : Array Value) (fr : Nat × Nat) (d : TypeDesc)
    (hp : tmps.getD p undef = .pointer (some ⟨g, 0, none⟩)) (hg : w.heap[g]? = some (.cells cs t fr))
    (hu : P.underlying ty = some d) (hd : (match d with | .struct _ | .array _ _ => true | _ => false) = true) (hi : (P.info? ty).map (·.size) = some cs.size) :
    (results fn tmps).run P w = .ok (.tuple #[.agg cs, tmps.getD u undef]) w := by
  have hp' : tmps[p]?.getD undef = .pointer (some ⟨g, 0, none⟩) := by simpa using hp
  simp [results, h, hp', asAddr, run_loadVar_row w g t ty cs fr d hg hu hd hi]

def mkB (l : List UInt8) : ByteArray := ⟨l.toArray⟩

theorem mkB_of {l : List ByteArray} {p : List (List UInt8)} (h : l.map (·.data.toList) = p) : l = p.map mkB := by
  subst h
  rw [List.map_map]
  have : (mkB ∘ fun x : ByteArray => x.data.toList) = id := by funext x; simp [mkB]
  rw [this]; simp

def atT (s : List UInt8) (t : T) : Int ⊕ T := if (splitT s).2 = 0 then findT ((splitT s).1.map mkB) t else .inl (splitT s).2

theorem findT_small : ∀ (l : List ByteArray) (t x : T), findT l t = .inr x → Small t → Small x ∧ sizeN x ≤ sizeN t
  | [], t, x, h, hs => by rw [findT] at h; cases h; exact ⟨hs, Nat.le_refl _⟩
  | nm :: r, .mk k e d ns ks, x, h, hs => by
    rw [findT] at h
    split at h
    · cases h
    · split at h
      · cases h
      · rename_i h1 h2
        have hj : (Lib.idxOfS ns nm).toNat < ks.length := by omega
        have := findT_small r _ x h (hs.kid _ hj)
        have h3 := sizeNL_get hj
        rw [sizeN_mk]
        exact ⟨this.1, by omega⟩

theorem atT_small {s : List UInt8} {t x : T} (h : atT s t = .inr x) (hs : Small t) : Small x ∧ sizeN x ≤ sizeN t := by
  unfold atT at h
  split at h
  · exact findT_small _ _ _ h hs
  · cases h

theorem findT_code : ∀ (l : List ByteArray) (t : T) (c : Int), findT l t = .inl c → c = 8 ∨ c = 6
  | [], t, c, h => by rw [findT] at h; cases h
  | nm :: r, .mk k e d ns ks, c, h => by
    rw [findT] at h
    split at h
    · cases h; exact .inl rfl
    · split at h
      · cases h; exact .inr rfl
      · exact findT_code r _ c h

theorem splitT_code (s : List UInt8) : (splitT s).2 = 0 ∨ (splitT s).2 = 2 ∨ (splitT s).2 = 4 := by
  unfold splitT
  split
  · simp
  · split
    · simp
    · split <;> simp

theorem atT_code {s : List UInt8} {t : T} {c : Int} (h : atT s t = .inl c) : c = 2 ∨ c = 4 ∨ c = 6 ∨ c = 8 := by
  unfold atT at h
  split at h
  · have := findT_code _ _ _ h; omega
  · cases h
    have := splitT_code s; omega

theorem findT_append : ∀ (p q : List ByteArray) (t : T), findT (p ++ q) t = match findT p t with | .inl c => .inl c | .inr y => findT q y
  | [], q, t => by simp [findT]
  | nm :: p, q, .mk k x d ns ks => by
    rw [List.cons_append, findT, findT]
    by_cases h1 : k ≠ 3
    · rw [if_pos h1, if_pos h1]
    · rw [if_neg h1, if_neg h1]
      by_cases h2 : Lib.idxOfS ns nm < 0 ∨ (ks.length : Int) ≤ Lib.idxOfS ns nm
      · rw [if_pos h2, if_pos h2]
      · rw [if_neg h2, if_neg h2]
        exact findT_append p q _

/-- No tree. -/
def zeroT : T := .mk 0 false [] [] []

def codeR : Int ⊕ T → Int
  | .inl c => c
  | .inr _ => 0

def resT : Int ⊕ T → T
  | .inl _ => zeroT
  | .inr x => x

theorem isB_none (w : World) : IsB w none 0 0 [] := ⟨rfl, .inl rfl, fun _ => ⟨rfl, rfl⟩, ⟨Nat.le_refl _, Nat.zero_le _⟩, Nat.zero_le _⟩
theorem isS_none (w : World) : IsS w none 0 0 [] := ⟨rfl, .inl rfl, fun _ => ⟨rfl, rfl⟩, ⟨Nat.le_refl _, Nat.zero_le _⟩⟩
theorem isK_none (R : List Value → T → Prop) (w : World) : IsK R w none 0 0 [] := ⟨rfl, .inl rfl, fun _ => ⟨rfl, rfl⟩, ⟨Nat.le_refl _, Nat.zero_le _⟩⟩
theorem isT_zero (w : World) : IsT w 1 zT zeroT := ⟨none, 0, 0, none, 0, 0, none, 0, 0, rfl, isB_none w, isS_none w, isK_none _ w⟩
theorem small_zero : Small zeroT := .mk (fun i hi => by simp at hi) (fun i hi => by simp at hi) (by simp)

end Go.Proofs.YtnfhmndepfmmoaaDoor

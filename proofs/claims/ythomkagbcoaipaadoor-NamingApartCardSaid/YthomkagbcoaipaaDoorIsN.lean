/-
  A slice of bytes that came in, as the list of its bytes (naturals); a copy into a block that stays the only one that turns. No conditions.
-/
import Derived.Test.YthomkagbcoaipaaDoorPad
import Derived.ProofKit
import Derived.OpenShut
import Derived.Laws.CopyOwn
namespace Go.Proofs.YthomkagbcoaipaaDoor
open Go.RowKit
set_option linter.unusedVariables false

/-- A slice of bytes: where there is one, they lie in old cells. -/
structure IsN (w : World) (a : Option Addr) (len cap : Nat) (l : List Nat) : Prop where
  length : l.length = len
  at_ : len = 0 ∨ ∃ b off, a = some ⟨b, off, none⟩ ∧ b < w.heap.size ∧ Bys w b off l
  nil : a = none → len = 0 ∧ cap = 0
  room : len ≤ cap ∧ cap ≤ maxLen
  small : ∀ x ∈ l, x < 256

theorem Bys.but {w w' : World} {b off : Nat} {B : List Nat} {g h : Nat} (H : Bys w b off B) (hb : But g h w w') (hlt : b < g) (hne : b ≠ h) : Bys w' b off B :=
  fun i hi => (World.cell?_of_block (w := w) (hb.block b hlt hne)).trans (H i hi)

theorem Bys.drop {w : World} {b off : Nat} {B : List Nat} (H : Bys w b off B) (k : Nat) : Bys w b (off + k) (B.drop k) := by
  intro i hi
  rw [List.length_drop] at hi
  rw [Nat.add_assoc, H (k + i) (by omega)]
  simp [List.getD, List.getElem?_drop]

theorem Bys.take {w : World} {b off : Nat} {B : List Nat} (H : Bys w b off B) (k : Nat) : Bys w b off (B.take k) := by
  intro i hi
  rw [List.length_take] at hi
  rw [H i (by omega)]
  simp [List.getD, List.getElem?_take_of_lt (show i < k by omega)]

theorem IsN.later {w w' : World} {a : Option Addr} {len cap : Nat} {l : List Nat} (h : IsN w a len cap l) (hb : Below w.heap.size w w') : IsN w' a len cap l := by
  refine ⟨h.length, ?_, h.nil, h.room, h.small⟩
  rcases h.at_ with h0 | ⟨b, off, rfl, hlt, hby⟩
  · exact .inl h0
  · exact .inr ⟨b, off, rfl, Nat.lt_of_lt_of_le hlt hb.size, hby.below hb hlt⟩

theorem wpList_copy_but {P : Program} {w : World} {ops : Array Oper} {rest : List Oper} {o : Oper} {a : Act} {Q : Exit → Act → World → Prop} (hgd : o.guard = none) (d s : Operand) (dT sT : TypeId)
    (ho : o.op = .call { callee := .builtin .copy, args := #[d, s], argTypes := #[dT, sT] }) (elem : TypeId) (hu : P.underlying dT = some (.slice elem)) (hsz : (P.info? elem).map (·.size) = some 1)
    (dp sp : Option Addr) (dLen dCap sLen sCap : Nat) (hd : a.eval d = .slice dp dLen dCap) (hs : a.eval s = .slice sp sLen sCap)
    (g off : Nat) (cur : List Value) (t : TypeId) (hg : w.heap[g]? = some (.cells cur.toArray t (0, 0))) (cs : List Value) (hn : cs.length = Nat.min sLen dLen)
    (hpos : 0 < cs.length → dp = some ⟨g, off, none⟩ ∧ ∃ ad, sp = some ad ∧ ∀ j v, cs[j]? = some v → w.cell? (ad.add j) = some v)
    (hfit : off + cs.length ≤ cur.length) (h1 : ∀ v ∈ cs, v.oneCell' = true)
    (h : ∀ w', Hid (w'.heap[g]? = some (.cells (splice cur off cs).toArray t (0, 0))) → Hid (But w.heap.size g w w') → wpList P ops Q rest (a.put o.dst (goInt cs.length)) w') :
    wpList P ops Q (o :: rest) a w := by
  by_cases h0 : cs.length = 0
  · obtain rfl : cs = [] := List.eq_nil_of_length_eq_zero h0
    refine wpList_copy_nothing hgd d s dT sT ho elem hu hsz dp sp dLen dCap sLen sCap hd hs (by simpa using hn.symm) ?_
    exact h w (show _ = _ by simpa [splice] using hg) (show But _ _ _ _ from But.refl _ _ _)
  · obtain ⟨rfl, ad, rfl, hsrc⟩ := hpos (by omega)
    refine wpList_copy_own hgd d s dT sT ho elem hu hsz g off dLen dCap ad sLen sCap hd hs cur.toArray t hg cs hn hsrc (by simpa using hfit) h1 ?_
    exact h _ (show _ = _ by simpa [splice] using setRow_heap w g _ _ t _ hg) (show But _ _ _ _ from (But.refl _ _ _).setRow (.inr rfl) _)

end Go.Proofs.YthomkagbcoaipaaDoor

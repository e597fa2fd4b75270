/-
  Maps from texts, whatever stands in them: look-up, update, deletion, length. No program text but the types' numbers.
-/
import Derived.Test.YtdliecailkkciaaProg
import Derived.WalkKit
import Derived.Maps.OwnSet
import Derived.StringKeys
import Derived.Lib.Hide
namespace Go.Proofs.Ytdliecailkkciaa
open Go.RowKit Go.Maps
open Go.WideMaps (keyOf_string_mk)
open Go.ChangeMaps (setBlock)
open Go.WideElems (Fit rd rg pl)
set_option linter.unusedVariables false

def valR (v : Value) : Option (DataW Value × List MemPlace) := some (.held v, [])
theorem lawS : Keyed Try.prog 9 := string_keyed Try.underlying9
def kS (s : ByteArray) : Lit := .string s.data.toList
theorem key_S {s : ByteArray} (h : s.size ≤ maxLen) : keyOf Try.prog 9 (.string s) = some (kS s) := keyOf_string_mk Try.underlying9 h
theorem kS_inj {s t : ByteArray} (h : kS s = kS t) : s = t := by
  unfold kS at h
  simp only [Lit.string.injEq] at h
  cases s; cases t
  simp only [ByteArray.mk.injEq]
  exact Array.toList_inj.1 h
theorem kS_key (s : ByteArray) : WideAt.IsKeyLit (kS s) := trivial

/-- The map at block b reads as the function M on texts; at most n entries. -/
def MapV (w : World) (b n : Nat) (M : ByteArray → Option Value) : Prop :=
  ∃ D : DataW Value, w.ownsMap Try.prog 9 valR b n D ∧ (∀ s : ByteArray, Maps.has D (kS s) = (M s).isSome ∧ ∀ z, D.atKey (kS s) (.held z) = .held ((M s).getD z))

theorem MapV.lt {w : World} {b n : Nat} {M : ByteArray → Option Value} (h : MapV w b n M) : b < w.heap.size := by
  obtain ⟨D, h, _⟩ := h
  exact h.lt
theorem MapV.kept {w w' : World} {b n : Nat} {M : ByteArray → Option Value} {row : Option Nat} (h : MapV w b n M) (hg : w.grownBy w' row) (hne : some b ≠ row) : MapV w' b n M := by
  obtain ⟨D, h, h2⟩ := h
  exact ⟨D, h.kept hg hne, h2⟩
theorem MapV.below {w w' : World} {b n B : Nat} {M : ByteArray → Option Value} (h : MapV w b n M) (hb : Below B w w') (hB : b < B) : MapV w' b n M := by
  obtain ⟨D, ⟨es, clock, h1, h2⟩, h3⟩ := h
  exact ⟨D, ⟨es, clock, (hb.block b hB).trans h1, h2⟩, h3⟩
theorem MapV.made (w : World) : MapV (w.alloc (.map #[] 0)) w.heap.size 0 (fun _ => none) :=
  ⟨.map [], World.ownsMap_made w _ _ _, fun s => ⟨rfl, fun z => atKey_of_not_has rfl _⟩⟩
/-- 'v, ok := m[k]'. -/
theorem MapV.look {w : World} {b n : Nat} {M : ByteArray → Option Value} (h : MapV w b n M) {t e : TypeId} (ht : Try.prog.underlying t = some (.map 9 e)) {z : Value} (hz : (zeroValue e).run Try.prog w = .ok z w) {s : ByteArray} (hs : s.size ≤ maxLen) :
    (Instr.lookup t (.map (some b)) (.string s) true).run Try.prog w = .ok (.tuple #[(M s).getD z, .bool (M s).isSome]) w := by
  obtain ⟨D, h1, h2⟩ := h
  obtain ⟨v, ps, hrun, hv⟩ := h1.look_ok lawS ht hz (zd := .held z) (zp := []) rfl (key_S hs)
  rw [(h2 s).2 z] at hv
  simp only [valR, Option.some.injEq, Prod.mk.injEq, DataW.held.injEq] at hv
  rw [hrun, (h2 s).1, hv.1]
/-- 'm[k]'. -/
theorem MapV.get {w : World} {b n : Nat} {M : ByteArray → Option Value} (h : MapV w b n M) {t e : TypeId} (ht : Try.prog.underlying t = some (.map 9 e)) {z : Value} (hz : (zeroValue e).run Try.prog w = .ok z w) {s : ByteArray} (hs : s.size ≤ maxLen) :
    (Instr.lookup t (.map (some b)) (.string s) false).run Try.prog w = .ok ((M s).getD z) w := by
  obtain ⟨D, h1, h2⟩ := h
  obtain ⟨v, ps, hrun, hv⟩ := h1.lookup lawS ht hz (zd := .held z) (zp := []) rfl (key_S hs)
  rw [(h2 s).2 z] at hv
  simp only [valR, Option.some.injEq, Prod.mk.injEq, DataW.held.injEq] at hv
  rw [hrun, hv.1]
def putM (M : ByteArray → Option Value) (s : ByteArray) (v : Value) : ByteArray → Option Value := fun x => if x = s then some v else M x
def delM (M : ByteArray → Option Value) (s : ByteArray) : ByteArray → Option Value := fun x => if x = s then none else M x
/-- 'm[k] = v'. -/
theorem MapV.put {w : World} {b n : Nat} {M : ByteArray → Option Value} (h : MapV w b n M) {t e : TypeId} (ht : Try.prog.underlying t = some (.map 9 e)) (hn : n < maxLen) {s : ByteArray} (hs : s.size ≤ maxLen) (v : Value) :
    ∃ w', (Instr.mapUpdate t (.map (some b)) (.string s) v).run Try.prog w = .ok () w' ∧ MapV w' b (n + 1) (putM M s v) ∧ w.grownBy w' (some b) ∧ w'.heap.size = w.heap.size := by
  obtain ⟨D, h1, h2⟩ := h
  obtain ⟨w', hrun, ho, ht'⟩ := h1.store lawS ht hn (key_S hs) (val := v) (d := .held v) (ps := []) rfl
  have hg := ht'.grown
  refine ⟨w', hrun, ⟨_, ho, fun x => ?_⟩, hg, ?_⟩
  · unfold putM
    by_cases hx : x = s
    · subst hx
      rw [if_pos rfl]
      exact ⟨has_put_same h1.isMap (kS_key x) _, fun z => atKey_put_same h1.isMap (kS_key x) _ _⟩
    · have hne : kS x ≠ kS s := fun e => hx (kS_inj e)
      rw [if_neg hx, has_put_other hne]
      exact ⟨(h2 x).1, fun z => by rw [atKey_put_other hne]; exact (h2 x).2 z⟩
  · obtain ⟨es, clock, es', clock', hb, rfl⟩ := ht'
    simp [setBlock]
/-- 'delete(m, k)'. -/
theorem MapV.del {w : World} {b n : Nat} {M : ByteArray → Option Value} (h : MapV w b n M) {t e : TypeId} (ht : Try.prog.underlying t = some (.map 9 e)) {s : ByteArray} (hs : s.size ≤ maxLen) (ty : TypeId) :
    ∃ w', (Builtin.delete_ #[t, 9] ty #[.map (some b), .string s]).run Try.prog w = .ok (.tuple #[]) w' ∧ MapV w' b n (delM M s) ∧ w.grownBy w' (some b) ∧ w'.heap.size = w.heap.size := by
  obtain ⟨D, h1, h2⟩ := h
  obtain ⟨w', hrun, ho, ht'⟩ := h1.drop lawS ht (key_S hs) ty
  have hg := ht'.grown
  refine ⟨w', hrun, ⟨_, ho, fun x => ?_⟩, hg, ?_⟩
  · unfold delM
    by_cases hx : x = s
    · subst hx
      rw [if_pos rfl]
      exact ⟨has_del_same, fun z => atKey_del_same _⟩
    · have hne : kS x ≠ kS s := fun e => hx (kS_inj e)
      rw [if_neg hx, has_del_other hne]
      exact ⟨(h2 x).1, fun z => by rw [atKey_del_other hne]; exact (h2 x).2 z⟩
  · obtain ⟨es, clock, es', clock', hb, rfl⟩ := ht'
    simp [setBlock]
theorem any_sorted (f : Lit × DataW Value → Bool) : ∀ l : List (Lit × DataW Value), (l.foldr DataW.insert []).any f = l.any f
  | [] => rfl
  | x :: l => by rw [List.foldr_cons, any_insert, any_sorted f l, List.any_cons]
theorem keyOf_S {v : Value} {kl : Lit} (h : keyOf Try.prog 9 v = some kl) : ∃ s : ByteArray, kl = kS s := by
  rw [keyOf_string Try.underlying9] at h
  unfold mapKey at h
  rw [Try.underlying9] at h
  cases v with
  | string s =>
    simp only at h
    split at h
    · cases h; exact ⟨s, rfl⟩
    · cases h
  | _ => simp at h
theorem same_kS (s : ByteArray) : (kS s).sameKey (kS s) = true := by
  unfold kS
  simp [Lit.sameKey]
/-- 'len(m)'. -/
theorem MapV.len {w : World} {b n : Nat} {M : ByteArray → Option Value} (h : MapV w b n M) {t e : TypeId} (ht : Try.prog.underlying t = some (.map 9 e)) (ty : TypeId) :
    ∃ c : Nat, (Builtin.len_ #[t] ty #[.map (some b)]).run Try.prog w = .ok (.int .i64 (c : Int)) w ∧ (c = 0 ↔ ∀ s, M s = none) ∧ c ≤ n := by
  obtain ⟨D, h1, h2⟩ := h
  have hl := h1.len ht ty
  have hle := h1.size_le
  obtain ⟨es, clock, hb, F, hs, rfl⟩ := h1
  refine ⟨_, hl, ?_, hle⟩
  rw [size_eq]
  constructor
  · intro h0 s
    have h3 := (h2 s).1
    have h4 : ((es.toList.map (rg Try.prog 9 valR)).foldr DataW.insert []) = [] := List.length_eq_zero_iff.1 h0
    rw [h4] at h3
    cases hM : M s with
    | none => rfl
    | some v => rw [hM] at h3; cases h3
  · intro hall
    cases hes : es.toList with
    | nil => rfl
    | cons x r =>
      exfalso
      have hx : rg Try.prog 9 valR x ∈ es.toList.map (rg Try.prog 9 valR) := List.mem_map.2 ⟨x, by rw [hes]; exact List.mem_cons_self .., rfl⟩
      obtain ⟨v, hv⟩ := fit_keys F _ hx
      obtain ⟨s, hs'⟩ := keyOf_S hv
      have h3 := (h2 s).1
      rw [hall s, has_eq, any_sorted] at h3
      have h4 : (es.toList.map (rg Try.prog 9 valR)).any (fun p => p.1.sameKey (kS s)) = true := List.any_eq_true.2 ⟨_, hx, by rw [hs']; exact same_kS s⟩
      rw [h4] at h3
      cases h3
end Go.Proofs.Ytdliecailkkciaa

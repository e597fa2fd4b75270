/-
  The digest of what a derivation makes: what it is. No program text but types.
-/
import Derived.Test.YtokbakpbhpknfaaGreatDoorDzArr
import Derived.Test.YtokbakpbhpknfaaGreatDoorDzSort
namespace Go.Proofs.YtokbakpbhpknfaaGreatDoor
open Go.RowKit
set_option linter.unusedVariables false

def z32 : List UInt8 := List.replicate 32 0
/-- The text behind the digest. -/
def modX (s0 : ByteArray) (l2 : List ByteArray) (s3 s4 : ByteArray) (ds : List (List UInt8)) : List UInt8 :=
  if s4.data.toList.isEmpty = true then dtextB s0 ((srtT (hexs ds)).map bs) l2 s3 s4 else [102, 105, 120, 101, 100, 58] ++ s4.data.toList ++ [58] ++ s0.data.toList
def modD (s0 : ByteArray) (l2 : List ByteArray) (s3 s4 : ByteArray) (ds : List (List UInt8)) : List UInt8 := dgB (modX s0 l2 s3 s4 ds)
theorem modD_length (s0 : ByteArray) (l2 : List ByteArray) (s3 s4 : ByteArray) (ds : List (List UInt8)) : (modD s0 l2 s3 s4 ds).length = 32 := dgB_length _
/-- What Modulo tells. -/
def ModP (s0 : ByteArray) (l1 l2 : List ByteArray) (s3 s4 : ByteArray) (ds : List (List UInt8)) (w : World) (e : Ending) (w' : World) : Prop :=
  (formB s0 l1 l2 s3 s4 = false → e = .returned (.tuple #[.agg (z32.map Nam.bv).toArray, .int .i64 3])) ∧
  (formB s0 l1 l2 s3 s4 = true → ds.length ≠ l1.length → e = .returned (.tuple #[.agg (z32.map Nam.bv).toArray, .int .i64 1])) ∧
  (formB s0 l1 l2 s3 s4 = true → ds.length = l1.length → e = .returned (.tuple #[.agg ((modD s0 l2 s3 s4 ds).map Nam.bv).toArray, .int .i64 0])) ∧ Below w.heap.size w w'
theorem hexs_size (ds : List (List UInt8)) (h : ∀ d ∈ ds, d.length = 32) : ∀ x ∈ (srtT (hexs ds)).map bs, x.size ≤ 1000000 := by
  intro x hx
  obtain ⟨t, ht, rfl⟩ := List.mem_map.1 hx
  have ht' : t ∈ hexs ds := (List.mergeSort_perm (hexs ds) _).mem_iff.1 ht
  obtain ⟨d, hd, rfl⟩ := List.mem_map.1 ht'
  rw [bs_size, Nam.hexL_length, h d hd]; omega
theorem srtT_len (l : List Bts) : (srtT l).length = l.length := List.length_mergeSort _
/-- A whole array's cells, ready for a store. -/
theorem one32 (D : List UInt8) : (D.map Nam.bv).toArray.all (·.oneCell') = true := Nam.one_bv D
theorem rowLen (D : List UInt8) (h : D.length = 32) : (z32.map Nam.bv).toArray.size = (D.map Nam.bv).toArray.size := by simp [z32, h]
theorem isA_mem {w : World} {a : Option Addr} {n c : Nat} {l : List (List UInt8)} (h : IsA w a n c l) : ∀ d ∈ l, d.length = 32 := by
  intro d hd
  obtain ⟨i, hi, rfl⟩ := List.getElem_of_mem hd
  have := h.each i (by rw [← h.length]; exact hi)
  rwa [List.getD_eq_getElem?_getD, List.getElem?_eq_getElem hi] at this
/-- A new variable that is given an array at once. -/
theorem var_a32 {w : World} (D : List UInt8) : Has ((w.alloc (.cells (z32.map Nam.bv).toArray 30)).setRow w.heap.size (D.map Nam.bv).toArray) w.heap.size (D.map Nam.bv) 30 ∧
    Below w.heap.size w ((w.alloc (.cells (z32.map Nam.bv).toArray 30)).setRow w.heap.size (D.map Nam.bv).toArray) :=
  ⟨(Has.new w (z32.map Nam.bv) _).row _, below_setRow ((Below.refl _ _).alloc (Nat.le_refl _) _) (Nat.le_refl _) _⟩
theorem own_below {w w' : World} {B n size : Nat} {e : TypeId} {v : Value} {xs : List Value} (h : w.ownsRow B e size v n xs) (hb : Below w.heap.size w w') : w'.ownsRow B e size v n xs :=
  h.kept (row := none) ⟨hb.os, hb.tape, hb.output, hb.size, fun k hk _ => hb.block k hk⟩ (by
    cases hv : v.ownBlock with
    | none => exact .inl rfl
    | some g => exact .inr (by simp))
/-- A text of digits as a value. -/
def hv (d : List UInt8) : Value := .string ⟨(Nam.hexL d).toArray⟩
theorem hv_map (l : List (List UInt8)) : l.map hv = ((hexs l).map bs).map Value.string := by
  unfold hexs; rw [List.map_map, List.map_map]; rfl
theorem hexs_bts (l : List (List UInt8)) : ((hexs l).map bs).map btsOf = hexs l := by
  rw [List.map_map]; exact List.map_id _
theorem out_map {out : List ByteArray} {T : List Bts} (h : out.map btsOf = T) : out.map Value.string = T.map sv ∧ out = T.map bs := by
  subst h
  refine ⟨?_, ?_⟩
  · rw [List.map_map]; rfl
  · rw [List.map_map]
    exact (List.map_id out).symm
end Go.Proofs.YtokbakpbhpknfaaGreatDoor

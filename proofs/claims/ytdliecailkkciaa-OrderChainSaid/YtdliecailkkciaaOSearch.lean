/-
  slices.BinarySearch at []string, laid by hand; what it tells of a text.
-/
import Derived.Test.YtdliecailkkciaaShelf
import Derived.Test.YtdliecailkkciaaOSortW
import Derived.Shelf.Spec.SearchS
namespace Go.Proofs.Ytdliecailkkciaa
open Go.RowKit
set_option linter.unusedVariables false

def bsRen : Go.Shelf.Ren := ⟨fun | 26 => 29 | 33 => 36 | 34 => 37 | 38 => 43 | n => n, fun | 24 => 22 | 9 => 9 | 3 => 3 | 4 => 4 | 0 => 0 | 40 => 72 | n => n, fun | n => n⟩
theorem bsLay : Go.Proofs.Lays2.n26 Try.prog bsRen := {
  mixed := by kernel_rfl
  f26 := Try.func29.trans (congrArg some (by kernel_rfl))
  f33 := Try.func36.trans (congrArg some (by kernel_rfl))
  f34 := Try.func37.trans (congrArg some (by kernel_rfl))
  f38 := Try.func43.trans (congrArg some (by kernel_rfl))
  t0 := Try.underlying0
  a0 := Try.isAgg0
  z0 := Try.sizeOf0
  v0 := Try.zeroValue0
  t3 := Try.underlying3
  a3 := Try.isAgg3
  z3 := Try.sizeOf3
  v3 := Try.zeroValue3
  t4 := Try.underlying4
  a4 := Try.isAgg4
  z4 := Try.sizeOf4
  v4 := Try.zeroValue4
  t9 := Try.underlying9
  a9 := Try.isAgg9
  z9 := Try.sizeOf9
  v9 := Try.zeroValue9
  t24 := Try.underlying22
  a24 := Try.isAgg22
  z24 := Try.sizeOf22
  v24 := Try.zeroValue22
  t40 := Try.underlying72
  a40 := Try.isAgg72
  z40 := Try.sizeOf72
  v40 := Try.zeroValue72 }
theorem search_any {w : World} {a : Option Addr} {n c : Nat} {ns : List ByteArray} {x : ByteArray} (h : IsS w a n c ns) (hn : n ≤ 1000000) :
    Calls Try.prog 29 #[.slice a n c, .string x] w fun e w' =>
      e = .returned (.tuple #[.int .i64 (Lib.bsGo (fun t => Op.bytesLess (ns.getD t ⟨#[]⟩).toList x.toList) n 0 n : Nat), .bool (decide (Lib.bsGo (fun t => Op.bytesLess (ns.getD t ⟨#[]⟩).toList x.toList) n 0 n < n ∧ ns.getD (Lib.bsGo (fun t => Op.bytesLess (ns.getD t ⟨#[]⟩).toList x.toList) n 0 n) ⟨#[]⟩ = x))]) ∧ Below w.heap.size w w' := by
  have hl := h.length
  rcases h.at_ with h0 | ⟨b, off, rfl, hb, hc⟩
  · subst h0
    refine (Any2.slices_BinarySearch_string_empty bsLay a c x w).mono ?_
    rintro e w' ⟨rfl, rfl⟩
    exact ⟨rfl, Below.refl _ _⟩
  · refine (Any2.slices_BinarySearch_string bsLay b off n c (fun t => ns.getD t ⟨#[]⟩) x w (by omega) hc).mono ?_
    rintro e w' ⟨rfl, q, rfl⟩
    exact ⟨rfl, ⟨rfl, rfl, rfl, Nat.le_refl _, fun _ _ => rfl⟩⟩


/-- Is x found in l? -/
def fnd (l : List ByteArray) (x : ByteArray) : Bool := decide (Lib.bsGo (fun t => Op.bytesLess (l.getD t ⟨#[]⟩).toList x.toList) l.length 0 l.length < l.length ∧ l.getD (Lib.bsGo (fun t => Op.bytesLess (l.getD t ⟨#[]⟩).toList x.toList) l.length 0 l.length) ⟨#[]⟩ = x)
end Go.Proofs.Ytdliecailkkciaa

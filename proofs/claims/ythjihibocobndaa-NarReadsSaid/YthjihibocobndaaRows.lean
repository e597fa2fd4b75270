/-
  NARROWER THAN 'FOR EVERY INPUT', by the rows' own cells (each row's printed sentence says how): NarWrites: loops · NarTurned: loops.
  DERIVED. THE GIVEN ROWS OF THIS SEAT. 3 by the template 'for every input the law returns true; each argument reads behind the call as it read before'; 0 by the template 'total and deterministic' (their statements: YthjihibocobndaaTotals.lean).
  GIVEN WITH THE SEED: the statements are not yours to turn. If you find one false, say at which input.
  Laid BY PROGRAM, IN A SANDBOX (cutbox-rows.mjs): the forced cells as the released guide's own fill.sh prints them over the translation cbe3037ea81e8dd5… (all of the seat's roots in one cut). By AI agents, Wed Nov 11 2026. No macro, syntax, notation, axiom, sorry.
-/
import Derived.Test.YthjihibocobndaaChecked
import GoSem.Claim
import GoSem.ClaimJoined
import GoSem.ClaimMapViews
import Derived.JoinedTies
import Derived.KernelRfl
namespace Go.Proofs.Ythjihibocobndaa
/- THE CELL 'sum', in the pinned program and in every row, IS THE sha256 OF THE DUMP (.gsa) THAT YthjihibocobndaaProg.lean LOADS. Nothing in Lean hashes anything: it is a label: what it is worth is what the hold of that sum in a sandbox is worth. -/
noncomputable def Try.pinned : Pinned := { name := "ythjihibocobndaa", sum := "cbe3037ea81e8dd55c9c9453fce0cd7d56b33d66abf1a42c58f4ec9d69bcf876", checked := Try.checked }
namespace Rows
def none {H : Type} : Left H := { results := [], args := [] }

/-- 'staddlelaw04.NarWrites': WHATEVER THE INPUT: true; the input reads as it did. -/
def narWritesSpec : ChangeSpec := { name := "narWrites", fn := fun _ => fun
  | [d] => { results := [.lit (.bool true)], args := [d] }
  | _ => none }
def narWritesRow : OpenClaim := { program := "ythjihibocobndaa", sum := "cbe3037ea81e8dd55c9c9453fce0cd7d56b33d66abf1a42c58f4ec9d69bcf876", func := "staddle/staddlelaw04.NarWrites", spec := "narWrites", inPlace := ["internal/bytealg.IndexByteString", "internal/bytealg.IndexByte"], unfollowed := true, recurses := true, loops := true, apart := false }
def NarWritesSaid : Prop := narWritesRow.holds Try.pinned (OpenSpec.ofChange narWritesSpec)

/-- ITS FALSE NEIGHBOUR: 'it returns false'. Refute it at one input. -/
def narWritesWrong : ChangeSpec := { name := "narWrites", fn := fun _ => fun
  | [d] => { results := [.lit (.bool false)], args := [d] }
  | _ => none }
def NarWritesWrongFalsely : Prop := narWritesRow.holds Try.pinned (OpenSpec.ofChange narWritesWrong)

/-- 'staddlelaw04.NarReads': WHATEVER THE INPUT: true; the input reads as it did. -/
def narReadsSpec : ChangeSpec := { name := "narReads", fn := fun _ => fun
  | [d] => { results := [.lit (.bool true)], args := [d] }
  | _ => none }
def narReadsRow : OpenClaim := { program := "ythjihibocobndaa", sum := "cbe3037ea81e8dd55c9c9453fce0cd7d56b33d66abf1a42c58f4ec9d69bcf876", func := "staddle/staddlelaw04.NarReads", spec := "narReads", inPlace := ["internal/bytealg.IndexByteString", "internal/bytealg.IndexByte"], unfollowed := true, recurses := true, apart := false }
def NarReadsSaid : Prop := narReadsRow.holds Try.pinned (OpenSpec.ofChange narReadsSpec)

/-- ITS FALSE NEIGHBOUR: 'it returns false'. Refute it at one input. -/
def narReadsWrong : ChangeSpec := { name := "narReads", fn := fun _ => fun
  | [d] => { results := [.lit (.bool false)], args := [d] }
  | _ => none }
def NarReadsWrongFalsely : Prop := narReadsRow.holds Try.pinned (OpenSpec.ofChange narReadsWrong)

/-- 'staddlelaw04.NarTurned': WHATEVER THE INPUT: true; the input reads as it did. -/
def narTurnedSpec : ChangeSpec := { name := "narTurned", fn := fun _ => fun
  | [d1, d2, d3, d4] => { results := [.lit (.bool true)], args := [d1, d2, d3, d4] }
  | _ => none }
def narTurnedRow : OpenClaim := { program := "ythjihibocobndaa", sum := "cbe3037ea81e8dd55c9c9453fce0cd7d56b33d66abf1a42c58f4ec9d69bcf876", func := "staddle/staddlelaw04.NarTurned", spec := "narTurned", inPlace := ["internal/bytealg.IndexByteString", "internal/bytealg.IndexByte"], unfollowed := true, recurses := true, loops := true, apart := false }
def NarTurnedSaid : Prop := narTurnedRow.holds Try.pinned (OpenSpec.ofChange narTurnedSpec)

/-- ITS FALSE NEIGHBOUR: 'it returns false'. Refute it at one input. -/
def narTurnedWrong : ChangeSpec := { name := "narTurned", fn := fun _ => fun
  | [d1, d2, d3, d4] => { results := [.lit (.bool false)], args := [d1, d2, d3, d4] }
  | _ => none }
def NarTurnedWrongFalsely : Prop := narTurnedRow.holds Try.pinned (OpenSpec.ofChange narTurnedWrong)

/- THE SECOND FORM. 'bulk': how many values and letters a reading holds, each counted each time it is reached (what is shared counts as often as it is met; a slice's spare places count too). A statement '..UptoSaid' is the law's where the arguments, and the package variables that the reading takes, are together of bulk at most 1048576: NARROWER than '..Said'. Prove '..Said' where nothing that the law and all that it calls make is longer than what came in: it says more and counts as full. Else prove '..UptoSaid'. A law counts once. -/
mutual
def uptoBulk {H : Type} : DataW H → Nat
  | .lit (.string bytes) => bytes.length + 1
  | .lit _ => 1
  | .nil => 1
  | .ptr d => uptoBulk d + 1
  | .slice elems spare => uptoBulkAll elems + uptoBulkAll spare + 1
  | .agg parts => uptoBulkAll parts + 1
  | .iface _ d => uptoBulk d + 1
  | .map entries => uptoBulkEntries entries + 1
  | .held _ => 1
def uptoBulkAll {H : Type} : List (DataW H) → Nat
  | [] => 0
  | d :: r => uptoBulk d + uptoBulkAll r
def uptoBulkEntries {H : Type} : List (Lit × DataW H) → Nat
  | [] => 0
  | x :: r => uptoBulkEntry x + uptoBulkEntries r
def uptoBulkEntry {H : Type} : Lit × DataW H → Nat
  | (.string bytes, d) => bytes.length + uptoBulk d + 1
  | (_, d) => uptoBulk d + 1
 end
def uptoSmall : (H : Type) → List (DataW H) → Bool := fun _ ds => decide (uptoBulkAll ds ≤ 1048576)
def OpenSpec.upto (s : _root_.Go.ChangeSpec) : _root_.Go.OpenSpec := { _root_.Go.OpenSpec.ofChange s with cond := some uptoSmall }

/-- 'staddlelaw04.NarWrites', WHERE WHAT IT READS IS OF BULK AT MOST 1048576: true; the input reads as it did. -/
def narWritesUptoRow : OpenClaim := { program := "ythjihibocobndaa", sum := "cbe3037ea81e8dd55c9c9453fce0cd7d56b33d66abf1a42c58f4ec9d69bcf876", func := "staddle/staddlelaw04.NarWrites", spec := "narWrites", inPlace := ["internal/bytealg.IndexByteString", "internal/bytealg.IndexByte"], unfollowed := true, recurses := true, loops := true, apart := false, narrowed := true }
def NarWritesUptoSaid : Prop := narWritesUptoRow.holds Try.pinned (OpenSpec.upto narWritesSpec)

/-- 'staddlelaw04.NarReads', WHERE WHAT IT READS IS OF BULK AT MOST 1048576: true; the input reads as it did. -/
def narReadsUptoRow : OpenClaim := { program := "ythjihibocobndaa", sum := "cbe3037ea81e8dd55c9c9453fce0cd7d56b33d66abf1a42c58f4ec9d69bcf876", func := "staddle/staddlelaw04.NarReads", spec := "narReads", inPlace := ["internal/bytealg.IndexByteString", "internal/bytealg.IndexByte"], unfollowed := true, recurses := true, apart := false, narrowed := true }
def NarReadsUptoSaid : Prop := narReadsUptoRow.holds Try.pinned (OpenSpec.upto narReadsSpec)

/-- 'staddlelaw04.NarTurned', WHERE WHAT IT READS IS OF BULK AT MOST 1048576: true; the input reads as it did. -/
def narTurnedUptoRow : OpenClaim := { program := "ythjihibocobndaa", sum := "cbe3037ea81e8dd55c9c9453fce0cd7d56b33d66abf1a42c58f4ec9d69bcf876", func := "staddle/staddlelaw04.NarTurned", spec := "narTurned", inPlace := ["internal/bytealg.IndexByteString", "internal/bytealg.IndexByte"], unfollowed := true, recurses := true, loops := true, apart := false, narrowed := true }
def NarTurnedUptoSaid : Prop := narTurnedUptoRow.holds Try.pinned (OpenSpec.upto narTurnedSpec)

end Rows
end Go.Proofs.Ythjihibocobndaa

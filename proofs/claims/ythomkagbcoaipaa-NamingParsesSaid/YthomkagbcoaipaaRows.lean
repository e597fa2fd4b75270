/-
  No cell of these rows narrows 'for every input' (looked for: loops, veiled, ifaces, maps, wideKeys, modest, calm, conditions, laid).
  DERIVED. THE GIVEN ROWS OF THIS SEAT. 3 by the template 'for every input the law returns true; each argument reads behind the call as it read before'; 0 by the template 'total and deterministic' (their statements: YthomkagbcoaipaaTotals.lean).
  GIVEN WITH THE SEED: the statements are not yours to turn. If you find one false, say at which input.
  Laid BY PROGRAM, IN A SANDBOX (cutbox-rows.mjs): the forced cells as the released guide's own fill.sh prints them over the translation cfae6065341874fe… (all of the seat's roots in one cut). By AI agents, Wed Nov 11 2026. No macro, syntax, notation, axiom, sorry.
-/
import Derived.Test.YthomkagbcoaipaaChecked
import GoSem.Claim
import GoSem.ClaimJoined
import GoSem.ClaimMapViews
import Derived.JoinedTies
import Derived.KernelRfl
namespace Go.Proofs.Ythomkagbcoaipaa
/- THE CELL 'sum', in the pinned program and in every row, IS THE sha256 OF THE DUMP (.gsa) THAT YthomkagbcoaipaaProg.lean LOADS. Nothing in Lean hashes anything: it is a label: what it is worth is what the hold of that sum in a sandbox is worth. -/
noncomputable def Try.pinned : Pinned := { name := "ythomkagbcoaipaa", sum := "cfae6065341874fe1520486d2994bb5831276556bddd7f841ce80e5ad56cab23", checked := Try.checked }
namespace Rows
def none {H : Type} : Left H := { results := [], args := [] }

/-- 'staddlelaw06.NamingNames': WHATEVER THE INPUT: true; the input reads as it did. -/
def namingNamesSpec : ChangeSpec := { name := "namingNames", fn := fun _ => fun
  | [d] => { results := [.lit (.bool true)], args := [d] }
  | _ => none }
def namingNamesRow : OpenClaim := { program := "ythomkagbcoaipaa", sum := "cfae6065341874fe1520486d2994bb5831276556bddd7f841ce80e5ad56cab23", func := "staddle/staddlelaw06.NamingNames", spec := "namingNames", inPlace := ["internal/bytealg.IndexByteString"], apart := false }
def NamingNamesSaid : Prop := namingNamesRow.holds Try.pinned (OpenSpec.ofChange namingNamesSpec)

/-- ITS FALSE NEIGHBOUR: 'it returns false'. Refute it at one input. -/
def namingNamesWrong : ChangeSpec := { name := "namingNames", fn := fun _ => fun
  | [d] => { results := [.lit (.bool false)], args := [d] }
  | _ => none }
def NamingNamesWrongFalsely : Prop := namingNamesRow.holds Try.pinned (OpenSpec.ofChange namingNamesWrong)

/-- 'staddlelaw06.NamingPaths': WHATEVER THE INPUT: true; the input reads as it did. -/
def namingPathsSpec : ChangeSpec := { name := "namingPaths", fn := fun _ => fun
  | [d1, d2] => { results := [.lit (.bool true)], args := [d1, d2] }
  | _ => none }
def namingPathsRow : OpenClaim := { program := "ythomkagbcoaipaa", sum := "cfae6065341874fe1520486d2994bb5831276556bddd7f841ce80e5ad56cab23", func := "staddle/staddlelaw06.NamingPaths", spec := "namingPaths", inPlace := ["internal/bytealg.IndexByteString"], apart := false }
def NamingPathsSaid : Prop := namingPathsRow.holds Try.pinned (OpenSpec.ofChange namingPathsSpec)

/-- ITS FALSE NEIGHBOUR: 'it returns false'. Refute it at one input. -/
def namingPathsWrong : ChangeSpec := { name := "namingPaths", fn := fun _ => fun
  | [d1, d2] => { results := [.lit (.bool false)], args := [d1, d2] }
  | _ => none }
def NamingPathsWrongFalsely : Prop := namingPathsRow.holds Try.pinned (OpenSpec.ofChange namingPathsWrong)

/-- 'staddlelaw06.NamingParses': WHATEVER THE INPUT: true; the input reads as it did. -/
def namingParsesSpec : ChangeSpec := { name := "namingParses", fn := fun _ => fun
  | [d] => { results := [.lit (.bool true)], args := [d] }
  | _ => none }
def namingParsesRow : OpenClaim := { program := "ythomkagbcoaipaa", sum := "cfae6065341874fe1520486d2994bb5831276556bddd7f841ce80e5ad56cab23", func := "staddle/staddlelaw06.NamingParses", spec := "namingParses", inPlace := ["internal/bytealg.IndexByteString"], apart := false }
def NamingParsesSaid : Prop := namingParsesRow.holds Try.pinned (OpenSpec.ofChange namingParsesSpec)

/-- ITS FALSE NEIGHBOUR: 'it returns false'. Refute it at one input. -/
def namingParsesWrong : ChangeSpec := { name := "namingParses", fn := fun _ => fun
  | [d] => { results := [.lit (.bool false)], args := [d] }
  | _ => none }
def NamingParsesWrongFalsely : Prop := namingParsesRow.holds Try.pinned (OpenSpec.ofChange namingParsesWrong)

/- THE SECOND FORM. 'bulk': how many values and letters a reading holds, each counted each time it is reached (what is shared counts as often as it is met; a slice's spare places count too). A statement '..UptoSaid' is the law's where the arguments, and the package variables that the reading takes, are together of bulk at most 1048576: NARROWER than '..Said'. Prove '..Said' where nothing that the law and all that it calls make is longer than what came in: it says more and counts as full. Else prove '..UptoSaid'. A law counts once. -/
mutual
def uptoBulk {H : Type} : DataW H → Nat
  | .lit (.string bytes) => bytes.length + 1
  | .lit _ => 1
  | .nil => 1
  | .ptr d => uptoBulk d + 1
  | .slice elems spare => uptoBulkAll elems + uptoBulkAll spare + 1
  | .agg parts => uptoBulkAll parts + 1
  | .iface _ d => uptoBulk d + 1
  | .map entries => uptoBulkEntries entries + 1
  | .held _ => 1
def uptoBulkAll {H : Type} : List (DataW H) → Nat
  | [] => 0
  | d :: r => uptoBulk d + uptoBulkAll r
def uptoBulkEntries {H : Type} : List (Lit × DataW H) → Nat
  | [] => 0
  | x :: r => uptoBulkEntry x + uptoBulkEntries r
def uptoBulkEntry {H : Type} : Lit × DataW H → Nat
  | (.string bytes, d) => bytes.length + uptoBulk d + 1
  | (_, d) => uptoBulk d + 1
 end
def uptoSmall : (H : Type) → List (DataW H) → Bool := fun _ ds => decide (uptoBulkAll ds ≤ 1048576)
def OpenSpec.upto (s : _root_.Go.ChangeSpec) : _root_.Go.OpenSpec := { _root_.Go.OpenSpec.ofChange s with cond := some uptoSmall }

/-- 'staddlelaw06.NamingNames', WHERE WHAT IT READS IS OF BULK AT MOST 1048576: true; the input reads as it did. -/
def namingNamesUptoRow : OpenClaim := { program := "ythomkagbcoaipaa", sum := "cfae6065341874fe1520486d2994bb5831276556bddd7f841ce80e5ad56cab23", func := "staddle/staddlelaw06.NamingNames", spec := "namingNames", inPlace := ["internal/bytealg.IndexByteString"], apart := false, narrowed := true }
def NamingNamesUptoSaid : Prop := namingNamesUptoRow.holds Try.pinned (OpenSpec.upto namingNamesSpec)

/-- 'staddlelaw06.NamingPaths', WHERE WHAT IT READS IS OF BULK AT MOST 1048576: true; the input reads as it did. -/
def namingPathsUptoRow : OpenClaim := { program := "ythomkagbcoaipaa", sum := "cfae6065341874fe1520486d2994bb5831276556bddd7f841ce80e5ad56cab23", func := "staddle/staddlelaw06.NamingPaths", spec := "namingPaths", inPlace := ["internal/bytealg.IndexByteString"], apart := false, narrowed := true }
def NamingPathsUptoSaid : Prop := namingPathsUptoRow.holds Try.pinned (OpenSpec.upto namingPathsSpec)

/-- 'staddlelaw06.NamingParses', WHERE WHAT IT READS IS OF BULK AT MOST 1048576: true; the input reads as it did. -/
def namingParsesUptoRow : OpenClaim := { program := "ythomkagbcoaipaa", sum := "cfae6065341874fe1520486d2994bb5831276556bddd7f841ce80e5ad56cab23", func := "staddle/staddlelaw06.NamingParses", spec := "namingParses", inPlace := ["internal/bytealg.IndexByteString"], apart := false, narrowed := true }
def NamingParsesUptoSaid : Prop := namingParsesUptoRow.holds Try.pinned (OpenSpec.upto namingParsesSpec)

end Rows
end Go.Proofs.Ythomkagbcoaipaa

/-
  No cell of these rows narrows 'for every input' (looked for: loops, veiled, ifaces, maps, wideKeys, modest, calm, conditions, laid).
  DERIVED. THE GIVEN ROWS OF THIS SEAT. 2 by the template 'for every input the law returns true; each argument reads behind the call as it read before'; 0 by the template 'total and deterministic' (their statements: YtokbakpbhpknfaaTotals.lean).
  GIVEN WITH THE SEED: the statements are not yours to turn. If you find one false, say at which input.
  Laid BY PROGRAM, IN A SANDBOX (cutbox-rows.mjs): the forced cells as the released guide's own fill.sh prints them over the translation b290a69ba0f7c52b… (all of the seat's roots in one cut). By AI agents, Wed Nov 11 2026. No macro, syntax, notation, axiom, sorry.
-/
import Derived.Test.YtokbakpbhpknfaaChecked
import GoSem.Claim
import GoSem.ClaimJoined
import GoSem.ClaimMapViews
import Derived.JoinedTies
import Derived.KernelRfl
namespace Go.Proofs.Ytokbakpbhpknfaa
/- THE CELL 'sum', in the pinned program and in every row, IS THE sha256 OF THE DUMP (.gsa) THAT YtokbakpbhpknfaaProg.lean LOADS. Nothing in Lean hashes anything: it is a label: what it is worth is what the hold of that sum in a sandbox is worth. -/
noncomputable def Try.pinned : Pinned := { name := "ytokbakpbhpknfaa", sum := "b290a69ba0f7c52ba55de51aa8f0aacb8a4be881a072c1b26143591ef8c3de37", checked := Try.checked }
namespace Rows
def none {H : Type} : Left H := { results := [], args := [] }

/-- 'staddlelaw10.DrvTexts': WHATEVER THE INPUT: true; the input reads as it did. -/
def drvTextsSpec : ChangeSpec := { name := "drvTexts", fn := fun _ => fun
  | [d] => { results := [.lit (.bool true)], args := [d] }
  | _ => none }
def drvTextsRow : OpenClaim := { program := "ytokbakpbhpknfaa", sum := "b290a69ba0f7c52ba55de51aa8f0aacb8a4be881a072c1b26143591ef8c3de37", func := "staddle/staddlelaw10.DrvTexts", spec := "drvTexts", inPlace := ["internal/bytealg.IndexByteString", "internal/abi.NoEscape", "internal/bytealg.MakeNoZero"], unfollowed := true, recurses := true, apart := false }
def DrvTextsSaid : Prop := drvTextsRow.holds Try.pinned (OpenSpec.ofChange drvTextsSpec)

/-- ITS FALSE NEIGHBOUR: 'it returns false'. Refute it at one input. -/
def drvTextsWrong : ChangeSpec := { name := "drvTexts", fn := fun _ => fun
  | [d] => { results := [.lit (.bool false)], args := [d] }
  | _ => none }
def DrvTextsWrongFalsely : Prop := drvTextsRow.holds Try.pinned (OpenSpec.ofChange drvTextsWrong)

/-- 'staddlelaw10.DrvReads': WHATEVER THE INPUT: true; the input reads as it did. -/
def drvReadsSpec : ChangeSpec := { name := "drvReads", fn := fun _ => fun
  | [d] => { results := [.lit (.bool true)], args := [d] }
  | _ => none }
def drvReadsRow : OpenClaim := { program := "ytokbakpbhpknfaa", sum := "b290a69ba0f7c52ba55de51aa8f0aacb8a4be881a072c1b26143591ef8c3de37", func := "staddle/staddlelaw10.DrvReads", spec := "drvReads", inPlace := ["internal/bytealg.IndexByteString", "internal/abi.NoEscape", "internal/bytealg.MakeNoZero"], unfollowed := true, recurses := true, apart := false }
def DrvReadsSaid : Prop := drvReadsRow.holds Try.pinned (OpenSpec.ofChange drvReadsSpec)

/-- ITS FALSE NEIGHBOUR: 'it returns false'. Refute it at one input. -/
def drvReadsWrong : ChangeSpec := { name := "drvReads", fn := fun _ => fun
  | [d] => { results := [.lit (.bool false)], args := [d] }
  | _ => none }
def DrvReadsWrongFalsely : Prop := drvReadsRow.holds Try.pinned (OpenSpec.ofChange drvReadsWrong)

/- THE SECOND FORM. 'bulk': how many values and letters a reading holds, each counted each time it is reached (what is shared counts as often as it is met; a slice's spare places count too). A statement '..UptoSaid' is the law's where the arguments, and the package variables that the reading takes, are together of bulk at most 1048576: NARROWER than '..Said'. Prove '..Said' where nothing that the law and all that it calls make is longer than what came in: it says more and counts as full. Else prove '..UptoSaid'. A law counts once. -/
mutual
def uptoBulk {H : Type} : DataW H → Nat
  | .lit (.string bytes) => bytes.length + 1
  | .lit _ => 1
  | .nil => 1
  | .ptr d => uptoBulk d + 1
  | .slice elems spare => uptoBulkAll elems + uptoBulkAll spare + 1
  | .agg parts => uptoBulkAll parts + 1
  | .iface _ d => uptoBulk d + 1
  | .map entries => uptoBulkEntries entries + 1
  | .held _ => 1
def uptoBulkAll {H : Type} : List (DataW H) → Nat
  | [] => 0
  | d :: r => uptoBulk d + uptoBulkAll r
def uptoBulkEntries {H : Type} : List (Lit × DataW H) → Nat
  | [] => 0
  | x :: r => uptoBulkEntry x + uptoBulkEntries r
def uptoBulkEntry {H : Type} : Lit × DataW H → Nat
  | (.string bytes, d) => bytes.length + uptoBulk d + 1
  | (_, d) => uptoBulk d + 1
 end
def uptoSmall : (H : Type) → List (DataW H) → Bool := fun _ ds => decide (uptoBulkAll ds ≤ 1048576)
def OpenSpec.upto (s : _root_.Go.ChangeSpec) : _root_.Go.OpenSpec := { _root_.Go.OpenSpec.ofChange s with cond := some uptoSmall }

/-- 'staddlelaw10.DrvTexts', WHERE WHAT IT READS IS OF BULK AT MOST 1048576: true; the input reads as it did. -/
def drvTextsUptoRow : OpenClaim := { program := "ytokbakpbhpknfaa", sum := "b290a69ba0f7c52ba55de51aa8f0aacb8a4be881a072c1b26143591ef8c3de37", func := "staddle/staddlelaw10.DrvTexts", spec := "drvTexts", inPlace := ["internal/bytealg.IndexByteString", "internal/abi.NoEscape", "internal/bytealg.MakeNoZero"], unfollowed := true, recurses := true, apart := false, narrowed := true }
def DrvTextsUptoSaid : Prop := drvTextsUptoRow.holds Try.pinned (OpenSpec.upto drvTextsSpec)

/-- 'staddlelaw10.DrvReads', WHERE WHAT IT READS IS OF BULK AT MOST 1048576: true; the input reads as it did. -/
def drvReadsUptoRow : OpenClaim := { program := "ytokbakpbhpknfaa", sum := "b290a69ba0f7c52ba55de51aa8f0aacb8a4be881a072c1b26143591ef8c3de37", func := "staddle/staddlelaw10.DrvReads", spec := "drvReads", inPlace := ["internal/bytealg.IndexByteString", "internal/abi.NoEscape", "internal/bytealg.MakeNoZero"], unfollowed := true, recurses := true, apart := false, narrowed := true }
def DrvReadsUptoSaid : Prop := drvReadsUptoRow.holds Try.pinned (OpenSpec.upto drvReadsSpec)

end Rows
end Go.Proofs.Ytokbakpbhpknfaa

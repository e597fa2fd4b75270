/-
  NARROWER THAN 'FOR EVERY INPUT', by the rows' own cells (each row's printed sentence says how): RefsTrees: loops.
  DERIVED. THE GIVEN ROWS OF THIS SEAT. 5 by the template 'for every input the law returns true; each argument reads behind the call as it read before'; 0 by the template 'total and deterministic' (their statements: YtcmgafehidgkmaaTotals.lean).
  GIVEN WITH THE SEED: the statements are not yours to turn. If you find one false, say at which input.
  Laid BY PROGRAM, IN A SANDBOX (cutbox-rows.mjs): the forced cells as the released guide's own fill.sh prints them over the translation bf0c8e7281ce2c92… (all of the seat's roots in one cut). By AI agents, Wed Nov 11 2026. No macro, syntax, notation, axiom, sorry.
-/
import Derived.Test.YtcmgafehidgkmaaChecked
import GoSem.Claim
import GoSem.ClaimJoined
import GoSem.ClaimMapViews
import Derived.JoinedTies
import Derived.KernelRfl
namespace Go.Proofs.Ytcmgafehidgkmaa
/- THE CELL 'sum', in the pinned program and in every row, IS THE sha256 OF THE DUMP (.gsa) THAT YtcmgafehidgkmaaProg.lean LOADS. Nothing in Lean hashes anything: it is a label: what it is worth is what the hold of that sum in a sandbox is worth. -/
noncomputable def Try.pinned : Pinned := { name := "ytcmgafehidgkmaa", sum := "bf0c8e7281ce2c921690f6f7838ba7396410401202265468d7026c954ab05142", checked := Try.checked }
namespace Rows
def none {H : Type} : Left H := { results := [], args := [] }

/-- 'staddlelaw07.RefsBytes': WHATEVER THE INPUT: true; the input reads as it did. -/
def refsBytesSpec : ChangeSpec := { name := "refsBytes", fn := fun _ => fun
  | [d1, d2] => { results := [.lit (.bool true)], args := [d1, d2] }
  | _ => none }
def refsBytesRow : OpenClaim := { program := "ytcmgafehidgkmaa", sum := "bf0c8e7281ce2c921690f6f7838ba7396410401202265468d7026c954ab05142", func := "staddle/staddlelaw07.RefsBytes", spec := "refsBytes", inPlace := ["internal/bytealg.IndexByteString"], recurses := true, plainKeys := false, apart := false }
def RefsBytesSaid : Prop := refsBytesRow.holds Try.pinned (OpenSpec.ofChange refsBytesSpec)

/-- ITS FALSE NEIGHBOUR: 'it returns false'. Refute it at one input. -/
def refsBytesWrong : ChangeSpec := { name := "refsBytes", fn := fun _ => fun
  | [d1, d2] => { results := [.lit (.bool false)], args := [d1, d2] }
  | _ => none }
def RefsBytesWrongFalsely : Prop := refsBytesRow.holds Try.pinned (OpenSpec.ofChange refsBytesWrong)

/-- 'staddlelaw07.RefsTrees': WHATEVER THE INPUT: true; the input reads as it did. -/
def refsTreesSpec : ChangeSpec := { name := "refsTrees", fn := fun _ => fun
  | [d1, d2] => { results := [.lit (.bool true)], args := [d1, d2] }
  | _ => none }
def refsTreesRow : OpenClaim := { program := "ytcmgafehidgkmaa", sum := "bf0c8e7281ce2c921690f6f7838ba7396410401202265468d7026c954ab05142", func := "staddle/staddlelaw07.RefsTrees", spec := "refsTrees", inPlace := ["internal/bytealg.IndexByteString"], recurses := true, loops := true, plainKeys := false, apart := false }
def RefsTreesSaid : Prop := refsTreesRow.holds Try.pinned (OpenSpec.ofChange refsTreesSpec)

/-- ITS FALSE NEIGHBOUR: 'it returns false'. Refute it at one input. -/
def refsTreesWrong : ChangeSpec := { name := "refsTrees", fn := fun _ => fun
  | [d1, d2] => { results := [.lit (.bool false)], args := [d1, d2] }
  | _ => none }
def RefsTreesWrongFalsely : Prop := refsTreesRow.holds Try.pinned (OpenSpec.ofChange refsTreesWrong)

/-- 'staddlelaw07.RefsPlaced': WHATEVER THE INPUT: true; the input reads as it did. -/
def refsPlacedSpec : ChangeSpec := { name := "refsPlaced", fn := fun _ => fun
  | [d1, d2, d3] => { results := [.lit (.bool true)], args := [d1, d2, d3] }
  | _ => none }
def refsPlacedRow : OpenClaim := { program := "ytcmgafehidgkmaa", sum := "bf0c8e7281ce2c921690f6f7838ba7396410401202265468d7026c954ab05142", func := "staddle/staddlelaw07.RefsPlaced", spec := "refsPlaced", inPlace := ["internal/bytealg.IndexByteString"], recurses := true, plainKeys := false, apart := false }
def RefsPlacedSaid : Prop := refsPlacedRow.holds Try.pinned (OpenSpec.ofChange refsPlacedSpec)

/-- ITS FALSE NEIGHBOUR: 'it returns false'. Refute it at one input. -/
def refsPlacedWrong : ChangeSpec := { name := "refsPlaced", fn := fun _ => fun
  | [d1, d2, d3] => { results := [.lit (.bool false)], args := [d1, d2, d3] }
  | _ => none }
def RefsPlacedWrongFalsely : Prop := refsPlacedRow.holds Try.pinned (OpenSpec.ofChange refsPlacedWrong)

/-- 'staddlelaw07.RefsParts': WHATEVER THE INPUT: true; the input reads as it did. -/
def refsPartsSpec : ChangeSpec := { name := "refsParts", fn := fun _ => fun
  | [d1, d2, d3] => { results := [.lit (.bool true)], args := [d1, d2, d3] }
  | _ => none }
def refsPartsRow : OpenClaim := { program := "ytcmgafehidgkmaa", sum := "bf0c8e7281ce2c921690f6f7838ba7396410401202265468d7026c954ab05142", func := "staddle/staddlelaw07.RefsParts", spec := "refsParts", inPlace := ["internal/bytealg.IndexByteString"], recurses := true, plainKeys := false, apart := false }
def RefsPartsSaid : Prop := refsPartsRow.holds Try.pinned (OpenSpec.ofChange refsPartsSpec)

/-- ITS FALSE NEIGHBOUR: 'it returns false'. Refute it at one input. -/
def refsPartsWrong : ChangeSpec := { name := "refsParts", fn := fun _ => fun
  | [d1, d2, d3] => { results := [.lit (.bool false)], args := [d1, d2, d3] }
  | _ => none }
def RefsPartsWrongFalsely : Prop := refsPartsRow.holds Try.pinned (OpenSpec.ofChange refsPartsWrong)

/-- 'staddlelaw07.RefsWhere': WHATEVER THE INPUT: true; the input reads as it did. -/
def refsWhereSpec : ChangeSpec := { name := "refsWhere", fn := fun _ => fun
  | [d1, d2, d3, d4] => { results := [.lit (.bool true)], args := [d1, d2, d3, d4] }
  | _ => none }
def refsWhereRow : OpenClaim := { program := "ytcmgafehidgkmaa", sum := "bf0c8e7281ce2c921690f6f7838ba7396410401202265468d7026c954ab05142", func := "staddle/staddlelaw07.RefsWhere", spec := "refsWhere", inPlace := ["internal/bytealg.IndexByteString"], recurses := true, plainKeys := false, apart := false }
def RefsWhereSaid : Prop := refsWhereRow.holds Try.pinned (OpenSpec.ofChange refsWhereSpec)

/-- ITS FALSE NEIGHBOUR: 'it returns false'. Refute it at one input. -/
def refsWhereWrong : ChangeSpec := { name := "refsWhere", fn := fun _ => fun
  | [d1, d2, d3, d4] => { results := [.lit (.bool false)], args := [d1, d2, d3, d4] }
  | _ => none }
def RefsWhereWrongFalsely : Prop := refsWhereRow.holds Try.pinned (OpenSpec.ofChange refsWhereWrong)

/- THE SECOND FORM. 'bulk': how many values and letters a reading holds, each counted each time it is reached (what is shared counts as often as it is met; a slice's spare places count too). A statement '..UptoSaid' is the law's where the arguments, and the package variables that the reading takes, are together of bulk at most 1048576: NARROWER than '..Said'. Prove '..Said' where nothing that the law and all that it calls make is longer than what came in: it says more and counts as full. Else prove '..UptoSaid'. A law counts once. -/
mutual
def uptoBulk {H : Type} : DataW H → Nat
  | .lit (.string bytes) => bytes.length + 1
  | .lit _ => 1
  | .nil => 1
  | .ptr d => uptoBulk d + 1
  | .slice elems spare => uptoBulkAll elems + uptoBulkAll spare + 1
  | .agg parts => uptoBulkAll parts + 1
  | .iface _ d => uptoBulk d + 1
  | .map entries => uptoBulkEntries entries + 1
  | .held _ => 1
def uptoBulkAll {H : Type} : List (DataW H) → Nat
  | [] => 0
  | d :: r => uptoBulk d + uptoBulkAll r
def uptoBulkEntries {H : Type} : List (Lit × DataW H) → Nat
  | [] => 0
  | x :: r => uptoBulkEntry x + uptoBulkEntries r
def uptoBulkEntry {H : Type} : Lit × DataW H → Nat
  | (.string bytes, d) => bytes.length + uptoBulk d + 1
  | (_, d) => uptoBulk d + 1
 end
def uptoSmall : (H : Type) → List (DataW H) → Bool := fun _ ds => decide (uptoBulkAll ds ≤ 1048576)
def OpenSpec.upto (s : _root_.Go.ChangeSpec) : _root_.Go.OpenSpec := { _root_.Go.OpenSpec.ofChange s with cond := some uptoSmall }

/-- 'staddlelaw07.RefsBytes', WHERE WHAT IT READS IS OF BULK AT MOST 1048576: true; the input reads as it did. -/
def refsBytesUptoRow : OpenClaim := { program := "ytcmgafehidgkmaa", sum := "bf0c8e7281ce2c921690f6f7838ba7396410401202265468d7026c954ab05142", func := "staddle/staddlelaw07.RefsBytes", spec := "refsBytes", inPlace := ["internal/bytealg.IndexByteString"], recurses := true, plainKeys := false, apart := false, narrowed := true }
def RefsBytesUptoSaid : Prop := refsBytesUptoRow.holds Try.pinned (OpenSpec.upto refsBytesSpec)

/-- 'staddlelaw07.RefsTrees', WHERE WHAT IT READS IS OF BULK AT MOST 1048576: true; the input reads as it did. -/
def refsTreesUptoRow : OpenClaim := { program := "ytcmgafehidgkmaa", sum := "bf0c8e7281ce2c921690f6f7838ba7396410401202265468d7026c954ab05142", func := "staddle/staddlelaw07.RefsTrees", spec := "refsTrees", inPlace := ["internal/bytealg.IndexByteString"], recurses := true, loops := true, plainKeys := false, apart := false, narrowed := true }
def RefsTreesUptoSaid : Prop := refsTreesUptoRow.holds Try.pinned (OpenSpec.upto refsTreesSpec)

/-- 'staddlelaw07.RefsPlaced', WHERE WHAT IT READS IS OF BULK AT MOST 1048576: true; the input reads as it did. -/
def refsPlacedUptoRow : OpenClaim := { program := "ytcmgafehidgkmaa", sum := "bf0c8e7281ce2c921690f6f7838ba7396410401202265468d7026c954ab05142", func := "staddle/staddlelaw07.RefsPlaced", spec := "refsPlaced", inPlace := ["internal/bytealg.IndexByteString"], recurses := true, plainKeys := false, apart := false, narrowed := true }
def RefsPlacedUptoSaid : Prop := refsPlacedUptoRow.holds Try.pinned (OpenSpec.upto refsPlacedSpec)

/-- 'staddlelaw07.RefsParts', WHERE WHAT IT READS IS OF BULK AT MOST 1048576: true; the input reads as it did. -/
def refsPartsUptoRow : OpenClaim := { program := "ytcmgafehidgkmaa", sum := "bf0c8e7281ce2c921690f6f7838ba7396410401202265468d7026c954ab05142", func := "staddle/staddlelaw07.RefsParts", spec := "refsParts", inPlace := ["internal/bytealg.IndexByteString"], recurses := true, plainKeys := false, apart := false, narrowed := true }
def RefsPartsUptoSaid : Prop := refsPartsUptoRow.holds Try.pinned (OpenSpec.upto refsPartsSpec)

/-- 'staddlelaw07.RefsWhere', WHERE WHAT IT READS IS OF BULK AT MOST 1048576: true; the input reads as it did. -/
def refsWhereUptoRow : OpenClaim := { program := "ytcmgafehidgkmaa", sum := "bf0c8e7281ce2c921690f6f7838ba7396410401202265468d7026c954ab05142", func := "staddle/staddlelaw07.RefsWhere", spec := "refsWhere", inPlace := ["internal/bytealg.IndexByteString"], recurses := true, plainKeys := false, apart := false, narrowed := true }
def RefsWhereUptoSaid : Prop := refsWhereUptoRow.holds Try.pinned (OpenSpec.upto refsWhereSpec)

end Rows
end Go.Proofs.Ytcmgafehidgkmaa

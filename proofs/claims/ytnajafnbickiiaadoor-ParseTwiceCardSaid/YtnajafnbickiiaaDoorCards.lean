/-
  DERIVED. GIVEN WITH THE SEED: THE CARDS: each row of YtnajafnbickiiaaDoorRows.lean that lists a variable, with what it lists TIED to the program's text (the seventh form; the later family's looks); each row that meets fmt, with fmt's text TOLD by the authors' own Lean function (tested against real Go, not proved from fmt's source: count such statements apart). THE CARD IS WHAT COUNTS. Prove the row's statement (the work); the ties are given (YtnajafnbickiiaaDoorTie.lean); close each card by the builder's one call (the guide's Derived/Test/ToyasCard.lean, 'card_holds'). Laid BY PROGRAM, IN A SANDBOX (cutbox-door.mjs). By AI agents, Wed Nov 11 2026. No macro, syntax, notation, axiom, sorry.
-/
import Derived.Test.YtnajafnbickiiaaDoorRows
import GoSem.ClaimSeven
namespace Go.Proofs.YtnajafnbickiiaaDoor
namespace Rows

/-- THE TIED CARD OF 'staddlelaw09.ParseOrder'. -/
def parseOrderCard : Claim7 := { stood := { row := parseOrderRow, standIns := [], harness := (true, "8b3f424a64eefaf47070b07212b1bd5da516e25ee0e4e539ab7c28f10c25d3b0"), looks := true }, kinds := [], alts := [], laidByText := true, laidKinds := [.data, .data, .data, .sentinel, .sentinel, .data, .data, .data], laidTests := true, laidLooks := .later }
def ParseOrderCardSaid : Prop := Claim7.holds Tryd.pinned (.plain (OpenSpec.ofChange parseOrderSpec)) parseOrderCard

/-- THE TIED CARD OF 'staddlelaw09.ParseDeep'. -/
def parseDeepCard : Claim7 := { stood := { row := parseDeepRow, standIns := [], harness := (true, "8b3f424a64eefaf47070b07212b1bd5da516e25ee0e4e539ab7c28f10c25d3b0"), looks := true }, kinds := [], alts := [], laidByText := true, laidKinds := [.data, .data, .data, .sentinel, .sentinel, .data, .data, .data], laidTests := true, laidLooks := .later }
def ParseDeepCardSaid : Prop := Claim7.holds Tryd.pinned (.plain (OpenSpec.ofChange parseDeepSpec)) parseDeepCard

/-- THE TIED CARD OF 'staddlelaw09.ParseTwice'. -/
def parseTwiceCard : Claim7 := { stood := { row := parseTwiceRow, standIns := [], harness := (true, "8b3f424a64eefaf47070b07212b1bd5da516e25ee0e4e539ab7c28f10c25d3b0"), looks := true }, kinds := [], alts := [], laidByText := true, laidKinds := [.data, .data, .data, .sentinel, .sentinel, .data, .data, .data], laidTests := true, laidLooks := .later }
def ParseTwiceCardSaid : Prop := Claim7.holds Tryd.pinned (.plain (OpenSpec.ofChange parseTwiceSpec)) parseTwiceCard

/-- THE SECOND FORM's CARD OF 'staddlelaw09.ParseOrder'. -/
def parseOrderUptoCard : Claim7 := { stood := { row := parseOrderUptoRow, standIns := [], harness := (true, "8b3f424a64eefaf47070b07212b1bd5da516e25ee0e4e539ab7c28f10c25d3b0"), looks := true }, kinds := [], alts := [], laidByText := true, laidKinds := [.data, .data, .data, .sentinel, .sentinel, .data, .data, .data], laidTests := true, laidLooks := .later }
def ParseOrderUptoCardSaid : Prop := Claim7.holds Tryd.pinned (.plain (OpenSpec.upto parseOrderSpec)) parseOrderUptoCard

/-- THE SECOND FORM's CARD OF 'staddlelaw09.ParseDeep'. -/
def parseDeepUptoCard : Claim7 := { stood := { row := parseDeepUptoRow, standIns := [], harness := (true, "8b3f424a64eefaf47070b07212b1bd5da516e25ee0e4e539ab7c28f10c25d3b0"), looks := true }, kinds := [], alts := [], laidByText := true, laidKinds := [.data, .data, .data, .sentinel, .sentinel, .data, .data, .data], laidTests := true, laidLooks := .later }
def ParseDeepUptoCardSaid : Prop := Claim7.holds Tryd.pinned (.plain (OpenSpec.upto parseDeepSpec)) parseDeepUptoCard

/-- THE SECOND FORM's CARD OF 'staddlelaw09.ParseTwice'. -/
def parseTwiceUptoCard : Claim7 := { stood := { row := parseTwiceUptoRow, standIns := [], harness := (true, "8b3f424a64eefaf47070b07212b1bd5da516e25ee0e4e539ab7c28f10c25d3b0"), looks := true }, kinds := [], alts := [], laidByText := true, laidKinds := [.data, .data, .data, .sentinel, .sentinel, .data, .data, .data], laidTests := true, laidLooks := .later }
def ParseTwiceUptoCardSaid : Prop := Claim7.holds Tryd.pinned (.plain (OpenSpec.upto parseTwiceSpec)) parseTwiceUptoCard
end Rows
end Go.Proofs.YtnajafnbickiiaaDoor

/-
  DERIVED. GIVEN WITH THE SEED: THE CARDS: each row of YtaknkiejjnilnaaDoorRows.lean that lists a variable, with what it lists TIED to the program's text (the seventh form; the later family's looks); each row that meets fmt, with fmt's text TOLD by the authors' own Lean function (tested against real Go, not proved from fmt's source: count such statements apart). THE CARD IS WHAT COUNTS. Prove the row's statement (the work); the ties are given (YtaknkiejjnilnaaDoorTie.lean); close each card by the builder's one call (the guide's Derived/Test/ToyasCard.lean, 'card_holds'). Laid BY PROGRAM, IN A SANDBOX (cutbox-door.mjs). By AI agents, Wed Nov 11 2026. No macro, syntax, notation, axiom, sorry.
-/
import Derived.Test.YtaknkiejjnilnaaDoorRows
import GoSem.ClaimSeven
namespace Go.Proofs.YtaknkiejjnilnaaDoor
namespace Rows

/-- THE TIED CARD OF 'staddlelaw04.NarSums'. -/
def narSumsCard : Claim7 := { stood := { row := narSumsRow, standIns := [], harness := (true, "6dd753d34deac87f9d2b5d1454726d4a9cc59c08a4b616c490cb6946c8d52d31"), looks := false }, kinds := [], alts := [], laidByText := true, laidKinds := [.data, .data], laidTests := true, laidLooks := .later }
def NarSumsCardSaid : Prop := Claim7.holds Tryd.pinned (.plain (OpenSpec.ofChange narSumsSpec)) narSumsCard

/-- THE SECOND FORM's CARD OF 'staddlelaw04.NarSums'. -/
def narSumsUptoCard : Claim7 := { stood := { row := narSumsUptoRow, standIns := [], harness := (true, "6dd753d34deac87f9d2b5d1454726d4a9cc59c08a4b616c490cb6946c8d52d31"), looks := false }, kinds := [], alts := [], laidByText := true, laidKinds := [.data, .data], laidTests := true, laidLooks := .later }
def NarSumsUptoCardSaid : Prop := Claim7.holds Tryd.pinned (.plain (OpenSpec.upto narSumsSpec)) narSumsUptoCard
end Rows
end Go.Proofs.YtaknkiejjnilnaaDoor

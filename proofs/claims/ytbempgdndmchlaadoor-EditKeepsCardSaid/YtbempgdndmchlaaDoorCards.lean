/-
  DERIVED. GIVEN WITH THE SEED: THE CARDS: each row of YtbempgdndmchlaaDoorRows.lean that lists a variable, with what it lists TIED to the program's text (the seventh form; the later family's looks); each row that meets fmt, with fmt's text TOLD by the authors' own Lean function (tested against real Go, not proved from fmt's source: count such statements apart). THE CARD IS WHAT COUNTS. Prove the row's statement (the work); the ties are given (YtbempgdndmchlaaDoorTie.lean); close each card by the builder's one call (the guide's Derived/Test/ToyasCard.lean, 'card_holds'). Laid BY PROGRAM, IN A SANDBOX (cutbox-door.mjs). By AI agents, Wed Nov 11 2026. No macro, syntax, notation, axiom, sorry.
-/
import Derived.Test.YtbempgdndmchlaaDoorRows
import GoSem.ClaimSeven
namespace Go.Proofs.YtbempgdndmchlaaDoor
namespace Rows

/-- THE TIED CARD OF 'staddlelaw05.EditApplies'. -/
def editAppliesCard : Claim7 := { stood := { row := editAppliesRow, standIns := [], harness := (true, "63bdd8d6549a040378fadf121a13dd51d1d432d93a3617948e79764659b950f0"), looks := false }, kinds := [], alts := [], laidByText := true, laidKinds := [.data, .pinned], laidTests := true, laidLooks := .later }
def EditAppliesCardSaid : Prop := Claim7.holds Tryd.pinned (.plain (OpenSpec.ofChange editAppliesSpec)) editAppliesCard

/-- THE TIED CARD OF 'staddlelaw05.EditParts'. -/
def editPartsCard : Claim7 := { stood := { row := editPartsRow, standIns := [], harness := (true, "63bdd8d6549a040378fadf121a13dd51d1d432d93a3617948e79764659b950f0"), looks := false }, kinds := [], alts := [], laidByText := true, laidKinds := [.data, .pinned], laidTests := true, laidLooks := .later }
def EditPartsCardSaid : Prop := Claim7.holds Tryd.pinned (.plain (OpenSpec.ofChange editPartsSpec)) editPartsCard

/-- THE TIED CARD OF 'staddlelaw05.EditUndone'. -/
def editUndoneCard : Claim7 := { stood := { row := editUndoneRow, standIns := [], harness := (true, "63bdd8d6549a040378fadf121a13dd51d1d432d93a3617948e79764659b950f0"), looks := false }, kinds := [], alts := [], laidByText := true, laidKinds := [.data, .pinned], laidTests := true, laidLooks := .later }
def EditUndoneCardSaid : Prop := Claim7.holds Tryd.pinned (.plain (OpenSpec.ofChange editUndoneSpec)) editUndoneCard

/-- THE TIED CARD OF 'staddlelaw05.EditMoves'. -/
def editMovesCard : Claim7 := { stood := { row := editMovesRow, standIns := [], harness := (true, "63bdd8d6549a040378fadf121a13dd51d1d432d93a3617948e79764659b950f0"), looks := false }, kinds := [], alts := [], laidByText := true, laidKinds := [.data, .pinned], laidTests := true, laidLooks := .later }
def EditMovesCardSaid : Prop := Claim7.holds Tryd.pinned (.plain (OpenSpec.ofChange editMovesSpec)) editMovesCard

/-- THE TIED CARD OF 'staddlelaw05.EditKeeps'. -/
def editKeepsCard : Claim7 := { stood := { row := editKeepsRow, standIns := [], harness := (true, "63bdd8d6549a040378fadf121a13dd51d1d432d93a3617948e79764659b950f0"), looks := false }, kinds := [], alts := [], laidByText := true, laidKinds := [.data, .pinned], laidTests := true, laidLooks := .later }
def EditKeepsCardSaid : Prop := Claim7.holds Tryd.pinned (.plain (OpenSpec.ofChange editKeepsSpec)) editKeepsCard

/-- THE SECOND FORM's CARD OF 'staddlelaw05.EditApplies'. -/
def editAppliesUptoCard : Claim7 := { stood := { row := editAppliesUptoRow, standIns := [], harness := (true, "63bdd8d6549a040378fadf121a13dd51d1d432d93a3617948e79764659b950f0"), looks := false }, kinds := [], alts := [], laidByText := true, laidKinds := [.data, .pinned], laidTests := true, laidLooks := .later }
def EditAppliesUptoCardSaid : Prop := Claim7.holds Tryd.pinned (.plain (OpenSpec.upto editAppliesSpec)) editAppliesUptoCard

/-- THE SECOND FORM's CARD OF 'staddlelaw05.EditParts'. -/
def editPartsUptoCard : Claim7 := { stood := { row := editPartsUptoRow, standIns := [], harness := (true, "63bdd8d6549a040378fadf121a13dd51d1d432d93a3617948e79764659b950f0"), looks := false }, kinds := [], alts := [], laidByText := true, laidKinds := [.data, .pinned], laidTests := true, laidLooks := .later }
def EditPartsUptoCardSaid : Prop := Claim7.holds Tryd.pinned (.plain (OpenSpec.upto editPartsSpec)) editPartsUptoCard

/-- THE SECOND FORM's CARD OF 'staddlelaw05.EditUndone'. -/
def editUndoneUptoCard : Claim7 := { stood := { row := editUndoneUptoRow, standIns := [], harness := (true, "63bdd8d6549a040378fadf121a13dd51d1d432d93a3617948e79764659b950f0"), looks := false }, kinds := [], alts := [], laidByText := true, laidKinds := [.data, .pinned], laidTests := true, laidLooks := .later }
def EditUndoneUptoCardSaid : Prop := Claim7.holds Tryd.pinned (.plain (OpenSpec.upto editUndoneSpec)) editUndoneUptoCard

/-- THE SECOND FORM's CARD OF 'staddlelaw05.EditMoves'. -/
def editMovesUptoCard : Claim7 := { stood := { row := editMovesUptoRow, standIns := [], harness := (true, "63bdd8d6549a040378fadf121a13dd51d1d432d93a3617948e79764659b950f0"), looks := false }, kinds := [], alts := [], laidByText := true, laidKinds := [.data, .pinned], laidTests := true, laidLooks := .later }
def EditMovesUptoCardSaid : Prop := Claim7.holds Tryd.pinned (.plain (OpenSpec.upto editMovesSpec)) editMovesUptoCard

/-- THE SECOND FORM's CARD OF 'staddlelaw05.EditKeeps'. -/
def editKeepsUptoCard : Claim7 := { stood := { row := editKeepsUptoRow, standIns := [], harness := (true, "63bdd8d6549a040378fadf121a13dd51d1d432d93a3617948e79764659b950f0"), looks := false }, kinds := [], alts := [], laidByText := true, laidKinds := [.data, .pinned], laidTests := true, laidLooks := .later }
def EditKeepsUptoCardSaid : Prop := Claim7.holds Tryd.pinned (.plain (OpenSpec.upto editKeepsSpec)) editKeepsUptoCard
end Rows
end Go.Proofs.YtbempgdndmchlaaDoor

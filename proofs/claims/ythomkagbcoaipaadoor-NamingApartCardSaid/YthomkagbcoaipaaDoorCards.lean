/-
  DERIVED. GIVEN WITH THE SEED: THE CARDS: each row of YthomkagbcoaipaaDoorRows.lean that lists a variable, with what it lists TIED to the program's text (the seventh form; the later family's looks); each row that meets fmt, with fmt's text TOLD by the authors' own Lean function (tested against real Go, not proved from fmt's source: count such statements apart). THE CARD IS WHAT COUNTS. Prove the row's statement (the work); the ties are given (YthomkagbcoaipaaDoorTie.lean); close each card by the builder's one call (the guide's Derived/Test/ToyasCard.lean, 'card_holds'). Laid BY PROGRAM, IN A SANDBOX (cutbox-door.mjs). By AI agents, Wed Nov 11 2026. No macro, syntax, notation, axiom, sorry.
-/
import Derived.Test.YthomkagbcoaipaaDoorRows
import GoSem.ClaimSeven
namespace Go.Proofs.YthomkagbcoaipaaDoor
namespace Rows

/-- THE TIED CARD OF 'staddlelaw06.NamingMakes'. -/
def namingMakesCard : Claim7 := { stood := { row := namingMakesRow, standIns := [], harness := (true, "a3167452ff0b8fcc5aaee306db87cd6d7b4906fd9ed5534cd04ae7104c3111cd"), looks := false }, kinds := [], alts := [], laidByText := true, laidKinds := [.data, .data], laidTests := true, laidLooks := .later }
def NamingMakesCardSaid : Prop := Claim7.holds Tryd.pinned (.plain (OpenSpec.ofChange namingMakesSpec)) namingMakesCard

/-- THE TIED CARD OF 'staddlelaw06.NamingApart'. -/
def namingApartCard : Claim7 := { stood := { row := namingApartRow, standIns := [], harness := (true, "a3167452ff0b8fcc5aaee306db87cd6d7b4906fd9ed5534cd04ae7104c3111cd"), looks := false }, kinds := [], alts := [], laidByText := true, laidKinds := [.data, .data], laidTests := true, laidLooks := .later }
def NamingApartCardSaid : Prop := Claim7.holds Tryd.pinned (.plain (OpenSpec.ofChange namingApartSpec)) namingApartCard

/-- THE SECOND FORM's CARD OF 'staddlelaw06.NamingMakes'. -/
def namingMakesUptoCard : Claim7 := { stood := { row := namingMakesUptoRow, standIns := [], harness := (true, "a3167452ff0b8fcc5aaee306db87cd6d7b4906fd9ed5534cd04ae7104c3111cd"), looks := false }, kinds := [], alts := [], laidByText := true, laidKinds := [.data, .data], laidTests := true, laidLooks := .later }
def NamingMakesUptoCardSaid : Prop := Claim7.holds Tryd.pinned (.plain (OpenSpec.upto namingMakesSpec)) namingMakesUptoCard

/-- THE SECOND FORM's CARD OF 'staddlelaw06.NamingApart'. -/
def namingApartUptoCard : Claim7 := { stood := { row := namingApartUptoRow, standIns := [], harness := (true, "a3167452ff0b8fcc5aaee306db87cd6d7b4906fd9ed5534cd04ae7104c3111cd"), looks := false }, kinds := [], alts := [], laidByText := true, laidKinds := [.data, .data], laidTests := true, laidLooks := .later }
def NamingApartUptoCardSaid : Prop := Claim7.holds Tryd.pinned (.plain (OpenSpec.upto namingApartSpec)) namingApartUptoCard
end Rows
end Go.Proofs.YthomkagbcoaipaaDoor

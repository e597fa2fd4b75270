/-
  DERIVED. GIVEN WITH THE SEED: THE CARDS: each row of YtokbakpbhpknfaaGreatDoorRows.lean that lists a variable, with what it lists TIED to the program's text (the seventh form; the later family's looks); each row that meets fmt, with fmt's text TOLD by the authors' own Lean function (tested against real Go, not proved from fmt's source: count such statements apart). THE CARD IS WHAT COUNTS. Prove the row's statement (the work); the ties are given (YtokbakpbhpknfaaGreatDoorTie.lean); close each card by the builder's one call (the guide's Derived/Test/ToyasCard.lean, 'card_holds'). Laid BY PROGRAM, IN A SANDBOX (cutbox-door.mjs). By AI agents, Wed Nov 11 2026. No macro, syntax, notation, axiom, sorry.
-/
import Derived.Test.YtokbakpbhpknfaaGreatDoorRows
import GoSem.ClaimSeven
namespace Go.Proofs.YtokbakpbhpknfaaGreatDoor
namespace Rows

/-- THE TIED CARD OF 'staddlelaw10.DrvPaths'. -/
def drvPathsCard : Claim7 := { stood := { row := drvPathsRow, standIns := [], harness := (true, "5260d7a2edb95ae9dad7200f5c3a72f9deb68d75d583e5408cebd3b418767901"), looks := false }, kinds := [], alts := [], laidByText := true, laidKinds := [.data, .data], laidTests := true, laidLooks := .later }
def DrvPathsCardSaid : Prop := Claim7.holds Tryz.pinned (.plain (OpenSpec.ofChange drvPathsSpec)) drvPathsCard

/-- THE TIED CARD OF 'staddlelaw10.DrvFixed'. -/
def drvFixedCard : Claim7 := { stood := { row := drvFixedRow, standIns := [], harness := (true, "5260d7a2edb95ae9dad7200f5c3a72f9deb68d75d583e5408cebd3b418767901"), looks := false }, kinds := [], alts := [], laidByText := true, laidKinds := [.data, .data], laidTests := true, laidLooks := .later }
def DrvFixedCardSaid : Prop := Claim7.holds Tryz.pinned (.plain (OpenSpec.ofChange drvFixedSpec)) drvFixedCard

/-- THE TIED CARD OF 'staddlelaw10.DrvOrder'. -/
def drvOrderCard : Claim7 := { stood := { row := drvOrderRow, standIns := [], harness := (true, "5260d7a2edb95ae9dad7200f5c3a72f9deb68d75d583e5408cebd3b418767901"), looks := false }, kinds := [], alts := [], laidByText := true, laidKinds := [.data, .data], laidTests := true, laidLooks := .later }
def DrvOrderCardSaid : Prop := Claim7.holds Tryz.pinned (.plain (OpenSpec.ofChange drvOrderSpec)) drvOrderCard

/-- THE TIED CARD OF 'staddlelaw10.DrvApart'. -/
def drvApartCard : Claim7 := { stood := { row := drvApartRow, standIns := [], harness := (true, "5260d7a2edb95ae9dad7200f5c3a72f9deb68d75d583e5408cebd3b418767901"), looks := false }, kinds := [], alts := [], laidByText := true, laidKinds := [.data, .data], laidTests := true, laidLooks := .later }
def DrvApartCardSaid : Prop := Claim7.holds Tryz.pinned (.plain (OpenSpec.ofChange drvApartSpec)) drvApartCard

/-- THE SECOND FORM's CARD OF 'staddlelaw10.DrvPaths'. -/
def drvPathsUptoCard : Claim7 := { stood := { row := drvPathsUptoRow, standIns := [], harness := (true, "5260d7a2edb95ae9dad7200f5c3a72f9deb68d75d583e5408cebd3b418767901"), looks := false }, kinds := [], alts := [], laidByText := true, laidKinds := [.data, .data], laidTests := true, laidLooks := .later }
def DrvPathsUptoCardSaid : Prop := Claim7.holds Tryz.pinned (.plain (OpenSpec.upto drvPathsSpec)) drvPathsUptoCard

/-- THE SECOND FORM's CARD OF 'staddlelaw10.DrvFixed'. -/
def drvFixedUptoCard : Claim7 := { stood := { row := drvFixedUptoRow, standIns := [], harness := (true, "5260d7a2edb95ae9dad7200f5c3a72f9deb68d75d583e5408cebd3b418767901"), looks := false }, kinds := [], alts := [], laidByText := true, laidKinds := [.data, .data], laidTests := true, laidLooks := .later }
def DrvFixedUptoCardSaid : Prop := Claim7.holds Tryz.pinned (.plain (OpenSpec.upto drvFixedSpec)) drvFixedUptoCard

/-- THE SECOND FORM's CARD OF 'staddlelaw10.DrvOrder'. -/
def drvOrderUptoCard : Claim7 := { stood := { row := drvOrderUptoRow, standIns := [], harness := (true, "5260d7a2edb95ae9dad7200f5c3a72f9deb68d75d583e5408cebd3b418767901"), looks := false }, kinds := [], alts := [], laidByText := true, laidKinds := [.data, .data], laidTests := true, laidLooks := .later }
def DrvOrderUptoCardSaid : Prop := Claim7.holds Tryz.pinned (.plain (OpenSpec.upto drvOrderSpec)) drvOrderUptoCard

/-- THE SECOND FORM's CARD OF 'staddlelaw10.DrvApart'. -/
def drvApartUptoCard : Claim7 := { stood := { row := drvApartUptoRow, standIns := [], harness := (true, "5260d7a2edb95ae9dad7200f5c3a72f9deb68d75d583e5408cebd3b418767901"), looks := false }, kinds := [], alts := [], laidByText := true, laidKinds := [.data, .data], laidTests := true, laidLooks := .later }
def DrvApartUptoCardSaid : Prop := Claim7.holds Tryz.pinned (.plain (OpenSpec.upto drvApartSpec)) drvApartUptoCard
end Rows
end Go.Proofs.YtokbakpbhpknfaaGreatDoor

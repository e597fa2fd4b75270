/-
  DERIVED. GIVEN WITH THE SEED: THE CARDS: each row of YtlccdenafnekjaaGreatDoorRows.lean that lists a variable, with what it lists TIED to the program's text (the seventh form; the later family's looks); each row that meets fmt, with fmt's text TOLD by the authors' own Lean function (tested against real Go, not proved from fmt's source: count such statements apart). THE CARD IS WHAT COUNTS. Prove the row's statement (the work); the ties are given (YtlccdenafnekjaaGreatDoorTie.lean); close each card by the builder's one call (the guide's Derived/Test/ToyasCard.lean, 'card_holds'). Laid BY PROGRAM, IN A SANDBOX (cutbox-door.mjs). By AI agents, Wed Nov 11 2026. No macro, syntax, notation, axiom, sorry.
-/
import Derived.Test.YtlccdenafnekjaaGreatDoorRows
import GoSem.ClaimSeven
namespace Go.Proofs.YtlccdenafnekjaaGreatDoor
namespace Rows

/-- THE TIED CARD OF 'staddlelaw12.RecipeReads'. -/
def recipeReadsCard : Claim7 := { stood := { row := recipeReadsRow, standIns := [], harness := (true, "355adb29917461416f08d381c113fe8f38cc12e9557891b819b359480271d73a"), looks := false }, kinds := [], alts := [], laidByText := true, laidKinds := [.data, .data, .pinned], laidTests := true, laidLooks := .later }
def RecipeReadsCardSaid : Prop := Claim7.holds Tryz.pinned (.plain (OpenSpec.ofChange recipeReadsSpec)) recipeReadsCard

/-- THE TIED CARD OF 'staddlelaw12.RecipeRuns'. -/
def recipeRunsCard : Claim7 := { stood := { row := recipeRunsRow, standIns := [], harness := (true, "355adb29917461416f08d381c113fe8f38cc12e9557891b819b359480271d73a"), looks := false }, kinds := [], alts := [], laidByText := true, laidKinds := [.data, .data, .pinned], laidTests := true, laidLooks := .later }
def RecipeRunsCardSaid : Prop := Claim7.holds Tryz.pinned (.plain (OpenSpec.ofChange recipeRunsSpec)) recipeRunsCard

/-- THE TIED CARD OF 'staddlelaw12.RecipeTexts'. -/
def recipeTextsCard : Claim7 := { stood := { row := recipeTextsRow, standIns := [], harness := (true, "355adb29917461416f08d381c113fe8f38cc12e9557891b819b359480271d73a"), looks := false }, kinds := [], alts := [], laidByText := true, laidKinds := [.data, .data, .pinned], laidTests := true, laidLooks := .later }
def RecipeTextsCardSaid : Prop := Claim7.holds Tryz.pinned (.plain (OpenSpec.ofChange recipeTextsSpec)) recipeTextsCard

/-- THE TIED CARD OF 'staddlelaw12.RecipeCopies'. -/
def recipeCopiesCard : Claim7 := { stood := { row := recipeCopiesRow, standIns := [], harness := (true, "355adb29917461416f08d381c113fe8f38cc12e9557891b819b359480271d73a"), looks := false }, kinds := [], alts := [], laidByText := true, laidKinds := [.data, .data, .pinned], laidTests := true, laidLooks := .later }
def RecipeCopiesCardSaid : Prop := Claim7.holds Tryz.pinned (.plain (OpenSpec.ofChange recipeCopiesSpec)) recipeCopiesCard

/-- THE TIED CARD OF 'staddlelaw12.RecipeOut'. -/
def recipeOutCard : Claim7 := { stood := { row := recipeOutRow, standIns := [], harness := (true, "355adb29917461416f08d381c113fe8f38cc12e9557891b819b359480271d73a"), looks := false }, kinds := [], alts := [], laidByText := true, laidKinds := [.data, .data, .pinned], laidTests := true, laidLooks := .later }
def RecipeOutCardSaid : Prop := Claim7.holds Tryz.pinned (.plain (OpenSpec.ofChange recipeOutSpec)) recipeOutCard

/-- THE TIED CARD OF 'staddlelaw12.RecipeKeeps'. -/
def recipeKeepsCard : Claim7 := { stood := { row := recipeKeepsRow, standIns := [], harness := (true, "355adb29917461416f08d381c113fe8f38cc12e9557891b819b359480271d73a"), looks := false }, kinds := [], alts := [], laidByText := true, laidKinds := [.data, .data, .pinned], laidTests := true, laidLooks := .later }
def RecipeKeepsCardSaid : Prop := Claim7.holds Tryz.pinned (.plain (OpenSpec.ofChange recipeKeepsSpec)) recipeKeepsCard

/-- THE TIED CARD OF 'staddlelaw12.RecipeWords'. -/
def recipeWordsCard : Claim7 := { stood := { row := recipeWordsRow, standIns := [], harness := (true, "355adb29917461416f08d381c113fe8f38cc12e9557891b819b359480271d73a"), looks := false }, kinds := [], alts := [], laidByText := true, laidKinds := [.data, .data, .pinned], laidTests := true, laidLooks := .later }
def RecipeWordsCardSaid : Prop := Claim7.holds Tryz.pinned (.plain (OpenSpec.ofChange recipeWordsSpec)) recipeWordsCard

/-- THE TIED CARD OF 'staddlelaw12.RecipeParts'. -/
def recipePartsCard : Claim7 := { stood := { row := recipePartsRow, standIns := [], harness := (true, "355adb29917461416f08d381c113fe8f38cc12e9557891b819b359480271d73a"), looks := false }, kinds := [], alts := [], laidByText := true, laidKinds := [.data, .data, .pinned], laidTests := true, laidLooks := .later }
def RecipePartsCardSaid : Prop := Claim7.holds Tryz.pinned (.plain (OpenSpec.ofChange recipePartsSpec)) recipePartsCard

/-- THE SECOND FORM's CARD OF 'staddlelaw12.RecipeReads'. -/
def recipeReadsUptoCard : Claim7 := { stood := { row := recipeReadsUptoRow, standIns := [], harness := (true, "355adb29917461416f08d381c113fe8f38cc12e9557891b819b359480271d73a"), looks := false }, kinds := [], alts := [], laidByText := true, laidKinds := [.data, .data, .pinned], laidTests := true, laidLooks := .later }
def RecipeReadsUptoCardSaid : Prop := Claim7.holds Tryz.pinned (.plain (OpenSpec.upto recipeReadsSpec)) recipeReadsUptoCard

/-- THE SECOND FORM's CARD OF 'staddlelaw12.RecipeRuns'. -/
def recipeRunsUptoCard : Claim7 := { stood := { row := recipeRunsUptoRow, standIns := [], harness := (true, "355adb29917461416f08d381c113fe8f38cc12e9557891b819b359480271d73a"), looks := false }, kinds := [], alts := [], laidByText := true, laidKinds := [.data, .data, .pinned], laidTests := true, laidLooks := .later }
def RecipeRunsUptoCardSaid : Prop := Claim7.holds Tryz.pinned (.plain (OpenSpec.upto recipeRunsSpec)) recipeRunsUptoCard

/-- THE SECOND FORM's CARD OF 'staddlelaw12.RecipeTexts'. -/
def recipeTextsUptoCard : Claim7 := { stood := { row := recipeTextsUptoRow, standIns := [], harness := (true, "355adb29917461416f08d381c113fe8f38cc12e9557891b819b359480271d73a"), looks := false }, kinds := [], alts := [], laidByText := true, laidKinds := [.data, .data, .pinned], laidTests := true, laidLooks := .later }
def RecipeTextsUptoCardSaid : Prop := Claim7.holds Tryz.pinned (.plain (OpenSpec.upto recipeTextsSpec)) recipeTextsUptoCard

/-- THE SECOND FORM's CARD OF 'staddlelaw12.RecipeCopies'. -/
def recipeCopiesUptoCard : Claim7 := { stood := { row := recipeCopiesUptoRow, standIns := [], harness := (true, "355adb29917461416f08d381c113fe8f38cc12e9557891b819b359480271d73a"), looks := false }, kinds := [], alts := [], laidByText := true, laidKinds := [.data, .data, .pinned], laidTests := true, laidLooks := .later }
def RecipeCopiesUptoCardSaid : Prop := Claim7.holds Tryz.pinned (.plain (OpenSpec.upto recipeCopiesSpec)) recipeCopiesUptoCard

/-- THE SECOND FORM's CARD OF 'staddlelaw12.RecipeOut'. -/
def recipeOutUptoCard : Claim7 := { stood := { row := recipeOutUptoRow, standIns := [], harness := (true, "355adb29917461416f08d381c113fe8f38cc12e9557891b819b359480271d73a"), looks := false }, kinds := [], alts := [], laidByText := true, laidKinds := [.data, .data, .pinned], laidTests := true, laidLooks := .later }
def RecipeOutUptoCardSaid : Prop := Claim7.holds Tryz.pinned (.plain (OpenSpec.upto recipeOutSpec)) recipeOutUptoCard

/-- THE SECOND FORM's CARD OF 'staddlelaw12.RecipeKeeps'. -/
def recipeKeepsUptoCard : Claim7 := { stood := { row := recipeKeepsUptoRow, standIns := [], harness := (true, "355adb29917461416f08d381c113fe8f38cc12e9557891b819b359480271d73a"), looks := false }, kinds := [], alts := [], laidByText := true, laidKinds := [.data, .data, .pinned], laidTests := true, laidLooks := .later }
def RecipeKeepsUptoCardSaid : Prop := Claim7.holds Tryz.pinned (.plain (OpenSpec.upto recipeKeepsSpec)) recipeKeepsUptoCard

/-- THE SECOND FORM's CARD OF 'staddlelaw12.RecipeWords'. -/
def recipeWordsUptoCard : Claim7 := { stood := { row := recipeWordsUptoRow, standIns := [], harness := (true, "355adb29917461416f08d381c113fe8f38cc12e9557891b819b359480271d73a"), looks := false }, kinds := [], alts := [], laidByText := true, laidKinds := [.data, .data, .pinned], laidTests := true, laidLooks := .later }
def RecipeWordsUptoCardSaid : Prop := Claim7.holds Tryz.pinned (.plain (OpenSpec.upto recipeWordsSpec)) recipeWordsUptoCard

/-- THE SECOND FORM's CARD OF 'staddlelaw12.RecipeParts'. -/
def recipePartsUptoCard : Claim7 := { stood := { row := recipePartsUptoRow, standIns := [], harness := (true, "355adb29917461416f08d381c113fe8f38cc12e9557891b819b359480271d73a"), looks := false }, kinds := [], alts := [], laidByText := true, laidKinds := [.data, .data, .pinned], laidTests := true, laidLooks := .later }
def RecipePartsUptoCardSaid : Prop := Claim7.holds Tryz.pinned (.plain (OpenSpec.upto recipePartsSpec)) recipePartsUptoCard
end Rows
end Go.Proofs.YtlccdenafnekjaaGreatDoor

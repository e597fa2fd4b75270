/-
  NARROWER THAN 'FOR EVERY INPUT', by the rows' own cells (each row's printed sentence says how): RecipeReads: laid · RecipeRuns: loops, laid · RecipeTexts: loops, laid · RecipeCopies: loops, laid · RecipeOut: laid · RecipeKeeps: loops, laid · RecipeWords: laid · RecipeParts: loops, laid.
  DERIVED. THE GIVEN ROWS OF THIS SEAT. 8 by the template 'for every input the law returns true; each argument reads behind the call as it read before'; 0 by the template 'total and deterministic' (their statements: YtlccdenafnekjaaGreatDoorTotals.lean).
  GIVEN WITH THE SEED: the statements are not yours to turn. If you find one false, say at which input.
  Laid BY PROGRAM, IN A SANDBOX (cutbox-rows.mjs): the forced cells as the released guide's own fill.sh prints them over the translation f28b31198ab81d37… (all of the seat's roots in one cut). By AI agents, Wed Nov 11 2026. No macro, syntax, notation, axiom, sorry.
-/
import Derived.Test.YtlccdenafnekjaaGreatDoorChecked
import GoSem.PinnedTables
import GoSem.Claim
import GoSem.ClaimJoined
import GoSem.ClaimMapViews
import Derived.JoinedTies
import Derived.KernelRfl
namespace Go.Proofs.YtlccdenafnekjaaGreatDoor
/- THE CELL 'sum', in the pinned program and in every row, IS THE sha256 OF THE DUMP (.gsa) THAT YtlccdenafnekjaaGreatDoorProg.lean LOADS. Nothing in Lean hashes anything: it is a label: what it is worth is what the hold of that sum in a sandbox is worth. -/
noncomputable def Tryz.pinned : Pinned := { name := "ytlccdenafnekjaagreatdoor", sum := "f28b31198ab81d37e032f97e5658b77380bacf3b98e5af3de21a489d40c21550", checked := Tryz.checked }
namespace Rows
def none {H : Type} : Left H := { results := [], args := [] }

/- WHAT THE LISTED PACKAGE-LEVEL VARIABLES READ AS WHEN THE CALL BEGINS. Each datum BY PROGRAM (the guide's laid-datum.mjs) off the statement by which the dump's own 'gosem.cut.vars' lays the variable. In a bare row this is a premise. The card (YtlccdenafnekjaaGreatDoorCards.lean) ties it to the program's text. -/
def laid_unicode_utf8_acceptRanges {H : Type} : DataW H := .agg [.agg [.lit (.int .u8 128), .lit (.int .u8 191)], .agg [.lit (.int .u8 160), .lit (.int .u8 191)], .agg [.lit (.int .u8 128), .lit (.int .u8 159)], .agg [.lit (.int .u8 144), .lit (.int .u8 191)], .agg [.lit (.int .u8 128), .lit (.int .u8 143)], .agg [.lit (.int .u8 0), .lit (.int .u8 0)], .agg [.lit (.int .u8 0), .lit (.int .u8 0)], .agg [.lit (.int .u8 0), .lit (.int .u8 0)], .agg [.lit (.int .u8 0), .lit (.int .u8 0)], .agg [.lit (.int .u8 0), .lit (.int .u8 0)], .agg [.lit (.int .u8 0), .lit (.int .u8 0)], .agg [.lit (.int .u8 0), .lit (.int .u8 0)], .agg [.lit (.int .u8 0), .lit (.int .u8 0)], .agg [.lit (.int .u8 0), .lit (.int .u8 0)], .agg [.lit (.int .u8 0), .lit (.int .u8 0)], .agg [.lit (.int .u8 0), .lit (.int .u8 0)]]
def laid_staddle_recipe_forms {H : Type} : DataW H := .agg [.agg [.lit (.int .u8 1), .lit (.string [109, 107, 100, 105, 114]), .lit (.int .i64 1)], .agg [.lit (.int .u8 2), .lit (.string [119, 114, 105, 116, 101]), .lit (.int .i64 2)], .agg [.lit (.int .u8 3), .lit (.string [97, 112, 112, 101, 110, 100]), .lit (.int .i64 2)], .agg [.lit (.int .u8 4), .lit (.string [99, 111, 112, 121]), .lit (.int .i64 3)], .agg [.lit (.int .u8 5), .lit (.string [108, 105, 110, 107]), .lit (.int .i64 2)], .agg [.lit (.int .u8 6), .lit (.string [101, 120, 101, 99]), .lit (.int .i64 1)], .agg [.lit (.int .u8 7), .lit (.string [115, 119, 97, 112]), .lit (.int .i64 3)], .agg [.lit (.int .u8 8), .lit (.string [102, 97, 105, 108]), .lit (.int .i64 1)]]
/-- One of Go's own tables, pinned by name: the form's constant. -/
def laid_unicode_utf8_first : DataW Unit := Go.Pinned.utf8First

/-- 'staddlelaw12.RecipeReads': WHATEVER THE INPUT: true; the input reads as it did. -/
def recipeReadsSpec : ChangeSpec := { name := "recipeReads", fn := fun _ => fun
  | [d] => { results := [.lit (.bool true)], args := [d] }
  | _ => none }
def recipeReadsRow : OpenClaim := { program := "ytlccdenafnekjaagreatdoor", sum := "f28b31198ab81d37e032f97e5658b77380bacf3b98e5af3de21a489d40c21550", func := "staddle/staddlelaw12.RecipeReads", spec := "recipeReads", inPlace := ["internal/bytealg.CountString", "internal/bytealg.IndexByteString", "internal/bytealg.IndexString", "internal/abi.NoEscape", "internal/bytealg.IndexByte", "slices.overlaps[string]", "slices.overlaps[staddle/api.Tree]", "internal/bytealg.Count", "internal/bytealg.Index"], unfollowed := true, recurses := true, named := ["unicode/utf8.first", "unicode/utf8.acceptRanges", "internal/bytealg.MaxLen", "staddle/recipe.forms"], apart := false, laid := [("unicode/utf8.acceptRanges", laid_unicode_utf8_acceptRanges), ("staddle/recipe.forms", laid_staddle_recipe_forms), ("unicode/utf8.first", laid_unicode_utf8_first)] }
def RecipeReadsSaid : Prop := recipeReadsRow.holds Tryz.pinned (OpenSpec.ofChange recipeReadsSpec)

/-- ITS FALSE NEIGHBOUR: 'it returns false'. Refute it at one input. -/
def recipeReadsWrong : ChangeSpec := { name := "recipeReads", fn := fun _ => fun
  | [d] => { results := [.lit (.bool false)], args := [d] }
  | _ => none }
def RecipeReadsWrongFalsely : Prop := recipeReadsRow.holds Tryz.pinned (OpenSpec.ofChange recipeReadsWrong)

/-- 'staddlelaw12.RecipeRuns': WHATEVER THE INPUT: true; the input reads as it did. -/
def recipeRunsSpec : ChangeSpec := { name := "recipeRuns", fn := fun _ => fun
  | [d1, d2, d3] => { results := [.lit (.bool true)], args := [d1, d2, d3] }
  | _ => none }
def recipeRunsRow : OpenClaim := { program := "ytlccdenafnekjaagreatdoor", sum := "f28b31198ab81d37e032f97e5658b77380bacf3b98e5af3de21a489d40c21550", func := "staddle/staddlelaw12.RecipeRuns", spec := "recipeRuns", inPlace := ["internal/bytealg.CountString", "internal/bytealg.IndexByteString", "internal/bytealg.IndexString", "internal/abi.NoEscape", "internal/bytealg.IndexByte", "slices.overlaps[string]", "slices.overlaps[staddle/api.Tree]", "internal/bytealg.Count", "internal/bytealg.Index"], unfollowed := true, recurses := true, named := ["unicode/utf8.first", "unicode/utf8.acceptRanges", "internal/bytealg.MaxLen", "staddle/recipe.forms"], loops := true, apart := false, laid := [("unicode/utf8.acceptRanges", laid_unicode_utf8_acceptRanges), ("staddle/recipe.forms", laid_staddle_recipe_forms), ("unicode/utf8.first", laid_unicode_utf8_first)] }
def RecipeRunsSaid : Prop := recipeRunsRow.holds Tryz.pinned (OpenSpec.ofChange recipeRunsSpec)

/-- ITS FALSE NEIGHBOUR: 'it returns false'. Refute it at one input. -/
def recipeRunsWrong : ChangeSpec := { name := "recipeRuns", fn := fun _ => fun
  | [d1, d2, d3] => { results := [.lit (.bool false)], args := [d1, d2, d3] }
  | _ => none }
def RecipeRunsWrongFalsely : Prop := recipeRunsRow.holds Tryz.pinned (OpenSpec.ofChange recipeRunsWrong)

/-- 'staddlelaw12.RecipeTexts': WHATEVER THE INPUT: true; the input reads as it did. -/
def recipeTextsSpec : ChangeSpec := { name := "recipeTexts", fn := fun _ => fun
  | [d1, d2, d3] => { results := [.lit (.bool true)], args := [d1, d2, d3] }
  | _ => none }
def recipeTextsRow : OpenClaim := { program := "ytlccdenafnekjaagreatdoor", sum := "f28b31198ab81d37e032f97e5658b77380bacf3b98e5af3de21a489d40c21550", func := "staddle/staddlelaw12.RecipeTexts", spec := "recipeTexts", inPlace := ["internal/bytealg.CountString", "internal/bytealg.IndexByteString", "internal/bytealg.IndexString", "internal/abi.NoEscape", "internal/bytealg.IndexByte", "slices.overlaps[string]", "slices.overlaps[staddle/api.Tree]", "internal/bytealg.Count", "internal/bytealg.Index"], unfollowed := true, recurses := true, named := ["unicode/utf8.first", "unicode/utf8.acceptRanges", "internal/bytealg.MaxLen", "staddle/recipe.forms"], loops := true, apart := false, laid := [("unicode/utf8.acceptRanges", laid_unicode_utf8_acceptRanges), ("staddle/recipe.forms", laid_staddle_recipe_forms), ("unicode/utf8.first", laid_unicode_utf8_first)] }
def RecipeTextsSaid : Prop := recipeTextsRow.holds Tryz.pinned (OpenSpec.ofChange recipeTextsSpec)

/-- ITS FALSE NEIGHBOUR: 'it returns false'. Refute it at one input. -/
def recipeTextsWrong : ChangeSpec := { name := "recipeTexts", fn := fun _ => fun
  | [d1, d2, d3] => { results := [.lit (.bool false)], args := [d1, d2, d3] }
  | _ => none }
def RecipeTextsWrongFalsely : Prop := recipeTextsRow.holds Tryz.pinned (OpenSpec.ofChange recipeTextsWrong)

/-- 'staddlelaw12.RecipeCopies': WHATEVER THE INPUT: true; the input reads as it did. -/
def recipeCopiesSpec : ChangeSpec := { name := "recipeCopies", fn := fun _ => fun
  | [d1, d2, d3] => { results := [.lit (.bool true)], args := [d1, d2, d3] }
  | _ => none }
def recipeCopiesRow : OpenClaim := { program := "ytlccdenafnekjaagreatdoor", sum := "f28b31198ab81d37e032f97e5658b77380bacf3b98e5af3de21a489d40c21550", func := "staddle/staddlelaw12.RecipeCopies", spec := "recipeCopies", inPlace := ["internal/bytealg.CountString", "internal/bytealg.IndexByteString", "internal/bytealg.IndexString", "internal/abi.NoEscape", "internal/bytealg.IndexByte", "slices.overlaps[string]", "slices.overlaps[staddle/api.Tree]", "internal/bytealg.Count", "internal/bytealg.Index"], unfollowed := true, recurses := true, named := ["unicode/utf8.first", "unicode/utf8.acceptRanges", "internal/bytealg.MaxLen", "staddle/recipe.forms"], loops := true, apart := false, laid := [("unicode/utf8.acceptRanges", laid_unicode_utf8_acceptRanges), ("staddle/recipe.forms", laid_staddle_recipe_forms), ("unicode/utf8.first", laid_unicode_utf8_first)] }
def RecipeCopiesSaid : Prop := recipeCopiesRow.holds Tryz.pinned (OpenSpec.ofChange recipeCopiesSpec)

/-- ITS FALSE NEIGHBOUR: 'it returns false'. Refute it at one input. -/
def recipeCopiesWrong : ChangeSpec := { name := "recipeCopies", fn := fun _ => fun
  | [d1, d2, d3] => { results := [.lit (.bool false)], args := [d1, d2, d3] }
  | _ => none }
def RecipeCopiesWrongFalsely : Prop := recipeCopiesRow.holds Tryz.pinned (OpenSpec.ofChange recipeCopiesWrong)

/-- 'staddlelaw12.RecipeOut': WHATEVER THE INPUT: true; the input reads as it did. -/
def recipeOutSpec : ChangeSpec := { name := "recipeOut", fn := fun _ => fun
  | [d1, d2, d3] => { results := [.lit (.bool true)], args := [d1, d2, d3] }
  | _ => none }
def recipeOutRow : OpenClaim := { program := "ytlccdenafnekjaagreatdoor", sum := "f28b31198ab81d37e032f97e5658b77380bacf3b98e5af3de21a489d40c21550", func := "staddle/staddlelaw12.RecipeOut", spec := "recipeOut", inPlace := ["internal/bytealg.CountString", "internal/bytealg.IndexByteString", "internal/bytealg.IndexString", "internal/abi.NoEscape", "internal/bytealg.IndexByte", "slices.overlaps[string]", "slices.overlaps[staddle/api.Tree]", "internal/bytealg.Count", "internal/bytealg.Index"], unfollowed := true, recurses := true, named := ["unicode/utf8.first", "unicode/utf8.acceptRanges", "internal/bytealg.MaxLen", "staddle/recipe.forms"], apart := false, laid := [("unicode/utf8.acceptRanges", laid_unicode_utf8_acceptRanges), ("staddle/recipe.forms", laid_staddle_recipe_forms), ("unicode/utf8.first", laid_unicode_utf8_first)] }
def RecipeOutSaid : Prop := recipeOutRow.holds Tryz.pinned (OpenSpec.ofChange recipeOutSpec)

/-- ITS FALSE NEIGHBOUR: 'it returns false'. Refute it at one input. -/
def recipeOutWrong : ChangeSpec := { name := "recipeOut", fn := fun _ => fun
  | [d1, d2, d3] => { results := [.lit (.bool false)], args := [d1, d2, d3] }
  | _ => none }
def RecipeOutWrongFalsely : Prop := recipeOutRow.holds Tryz.pinned (OpenSpec.ofChange recipeOutWrong)

/-- 'staddlelaw12.RecipeKeeps': WHATEVER THE INPUT: true; the input reads as it did. -/
def recipeKeepsSpec : ChangeSpec := { name := "recipeKeeps", fn := fun _ => fun
  | [d1, d2] => { results := [.lit (.bool true)], args := [d1, d2] }
  | _ => none }
def recipeKeepsRow : OpenClaim := { program := "ytlccdenafnekjaagreatdoor", sum := "f28b31198ab81d37e032f97e5658b77380bacf3b98e5af3de21a489d40c21550", func := "staddle/staddlelaw12.RecipeKeeps", spec := "recipeKeeps", inPlace := ["internal/bytealg.CountString", "internal/bytealg.IndexByteString", "internal/bytealg.IndexString", "internal/abi.NoEscape", "internal/bytealg.IndexByte", "slices.overlaps[string]", "slices.overlaps[staddle/api.Tree]", "internal/bytealg.Count", "internal/bytealg.Index"], unfollowed := true, recurses := true, named := ["unicode/utf8.first", "unicode/utf8.acceptRanges", "internal/bytealg.MaxLen", "staddle/recipe.forms"], loops := true, apart := false, laid := [("unicode/utf8.acceptRanges", laid_unicode_utf8_acceptRanges), ("staddle/recipe.forms", laid_staddle_recipe_forms), ("unicode/utf8.first", laid_unicode_utf8_first)] }
def RecipeKeepsSaid : Prop := recipeKeepsRow.holds Tryz.pinned (OpenSpec.ofChange recipeKeepsSpec)

/-- ITS FALSE NEIGHBOUR: 'it returns false'. Refute it at one input. -/
def recipeKeepsWrong : ChangeSpec := { name := "recipeKeeps", fn := fun _ => fun
  | [d1, d2] => { results := [.lit (.bool false)], args := [d1, d2] }
  | _ => none }
def RecipeKeepsWrongFalsely : Prop := recipeKeepsRow.holds Tryz.pinned (OpenSpec.ofChange recipeKeepsWrong)

/-- 'staddlelaw12.RecipeWords': WHATEVER THE INPUT: true; the input reads as it did. -/
def recipeWordsSpec : ChangeSpec := { name := "recipeWords", fn := fun _ => fun
  | [d1, d2] => { results := [.lit (.bool true)], args := [d1, d2] }
  | _ => none }
def recipeWordsRow : OpenClaim := { program := "ytlccdenafnekjaagreatdoor", sum := "f28b31198ab81d37e032f97e5658b77380bacf3b98e5af3de21a489d40c21550", func := "staddle/staddlelaw12.RecipeWords", spec := "recipeWords", inPlace := ["internal/bytealg.CountString", "internal/bytealg.IndexByteString", "internal/bytealg.IndexString", "internal/abi.NoEscape", "internal/bytealg.IndexByte", "slices.overlaps[string]", "slices.overlaps[staddle/api.Tree]", "internal/bytealg.Count", "internal/bytealg.Index"], unfollowed := true, recurses := true, named := ["unicode/utf8.first", "unicode/utf8.acceptRanges", "internal/bytealg.MaxLen", "staddle/recipe.forms"], apart := false, laid := [("unicode/utf8.acceptRanges", laid_unicode_utf8_acceptRanges), ("staddle/recipe.forms", laid_staddle_recipe_forms), ("unicode/utf8.first", laid_unicode_utf8_first)] }
def RecipeWordsSaid : Prop := recipeWordsRow.holds Tryz.pinned (OpenSpec.ofChange recipeWordsSpec)

/-- ITS FALSE NEIGHBOUR: 'it returns false'. Refute it at one input. -/
def recipeWordsWrong : ChangeSpec := { name := "recipeWords", fn := fun _ => fun
  | [d1, d2] => { results := [.lit (.bool false)], args := [d1, d2] }
  | _ => none }
def RecipeWordsWrongFalsely : Prop := recipeWordsRow.holds Tryz.pinned (OpenSpec.ofChange recipeWordsWrong)

/-- 'staddlelaw12.RecipeParts': WHATEVER THE INPUT: true; the input reads as it did. -/
def recipePartsSpec : ChangeSpec := { name := "recipeParts", fn := fun _ => fun
  | [d1, d2, d3] => { results := [.lit (.bool true)], args := [d1, d2, d3] }
  | _ => none }
def recipePartsRow : OpenClaim := { program := "ytlccdenafnekjaagreatdoor", sum := "f28b31198ab81d37e032f97e5658b77380bacf3b98e5af3de21a489d40c21550", func := "staddle/staddlelaw12.RecipeParts", spec := "recipeParts", inPlace := ["internal/bytealg.CountString", "internal/bytealg.IndexByteString", "internal/bytealg.IndexString", "internal/abi.NoEscape", "internal/bytealg.IndexByte", "slices.overlaps[string]", "slices.overlaps[staddle/api.Tree]", "internal/bytealg.Count", "internal/bytealg.Index"], unfollowed := true, recurses := true, named := ["unicode/utf8.first", "unicode/utf8.acceptRanges", "internal/bytealg.MaxLen", "staddle/recipe.forms"], loops := true, apart := false, laid := [("unicode/utf8.acceptRanges", laid_unicode_utf8_acceptRanges), ("staddle/recipe.forms", laid_staddle_recipe_forms), ("unicode/utf8.first", laid_unicode_utf8_first)] }
def RecipePartsSaid : Prop := recipePartsRow.holds Tryz.pinned (OpenSpec.ofChange recipePartsSpec)

/-- ITS FALSE NEIGHBOUR: 'it returns false'. Refute it at one input. -/
def recipePartsWrong : ChangeSpec := { name := "recipeParts", fn := fun _ => fun
  | [d1, d2, d3] => { results := [.lit (.bool false)], args := [d1, d2, d3] }
  | _ => none }
def RecipePartsWrongFalsely : Prop := recipePartsRow.holds Tryz.pinned (OpenSpec.ofChange recipePartsWrong)

/- THE SECOND FORM. 'bulk': how many values and letters a reading holds, each counted each time it is reached (what is shared counts as often as it is met; a slice's spare places count too). A statement '..UptoSaid' is the law's where the arguments, and the package variables that the reading takes, are together of bulk at most 1048576: NARROWER than '..Said'. Prove '..Said' where nothing that the law and all that it calls make is longer than what came in: it says more and counts as full. Else prove '..UptoSaid'. A law counts once. -/
mutual
def uptoBulk {H : Type} : DataW H → Nat
  | .lit (.string bytes) => bytes.length + 1
  | .lit _ => 1
  | .nil => 1
  | .ptr d => uptoBulk d + 1
  | .slice elems spare => uptoBulkAll elems + uptoBulkAll spare + 1
  | .agg parts => uptoBulkAll parts + 1
  | .iface _ d => uptoBulk d + 1
  | .map entries => uptoBulkEntries entries + 1
  | .held _ => 1
def uptoBulkAll {H : Type} : List (DataW H) → Nat
  | [] => 0
  | d :: r => uptoBulk d + uptoBulkAll r
def uptoBulkEntries {H : Type} : List (Lit × DataW H) → Nat
  | [] => 0
  | x :: r => uptoBulkEntry x + uptoBulkEntries r
def uptoBulkEntry {H : Type} : Lit × DataW H → Nat
  | (.string bytes, d) => bytes.length + uptoBulk d + 1
  | (_, d) => uptoBulk d + 1
 end
def uptoSmall : (H : Type) → List (DataW H) → Bool := fun _ ds => decide (uptoBulkAll ds ≤ 1048576)
def OpenSpec.upto (s : _root_.Go.ChangeSpec) : _root_.Go.OpenSpec := { _root_.Go.OpenSpec.ofChange s with cond := some uptoSmall }

/-- 'staddlelaw12.RecipeReads', WHERE WHAT IT READS IS OF BULK AT MOST 1048576: true; the input reads as it did. -/
def recipeReadsUptoRow : OpenClaim := { program := "ytlccdenafnekjaagreatdoor", sum := "f28b31198ab81d37e032f97e5658b77380bacf3b98e5af3de21a489d40c21550", func := "staddle/staddlelaw12.RecipeReads", spec := "recipeReads", inPlace := ["internal/bytealg.CountString", "internal/bytealg.IndexByteString", "internal/bytealg.IndexString", "internal/abi.NoEscape", "internal/bytealg.IndexByte", "slices.overlaps[string]", "slices.overlaps[staddle/api.Tree]", "internal/bytealg.Count", "internal/bytealg.Index"], unfollowed := true, recurses := true, named := ["unicode/utf8.first", "unicode/utf8.acceptRanges", "internal/bytealg.MaxLen", "staddle/recipe.forms"], apart := false, laid := [("unicode/utf8.acceptRanges", laid_unicode_utf8_acceptRanges), ("staddle/recipe.forms", laid_staddle_recipe_forms), ("unicode/utf8.first", laid_unicode_utf8_first)], narrowed := true }
def RecipeReadsUptoSaid : Prop := recipeReadsUptoRow.holds Tryz.pinned (OpenSpec.upto recipeReadsSpec)

/-- 'staddlelaw12.RecipeRuns', WHERE WHAT IT READS IS OF BULK AT MOST 1048576: true; the input reads as it did. -/
def recipeRunsUptoRow : OpenClaim := { program := "ytlccdenafnekjaagreatdoor", sum := "f28b31198ab81d37e032f97e5658b77380bacf3b98e5af3de21a489d40c21550", func := "staddle/staddlelaw12.RecipeRuns", spec := "recipeRuns", inPlace := ["internal/bytealg.CountString", "internal/bytealg.IndexByteString", "internal/bytealg.IndexString", "internal/abi.NoEscape", "internal/bytealg.IndexByte", "slices.overlaps[string]", "slices.overlaps[staddle/api.Tree]", "internal/bytealg.Count", "internal/bytealg.Index"], unfollowed := true, recurses := true, named := ["unicode/utf8.first", "unicode/utf8.acceptRanges", "internal/bytealg.MaxLen", "staddle/recipe.forms"], loops := true, apart := false, laid := [("unicode/utf8.acceptRanges", laid_unicode_utf8_acceptRanges), ("staddle/recipe.forms", laid_staddle_recipe_forms), ("unicode/utf8.first", laid_unicode_utf8_first)], narrowed := true }
def RecipeRunsUptoSaid : Prop := recipeRunsUptoRow.holds Tryz.pinned (OpenSpec.upto recipeRunsSpec)

/-- 'staddlelaw12.RecipeTexts', WHERE WHAT IT READS IS OF BULK AT MOST 1048576: true; the input reads as it did. -/
def recipeTextsUptoRow : OpenClaim := { program := "ytlccdenafnekjaagreatdoor", sum := "f28b31198ab81d37e032f97e5658b77380bacf3b98e5af3de21a489d40c21550", func := "staddle/staddlelaw12.RecipeTexts", spec := "recipeTexts", inPlace := ["internal/bytealg.CountString", "internal/bytealg.IndexByteString", "internal/bytealg.IndexString", "internal/abi.NoEscape", "internal/bytealg.IndexByte", "slices.overlaps[string]", "slices.overlaps[staddle/api.Tree]", "internal/bytealg.Count", "internal/bytealg.Index"], unfollowed := true, recurses := true, named := ["unicode/utf8.first", "unicode/utf8.acceptRanges", "internal/bytealg.MaxLen", "staddle/recipe.forms"], loops := true, apart := false, laid := [("unicode/utf8.acceptRanges", laid_unicode_utf8_acceptRanges), ("staddle/recipe.forms", laid_staddle_recipe_forms), ("unicode/utf8.first", laid_unicode_utf8_first)], narrowed := true }
def RecipeTextsUptoSaid : Prop := recipeTextsUptoRow.holds Tryz.pinned (OpenSpec.upto recipeTextsSpec)

/-- 'staddlelaw12.RecipeCopies', WHERE WHAT IT READS IS OF BULK AT MOST 1048576: true; the input reads as it did. -/
def recipeCopiesUptoRow : OpenClaim := { program := "ytlccdenafnekjaagreatdoor", sum := "f28b31198ab81d37e032f97e5658b77380bacf3b98e5af3de21a489d40c21550", func := "staddle/staddlelaw12.RecipeCopies", spec := "recipeCopies", inPlace := ["internal/bytealg.CountString", "internal/bytealg.IndexByteString", "internal/bytealg.IndexString", "internal/abi.NoEscape", "internal/bytealg.IndexByte", "slices.overlaps[string]", "slices.overlaps[staddle/api.Tree]", "internal/bytealg.Count", "internal/bytealg.Index"], unfollowed := true, recurses := true, named := ["unicode/utf8.first", "unicode/utf8.acceptRanges", "internal/bytealg.MaxLen", "staddle/recipe.forms"], loops := true, apart := false, laid := [("unicode/utf8.acceptRanges", laid_unicode_utf8_acceptRanges), ("staddle/recipe.forms", laid_staddle_recipe_forms), ("unicode/utf8.first", laid_unicode_utf8_first)], narrowed := true }
def RecipeCopiesUptoSaid : Prop := recipeCopiesUptoRow.holds Tryz.pinned (OpenSpec.upto recipeCopiesSpec)

/-- 'staddlelaw12.RecipeOut', WHERE WHAT IT READS IS OF BULK AT MOST 1048576: true; the input reads as it did. -/
def recipeOutUptoRow : OpenClaim := { program := "ytlccdenafnekjaagreatdoor", sum := "f28b31198ab81d37e032f97e5658b77380bacf3b98e5af3de21a489d40c21550", func := "staddle/staddlelaw12.RecipeOut", spec := "recipeOut", inPlace := ["internal/bytealg.CountString", "internal/bytealg.IndexByteString", "internal/bytealg.IndexString", "internal/abi.NoEscape", "internal/bytealg.IndexByte", "slices.overlaps[string]", "slices.overlaps[staddle/api.Tree]", "internal/bytealg.Count", "internal/bytealg.Index"], unfollowed := true, recurses := true, named := ["unicode/utf8.first", "unicode/utf8.acceptRanges", "internal/bytealg.MaxLen", "staddle/recipe.forms"], apart := false, laid := [("unicode/utf8.acceptRanges", laid_unicode_utf8_acceptRanges), ("staddle/recipe.forms", laid_staddle_recipe_forms), ("unicode/utf8.first", laid_unicode_utf8_first)], narrowed := true }
def RecipeOutUptoSaid : Prop := recipeOutUptoRow.holds Tryz.pinned (OpenSpec.upto recipeOutSpec)

/-- 'staddlelaw12.RecipeKeeps', WHERE WHAT IT READS IS OF BULK AT MOST 1048576: true; the input reads as it did. -/
def recipeKeepsUptoRow : OpenClaim := { program := "ytlccdenafnekjaagreatdoor", sum := "f28b31198ab81d37e032f97e5658b77380bacf3b98e5af3de21a489d40c21550", func := "staddle/staddlelaw12.RecipeKeeps", spec := "recipeKeeps", inPlace := ["internal/bytealg.CountString", "internal/bytealg.IndexByteString", "internal/bytealg.IndexString", "internal/abi.NoEscape", "internal/bytealg.IndexByte", "slices.overlaps[string]", "slices.overlaps[staddle/api.Tree]", "internal/bytealg.Count", "internal/bytealg.Index"], unfollowed := true, recurses := true, named := ["unicode/utf8.first", "unicode/utf8.acceptRanges", "internal/bytealg.MaxLen", "staddle/recipe.forms"], loops := true, apart := false, laid := [("unicode/utf8.acceptRanges", laid_unicode_utf8_acceptRanges), ("staddle/recipe.forms", laid_staddle_recipe_forms), ("unicode/utf8.first", laid_unicode_utf8_first)], narrowed := true }
def RecipeKeepsUptoSaid : Prop := recipeKeepsUptoRow.holds Tryz.pinned (OpenSpec.upto recipeKeepsSpec)

/-- 'staddlelaw12.RecipeWords', WHERE WHAT IT READS IS OF BULK AT MOST 1048576: true; the input reads as it did. -/
def recipeWordsUptoRow : OpenClaim := { program := "ytlccdenafnekjaagreatdoor", sum := "f28b31198ab81d37e032f97e5658b77380bacf3b98e5af3de21a489d40c21550", func := "staddle/staddlelaw12.RecipeWords", spec := "recipeWords", inPlace := ["internal/bytealg.CountString", "internal/bytealg.IndexByteString", "internal/bytealg.IndexString", "internal/abi.NoEscape", "internal/bytealg.IndexByte", "slices.overlaps[string]", "slices.overlaps[staddle/api.Tree]", "internal/bytealg.Count", "internal/bytealg.Index"], unfollowed := true, recurses := true, named := ["unicode/utf8.first", "unicode/utf8.acceptRanges", "internal/bytealg.MaxLen", "staddle/recipe.forms"], apart := false, laid := [("unicode/utf8.acceptRanges", laid_unicode_utf8_acceptRanges), ("staddle/recipe.forms", laid_staddle_recipe_forms), ("unicode/utf8.first", laid_unicode_utf8_first)], narrowed := true }
def RecipeWordsUptoSaid : Prop := recipeWordsUptoRow.holds Tryz.pinned (OpenSpec.upto recipeWordsSpec)

/-- 'staddlelaw12.RecipeParts', WHERE WHAT IT READS IS OF BULK AT MOST 1048576: true; the input reads as it did. -/
def recipePartsUptoRow : OpenClaim := { program := "ytlccdenafnekjaagreatdoor", sum := "f28b31198ab81d37e032f97e5658b77380bacf3b98e5af3de21a489d40c21550", func := "staddle/staddlelaw12.RecipeParts", spec := "recipeParts", inPlace := ["internal/bytealg.CountString", "internal/bytealg.IndexByteString", "internal/bytealg.IndexString", "internal/abi.NoEscape", "internal/bytealg.IndexByte", "slices.overlaps[string]", "slices.overlaps[staddle/api.Tree]", "internal/bytealg.Count", "internal/bytealg.Index"], unfollowed := true, recurses := true, named := ["unicode/utf8.first", "unicode/utf8.acceptRanges", "internal/bytealg.MaxLen", "staddle/recipe.forms"], loops := true, apart := false, laid := [("unicode/utf8.acceptRanges", laid_unicode_utf8_acceptRanges), ("staddle/recipe.forms", laid_staddle_recipe_forms), ("unicode/utf8.first", laid_unicode_utf8_first)], narrowed := true }
def RecipePartsUptoSaid : Prop := recipePartsUptoRow.holds Tryz.pinned (OpenSpec.upto recipePartsSpec)

end Rows
end Go.Proofs.YtlccdenafnekjaaGreatDoor

/-
  DERIVED. GIVEN WITH THE SEED: THE CARDS: each row of YtbhnnnpofindiaaDoorRows.lean that lists a variable, with what it lists TIED to the program's text (the seventh form; the later family's looks); each row that meets fmt, with fmt's text TOLD by the authors' own Lean function (tested against real Go, not proved from fmt's source: count such statements apart). THE CARD IS WHAT COUNTS. Prove the row's statement (the work); the ties are given (YtbhnnnpofindiaaDoorTie.lean); close each card by the builder's one call (the guide's Derived/Test/ToyasCard.lean, 'card_holds'). Laid BY PROGRAM, IN A SANDBOX (cutbox-door.mjs). By AI agents, Wed Nov 11 2026. No macro, syntax, notation, axiom, sorry.
-/
import Derived.Test.YtbhnnnpofindiaaDoorRows
import GoSem.ClaimSeven
namespace Go.Proofs.YtbhnnnpofindiaaDoor
namespace Rows

/-- THE TIED CARD OF 'haymowlaw06.EvalTells'. -/
def evalTellsCard : Claim7 := { stood := { row := evalTellsRow, standIns := [], harness := (true, "4aa17e3d60f3d84dd4c16a934e022370534363df738d391e78b403ada7e39e40"), looks := true }, kinds := [], alts := [], laidByText := true, laidKinds := [.data], laidTests := true, laidLooks := .later }
def EvalTellsCardSaid : Prop := Claim7.holds Tryd.pinned (.plain (OpenSpec.ofChange evalTellsSpec)) evalTellsCard

/-- THE TIED CARD OF 'haymowlaw06.EvalBounds'. -/
def evalBoundsCard : Claim7 := { stood := { row := evalBoundsRow, standIns := [], harness := (true, "4aa17e3d60f3d84dd4c16a934e022370534363df738d391e78b403ada7e39e40"), looks := true }, kinds := [], alts := [], laidByText := true, laidKinds := [.data], laidTests := true, laidLooks := .later }
def EvalBoundsCardSaid : Prop := Claim7.holds Tryd.pinned (.plain (OpenSpec.ofChange evalBoundsSpec)) evalBoundsCard

/-- THE TIED CARD OF 'haymowlaw06.EvalEnough'. -/
def evalEnoughCard : Claim7 := { stood := { row := evalEnoughRow, standIns := [], harness := (true, "4aa17e3d60f3d84dd4c16a934e022370534363df738d391e78b403ada7e39e40"), looks := true }, kinds := [], alts := [], laidByText := true, laidKinds := [.data], laidTests := true, laidLooks := .later }
def EvalEnoughCardSaid : Prop := Claim7.holds Tryd.pinned (.plain (OpenSpec.ofChange evalEnoughSpec)) evalEnoughCard

/-- THE TIED CARD OF 'haymowlaw06.EvalSums'. -/
def evalSumsCard : Claim7 := { stood := { row := evalSumsRow, standIns := [], harness := (true, "4aa17e3d60f3d84dd4c16a934e022370534363df738d391e78b403ada7e39e40"), looks := true }, kinds := [], alts := [], laidByText := true, laidKinds := [.data], laidTests := true, laidLooks := .later }
def EvalSumsCardSaid : Prop := Claim7.holds Tryd.pinned (.plain (OpenSpec.ofChange evalSumsSpec)) evalSumsCard

/-- THE TIED CARD OF 'haymowlaw06.EvalLoops'. -/
def evalLoopsCard : Claim7 := { stood := { row := evalLoopsRow, standIns := [], harness := (true, "4aa17e3d60f3d84dd4c16a934e022370534363df738d391e78b403ada7e39e40"), looks := true }, kinds := [], alts := [], laidByText := true, laidKinds := [.data], laidTests := true, laidLooks := .later }
def EvalLoopsCardSaid : Prop := Claim7.holds Tryd.pinned (.plain (OpenSpec.ofChange evalLoopsSpec)) evalLoopsCard

/-- THE TIED CARD OF 'haymowlaw06.EvalDeep'. -/
def evalDeepCard : Claim7 := { stood := { row := evalDeepRow, standIns := [], harness := (true, "4aa17e3d60f3d84dd4c16a934e022370534363df738d391e78b403ada7e39e40"), looks := true }, kinds := [], alts := [], laidByText := true, laidKinds := [.data], laidTests := true, laidLooks := .later }
def EvalDeepCardSaid : Prop := Claim7.holds Tryd.pinned (.plain (OpenSpec.ofChange evalDeepSpec)) evalDeepCard

/-- THE TIED CARD OF 'haymowlaw06.EvalReckons'. -/
def evalReckonsCard : Claim7 := { stood := { row := evalReckonsRow, standIns := [], harness := (true, "4aa17e3d60f3d84dd4c16a934e022370534363df738d391e78b403ada7e39e40"), looks := true }, kinds := [], alts := [], laidByText := true, laidKinds := [.data], laidTests := true, laidLooks := .later }
def EvalReckonsCardSaid : Prop := Claim7.holds Tryd.pinned (.plain (OpenSpec.ofChange evalReckonsSpec)) evalReckonsCard

/-- THE TIED CARD OF 'haymowlaw06.EvalTouches'. -/
def evalTouchesCard : Claim7 := { stood := { row := evalTouchesRow, standIns := [], harness := (true, "4aa17e3d60f3d84dd4c16a934e022370534363df738d391e78b403ada7e39e40"), looks := true }, kinds := [], alts := [], laidByText := true, laidKinds := [.data], laidTests := true, laidLooks := .later }
def EvalTouchesCardSaid : Prop := Claim7.holds Tryd.pinned (.plain (OpenSpec.ofChange evalTouchesSpec)) evalTouchesCard

/-- THE SECOND FORM's CARD OF 'haymowlaw06.EvalTells'. -/
def evalTellsUptoCard : Claim7 := { stood := { row := evalTellsUptoRow, standIns := [], harness := (true, "4aa17e3d60f3d84dd4c16a934e022370534363df738d391e78b403ada7e39e40"), looks := true }, kinds := [], alts := [], laidByText := true, laidKinds := [.data], laidTests := true, laidLooks := .later }
def EvalTellsUptoCardSaid : Prop := Claim7.holds Tryd.pinned (.plain (OpenSpec.upto evalTellsSpec)) evalTellsUptoCard

/-- THE SECOND FORM's CARD OF 'haymowlaw06.EvalBounds'. -/
def evalBoundsUptoCard : Claim7 := { stood := { row := evalBoundsUptoRow, standIns := [], harness := (true, "4aa17e3d60f3d84dd4c16a934e022370534363df738d391e78b403ada7e39e40"), looks := true }, kinds := [], alts := [], laidByText := true, laidKinds := [.data], laidTests := true, laidLooks := .later }
def EvalBoundsUptoCardSaid : Prop := Claim7.holds Tryd.pinned (.plain (OpenSpec.upto evalBoundsSpec)) evalBoundsUptoCard

/-- THE SECOND FORM's CARD OF 'haymowlaw06.EvalEnough'. -/
def evalEnoughUptoCard : Claim7 := { stood := { row := evalEnoughUptoRow, standIns := [], harness := (true, "4aa17e3d60f3d84dd4c16a934e022370534363df738d391e78b403ada7e39e40"), looks := true }, kinds := [], alts := [], laidByText := true, laidKinds := [.data], laidTests := true, laidLooks := .later }
def EvalEnoughUptoCardSaid : Prop := Claim7.holds Tryd.pinned (.plain (OpenSpec.upto evalEnoughSpec)) evalEnoughUptoCard

/-- THE SECOND FORM's CARD OF 'haymowlaw06.EvalSums'. -/
def evalSumsUptoCard : Claim7 := { stood := { row := evalSumsUptoRow, standIns := [], harness := (true, "4aa17e3d60f3d84dd4c16a934e022370534363df738d391e78b403ada7e39e40"), looks := true }, kinds := [], alts := [], laidByText := true, laidKinds := [.data], laidTests := true, laidLooks := .later }
def EvalSumsUptoCardSaid : Prop := Claim7.holds Tryd.pinned (.plain (OpenSpec.upto evalSumsSpec)) evalSumsUptoCard

/-- THE SECOND FORM's CARD OF 'haymowlaw06.EvalLoops'. -/
def evalLoopsUptoCard : Claim7 := { stood := { row := evalLoopsUptoRow, standIns := [], harness := (true, "4aa17e3d60f3d84dd4c16a934e022370534363df738d391e78b403ada7e39e40"), looks := true }, kinds := [], alts := [], laidByText := true, laidKinds := [.data], laidTests := true, laidLooks := .later }
def EvalLoopsUptoCardSaid : Prop := Claim7.holds Tryd.pinned (.plain (OpenSpec.upto evalLoopsSpec)) evalLoopsUptoCard

/-- THE SECOND FORM's CARD OF 'haymowlaw06.EvalDeep'. -/
def evalDeepUptoCard : Claim7 := { stood := { row := evalDeepUptoRow, standIns := [], harness := (true, "4aa17e3d60f3d84dd4c16a934e022370534363df738d391e78b403ada7e39e40"), looks := true }, kinds := [], alts := [], laidByText := true, laidKinds := [.data], laidTests := true, laidLooks := .later }
def EvalDeepUptoCardSaid : Prop := Claim7.holds Tryd.pinned (.plain (OpenSpec.upto evalDeepSpec)) evalDeepUptoCard

/-- THE SECOND FORM's CARD OF 'haymowlaw06.EvalReckons'. -/
def evalReckonsUptoCard : Claim7 := { stood := { row := evalReckonsUptoRow, standIns := [], harness := (true, "4aa17e3d60f3d84dd4c16a934e022370534363df738d391e78b403ada7e39e40"), looks := true }, kinds := [], alts := [], laidByText := true, laidKinds := [.data], laidTests := true, laidLooks := .later }
def EvalReckonsUptoCardSaid : Prop := Claim7.holds Tryd.pinned (.plain (OpenSpec.upto evalReckonsSpec)) evalReckonsUptoCard

/-- THE SECOND FORM's CARD OF 'haymowlaw06.EvalTouches'. -/
def evalTouchesUptoCard : Claim7 := { stood := { row := evalTouchesUptoRow, standIns := [], harness := (true, "4aa17e3d60f3d84dd4c16a934e022370534363df738d391e78b403ada7e39e40"), looks := true }, kinds := [], alts := [], laidByText := true, laidKinds := [.data], laidTests := true, laidLooks := .later }
def EvalTouchesUptoCardSaid : Prop := Claim7.holds Tryd.pinned (.plain (OpenSpec.upto evalTouchesSpec)) evalTouchesUptoCard
end Rows
end Go.Proofs.YtbhnnnpofindiaaDoor

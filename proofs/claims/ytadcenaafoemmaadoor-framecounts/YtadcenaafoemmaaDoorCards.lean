/-
  DERIVED. GIVEN WITH THE SEED: THE CARDS: each row of YtadcenaafoemmaaDoorRows.lean that lists a variable, with what it lists TIED to the program's text (the seventh form; the later family's looks); each row that meets fmt, with fmt's text TOLD by the authors' own Lean function (tested against real Go, not proved from fmt's source: count such statements apart). THE CARD IS WHAT COUNTS. Prove the row's statement (the work); the ties are given (YtadcenaafoemmaaDoorTie.lean); close each card by the builder's one call (the guide's Derived/Test/ToyasCard.lean, 'card_holds'). Laid BY PROGRAM, IN A SANDBOX (cutbox-door.mjs). By AI agents, Wed Nov 11 2026. No macro, syntax, notation, axiom, sorry.
-/
import Derived.Test.YtadcenaafoemmaaDoorRows
import GoSem.ClaimSeven
namespace Go.Proofs.YtadcenaafoemmaaDoor
namespace Rows

/-- THE TIED CARD OF 'haymowlaw12.FrameExecs'. -/
def frameExecsCard : Claim7 := { stood := { row := frameExecsRow, standIns := [], harness := (true, "b153ba6c92dccebf2ef61313fca4816a80f60c00a694c8625512765b05d36f05"), looks := true }, kinds := [], alts := [], laidByText := true, laidKinds := [.data], laidTests := true, laidLooks := .later }
def FrameExecsCardSaid : Prop := Claim7.holds Tryd.pinned (.plain (OpenSpec.ofChange frameExecsSpec)) frameExecsCard

/-- THE TIED CARD OF 'haymowlaw12.FrameNew'. -/
def frameNewCard : Claim7 := { stood := { row := frameNewRow, standIns := [], harness := (true, "b153ba6c92dccebf2ef61313fca4816a80f60c00a694c8625512765b05d36f05"), looks := true }, kinds := [], alts := [], laidByText := true, laidKinds := [.data], laidTests := true, laidLooks := .later }
def FrameNewCardSaid : Prop := Claim7.holds Tryd.pinned (.plain (OpenSpec.ofChange frameNewSpec)) frameNewCard

/-- THE TIED CARD OF 'haymowlaw12.FrameDrives'. -/
def frameDrivesCard : Claim7 := { stood := { row := frameDrivesRow, standIns := [], harness := (true, "b153ba6c92dccebf2ef61313fca4816a80f60c00a694c8625512765b05d36f05"), looks := true }, kinds := [], alts := [], laidByText := true, laidKinds := [.data], laidTests := true, laidLooks := .later }
def FrameDrivesCardSaid : Prop := Claim7.holds Tryd.pinned (.plain (OpenSpec.ofChange frameDrivesSpec)) frameDrivesCard

/-- THE TIED CARD OF 'haymowlaw12.FrameCounts'. -/
def frameCountsCard : Claim7 := { stood := { row := frameCountsRow, standIns := [], harness := (true, "b153ba6c92dccebf2ef61313fca4816a80f60c00a694c8625512765b05d36f05"), looks := true }, kinds := [], alts := [], laidByText := true, laidKinds := [.data], laidTests := true, laidLooks := .later }
def FrameCountsCardSaid : Prop := Claim7.holds Tryd.pinned (.plain (OpenSpec.ofChange frameCountsSpec)) frameCountsCard

/-- THE TIED CARD OF 'haymowlaw12.FrameJumps'. -/
def frameJumpsCard : Claim7 := { stood := { row := frameJumpsRow, standIns := [], harness := (true, "b153ba6c92dccebf2ef61313fca4816a80f60c00a694c8625512765b05d36f05"), looks := true }, kinds := [], alts := [], laidByText := true, laidKinds := [.data], laidTests := true, laidLooks := .later }
def FrameJumpsCardSaid : Prop := Claim7.holds Tryd.pinned (.plain (OpenSpec.ofChange frameJumpsSpec)) frameJumpsCard

/-- THE TIED CARD OF 'haymowlaw12.FrameBegins'. -/
def frameBeginsCard : Claim7 := { stood := { row := frameBeginsRow, standIns := [], harness := (true, "b153ba6c92dccebf2ef61313fca4816a80f60c00a694c8625512765b05d36f05"), looks := true }, kinds := [], alts := [], laidByText := true, laidKinds := [.data], laidTests := true, laidLooks := .later }
def FrameBeginsCardSaid : Prop := Claim7.holds Tryd.pinned (.plain (OpenSpec.ofChange frameBeginsSpec)) frameBeginsCard

/-- THE SECOND FORM's CARD OF 'haymowlaw12.FrameExecs'. -/
def frameExecsUptoCard : Claim7 := { stood := { row := frameExecsUptoRow, standIns := [], harness := (true, "b153ba6c92dccebf2ef61313fca4816a80f60c00a694c8625512765b05d36f05"), looks := true }, kinds := [], alts := [], laidByText := true, laidKinds := [.data], laidTests := true, laidLooks := .later }
def FrameExecsUptoCardSaid : Prop := Claim7.holds Tryd.pinned (.plain (OpenSpec.upto frameExecsSpec)) frameExecsUptoCard

/-- THE SECOND FORM's CARD OF 'haymowlaw12.FrameNew'. -/
def frameNewUptoCard : Claim7 := { stood := { row := frameNewUptoRow, standIns := [], harness := (true, "b153ba6c92dccebf2ef61313fca4816a80f60c00a694c8625512765b05d36f05"), looks := true }, kinds := [], alts := [], laidByText := true, laidKinds := [.data], laidTests := true, laidLooks := .later }
def FrameNewUptoCardSaid : Prop := Claim7.holds Tryd.pinned (.plain (OpenSpec.upto frameNewSpec)) frameNewUptoCard

/-- THE SECOND FORM's CARD OF 'haymowlaw12.FrameDrives'. -/
def frameDrivesUptoCard : Claim7 := { stood := { row := frameDrivesUptoRow, standIns := [], harness := (true, "b153ba6c92dccebf2ef61313fca4816a80f60c00a694c8625512765b05d36f05"), looks := true }, kinds := [], alts := [], laidByText := true, laidKinds := [.data], laidTests := true, laidLooks := .later }
def FrameDrivesUptoCardSaid : Prop := Claim7.holds Tryd.pinned (.plain (OpenSpec.upto frameDrivesSpec)) frameDrivesUptoCard

/-- THE SECOND FORM's CARD OF 'haymowlaw12.FrameCounts'. -/
def frameCountsUptoCard : Claim7 := { stood := { row := frameCountsUptoRow, standIns := [], harness := (true, "b153ba6c92dccebf2ef61313fca4816a80f60c00a694c8625512765b05d36f05"), looks := true }, kinds := [], alts := [], laidByText := true, laidKinds := [.data], laidTests := true, laidLooks := .later }
def FrameCountsUptoCardSaid : Prop := Claim7.holds Tryd.pinned (.plain (OpenSpec.upto frameCountsSpec)) frameCountsUptoCard

/-- THE SECOND FORM's CARD OF 'haymowlaw12.FrameJumps'. -/
def frameJumpsUptoCard : Claim7 := { stood := { row := frameJumpsUptoRow, standIns := [], harness := (true, "b153ba6c92dccebf2ef61313fca4816a80f60c00a694c8625512765b05d36f05"), looks := true }, kinds := [], alts := [], laidByText := true, laidKinds := [.data], laidTests := true, laidLooks := .later }
def FrameJumpsUptoCardSaid : Prop := Claim7.holds Tryd.pinned (.plain (OpenSpec.upto frameJumpsSpec)) frameJumpsUptoCard

/-- THE SECOND FORM's CARD OF 'haymowlaw12.FrameBegins'. -/
def frameBeginsUptoCard : Claim7 := { stood := { row := frameBeginsUptoRow, standIns := [], harness := (true, "b153ba6c92dccebf2ef61313fca4816a80f60c00a694c8625512765b05d36f05"), looks := true }, kinds := [], alts := [], laidByText := true, laidKinds := [.data], laidTests := true, laidLooks := .later }
def FrameBeginsUptoCardSaid : Prop := Claim7.holds Tryd.pinned (.plain (OpenSpec.upto frameBeginsSpec)) frameBeginsUptoCard
end Rows
end Go.Proofs.YtadcenaafoemmaaDoor

/-
  DERIVED. GIVEN WITH THE SEED: THE CARDS: each row of YtjfeoigclkelfaaDoorRows.lean that lists a variable, with what it lists TIED to the program's text (the seventh form; the later family's looks); each row that meets fmt, with fmt's text TOLD by the authors' own Lean function (tested against real Go, not proved from fmt's source: count such statements apart). THE CARD IS WHAT COUNTS. Prove the row's statement (the work); the ties are given (YtjfeoigclkelfaaDoorTie.lean); close each card by the builder's one call (the guide's Derived/Test/ToyasCard.lean, 'card_holds'). Laid BY PROGRAM, IN A SANDBOX (cutbox-door.mjs). By AI agents, Wed Nov 11 2026. No macro, syntax, notation, axiom, sorry.
-/
import Derived.Test.YtjfeoigclkelfaaDoorRows
import GoSem.ClaimSeven
namespace Go.Proofs.YtjfeoigclkelfaaDoor
namespace Rows

/-- THE TIED CARD OF 'haymowlaw03.ValidTells'. -/
def validTellsCard : Claim7 := { stood := { row := validTellsRow, standIns := [], harness := (true, "b590b14693a41eba65153902b74f9ac5e469322994b986d8ee8add5cc5d2eee4"), looks := true }, kinds := [], alts := [], laidByText := true, laidKinds := [.data], laidTests := true, laidLooks := .later }
def ValidTellsCardSaid : Prop := Claim7.holds Tryd.pinned (.plain (OpenSpec.ofChange validTellsSpec)) validTellsCard

/-- THE TIED CARD OF 'haymowlaw03.ValidFits'. -/
def validFitsCard : Claim7 := { stood := { row := validFitsRow, standIns := [], harness := (true, "b590b14693a41eba65153902b74f9ac5e469322994b986d8ee8add5cc5d2eee4"), looks := true }, kinds := [], alts := [], laidByText := true, laidKinds := [.data], laidTests := true, laidLooks := .later }
def ValidFitsCardSaid : Prop := Claim7.holds Tryd.pinned (.plain (OpenSpec.ofChange validFitsSpec)) validFitsCard

/-- THE TIED CARD OF 'haymowlaw03.ValidMore'. -/
def validMoreCard : Claim7 := { stood := { row := validMoreRow, standIns := [], harness := (true, "b590b14693a41eba65153902b74f9ac5e469322994b986d8ee8add5cc5d2eee4"), looks := true }, kinds := [], alts := [], laidByText := true, laidKinds := [.data], laidTests := true, laidLooks := .later }
def ValidMoreCardSaid : Prop := Claim7.holds Tryd.pinned (.plain (OpenSpec.ofChange validMoreSpec)) validMoreCard

/-- THE TIED CARD OF 'haymowlaw03.ValidJumps'. -/
def validJumpsCard : Claim7 := { stood := { row := validJumpsRow, standIns := [], harness := (true, "b590b14693a41eba65153902b74f9ac5e469322994b986d8ee8add5cc5d2eee4"), looks := true }, kinds := [], alts := [], laidByText := true, laidKinds := [.data], laidTests := true, laidLooks := .later }
def ValidJumpsCardSaid : Prop := Claim7.holds Tryd.pinned (.plain (OpenSpec.ofChange validJumpsSpec)) validJumpsCard

/-- THE TIED CARD OF 'haymowlaw03.ValidCalls'. -/
def validCallsCard : Claim7 := { stood := { row := validCallsRow, standIns := [], harness := (true, "b590b14693a41eba65153902b74f9ac5e469322994b986d8ee8add5cc5d2eee4"), looks := true }, kinds := [], alts := [], laidByText := true, laidKinds := [.data], laidTests := true, laidLooks := .later }
def ValidCallsCardSaid : Prop := Claim7.holds Tryd.pinned (.plain (OpenSpec.ofChange validCallsSpec)) validCallsCard

/-- THE TIED CARD OF 'haymowlaw03.ValidEnds'. -/
def validEndsCard : Claim7 := { stood := { row := validEndsRow, standIns := [], harness := (true, "b590b14693a41eba65153902b74f9ac5e469322994b986d8ee8add5cc5d2eee4"), looks := true }, kinds := [], alts := [], laidByText := true, laidKinds := [.data], laidTests := true, laidLooks := .later }
def ValidEndsCardSaid : Prop := Claim7.holds Tryd.pinned (.plain (OpenSpec.ofChange validEndsSpec)) validEndsCard

/-- THE SECOND FORM's CARD OF 'haymowlaw03.ValidTells'. -/
def validTellsUptoCard : Claim7 := { stood := { row := validTellsUptoRow, standIns := [], harness := (true, "b590b14693a41eba65153902b74f9ac5e469322994b986d8ee8add5cc5d2eee4"), looks := true }, kinds := [], alts := [], laidByText := true, laidKinds := [.data], laidTests := true, laidLooks := .later }
def ValidTellsUptoCardSaid : Prop := Claim7.holds Tryd.pinned (.plain (OpenSpec.upto validTellsSpec)) validTellsUptoCard

/-- THE SECOND FORM's CARD OF 'haymowlaw03.ValidFits'. -/
def validFitsUptoCard : Claim7 := { stood := { row := validFitsUptoRow, standIns := [], harness := (true, "b590b14693a41eba65153902b74f9ac5e469322994b986d8ee8add5cc5d2eee4"), looks := true }, kinds := [], alts := [], laidByText := true, laidKinds := [.data], laidTests := true, laidLooks := .later }
def ValidFitsUptoCardSaid : Prop := Claim7.holds Tryd.pinned (.plain (OpenSpec.upto validFitsSpec)) validFitsUptoCard

/-- THE SECOND FORM's CARD OF 'haymowlaw03.ValidMore'. -/
def validMoreUptoCard : Claim7 := { stood := { row := validMoreUptoRow, standIns := [], harness := (true, "b590b14693a41eba65153902b74f9ac5e469322994b986d8ee8add5cc5d2eee4"), looks := true }, kinds := [], alts := [], laidByText := true, laidKinds := [.data], laidTests := true, laidLooks := .later }
def ValidMoreUptoCardSaid : Prop := Claim7.holds Tryd.pinned (.plain (OpenSpec.upto validMoreSpec)) validMoreUptoCard

/-- THE SECOND FORM's CARD OF 'haymowlaw03.ValidJumps'. -/
def validJumpsUptoCard : Claim7 := { stood := { row := validJumpsUptoRow, standIns := [], harness := (true, "b590b14693a41eba65153902b74f9ac5e469322994b986d8ee8add5cc5d2eee4"), looks := true }, kinds := [], alts := [], laidByText := true, laidKinds := [.data], laidTests := true, laidLooks := .later }
def ValidJumpsUptoCardSaid : Prop := Claim7.holds Tryd.pinned (.plain (OpenSpec.upto validJumpsSpec)) validJumpsUptoCard

/-- THE SECOND FORM's CARD OF 'haymowlaw03.ValidCalls'. -/
def validCallsUptoCard : Claim7 := { stood := { row := validCallsUptoRow, standIns := [], harness := (true, "b590b14693a41eba65153902b74f9ac5e469322994b986d8ee8add5cc5d2eee4"), looks := true }, kinds := [], alts := [], laidByText := true, laidKinds := [.data], laidTests := true, laidLooks := .later }
def ValidCallsUptoCardSaid : Prop := Claim7.holds Tryd.pinned (.plain (OpenSpec.upto validCallsSpec)) validCallsUptoCard

/-- THE SECOND FORM's CARD OF 'haymowlaw03.ValidEnds'. -/
def validEndsUptoCard : Claim7 := { stood := { row := validEndsUptoRow, standIns := [], harness := (true, "b590b14693a41eba65153902b74f9ac5e469322994b986d8ee8add5cc5d2eee4"), looks := true }, kinds := [], alts := [], laidByText := true, laidKinds := [.data], laidTests := true, laidLooks := .later }
def ValidEndsUptoCardSaid : Prop := Claim7.holds Tryd.pinned (.plain (OpenSpec.upto validEndsSpec)) validEndsUptoCard
end Rows
end Go.Proofs.YtjfeoigclkelfaaDoor

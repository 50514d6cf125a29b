/-
  NARROWER THAN 'FOR EVERY INPUT', by the rows' own cells (each row's printed sentence says how): ValidTells: laid · ValidFits: laid · ValidMore: laid · ValidJumps: laid · ValidCalls: laid · ValidEnds: laid.
  DERIVED. THE GIVEN ROWS OF THIS SEAT. 6 by the template 'for every input the law returns true; each argument reads behind the call as it read before'; 0 by the template 'total and deterministic' (their statements: YtjfeoigclkelfaaDoorTotals.lean).
  GIVEN WITH THE SEED: the statements are not yours to turn. If you find one false, say at which input.
  Laid BY PROGRAM, IN A SANDBOX (cutbox-rows.mjs): the forced cells as the released guide's own fill.sh prints them over the translation 19fe3dd259005bc2… (all of the seat's roots in one cut). By AI agents, Wed Nov 11 2026. No macro, syntax, notation, axiom, sorry.
-/
import Derived.Test.YtjfeoigclkelfaaDoorChecked
import GoSem.Claim
import GoSem.ClaimJoined
import GoSem.ClaimMapViews
import Derived.JoinedTies
import Derived.KernelRfl
namespace Go.Proofs.YtjfeoigclkelfaaDoor
/- THE CELL 'sum', in the pinned program and in every row, IS THE sha256 OF THE DUMP (.gsa) THAT YtjfeoigclkelfaaDoorProg.lean LOADS. Nothing in Lean hashes anything: it is a label: what it is worth is what the hold of that sum in a sandbox is worth. -/
noncomputable def Tryd.pinned : Pinned := { name := "ytjfeoigclkelfaadoor", sum := "19fe3dd259005bc21c0df2c4c74bf8febf0b4adeddf7e2cc53fc22d2defaf315", checked := Tryd.checked }
namespace Rows
def none {H : Type} : Left H := { results := [], args := [] }

/- WHAT THE LISTED PACKAGE-LEVEL VARIABLES READ AS WHEN THE CALL BEGINS. Each datum BY PROGRAM (the guide's laid-datum.mjs) off the statement by which the dump's own 'gosem.cut.vars' lays the variable. In a bare row this is a premise. The card (YtjfeoigclkelfaaDoorCards.lean) ties it to the program's text. -/
def laid_haymow_ops_fields {H : Type} : DataW H := .agg [.agg [.lit (.int .i64 0), .lit (.int .i64 0), .lit (.int .i64 0), .lit (.int .i64 0)], .agg [.lit (.int .i64 1), .lit (.int .i64 0), .lit (.int .i64 0), .lit (.int .i64 6)], .agg [.lit (.int .i64 1), .lit (.int .i64 1), .lit (.int .i64 0), .lit (.int .i64 0)], .agg [.lit (.int .i64 1), .lit (.int .i64 1), .lit (.int .i64 1), .lit (.int .i64 0)], .agg [.lit (.int .i64 1), .lit (.int .i64 1), .lit (.int .i64 1), .lit (.int .i64 0)], .agg [.lit (.int .i64 1), .lit (.int .i64 1), .lit (.int .i64 1), .lit (.int .i64 0)], .agg [.lit (.int .i64 1), .lit (.int .i64 1), .lit (.int .i64 1), .lit (.int .i64 0)], .agg [.lit (.int .i64 1), .lit (.int .i64 1), .lit (.int .i64 1), .lit (.int .i64 0)], .agg [.lit (.int .i64 1), .lit (.int .i64 1), .lit (.int .i64 1), .lit (.int .i64 0)], .agg [.lit (.int .i64 0), .lit (.int .i64 0), .lit (.int .i64 0), .lit (.int .i64 4)], .agg [.lit (.int .i64 1), .lit (.int .i64 0), .lit (.int .i64 0), .lit (.int .i64 4)], .agg [.lit (.int .i64 1), .lit (.int .i64 1), .lit (.int .i64 3), .lit (.int .i64 0)], .agg [.lit (.int .i64 0), .lit (.int .i64 0), .lit (.int .i64 0), .lit (.int .i64 0)], .agg [.lit (.int .i64 2), .lit (.int .i64 1), .lit (.int .i64 3), .lit (.int .i64 0)], .agg [.lit (.int .i64 1), .lit (.int .i64 2), .lit (.int .i64 0), .lit (.int .i64 0)], .agg [.lit (.int .i64 1), .lit (.int .i64 0), .lit (.int .i64 0), .lit (.int .i64 0)], .agg [.lit (.int .i64 0), .lit (.int .i64 0), .lit (.int .i64 0), .lit (.int .i64 5)], .agg [.lit (.int .i64 1), .lit (.int .i64 0), .lit (.int .i64 0), .lit (.int .i64 0)]]

/-- 'haymowlaw03.ValidTells': WHATEVER THE INPUT: true; the input reads as it did. -/
def validTellsSpec : ChangeSpec := { name := "validTells", fn := fun _ => fun
  | [d] => { results := [.lit (.bool true)], args := [d] }
  | _ => none }
def validTellsRow : OpenClaim := { program := "ytjfeoigclkelfaadoor", sum := "19fe3dd259005bc21c0df2c4c74bf8febf0b4adeddf7e2cc53fc22d2defaf315", func := "haymow/haymowlaw03.ValidTells", spec := "validTells", unfollowed := true, recurses := true, named := ["haymow/ops.fields"], apart := false, laid := [("haymow/ops.fields", laid_haymow_ops_fields)] }
def ValidTellsSaid : Prop := validTellsRow.holds Tryd.pinned (OpenSpec.ofChange validTellsSpec)

/-- ITS FALSE NEIGHBOUR: 'it returns false'. Refute it at one input. -/
def validTellsWrong : ChangeSpec := { name := "validTells", fn := fun _ => fun
  | [d] => { results := [.lit (.bool false)], args := [d] }
  | _ => none }
def ValidTellsWrongFalsely : Prop := validTellsRow.holds Tryd.pinned (OpenSpec.ofChange validTellsWrong)

/-- 'haymowlaw03.ValidFits': WHATEVER THE INPUT: true; the input reads as it did. -/
def validFitsSpec : ChangeSpec := { name := "validFits", fn := fun _ => fun
  | [d] => { results := [.lit (.bool true)], args := [d] }
  | _ => none }
def validFitsRow : OpenClaim := { program := "ytjfeoigclkelfaadoor", sum := "19fe3dd259005bc21c0df2c4c74bf8febf0b4adeddf7e2cc53fc22d2defaf315", func := "haymow/haymowlaw03.ValidFits", spec := "validFits", unfollowed := true, recurses := true, named := ["haymow/ops.fields"], apart := false, laid := [("haymow/ops.fields", laid_haymow_ops_fields)] }
def ValidFitsSaid : Prop := validFitsRow.holds Tryd.pinned (OpenSpec.ofChange validFitsSpec)

/-- ITS FALSE NEIGHBOUR: 'it returns false'. Refute it at one input. -/
def validFitsWrong : ChangeSpec := { name := "validFits", fn := fun _ => fun
  | [d] => { results := [.lit (.bool false)], args := [d] }
  | _ => none }
def ValidFitsWrongFalsely : Prop := validFitsRow.holds Tryd.pinned (OpenSpec.ofChange validFitsWrong)

/-- 'haymowlaw03.ValidMore': WHATEVER THE INPUT: true; the input reads as it did. -/
def validMoreSpec : ChangeSpec := { name := "validMore", fn := fun _ => fun
  | [d1, d2] => { results := [.lit (.bool true)], args := [d1, d2] }
  | _ => none }
def validMoreRow : OpenClaim := { program := "ytjfeoigclkelfaadoor", sum := "19fe3dd259005bc21c0df2c4c74bf8febf0b4adeddf7e2cc53fc22d2defaf315", func := "haymow/haymowlaw03.ValidMore", spec := "validMore", unfollowed := true, recurses := true, named := ["haymow/ops.fields"], apart := false, laid := [("haymow/ops.fields", laid_haymow_ops_fields)] }
def ValidMoreSaid : Prop := validMoreRow.holds Tryd.pinned (OpenSpec.ofChange validMoreSpec)

/-- ITS FALSE NEIGHBOUR: 'it returns false'. Refute it at one input. -/
def validMoreWrong : ChangeSpec := { name := "validMore", fn := fun _ => fun
  | [d1, d2] => { results := [.lit (.bool false)], args := [d1, d2] }
  | _ => none }
def ValidMoreWrongFalsely : Prop := validMoreRow.holds Tryd.pinned (OpenSpec.ofChange validMoreWrong)

/-- 'haymowlaw03.ValidJumps': WHATEVER THE INPUT: true; the input reads as it did. -/
def validJumpsSpec : ChangeSpec := { name := "validJumps", fn := fun _ => fun
  | [d1, d2] => { results := [.lit (.bool true)], args := [d1, d2] }
  | _ => none }
def validJumpsRow : OpenClaim := { program := "ytjfeoigclkelfaadoor", sum := "19fe3dd259005bc21c0df2c4c74bf8febf0b4adeddf7e2cc53fc22d2defaf315", func := "haymow/haymowlaw03.ValidJumps", spec := "validJumps", unfollowed := true, recurses := true, named := ["haymow/ops.fields"], apart := false, laid := [("haymow/ops.fields", laid_haymow_ops_fields)] }
def ValidJumpsSaid : Prop := validJumpsRow.holds Tryd.pinned (OpenSpec.ofChange validJumpsSpec)

/-- ITS FALSE NEIGHBOUR: 'it returns false'. Refute it at one input. -/
def validJumpsWrong : ChangeSpec := { name := "validJumps", fn := fun _ => fun
  | [d1, d2] => { results := [.lit (.bool false)], args := [d1, d2] }
  | _ => none }
def ValidJumpsWrongFalsely : Prop := validJumpsRow.holds Tryd.pinned (OpenSpec.ofChange validJumpsWrong)

/-- 'haymowlaw03.ValidCalls': WHATEVER THE INPUT: true; the input reads as it did. -/
def validCallsSpec : ChangeSpec := { name := "validCalls", fn := fun _ => fun
  | [d] => { results := [.lit (.bool true)], args := [d] }
  | _ => none }
def validCallsRow : OpenClaim := { program := "ytjfeoigclkelfaadoor", sum := "19fe3dd259005bc21c0df2c4c74bf8febf0b4adeddf7e2cc53fc22d2defaf315", func := "haymow/haymowlaw03.ValidCalls", spec := "validCalls", unfollowed := true, recurses := true, named := ["haymow/ops.fields"], apart := false, laid := [("haymow/ops.fields", laid_haymow_ops_fields)] }
def ValidCallsSaid : Prop := validCallsRow.holds Tryd.pinned (OpenSpec.ofChange validCallsSpec)

/-- ITS FALSE NEIGHBOUR: 'it returns false'. Refute it at one input. -/
def validCallsWrong : ChangeSpec := { name := "validCalls", fn := fun _ => fun
  | [d] => { results := [.lit (.bool false)], args := [d] }
  | _ => none }
def ValidCallsWrongFalsely : Prop := validCallsRow.holds Tryd.pinned (OpenSpec.ofChange validCallsWrong)

/-- 'haymowlaw03.ValidEnds': WHATEVER THE INPUT: true; the input reads as it did. -/
def validEndsSpec : ChangeSpec := { name := "validEnds", fn := fun _ => fun
  | [d1, d2] => { results := [.lit (.bool true)], args := [d1, d2] }
  | _ => none }
def validEndsRow : OpenClaim := { program := "ytjfeoigclkelfaadoor", sum := "19fe3dd259005bc21c0df2c4c74bf8febf0b4adeddf7e2cc53fc22d2defaf315", func := "haymow/haymowlaw03.ValidEnds", spec := "validEnds", unfollowed := true, recurses := true, named := ["haymow/ops.fields"], apart := false, laid := [("haymow/ops.fields", laid_haymow_ops_fields)] }
def ValidEndsSaid : Prop := validEndsRow.holds Tryd.pinned (OpenSpec.ofChange validEndsSpec)

/-- ITS FALSE NEIGHBOUR: 'it returns false'. Refute it at one input. -/
def validEndsWrong : ChangeSpec := { name := "validEnds", fn := fun _ => fun
  | [d1, d2] => { results := [.lit (.bool false)], args := [d1, d2] }
  | _ => none }
def ValidEndsWrongFalsely : Prop := validEndsRow.holds Tryd.pinned (OpenSpec.ofChange validEndsWrong)

/- THE SECOND FORM. 'bulk': how many values and letters a reading holds, each counted each time it is reached (what is shared counts as often as it is met; a slice's spare places count too). A statement '..UptoSaid' is the law's where the arguments, and the package variables that the reading takes, are together of bulk at most 1048576: NARROWER than '..Said'. Prove '..Said' where nothing that the law and all that it calls make is longer than what came in: it says more and counts as full. Else prove '..UptoSaid'. A law counts once. -/
mutual
def uptoBulk {H : Type} : DataW H → Nat
  | .lit (.string bytes) => bytes.length + 1
  | .lit _ => 1
  | .nil => 1
  | .ptr d => uptoBulk d + 1
  | .slice elems spare => uptoBulkAll elems + uptoBulkAll spare + 1
  | .agg parts => uptoBulkAll parts + 1
  | .iface _ d => uptoBulk d + 1
  | .map entries => uptoBulkEntries entries + 1
  | .held _ => 1
def uptoBulkAll {H : Type} : List (DataW H) → Nat
  | [] => 0
  | d :: r => uptoBulk d + uptoBulkAll r
def uptoBulkEntries {H : Type} : List (Lit × DataW H) → Nat
  | [] => 0
  | x :: r => uptoBulkEntry x + uptoBulkEntries r
def uptoBulkEntry {H : Type} : Lit × DataW H → Nat
  | (.string bytes, d) => bytes.length + uptoBulk d + 1
  | (_, d) => uptoBulk d + 1
 end
def uptoSmall : (H : Type) → List (DataW H) → Bool := fun _ ds => decide (uptoBulkAll ds ≤ 1048576)
def OpenSpec.upto (s : _root_.Go.ChangeSpec) : _root_.Go.OpenSpec := { _root_.Go.OpenSpec.ofChange s with cond := some uptoSmall }

/-- 'haymowlaw03.ValidTells', WHERE WHAT IT READS IS OF BULK AT MOST 1048576: true; the input reads as it did. -/
def validTellsUptoRow : OpenClaim := { program := "ytjfeoigclkelfaadoor", sum := "19fe3dd259005bc21c0df2c4c74bf8febf0b4adeddf7e2cc53fc22d2defaf315", func := "haymow/haymowlaw03.ValidTells", spec := "validTells", unfollowed := true, recurses := true, named := ["haymow/ops.fields"], apart := false, laid := [("haymow/ops.fields", laid_haymow_ops_fields)], narrowed := true }
def ValidTellsUptoSaid : Prop := validTellsUptoRow.holds Tryd.pinned (OpenSpec.upto validTellsSpec)

/-- 'haymowlaw03.ValidFits', WHERE WHAT IT READS IS OF BULK AT MOST 1048576: true; the input reads as it did. -/
def validFitsUptoRow : OpenClaim := { program := "ytjfeoigclkelfaadoor", sum := "19fe3dd259005bc21c0df2c4c74bf8febf0b4adeddf7e2cc53fc22d2defaf315", func := "haymow/haymowlaw03.ValidFits", spec := "validFits", unfollowed := true, recurses := true, named := ["haymow/ops.fields"], apart := false, laid := [("haymow/ops.fields", laid_haymow_ops_fields)], narrowed := true }
def ValidFitsUptoSaid : Prop := validFitsUptoRow.holds Tryd.pinned (OpenSpec.upto validFitsSpec)

/-- 'haymowlaw03.ValidMore', WHERE WHAT IT READS IS OF BULK AT MOST 1048576: true; the input reads as it did. -/
def validMoreUptoRow : OpenClaim := { program := "ytjfeoigclkelfaadoor", sum := "19fe3dd259005bc21c0df2c4c74bf8febf0b4adeddf7e2cc53fc22d2defaf315", func := "haymow/haymowlaw03.ValidMore", spec := "validMore", unfollowed := true, recurses := true, named := ["haymow/ops.fields"], apart := false, laid := [("haymow/ops.fields", laid_haymow_ops_fields)], narrowed := true }
def ValidMoreUptoSaid : Prop := validMoreUptoRow.holds Tryd.pinned (OpenSpec.upto validMoreSpec)

/-- 'haymowlaw03.ValidJumps', WHERE WHAT IT READS IS OF BULK AT MOST 1048576: true; the input reads as it did. -/
def validJumpsUptoRow : OpenClaim := { program := "ytjfeoigclkelfaadoor", sum := "19fe3dd259005bc21c0df2c4c74bf8febf0b4adeddf7e2cc53fc22d2defaf315", func := "haymow/haymowlaw03.ValidJumps", spec := "validJumps", unfollowed := true, recurses := true, named := ["haymow/ops.fields"], apart := false, laid := [("haymow/ops.fields", laid_haymow_ops_fields)], narrowed := true }
def ValidJumpsUptoSaid : Prop := validJumpsUptoRow.holds Tryd.pinned (OpenSpec.upto validJumpsSpec)

/-- 'haymowlaw03.ValidCalls', WHERE WHAT IT READS IS OF BULK AT MOST 1048576: true; the input reads as it did. -/
def validCallsUptoRow : OpenClaim := { program := "ytjfeoigclkelfaadoor", sum := "19fe3dd259005bc21c0df2c4c74bf8febf0b4adeddf7e2cc53fc22d2defaf315", func := "haymow/haymowlaw03.ValidCalls", spec := "validCalls", unfollowed := true, recurses := true, named := ["haymow/ops.fields"], apart := false, laid := [("haymow/ops.fields", laid_haymow_ops_fields)], narrowed := true }
def ValidCallsUptoSaid : Prop := validCallsUptoRow.holds Tryd.pinned (OpenSpec.upto validCallsSpec)

/-- 'haymowlaw03.ValidEnds', WHERE WHAT IT READS IS OF BULK AT MOST 1048576: true; the input reads as it did. -/
def validEndsUptoRow : OpenClaim := { program := "ytjfeoigclkelfaadoor", sum := "19fe3dd259005bc21c0df2c4c74bf8febf0b4adeddf7e2cc53fc22d2defaf315", func := "haymow/haymowlaw03.ValidEnds", spec := "validEnds", unfollowed := true, recurses := true, named := ["haymow/ops.fields"], apart := false, laid := [("haymow/ops.fields", laid_haymow_ops_fields)], narrowed := true }
def ValidEndsUptoSaid : Prop := validEndsUptoRow.holds Tryd.pinned (OpenSpec.upto validEndsSpec)

end Rows
end Go.Proofs.YtjfeoigclkelfaaDoor

/-
  No cell of these rows narrows 'for every input' (looked for: loops, veiled, ifaces, maps, wideKeys, modest, calm, conditions, laid).
  DERIVED. THE GIVEN ROWS OF THIS SEAT. 6 by the template 'for every input the law returns true; each argument reads behind the call as it read before'; 0 by the template 'total and deterministic' (their statements: YtljnngblhfhhaaaTotals.lean).
  GIVEN WITH THE SEED: the statements are not yours to turn. If you find one false, say at which input.
  Laid BY PROGRAM, IN A SANDBOX (cutbox-rows.mjs): the forced cells as the released guide's own fill.sh prints them over the translation 3865d36062a221f4… (all of the seat's roots in one cut). By AI agents, Wed Nov 11 2026. No macro, syntax, notation, axiom, sorry.
-/
import Derived.Test.YtljnngblhfhhaaaChecked
import GoSem.Claim
import GoSem.ClaimJoined
import GoSem.ClaimMapViews
import Derived.JoinedTies
import Derived.KernelRfl
namespace Go.Proofs.Ytljnngblhfhhaaa
/- THE CELL 'sum', in the pinned program and in every row, IS THE sha256 OF THE DUMP (.gsa) THAT YtljnngblhfhhaaaProg.lean LOADS. Nothing in Lean hashes anything: it is a label: what it is worth is what the hold of that sum in a sandbox is worth. -/
noncomputable def Try.pinned : Pinned := { name := "ytljnngblhfhhaaa", sum := "3865d36062a221f449aa8c10198660085573b98a09374f0fe5442a828b49aecc", checked := Try.checked }
namespace Rows
def none {H : Type} : Left H := { results := [], args := [] }

/-- 'outworkerlaw06.RunRuns': WHATEVER THE INPUT: true; the input reads as it did. -/
def runRunsSpec : ChangeSpec := { name := "runRuns", fn := fun _ => fun
  | [d1, d2] => { results := [.lit (.bool true)], args := [d1, d2] }
  | _ => none }
def runRunsRow : OpenClaim := { program := "ytljnngblhfhhaaa", sum := "3865d36062a221f449aa8c10198660085573b98a09374f0fe5442a828b49aecc", func := "outworker/outworkerlaw06.RunRuns", spec := "runRuns", apart := false }
def RunRunsSaid : Prop := runRunsRow.holds Try.pinned (OpenSpec.ofChange runRunsSpec)

/-- ITS FALSE NEIGHBOUR: 'it returns false'. Refute it at one input. -/
def runRunsWrong : ChangeSpec := { name := "runRuns", fn := fun _ => fun
  | [d1, d2] => { results := [.lit (.bool false)], args := [d1, d2] }
  | _ => none }
def RunRunsWrongFalsely : Prop := runRunsRow.holds Try.pinned (OpenSpec.ofChange runRunsWrong)

/-- 'outworkerlaw06.RunRefuses': WHATEVER THE INPUT: true; the input reads as it did. -/
def runRefusesSpec : ChangeSpec := { name := "runRefuses", fn := fun _ => fun
  | [d1, d2, d3, d4] => { results := [.lit (.bool true)], args := [d1, d2, d3, d4] }
  | _ => none }
def runRefusesRow : OpenClaim := { program := "ytljnngblhfhhaaa", sum := "3865d36062a221f449aa8c10198660085573b98a09374f0fe5442a828b49aecc", func := "outworker/outworkerlaw06.RunRefuses", spec := "runRefuses", apart := false }
def RunRefusesSaid : Prop := runRefusesRow.holds Try.pinned (OpenSpec.ofChange runRefusesSpec)

/-- ITS FALSE NEIGHBOUR: 'it returns false'. Refute it at one input. -/
def runRefusesWrong : ChangeSpec := { name := "runRefuses", fn := fun _ => fun
  | [d1, d2, d3, d4] => { results := [.lit (.bool false)], args := [d1, d2, d3, d4] }
  | _ => none }
def RunRefusesWrongFalsely : Prop := runRefusesRow.holds Try.pinned (OpenSpec.ofChange runRefusesWrong)

/-- 'outworkerlaw06.RunDoes': WHATEVER THE INPUT: true; the input reads as it did. -/
def runDoesSpec : ChangeSpec := { name := "runDoes", fn := fun _ => fun
  | [d1, d2, d3, d4, d5] => { results := [.lit (.bool true)], args := [d1, d2, d3, d4, d5] }
  | _ => none }
def runDoesRow : OpenClaim := { program := "ytljnngblhfhhaaa", sum := "3865d36062a221f449aa8c10198660085573b98a09374f0fe5442a828b49aecc", func := "outworker/outworkerlaw06.RunDoes", spec := "runDoes", unfollowed := true, recurses := true, apart := false }
def RunDoesSaid : Prop := runDoesRow.holds Try.pinned (OpenSpec.ofChange runDoesSpec)

/-- ITS FALSE NEIGHBOUR: 'it returns false'. Refute it at one input. -/
def runDoesWrong : ChangeSpec := { name := "runDoes", fn := fun _ => fun
  | [d1, d2, d3, d4, d5] => { results := [.lit (.bool false)], args := [d1, d2, d3, d4, d5] }
  | _ => none }
def RunDoesWrongFalsely : Prop := runDoesRow.holds Try.pinned (OpenSpec.ofChange runDoesWrong)

/-- 'outworkerlaw06.RunFuel': WHATEVER THE INPUT: true; the input reads as it did. -/
def runFuelSpec : ChangeSpec := { name := "runFuel", fn := fun _ => fun
  | [d1, d2, d3] => { results := [.lit (.bool true)], args := [d1, d2, d3] }
  | _ => none }
def runFuelRow : OpenClaim := { program := "ytljnngblhfhhaaa", sum := "3865d36062a221f449aa8c10198660085573b98a09374f0fe5442a828b49aecc", func := "outworker/outworkerlaw06.RunFuel", spec := "runFuel", apart := false }
def RunFuelSaid : Prop := runFuelRow.holds Try.pinned (OpenSpec.ofChange runFuelSpec)

/-- ITS FALSE NEIGHBOUR: 'it returns false'. Refute it at one input. -/
def runFuelWrong : ChangeSpec := { name := "runFuel", fn := fun _ => fun
  | [d1, d2, d3] => { results := [.lit (.bool false)], args := [d1, d2, d3] }
  | _ => none }
def RunFuelWrongFalsely : Prop := runFuelRow.holds Try.pinned (OpenSpec.ofChange runFuelWrong)

/-- 'outworkerlaw06.RunMoves': WHATEVER THE INPUT: true; the input reads as it did. -/
def runMovesSpec : ChangeSpec := { name := "runMoves", fn := fun _ => fun
  | [d1, d2, d3, d4, d5] => { results := [.lit (.bool true)], args := [d1, d2, d3, d4, d5] }
  | _ => none }
def runMovesRow : OpenClaim := { program := "ytljnngblhfhhaaa", sum := "3865d36062a221f449aa8c10198660085573b98a09374f0fe5442a828b49aecc", func := "outworker/outworkerlaw06.RunMoves", spec := "runMoves", apart := false }
def RunMovesSaid : Prop := runMovesRow.holds Try.pinned (OpenSpec.ofChange runMovesSpec)

/-- ITS FALSE NEIGHBOUR: 'it returns false'. Refute it at one input. -/
def runMovesWrong : ChangeSpec := { name := "runMoves", fn := fun _ => fun
  | [d1, d2, d3, d4, d5] => { results := [.lit (.bool false)], args := [d1, d2, d3, d4, d5] }
  | _ => none }
def RunMovesWrongFalsely : Prop := runMovesRow.holds Try.pinned (OpenSpec.ofChange runMovesWrong)

/-- 'outworkerlaw06.RunAnswers': WHATEVER THE INPUT: true; the input reads as it did. -/
def runAnswersSpec : ChangeSpec := { name := "runAnswers", fn := fun _ => fun
  | [d1, d2, d3] => { results := [.lit (.bool true)], args := [d1, d2, d3] }
  | _ => none }
def runAnswersRow : OpenClaim := { program := "ytljnngblhfhhaaa", sum := "3865d36062a221f449aa8c10198660085573b98a09374f0fe5442a828b49aecc", func := "outworker/outworkerlaw06.RunAnswers", spec := "runAnswers", apart := false }
def RunAnswersSaid : Prop := runAnswersRow.holds Try.pinned (OpenSpec.ofChange runAnswersSpec)

/-- ITS FALSE NEIGHBOUR: 'it returns false'. Refute it at one input. -/
def runAnswersWrong : ChangeSpec := { name := "runAnswers", fn := fun _ => fun
  | [d1, d2, d3] => { results := [.lit (.bool false)], args := [d1, d2, d3] }
  | _ => none }
def RunAnswersWrongFalsely : Prop := runAnswersRow.holds Try.pinned (OpenSpec.ofChange runAnswersWrong)

/- THE SECOND FORM. 'bulk': how many values and letters a reading holds, each counted each time it is reached (what is shared counts as often as it is met; a slice's spare places count too). A statement '..UptoSaid' is the law's where the arguments, and the package variables that the reading takes, are together of bulk at most 1048576: NARROWER than '..Said'. Prove '..Said' where nothing that the law and all that it calls make is longer than what came in: it says more and counts as full. Else prove '..UptoSaid'. A law counts once. -/
mutual
def uptoBulk {H : Type} : DataW H → Nat
  | .lit (.string bytes) => bytes.length + 1
  | .lit _ => 1
  | .nil => 1
  | .ptr d => uptoBulk d + 1
  | .slice elems spare => uptoBulkAll elems + uptoBulkAll spare + 1
  | .agg parts => uptoBulkAll parts + 1
  | .iface _ d => uptoBulk d + 1
  | .map entries => uptoBulkEntries entries + 1
  | .held _ => 1
def uptoBulkAll {H : Type} : List (DataW H) → Nat
  | [] => 0
  | d :: r => uptoBulk d + uptoBulkAll r
def uptoBulkEntries {H : Type} : List (Lit × DataW H) → Nat
  | [] => 0
  | x :: r => uptoBulkEntry x + uptoBulkEntries r
def uptoBulkEntry {H : Type} : Lit × DataW H → Nat
  | (.string bytes, d) => bytes.length + uptoBulk d + 1
  | (_, d) => uptoBulk d + 1
 end
def uptoSmall : (H : Type) → List (DataW H) → Bool := fun _ ds => decide (uptoBulkAll ds ≤ 1048576)
def OpenSpec.upto (s : _root_.Go.ChangeSpec) : _root_.Go.OpenSpec := { _root_.Go.OpenSpec.ofChange s with cond := some uptoSmall }

/-- 'outworkerlaw06.RunRuns', WHERE WHAT IT READS IS OF BULK AT MOST 1048576: true; the input reads as it did. -/
def runRunsUptoRow : OpenClaim := { program := "ytljnngblhfhhaaa", sum := "3865d36062a221f449aa8c10198660085573b98a09374f0fe5442a828b49aecc", func := "outworker/outworkerlaw06.RunRuns", spec := "runRuns", apart := false, narrowed := true }
def RunRunsUptoSaid : Prop := runRunsUptoRow.holds Try.pinned (OpenSpec.upto runRunsSpec)

/-- 'outworkerlaw06.RunRefuses', WHERE WHAT IT READS IS OF BULK AT MOST 1048576: true; the input reads as it did. -/
def runRefusesUptoRow : OpenClaim := { program := "ytljnngblhfhhaaa", sum := "3865d36062a221f449aa8c10198660085573b98a09374f0fe5442a828b49aecc", func := "outworker/outworkerlaw06.RunRefuses", spec := "runRefuses", apart := false, narrowed := true }
def RunRefusesUptoSaid : Prop := runRefusesUptoRow.holds Try.pinned (OpenSpec.upto runRefusesSpec)

/-- 'outworkerlaw06.RunDoes', WHERE WHAT IT READS IS OF BULK AT MOST 1048576: true; the input reads as it did. -/
def runDoesUptoRow : OpenClaim := { program := "ytljnngblhfhhaaa", sum := "3865d36062a221f449aa8c10198660085573b98a09374f0fe5442a828b49aecc", func := "outworker/outworkerlaw06.RunDoes", spec := "runDoes", unfollowed := true, recurses := true, apart := false, narrowed := true }
def RunDoesUptoSaid : Prop := runDoesUptoRow.holds Try.pinned (OpenSpec.upto runDoesSpec)

/-- 'outworkerlaw06.RunFuel', WHERE WHAT IT READS IS OF BULK AT MOST 1048576: true; the input reads as it did. -/
def runFuelUptoRow : OpenClaim := { program := "ytljnngblhfhhaaa", sum := "3865d36062a221f449aa8c10198660085573b98a09374f0fe5442a828b49aecc", func := "outworker/outworkerlaw06.RunFuel", spec := "runFuel", apart := false, narrowed := true }
def RunFuelUptoSaid : Prop := runFuelUptoRow.holds Try.pinned (OpenSpec.upto runFuelSpec)

/-- 'outworkerlaw06.RunMoves', WHERE WHAT IT READS IS OF BULK AT MOST 1048576: true; the input reads as it did. -/
def runMovesUptoRow : OpenClaim := { program := "ytljnngblhfhhaaa", sum := "3865d36062a221f449aa8c10198660085573b98a09374f0fe5442a828b49aecc", func := "outworker/outworkerlaw06.RunMoves", spec := "runMoves", apart := false, narrowed := true }
def RunMovesUptoSaid : Prop := runMovesUptoRow.holds Try.pinned (OpenSpec.upto runMovesSpec)

/-- 'outworkerlaw06.RunAnswers', WHERE WHAT IT READS IS OF BULK AT MOST 1048576: true; the input reads as it did. -/
def runAnswersUptoRow : OpenClaim := { program := "ytljnngblhfhhaaa", sum := "3865d36062a221f449aa8c10198660085573b98a09374f0fe5442a828b49aecc", func := "outworker/outworkerlaw06.RunAnswers", spec := "runAnswers", apart := false, narrowed := true }
def RunAnswersUptoSaid : Prop := runAnswersUptoRow.holds Try.pinned (OpenSpec.upto runAnswersSpec)

end Rows
end Go.Proofs.Ytljnngblhfhhaaa

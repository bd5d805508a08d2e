/-
  No cell of these rows narrows 'for every input' (looked for: loops, veiled, ifaces, maps, wideKeys, modest, calm, conditions, laid).
  DERIVED. THE GIVEN ROWS OF THIS SEAT. 4 by the template 'for every input the law returns true; each argument reads behind the call as it read before'; 0 by the template 'total and deterministic' (their statements: YtbgedbahabbanaaTotals.lean).
  GIVEN WITH THE SEED: the statements are not yours to turn. If you find one false, say at which input.
  Laid BY PROGRAM, IN A SANDBOX (cutbox-rows.mjs): the forced cells as the released guide's own fill.sh prints them over the translation 752e71a490833bd7… (all of the seat's roots in one cut). By AI agents, Wed Nov 11 2026. No macro, syntax, notation, axiom, sorry.
-/
import Derived.Test.YtbgedbahabbanaaChecked
import GoSem.Claim
import GoSem.ClaimJoined
import GoSem.ClaimMapViews
import Derived.JoinedTies
import Derived.KernelRfl
namespace Go.Proofs.Ytbgedbahabbanaa
/- THE CELL 'sum', in the pinned program and in every row, IS THE sha256 OF THE DUMP (.gsa) THAT YtbgedbahabbanaaProg.lean LOADS. Nothing in Lean hashes anything: it is a label: what it is worth is what the hold of that sum in a sandbox is worth. -/
noncomputable def Try.pinned : Pinned := { name := "ytbgedbahabbanaa", sum := "752e71a490833bd7f37694d3bb5e31a0026de149fab2bee5110c28599a6723b9", checked := Try.checked }
namespace Rows
def none {H : Type} : Left H := { results := [], args := [] }

/-- 'outworkerlaw05.MachChecks': WHATEVER THE INPUT: true; the input reads as it did. -/
def machChecksSpec : ChangeSpec := { name := "machChecks", fn := fun _ => fun
  | [d1, d2, d3, d4, d5, d6, d7, d8, d9] => { results := [.lit (.bool true)], args := [d1, d2, d3, d4, d5, d6, d7, d8, d9] }
  | _ => none }
def machChecksRow : OpenClaim := { program := "ytbgedbahabbanaa", sum := "752e71a490833bd7f37694d3bb5e31a0026de149fab2bee5110c28599a6723b9", func := "outworker/outworkerlaw05.MachChecks", spec := "machChecks", unfollowed := true, recurses := true, apart := false }
def MachChecksSaid : Prop := machChecksRow.holds Try.pinned (OpenSpec.ofChange machChecksSpec)

/-- ITS FALSE NEIGHBOUR: 'it returns false'. Refute it at one input. -/
def machChecksWrong : ChangeSpec := { name := "machChecks", fn := fun _ => fun
  | [d1, d2, d3, d4, d5, d6, d7, d8, d9] => { results := [.lit (.bool false)], args := [d1, d2, d3, d4, d5, d6, d7, d8, d9] }
  | _ => none }
def MachChecksWrongFalsely : Prop := machChecksRow.holds Try.pinned (OpenSpec.ofChange machChecksWrong)

/-- 'outworkerlaw05.MachFree': WHATEVER THE INPUT: true; the input reads as it did. -/
def machFreeSpec : ChangeSpec := { name := "machFree", fn := fun _ => fun
  | [d] => { results := [.lit (.bool true)], args := [d] }
  | _ => none }
def machFreeRow : OpenClaim := { program := "ytbgedbahabbanaa", sum := "752e71a490833bd7f37694d3bb5e31a0026de149fab2bee5110c28599a6723b9", func := "outworker/outworkerlaw05.MachFree", spec := "machFree", apart := false }
def MachFreeSaid : Prop := machFreeRow.holds Try.pinned (OpenSpec.ofChange machFreeSpec)

/-- ITS FALSE NEIGHBOUR: 'it returns false'. Refute it at one input. -/
def machFreeWrong : ChangeSpec := { name := "machFree", fn := fun _ => fun
  | [d] => { results := [.lit (.bool false)], args := [d] }
  | _ => none }
def MachFreeWrongFalsely : Prop := machFreeRow.holds Try.pinned (OpenSpec.ofChange machFreeWrong)

/-- 'outworkerlaw05.MachOnly': WHATEVER THE INPUT: true; the input reads as it did. -/
def machOnlySpec : ChangeSpec := { name := "machOnly", fn := fun _ => fun
  | [d1, d2, d3, d4, d5] => { results := [.lit (.bool true)], args := [d1, d2, d3, d4, d5] }
  | _ => none }
def machOnlyRow : OpenClaim := { program := "ytbgedbahabbanaa", sum := "752e71a490833bd7f37694d3bb5e31a0026de149fab2bee5110c28599a6723b9", func := "outworker/outworkerlaw05.MachOnly", spec := "machOnly", unfollowed := true, recurses := true, apart := false }
def MachOnlySaid : Prop := machOnlyRow.holds Try.pinned (OpenSpec.ofChange machOnlySpec)

/-- ITS FALSE NEIGHBOUR: 'it returns false'. Refute it at one input. -/
def machOnlyWrong : ChangeSpec := { name := "machOnly", fn := fun _ => fun
  | [d1, d2, d3, d4, d5] => { results := [.lit (.bool false)], args := [d1, d2, d3, d4, d5] }
  | _ => none }
def MachOnlyWrongFalsely : Prop := machOnlyRow.holds Try.pinned (OpenSpec.ofChange machOnlyWrong)

/-- 'outworkerlaw05.MachSlots': WHATEVER THE INPUT: true; the input reads as it did. -/
def machSlotsSpec : ChangeSpec := { name := "machSlots", fn := fun _ => fun
  | [d1, d2, d3, d4, d5, d6] => { results := [.lit (.bool true)], args := [d1, d2, d3, d4, d5, d6] }
  | _ => none }
def machSlotsRow : OpenClaim := { program := "ytbgedbahabbanaa", sum := "752e71a490833bd7f37694d3bb5e31a0026de149fab2bee5110c28599a6723b9", func := "outworker/outworkerlaw05.MachSlots", spec := "machSlots", unfollowed := true, recurses := true, apart := false }
def MachSlotsSaid : Prop := machSlotsRow.holds Try.pinned (OpenSpec.ofChange machSlotsSpec)

/-- ITS FALSE NEIGHBOUR: 'it returns false'. Refute it at one input. -/
def machSlotsWrong : ChangeSpec := { name := "machSlots", fn := fun _ => fun
  | [d1, d2, d3, d4, d5, d6] => { results := [.lit (.bool false)], args := [d1, d2, d3, d4, d5, d6] }
  | _ => none }
def MachSlotsWrongFalsely : Prop := machSlotsRow.holds Try.pinned (OpenSpec.ofChange machSlotsWrong)

/- THE SECOND FORM. 'bulk': how many values and letters a reading holds, each counted each time it is reached (what is shared counts as often as it is met; a slice's spare places count too). A statement '..UptoSaid' is the law's where the arguments, and the package variables that the reading takes, are together of bulk at most 1048576: NARROWER than '..Said'. Prove '..Said' where nothing that the law and all that it calls make is longer than what came in: it says more and counts as full. Else prove '..UptoSaid'. A law counts once. -/
mutual
def uptoBulk {H : Type} : DataW H → Nat
  | .lit (.string bytes) => bytes.length + 1
  | .lit _ => 1
  | .nil => 1
  | .ptr d => uptoBulk d + 1
  | .slice elems spare => uptoBulkAll elems + uptoBulkAll spare + 1
  | .agg parts => uptoBulkAll parts + 1
  | .iface _ d => uptoBulk d + 1
  | .map entries => uptoBulkEntries entries + 1
  | .held _ => 1
def uptoBulkAll {H : Type} : List (DataW H) → Nat
  | [] => 0
  | d :: r => uptoBulk d + uptoBulkAll r
def uptoBulkEntries {H : Type} : List (Lit × DataW H) → Nat
  | [] => 0
  | x :: r => uptoBulkEntry x + uptoBulkEntries r
def uptoBulkEntry {H : Type} : Lit × DataW H → Nat
  | (.string bytes, d) => bytes.length + uptoBulk d + 1
  | (_, d) => uptoBulk d + 1
 end
def uptoSmall : (H : Type) → List (DataW H) → Bool := fun _ ds => decide (uptoBulkAll ds ≤ 1048576)
def OpenSpec.upto (s : _root_.Go.ChangeSpec) : _root_.Go.OpenSpec := { _root_.Go.OpenSpec.ofChange s with cond := some uptoSmall }

/-- 'outworkerlaw05.MachChecks', WHERE WHAT IT READS IS OF BULK AT MOST 1048576: true; the input reads as it did. -/
def machChecksUptoRow : OpenClaim := { program := "ytbgedbahabbanaa", sum := "752e71a490833bd7f37694d3bb5e31a0026de149fab2bee5110c28599a6723b9", func := "outworker/outworkerlaw05.MachChecks", spec := "machChecks", unfollowed := true, recurses := true, apart := false, narrowed := true }
def MachChecksUptoSaid : Prop := machChecksUptoRow.holds Try.pinned (OpenSpec.upto machChecksSpec)

/-- 'outworkerlaw05.MachFree', WHERE WHAT IT READS IS OF BULK AT MOST 1048576: true; the input reads as it did. -/
def machFreeUptoRow : OpenClaim := { program := "ytbgedbahabbanaa", sum := "752e71a490833bd7f37694d3bb5e31a0026de149fab2bee5110c28599a6723b9", func := "outworker/outworkerlaw05.MachFree", spec := "machFree", apart := false, narrowed := true }
def MachFreeUptoSaid : Prop := machFreeUptoRow.holds Try.pinned (OpenSpec.upto machFreeSpec)

/-- 'outworkerlaw05.MachOnly', WHERE WHAT IT READS IS OF BULK AT MOST 1048576: true; the input reads as it did. -/
def machOnlyUptoRow : OpenClaim := { program := "ytbgedbahabbanaa", sum := "752e71a490833bd7f37694d3bb5e31a0026de149fab2bee5110c28599a6723b9", func := "outworker/outworkerlaw05.MachOnly", spec := "machOnly", unfollowed := true, recurses := true, apart := false, narrowed := true }
def MachOnlyUptoSaid : Prop := machOnlyUptoRow.holds Try.pinned (OpenSpec.upto machOnlySpec)

/-- 'outworkerlaw05.MachSlots', WHERE WHAT IT READS IS OF BULK AT MOST 1048576: true; the input reads as it did. -/
def machSlotsUptoRow : OpenClaim := { program := "ytbgedbahabbanaa", sum := "752e71a490833bd7f37694d3bb5e31a0026de149fab2bee5110c28599a6723b9", func := "outworker/outworkerlaw05.MachSlots", spec := "machSlots", unfollowed := true, recurses := true, apart := false, narrowed := true }
def MachSlotsUptoSaid : Prop := machSlotsUptoRow.holds Try.pinned (OpenSpec.upto machSlotsSpec)

end Rows
end Go.Proofs.Ytbgedbahabbanaa

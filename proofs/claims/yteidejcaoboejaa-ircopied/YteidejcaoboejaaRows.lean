/-
  No cell of these rows narrows 'for every input' (looked for: loops, veiled, ifaces, maps, wideKeys, modest, calm, conditions, laid).
  DERIVED. THE GIVEN ROWS OF THIS SEAT. 6 by the template 'for every input the law returns true; each argument reads behind the call as it read before'; 0 by the template 'total and deterministic' (their statements: YteidejcaoboejaaTotals.lean).
  GIVEN WITH THE SEED: the statements are not yours to turn. If you find one false, say at which input.
  Laid BY PROGRAM, IN A SANDBOX (cutbox-rows.mjs): the forced cells as the released guide's own fill.sh prints them over the translation 41202d21a7960bfb… (all of the seat's roots in one cut). By AI agents, Wed Nov 11 2026. No macro, syntax, notation, axiom, sorry.
-/
import Derived.Test.YteidejcaoboejaaChecked
import GoSem.Claim
import GoSem.ClaimJoined
import GoSem.ClaimMapViews
import Derived.JoinedTies
import Derived.KernelRfl
namespace Go.Proofs.Yteidejcaoboejaa
/- THE CELL 'sum', in the pinned program and in every row, IS THE sha256 OF THE DUMP (.gsa) THAT YteidejcaoboejaaProg.lean LOADS. Nothing in Lean hashes anything: it is a label: what it is worth is what the hold of that sum in a sandbox is worth. -/
noncomputable def Try.pinned : Pinned := { name := "yteidejcaoboejaa", sum := "41202d21a7960bfb25d4005191b261218f8dbe5b8aceecc4de52d6bbc1353f23", checked := Try.checked }
namespace Rows
def none {H : Type} : Left H := { results := [], args := [] }

/-- 'outworkerlaw04.IrChecks': WHATEVER THE INPUT: true; the input reads as it did. -/
def irChecksSpec : ChangeSpec := { name := "irChecks", fn := fun _ => fun
  | [d1, d2, d3, d4, d5, d6] => { results := [.lit (.bool true)], args := [d1, d2, d3, d4, d5, d6] }
  | _ => none }
def irChecksRow : OpenClaim := { program := "yteidejcaoboejaa", sum := "41202d21a7960bfb25d4005191b261218f8dbe5b8aceecc4de52d6bbc1353f23", func := "outworker/outworkerlaw04.IrChecks", spec := "irChecks", apart := false }
def IrChecksSaid : Prop := irChecksRow.holds Try.pinned (OpenSpec.ofChange irChecksSpec)

/-- ITS FALSE NEIGHBOUR: 'it returns false'. Refute it at one input. -/
def irChecksWrong : ChangeSpec := { name := "irChecks", fn := fun _ => fun
  | [d1, d2, d3, d4, d5, d6] => { results := [.lit (.bool false)], args := [d1, d2, d3, d4, d5, d6] }
  | _ => none }
def IrChecksWrongFalsely : Prop := irChecksRow.holds Try.pinned (OpenSpec.ofChange irChecksWrong)

/-- 'outworkerlaw04.IrUses': WHATEVER THE INPUT: true; the input reads as it did. -/
def irUsesSpec : ChangeSpec := { name := "irUses", fn := fun _ => fun
  | [d1, d2] => { results := [.lit (.bool true)], args := [d1, d2] }
  | _ => none }
def irUsesRow : OpenClaim := { program := "yteidejcaoboejaa", sum := "41202d21a7960bfb25d4005191b261218f8dbe5b8aceecc4de52d6bbc1353f23", func := "outworker/outworkerlaw04.IrUses", spec := "irUses", apart := false }
def IrUsesSaid : Prop := irUsesRow.holds Try.pinned (OpenSpec.ofChange irUsesSpec)

/-- ITS FALSE NEIGHBOUR: 'it returns false'. Refute it at one input. -/
def irUsesWrong : ChangeSpec := { name := "irUses", fn := fun _ => fun
  | [d1, d2] => { results := [.lit (.bool false)], args := [d1, d2] }
  | _ => none }
def IrUsesWrongFalsely : Prop := irUsesRow.holds Try.pinned (OpenSpec.ofChange irUsesWrong)

/-- 'outworkerlaw04.IrEnds': WHATEVER THE INPUT: true; the input reads as it did. -/
def irEndsSpec : ChangeSpec := { name := "irEnds", fn := fun _ => fun
  | [d1, d2, d3] => { results := [.lit (.bool true)], args := [d1, d2, d3] }
  | _ => none }
def irEndsRow : OpenClaim := { program := "yteidejcaoboejaa", sum := "41202d21a7960bfb25d4005191b261218f8dbe5b8aceecc4de52d6bbc1353f23", func := "outworker/outworkerlaw04.IrEnds", spec := "irEnds", apart := false }
def IrEndsSaid : Prop := irEndsRow.holds Try.pinned (OpenSpec.ofChange irEndsSpec)

/-- ITS FALSE NEIGHBOUR: 'it returns false'. Refute it at one input. -/
def irEndsWrong : ChangeSpec := { name := "irEnds", fn := fun _ => fun
  | [d1, d2, d3] => { results := [.lit (.bool false)], args := [d1, d2, d3] }
  | _ => none }
def IrEndsWrongFalsely : Prop := irEndsRow.holds Try.pinned (OpenSpec.ofChange irEndsWrong)

/-- 'outworkerlaw04.IrCopied': WHATEVER THE INPUT: true; the input reads as it did. -/
def irCopiedSpec : ChangeSpec := { name := "irCopied", fn := fun _ => fun
  | [d1, d2, d3, d4, d5] => { results := [.lit (.bool true)], args := [d1, d2, d3, d4, d5] }
  | _ => none }
def irCopiedRow : OpenClaim := { program := "yteidejcaoboejaa", sum := "41202d21a7960bfb25d4005191b261218f8dbe5b8aceecc4de52d6bbc1353f23", func := "outworker/outworkerlaw04.IrCopied", spec := "irCopied", apart := false }
def IrCopiedSaid : Prop := irCopiedRow.holds Try.pinned (OpenSpec.ofChange irCopiedSpec)

/-- ITS FALSE NEIGHBOUR: 'it returns false'. Refute it at one input. -/
def irCopiedWrong : ChangeSpec := { name := "irCopied", fn := fun _ => fun
  | [d1, d2, d3, d4, d5] => { results := [.lit (.bool false)], args := [d1, d2, d3, d4, d5] }
  | _ => none }
def IrCopiedWrongFalsely : Prop := irCopiedRow.holds Try.pinned (OpenSpec.ofChange irCopiedWrong)

/-- 'outworkerlaw04.IrOnly': WHATEVER THE INPUT: true; the input reads as it did. -/
def irOnlySpec : ChangeSpec := { name := "irOnly", fn := fun _ => fun
  | [d1, d2, d3, d4, d5, d6] => { results := [.lit (.bool true)], args := [d1, d2, d3, d4, d5, d6] }
  | _ => none }
def irOnlyRow : OpenClaim := { program := "yteidejcaoboejaa", sum := "41202d21a7960bfb25d4005191b261218f8dbe5b8aceecc4de52d6bbc1353f23", func := "outworker/outworkerlaw04.IrOnly", spec := "irOnly", unfollowed := true, recurses := true, apart := false }
def IrOnlySaid : Prop := irOnlyRow.holds Try.pinned (OpenSpec.ofChange irOnlySpec)

/-- ITS FALSE NEIGHBOUR: 'it returns false'. Refute it at one input. -/
def irOnlyWrong : ChangeSpec := { name := "irOnly", fn := fun _ => fun
  | [d1, d2, d3, d4, d5, d6] => { results := [.lit (.bool false)], args := [d1, d2, d3, d4, d5, d6] }
  | _ => none }
def IrOnlyWrongFalsely : Prop := irOnlyRow.holds Try.pinned (OpenSpec.ofChange irOnlyWrong)

/-- 'outworkerlaw04.IrTwice': WHATEVER THE INPUT: true; the input reads as it did. -/
def irTwiceSpec : ChangeSpec := { name := "irTwice", fn := fun _ => fun
  | [d] => { results := [.lit (.bool true)], args := [d] }
  | _ => none }
def irTwiceRow : OpenClaim := { program := "yteidejcaoboejaa", sum := "41202d21a7960bfb25d4005191b261218f8dbe5b8aceecc4de52d6bbc1353f23", func := "outworker/outworkerlaw04.IrTwice", spec := "irTwice", apart := false }
def IrTwiceSaid : Prop := irTwiceRow.holds Try.pinned (OpenSpec.ofChange irTwiceSpec)

/-- ITS FALSE NEIGHBOUR: 'it returns false'. Refute it at one input. -/
def irTwiceWrong : ChangeSpec := { name := "irTwice", fn := fun _ => fun
  | [d] => { results := [.lit (.bool false)], args := [d] }
  | _ => none }
def IrTwiceWrongFalsely : Prop := irTwiceRow.holds Try.pinned (OpenSpec.ofChange irTwiceWrong)

/- THE SECOND FORM. 'bulk': how many values and letters a reading holds, each counted each time it is reached (what is shared counts as often as it is met; a slice's spare places count too). A statement '..UptoSaid' is the law's where the arguments, and the package variables that the reading takes, are together of bulk at most 1048576: NARROWER than '..Said'. Prove '..Said' where nothing that the law and all that it calls make is longer than what came in: it says more and counts as full. Else prove '..UptoSaid'. A law counts once. -/
mutual
def uptoBulk {H : Type} : DataW H → Nat
  | .lit (.string bytes) => bytes.length + 1
  | .lit _ => 1
  | .nil => 1
  | .ptr d => uptoBulk d + 1
  | .slice elems spare => uptoBulkAll elems + uptoBulkAll spare + 1
  | .agg parts => uptoBulkAll parts + 1
  | .iface _ d => uptoBulk d + 1
  | .map entries => uptoBulkEntries entries + 1
  | .held _ => 1
def uptoBulkAll {H : Type} : List (DataW H) → Nat
  | [] => 0
  | d :: r => uptoBulk d + uptoBulkAll r
def uptoBulkEntries {H : Type} : List (Lit × DataW H) → Nat
  | [] => 0
  | x :: r => uptoBulkEntry x + uptoBulkEntries r
def uptoBulkEntry {H : Type} : Lit × DataW H → Nat
  | (.string bytes, d) => bytes.length + uptoBulk d + 1
  | (_, d) => uptoBulk d + 1
 end
def uptoSmall : (H : Type) → List (DataW H) → Bool := fun _ ds => decide (uptoBulkAll ds ≤ 1048576)
def OpenSpec.upto (s : _root_.Go.ChangeSpec) : _root_.Go.OpenSpec := { _root_.Go.OpenSpec.ofChange s with cond := some uptoSmall }

/-- 'outworkerlaw04.IrChecks', WHERE WHAT IT READS IS OF BULK AT MOST 1048576: true; the input reads as it did. -/
def irChecksUptoRow : OpenClaim := { program := "yteidejcaoboejaa", sum := "41202d21a7960bfb25d4005191b261218f8dbe5b8aceecc4de52d6bbc1353f23", func := "outworker/outworkerlaw04.IrChecks", spec := "irChecks", apart := false, narrowed := true }
def IrChecksUptoSaid : Prop := irChecksUptoRow.holds Try.pinned (OpenSpec.upto irChecksSpec)

/-- 'outworkerlaw04.IrUses', WHERE WHAT IT READS IS OF BULK AT MOST 1048576: true; the input reads as it did. -/
def irUsesUptoRow : OpenClaim := { program := "yteidejcaoboejaa", sum := "41202d21a7960bfb25d4005191b261218f8dbe5b8aceecc4de52d6bbc1353f23", func := "outworker/outworkerlaw04.IrUses", spec := "irUses", apart := false, narrowed := true }
def IrUsesUptoSaid : Prop := irUsesUptoRow.holds Try.pinned (OpenSpec.upto irUsesSpec)

/-- 'outworkerlaw04.IrEnds', WHERE WHAT IT READS IS OF BULK AT MOST 1048576: true; the input reads as it did. -/
def irEndsUptoRow : OpenClaim := { program := "yteidejcaoboejaa", sum := "41202d21a7960bfb25d4005191b261218f8dbe5b8aceecc4de52d6bbc1353f23", func := "outworker/outworkerlaw04.IrEnds", spec := "irEnds", apart := false, narrowed := true }
def IrEndsUptoSaid : Prop := irEndsUptoRow.holds Try.pinned (OpenSpec.upto irEndsSpec)

/-- 'outworkerlaw04.IrCopied', WHERE WHAT IT READS IS OF BULK AT MOST 1048576: true; the input reads as it did. -/
def irCopiedUptoRow : OpenClaim := { program := "yteidejcaoboejaa", sum := "41202d21a7960bfb25d4005191b261218f8dbe5b8aceecc4de52d6bbc1353f23", func := "outworker/outworkerlaw04.IrCopied", spec := "irCopied", apart := false, narrowed := true }
def IrCopiedUptoSaid : Prop := irCopiedUptoRow.holds Try.pinned (OpenSpec.upto irCopiedSpec)

/-- 'outworkerlaw04.IrOnly', WHERE WHAT IT READS IS OF BULK AT MOST 1048576: true; the input reads as it did. -/
def irOnlyUptoRow : OpenClaim := { program := "yteidejcaoboejaa", sum := "41202d21a7960bfb25d4005191b261218f8dbe5b8aceecc4de52d6bbc1353f23", func := "outworker/outworkerlaw04.IrOnly", spec := "irOnly", unfollowed := true, recurses := true, apart := false, narrowed := true }
def IrOnlyUptoSaid : Prop := irOnlyUptoRow.holds Try.pinned (OpenSpec.upto irOnlySpec)

/-- 'outworkerlaw04.IrTwice', WHERE WHAT IT READS IS OF BULK AT MOST 1048576: true; the input reads as it did. -/
def irTwiceUptoRow : OpenClaim := { program := "yteidejcaoboejaa", sum := "41202d21a7960bfb25d4005191b261218f8dbe5b8aceecc4de52d6bbc1353f23", func := "outworker/outworkerlaw04.IrTwice", spec := "irTwice", apart := false, narrowed := true }
def IrTwiceUptoSaid : Prop := irTwiceUptoRow.holds Try.pinned (OpenSpec.upto irTwiceSpec)

end Rows
end Go.Proofs.Yteidejcaoboejaa

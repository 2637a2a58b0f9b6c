/-
  No cell of these rows narrows 'for every input' (looked for: loops, veiled, ifaces, maps, wideKeys, modest, calm, conditions, laid).
  DERIVED. THE GIVEN ROWS OF THIS SEAT. 7 by the template 'for every input the law returns true; each argument reads behind the call as it read before'; 0 by the template 'total and deterministic' (their statements: YticaieghapjpkaaTotals.lean).
  GIVEN WITH THE SEED: the statements are not yours to turn. If you find one false, say at which input.
  Laid BY PROGRAM, IN A SANDBOX (cutbox-rows.mjs): the forced cells as the released guide's own fill.sh prints them over the translation 2954b418f35e3889… (all of the seat's roots in one cut). By AI agents, Wed Nov 11 2026. No macro, syntax, notation, axiom, sorry.
-/
import Derived.Test.YticaieghapjpkaaChecked
import GoSem.Claim
import GoSem.ClaimJoined
import GoSem.ClaimMapViews
import Derived.JoinedTies
import Derived.KernelRfl
namespace Go.Proofs.Yticaieghapjpkaa
/- THE CELL 'sum', in the pinned program and in every row, IS THE sha256 OF THE DUMP (.gsa) THAT YticaieghapjpkaaProg.lean LOADS. Nothing in Lean hashes anything: it is a label: what it is worth is what the hold of that sum in a sandbox is worth. -/
noncomputable def Try.pinned : Pinned := { name := "yticaieghapjpkaa", sum := "2954b418f35e3889c3053eab85f6f3d1b25872026517e2ce4aeabab3dfcbf0bd", checked := Try.checked }
namespace Rows
def none {H : Type} : Left H := { results := [], args := [] }

/-- 'umpirelaw10.GateEnters': WHATEVER THE INPUT: true; the input reads as it did. -/
def gateEntersSpec : ChangeSpec := { name := "gateEnters", fn := fun _ => fun
  | [d1, d2, d3] => { results := [.lit (.bool true)], args := [d1, d2, d3] }
  | _ => none }
def gateEntersRow : OpenClaim := { program := "yticaieghapjpkaa", sum := "2954b418f35e3889c3053eab85f6f3d1b25872026517e2ce4aeabab3dfcbf0bd", func := "umpire/umpirelaw10.GateEnters", spec := "gateEnters", unfollowed := true, recurses := true, apart := false }
def GateEntersSaid : Prop := gateEntersRow.holds Try.pinned (OpenSpec.ofChange gateEntersSpec)

/-- ITS FALSE NEIGHBOUR: 'it returns false'. Refute it at one input. -/
def gateEntersWrong : ChangeSpec := { name := "gateEnters", fn := fun _ => fun
  | [d1, d2, d3] => { results := [.lit (.bool false)], args := [d1, d2, d3] }
  | _ => none }
def GateEntersWrongFalsely : Prop := gateEntersRow.holds Try.pinned (OpenSpec.ofChange gateEntersWrong)

/-- 'umpirelaw10.GateLeaves': WHATEVER THE INPUT: true; the input reads as it did. -/
def gateLeavesSpec : ChangeSpec := { name := "gateLeaves", fn := fun _ => fun
  | [d1, d2, d3] => { results := [.lit (.bool true)], args := [d1, d2, d3] }
  | _ => none }
def gateLeavesRow : OpenClaim := { program := "yticaieghapjpkaa", sum := "2954b418f35e3889c3053eab85f6f3d1b25872026517e2ce4aeabab3dfcbf0bd", func := "umpire/umpirelaw10.GateLeaves", spec := "gateLeaves", unfollowed := true, recurses := true, apart := false }
def GateLeavesSaid : Prop := gateLeavesRow.holds Try.pinned (OpenSpec.ofChange gateLeavesSpec)

/-- ITS FALSE NEIGHBOUR: 'it returns false'. Refute it at one input. -/
def gateLeavesWrong : ChangeSpec := { name := "gateLeaves", fn := fun _ => fun
  | [d1, d2, d3] => { results := [.lit (.bool false)], args := [d1, d2, d3] }
  | _ => none }
def GateLeavesWrongFalsely : Prop := gateLeavesRow.holds Try.pinned (OpenSpec.ofChange gateLeavesWrong)

/-- 'umpirelaw10.GateAlone': WHATEVER THE INPUT: true; the input reads as it did. -/
def gateAloneSpec : ChangeSpec := { name := "gateAlone", fn := fun _ => fun
  | [d1, d2, d3] => { results := [.lit (.bool true)], args := [d1, d2, d3] }
  | _ => none }
def gateAloneRow : OpenClaim := { program := "yticaieghapjpkaa", sum := "2954b418f35e3889c3053eab85f6f3d1b25872026517e2ce4aeabab3dfcbf0bd", func := "umpire/umpirelaw10.GateAlone", spec := "gateAlone", unfollowed := true, recurses := true, apart := false }
def GateAloneSaid : Prop := gateAloneRow.holds Try.pinned (OpenSpec.ofChange gateAloneSpec)

/-- ITS FALSE NEIGHBOUR: 'it returns false'. Refute it at one input. -/
def gateAloneWrong : ChangeSpec := { name := "gateAlone", fn := fun _ => fun
  | [d1, d2, d3] => { results := [.lit (.bool false)], args := [d1, d2, d3] }
  | _ => none }
def GateAloneWrongFalsely : Prop := gateAloneRow.holds Try.pinned (OpenSpec.ofChange gateAloneWrong)

/-- 'umpirelaw10.GateTwo': WHATEVER THE INPUT: true; the input reads as it did. -/
def gateTwoSpec : ChangeSpec := { name := "gateTwo", fn := fun _ => fun
  | [d1, d2, d3] => { results := [.lit (.bool true)], args := [d1, d2, d3] }
  | _ => none }
def gateTwoRow : OpenClaim := { program := "yticaieghapjpkaa", sum := "2954b418f35e3889c3053eab85f6f3d1b25872026517e2ce4aeabab3dfcbf0bd", func := "umpire/umpirelaw10.GateTwo", spec := "gateTwo", unfollowed := true, recurses := true, apart := false }
def GateTwoSaid : Prop := gateTwoRow.holds Try.pinned (OpenSpec.ofChange gateTwoSpec)

/-- ITS FALSE NEIGHBOUR: 'it returns false'. Refute it at one input. -/
def gateTwoWrong : ChangeSpec := { name := "gateTwo", fn := fun _ => fun
  | [d1, d2, d3] => { results := [.lit (.bool false)], args := [d1, d2, d3] }
  | _ => none }
def GateTwoWrongFalsely : Prop := gateTwoRow.holds Try.pinned (OpenSpec.ofChange gateTwoWrong)

/-- 'umpirelaw10.GateSides': WHATEVER THE INPUT: true; the input reads as it did. -/
def gateSidesSpec : ChangeSpec := { name := "gateSides", fn := fun _ => fun
  | [d1, d2, d3] => { results := [.lit (.bool true)], args := [d1, d2, d3] }
  | _ => none }
def gateSidesRow : OpenClaim := { program := "yticaieghapjpkaa", sum := "2954b418f35e3889c3053eab85f6f3d1b25872026517e2ce4aeabab3dfcbf0bd", func := "umpire/umpirelaw10.GateSides", spec := "gateSides", unfollowed := true, recurses := true, apart := false }
def GateSidesSaid : Prop := gateSidesRow.holds Try.pinned (OpenSpec.ofChange gateSidesSpec)

/-- ITS FALSE NEIGHBOUR: 'it returns false'. Refute it at one input. -/
def gateSidesWrong : ChangeSpec := { name := "gateSides", fn := fun _ => fun
  | [d1, d2, d3] => { results := [.lit (.bool false)], args := [d1, d2, d3] }
  | _ => none }
def GateSidesWrongFalsely : Prop := gateSidesRow.holds Try.pinned (OpenSpec.ofChange gateSidesWrong)

/-- 'umpirelaw10.GateStale': WHATEVER THE INPUT: true; the input reads as it did. -/
def gateStaleSpec : ChangeSpec := { name := "gateStale", fn := fun _ => fun
  | [d1, d2, d3] => { results := [.lit (.bool true)], args := [d1, d2, d3] }
  | _ => none }
def gateStaleRow : OpenClaim := { program := "yticaieghapjpkaa", sum := "2954b418f35e3889c3053eab85f6f3d1b25872026517e2ce4aeabab3dfcbf0bd", func := "umpire/umpirelaw10.GateStale", spec := "gateStale", unfollowed := true, recurses := true, apart := false }
def GateStaleSaid : Prop := gateStaleRow.holds Try.pinned (OpenSpec.ofChange gateStaleSpec)

/-- ITS FALSE NEIGHBOUR: 'it returns false'. Refute it at one input. -/
def gateStaleWrong : ChangeSpec := { name := "gateStale", fn := fun _ => fun
  | [d1, d2, d3] => { results := [.lit (.bool false)], args := [d1, d2, d3] }
  | _ => none }
def GateStaleWrongFalsely : Prop := gateStaleRow.holds Try.pinned (OpenSpec.ofChange gateStaleWrong)

/-- 'umpirelaw10.GateAgain': WHATEVER THE INPUT: true; the input reads as it did. -/
def gateAgainSpec : ChangeSpec := { name := "gateAgain", fn := fun _ => fun
  | [d1, d2, d3] => { results := [.lit (.bool true)], args := [d1, d2, d3] }
  | _ => none }
def gateAgainRow : OpenClaim := { program := "yticaieghapjpkaa", sum := "2954b418f35e3889c3053eab85f6f3d1b25872026517e2ce4aeabab3dfcbf0bd", func := "umpire/umpirelaw10.GateAgain", spec := "gateAgain", unfollowed := true, recurses := true, apart := false }
def GateAgainSaid : Prop := gateAgainRow.holds Try.pinned (OpenSpec.ofChange gateAgainSpec)

/-- ITS FALSE NEIGHBOUR: 'it returns false'. Refute it at one input. -/
def gateAgainWrong : ChangeSpec := { name := "gateAgain", fn := fun _ => fun
  | [d1, d2, d3] => { results := [.lit (.bool false)], args := [d1, d2, d3] }
  | _ => none }
def GateAgainWrongFalsely : Prop := gateAgainRow.holds Try.pinned (OpenSpec.ofChange gateAgainWrong)

/- THE SECOND FORM. 'bulk': how many values and letters a reading holds, each counted each time it is reached (what is shared counts as often as it is met; a slice's spare places count too). A statement '..UptoSaid' is the law's where the arguments, and the package variables that the reading takes, are together of bulk at most 1048576: NARROWER than '..Said'. Prove '..Said' where nothing that the law and all that it calls make is longer than what came in: it says more and counts as full. Else prove '..UptoSaid'. A law counts once. -/
mutual
def uptoBulk {H : Type} : DataW H → Nat
  | .lit (.string bytes) => bytes.length + 1
  | .lit _ => 1
  | .nil => 1
  | .ptr d => uptoBulk d + 1
  | .slice elems spare => uptoBulkAll elems + uptoBulkAll spare + 1
  | .agg parts => uptoBulkAll parts + 1
  | .iface _ d => uptoBulk d + 1
  | .map entries => uptoBulkEntries entries + 1
  | .held _ => 1
def uptoBulkAll {H : Type} : List (DataW H) → Nat
  | [] => 0
  | d :: r => uptoBulk d + uptoBulkAll r
def uptoBulkEntries {H : Type} : List (Lit × DataW H) → Nat
  | [] => 0
  | x :: r => uptoBulkEntry x + uptoBulkEntries r
def uptoBulkEntry {H : Type} : Lit × DataW H → Nat
  | (.string bytes, d) => bytes.length + uptoBulk d + 1
  | (_, d) => uptoBulk d + 1
 end
def uptoSmall : (H : Type) → List (DataW H) → Bool := fun _ ds => decide (uptoBulkAll ds ≤ 1048576)
def OpenSpec.upto (s : _root_.Go.ChangeSpec) : _root_.Go.OpenSpec := { _root_.Go.OpenSpec.ofChange s with cond := some uptoSmall }

/-- 'umpirelaw10.GateEnters', WHERE WHAT IT READS IS OF BULK AT MOST 1048576: true; the input reads as it did. -/
def gateEntersUptoRow : OpenClaim := { program := "yticaieghapjpkaa", sum := "2954b418f35e3889c3053eab85f6f3d1b25872026517e2ce4aeabab3dfcbf0bd", func := "umpire/umpirelaw10.GateEnters", spec := "gateEnters", unfollowed := true, recurses := true, apart := false, narrowed := true }
def GateEntersUptoSaid : Prop := gateEntersUptoRow.holds Try.pinned (OpenSpec.upto gateEntersSpec)

/-- 'umpirelaw10.GateLeaves', WHERE WHAT IT READS IS OF BULK AT MOST 1048576: true; the input reads as it did. -/
def gateLeavesUptoRow : OpenClaim := { program := "yticaieghapjpkaa", sum := "2954b418f35e3889c3053eab85f6f3d1b25872026517e2ce4aeabab3dfcbf0bd", func := "umpire/umpirelaw10.GateLeaves", spec := "gateLeaves", unfollowed := true, recurses := true, apart := false, narrowed := true }
def GateLeavesUptoSaid : Prop := gateLeavesUptoRow.holds Try.pinned (OpenSpec.upto gateLeavesSpec)

/-- 'umpirelaw10.GateAlone', WHERE WHAT IT READS IS OF BULK AT MOST 1048576: true; the input reads as it did. -/
def gateAloneUptoRow : OpenClaim := { program := "yticaieghapjpkaa", sum := "2954b418f35e3889c3053eab85f6f3d1b25872026517e2ce4aeabab3dfcbf0bd", func := "umpire/umpirelaw10.GateAlone", spec := "gateAlone", unfollowed := true, recurses := true, apart := false, narrowed := true }
def GateAloneUptoSaid : Prop := gateAloneUptoRow.holds Try.pinned (OpenSpec.upto gateAloneSpec)

/-- 'umpirelaw10.GateTwo', WHERE WHAT IT READS IS OF BULK AT MOST 1048576: true; the input reads as it did. -/
def gateTwoUptoRow : OpenClaim := { program := "yticaieghapjpkaa", sum := "2954b418f35e3889c3053eab85f6f3d1b25872026517e2ce4aeabab3dfcbf0bd", func := "umpire/umpirelaw10.GateTwo", spec := "gateTwo", unfollowed := true, recurses := true, apart := false, narrowed := true }
def GateTwoUptoSaid : Prop := gateTwoUptoRow.holds Try.pinned (OpenSpec.upto gateTwoSpec)

/-- 'umpirelaw10.GateSides', WHERE WHAT IT READS IS OF BULK AT MOST 1048576: true; the input reads as it did. -/
def gateSidesUptoRow : OpenClaim := { program := "yticaieghapjpkaa", sum := "2954b418f35e3889c3053eab85f6f3d1b25872026517e2ce4aeabab3dfcbf0bd", func := "umpire/umpirelaw10.GateSides", spec := "gateSides", unfollowed := true, recurses := true, apart := false, narrowed := true }
def GateSidesUptoSaid : Prop := gateSidesUptoRow.holds Try.pinned (OpenSpec.upto gateSidesSpec)

/-- 'umpirelaw10.GateStale', WHERE WHAT IT READS IS OF BULK AT MOST 1048576: true; the input reads as it did. -/
def gateStaleUptoRow : OpenClaim := { program := "yticaieghapjpkaa", sum := "2954b418f35e3889c3053eab85f6f3d1b25872026517e2ce4aeabab3dfcbf0bd", func := "umpire/umpirelaw10.GateStale", spec := "gateStale", unfollowed := true, recurses := true, apart := false, narrowed := true }
def GateStaleUptoSaid : Prop := gateStaleUptoRow.holds Try.pinned (OpenSpec.upto gateStaleSpec)

/-- 'umpirelaw10.GateAgain', WHERE WHAT IT READS IS OF BULK AT MOST 1048576: true; the input reads as it did. -/
def gateAgainUptoRow : OpenClaim := { program := "yticaieghapjpkaa", sum := "2954b418f35e3889c3053eab85f6f3d1b25872026517e2ce4aeabab3dfcbf0bd", func := "umpire/umpirelaw10.GateAgain", spec := "gateAgain", unfollowed := true, recurses := true, apart := false, narrowed := true }
def GateAgainUptoSaid : Prop := gateAgainUptoRow.holds Try.pinned (OpenSpec.upto gateAgainSpec)

end Rows
end Go.Proofs.Yticaieghapjpkaa

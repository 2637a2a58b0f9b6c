/-
  No cell of these rows narrows 'for every input' (looked for: loops, veiled, ifaces, maps, wideKeys, modest, calm, conditions, laid).
  DERIVED. THE GIVEN ROWS OF THIS SEAT. 7 by the template 'for every input the law returns true; each argument reads behind the call as it read before'; 0 by the template 'total and deterministic' (their statements: YtglmniciojemfaaTotals.lean).
  GIVEN WITH THE SEED: the statements are not yours to turn. If you find one false, say at which input.
  Laid BY PROGRAM, IN A SANDBOX (cutbox-rows.mjs): the forced cells as the released guide's own fill.sh prints them over the translation 68c4a3bd7416b0ff… (all of the seat's roots in one cut). By AI agents, Wed Nov 11 2026. No macro, syntax, notation, axiom, sorry.
-/
import Derived.Test.YtglmniciojemfaaChecked
import GoSem.Claim
import GoSem.ClaimJoined
import GoSem.ClaimMapViews
import Derived.JoinedTies
import Derived.KernelRfl
namespace Go.Proofs.Ytglmniciojemfaa
/- THE CELL 'sum', in the pinned program and in every row, IS THE sha256 OF THE DUMP (.gsa) THAT YtglmniciojemfaaProg.lean LOADS. Nothing in Lean hashes anything: it is a label: what it is worth is what the hold of that sum in a sandbox is worth. -/
noncomputable def Try.pinned : Pinned := { name := "ytglmniciojemfaa", sum := "68c4a3bd7416b0ff68513e8fb9875cd2509562f0dd0deb5f4548bc50ebfe6357", checked := Try.checked }
namespace Rows
def none {H : Type} : Left H := { results := [], args := [] }

/-- 'umpirelaw08.HelpSteps': WHATEVER THE INPUT: true; the input reads as it did. -/
def helpStepsSpec : ChangeSpec := { name := "helpSteps", fn := fun _ => fun
  | [d1, d2, d3] => { results := [.lit (.bool true)], args := [d1, d2, d3] }
  | _ => none }
def helpStepsRow : OpenClaim := { program := "ytglmniciojemfaa", sum := "68c4a3bd7416b0ff68513e8fb9875cd2509562f0dd0deb5f4548bc50ebfe6357", func := "umpire/umpirelaw08.HelpSteps", spec := "helpSteps", unfollowed := true, recurses := true, apart := false }
def HelpStepsSaid : Prop := helpStepsRow.holds Try.pinned (OpenSpec.ofChange helpStepsSpec)

/-- ITS FALSE NEIGHBOUR: 'it returns false'. Refute it at one input. -/
def helpStepsWrong : ChangeSpec := { name := "helpSteps", fn := fun _ => fun
  | [d1, d2, d3] => { results := [.lit (.bool false)], args := [d1, d2, d3] }
  | _ => none }
def HelpStepsWrongFalsely : Prop := helpStepsRow.holds Try.pinned (OpenSpec.ofChange helpStepsWrong)

/-- 'umpirelaw08.HelpAlone': WHATEVER THE INPUT: true; the input reads as it did. -/
def helpAloneSpec : ChangeSpec := { name := "helpAlone", fn := fun _ => fun
  | [d1, d2, d3] => { results := [.lit (.bool true)], args := [d1, d2, d3] }
  | _ => none }
def helpAloneRow : OpenClaim := { program := "ytglmniciojemfaa", sum := "68c4a3bd7416b0ff68513e8fb9875cd2509562f0dd0deb5f4548bc50ebfe6357", func := "umpire/umpirelaw08.HelpAlone", spec := "helpAlone", unfollowed := true, recurses := true, apart := false }
def HelpAloneSaid : Prop := helpAloneRow.holds Try.pinned (OpenSpec.ofChange helpAloneSpec)

/-- ITS FALSE NEIGHBOUR: 'it returns false'. Refute it at one input. -/
def helpAloneWrong : ChangeSpec := { name := "helpAlone", fn := fun _ => fun
  | [d1, d2, d3] => { results := [.lit (.bool false)], args := [d1, d2, d3] }
  | _ => none }
def HelpAloneWrongFalsely : Prop := helpAloneRow.holds Try.pinned (OpenSpec.ofChange helpAloneWrong)

/-- 'umpirelaw08.HelpOnly': WHATEVER THE INPUT: true; the input reads as it did. -/
def helpOnlySpec : ChangeSpec := { name := "helpOnly", fn := fun _ => fun
  | [d1, d2, d3] => { results := [.lit (.bool true)], args := [d1, d2, d3] }
  | _ => none }
def helpOnlyRow : OpenClaim := { program := "ytglmniciojemfaa", sum := "68c4a3bd7416b0ff68513e8fb9875cd2509562f0dd0deb5f4548bc50ebfe6357", func := "umpire/umpirelaw08.HelpOnly", spec := "helpOnly", unfollowed := true, recurses := true, apart := false }
def HelpOnlySaid : Prop := helpOnlyRow.holds Try.pinned (OpenSpec.ofChange helpOnlySpec)

/-- ITS FALSE NEIGHBOUR: 'it returns false'. Refute it at one input. -/
def helpOnlyWrong : ChangeSpec := { name := "helpOnly", fn := fun _ => fun
  | [d1, d2, d3] => { results := [.lit (.bool false)], args := [d1, d2, d3] }
  | _ => none }
def HelpOnlyWrongFalsely : Prop := helpOnlyRow.holds Try.pinned (OpenSpec.ofChange helpOnlyWrong)

/-- 'umpirelaw08.HelpTwo': WHATEVER THE INPUT: true; the input reads as it did. -/
def helpTwoSpec : ChangeSpec := { name := "helpTwo", fn := fun _ => fun
  | [d1, d2, d3] => { results := [.lit (.bool true)], args := [d1, d2, d3] }
  | _ => none }
def helpTwoRow : OpenClaim := { program := "ytglmniciojemfaa", sum := "68c4a3bd7416b0ff68513e8fb9875cd2509562f0dd0deb5f4548bc50ebfe6357", func := "umpire/umpirelaw08.HelpTwo", spec := "helpTwo", unfollowed := true, recurses := true, apart := false }
def HelpTwoSaid : Prop := helpTwoRow.holds Try.pinned (OpenSpec.ofChange helpTwoSpec)

/-- ITS FALSE NEIGHBOUR: 'it returns false'. Refute it at one input. -/
def helpTwoWrong : ChangeSpec := { name := "helpTwo", fn := fun _ => fun
  | [d1, d2, d3] => { results := [.lit (.bool false)], args := [d1, d2, d3] }
  | _ => none }
def HelpTwoWrongFalsely : Prop := helpTwoRow.holds Try.pinned (OpenSpec.ofChange helpTwoWrong)

/-- 'umpirelaw08.HelpSides': WHATEVER THE INPUT: true; the input reads as it did. -/
def helpSidesSpec : ChangeSpec := { name := "helpSides", fn := fun _ => fun
  | [d1, d2, d3] => { results := [.lit (.bool true)], args := [d1, d2, d3] }
  | _ => none }
def helpSidesRow : OpenClaim := { program := "ytglmniciojemfaa", sum := "68c4a3bd7416b0ff68513e8fb9875cd2509562f0dd0deb5f4548bc50ebfe6357", func := "umpire/umpirelaw08.HelpSides", spec := "helpSides", unfollowed := true, recurses := true, apart := false }
def HelpSidesSaid : Prop := helpSidesRow.holds Try.pinned (OpenSpec.ofChange helpSidesSpec)

/-- ITS FALSE NEIGHBOUR: 'it returns false'. Refute it at one input. -/
def helpSidesWrong : ChangeSpec := { name := "helpSides", fn := fun _ => fun
  | [d1, d2, d3] => { results := [.lit (.bool false)], args := [d1, d2, d3] }
  | _ => none }
def HelpSidesWrongFalsely : Prop := helpSidesRow.holds Try.pinned (OpenSpec.ofChange helpSidesWrong)

/-- 'umpirelaw08.HelpLate': WHATEVER THE INPUT: true; the input reads as it did. -/
def helpLateSpec : ChangeSpec := { name := "helpLate", fn := fun _ => fun
  | [d1, d2, d3] => { results := [.lit (.bool true)], args := [d1, d2, d3] }
  | _ => none }
def helpLateRow : OpenClaim := { program := "ytglmniciojemfaa", sum := "68c4a3bd7416b0ff68513e8fb9875cd2509562f0dd0deb5f4548bc50ebfe6357", func := "umpire/umpirelaw08.HelpLate", spec := "helpLate", unfollowed := true, recurses := true, apart := false }
def HelpLateSaid : Prop := helpLateRow.holds Try.pinned (OpenSpec.ofChange helpLateSpec)

/-- ITS FALSE NEIGHBOUR: 'it returns false'. Refute it at one input. -/
def helpLateWrong : ChangeSpec := { name := "helpLate", fn := fun _ => fun
  | [d1, d2, d3] => { results := [.lit (.bool false)], args := [d1, d2, d3] }
  | _ => none }
def HelpLateWrongFalsely : Prop := helpLateRow.holds Try.pinned (OpenSpec.ofChange helpLateWrong)

/-- 'umpirelaw08.HelpNone': WHATEVER THE INPUT: true; the input reads as it did. -/
def helpNoneSpec : ChangeSpec := { name := "helpNone", fn := fun _ => fun
  | [d1, d2, d3] => { results := [.lit (.bool true)], args := [d1, d2, d3] }
  | _ => none }
def helpNoneRow : OpenClaim := { program := "ytglmniciojemfaa", sum := "68c4a3bd7416b0ff68513e8fb9875cd2509562f0dd0deb5f4548bc50ebfe6357", func := "umpire/umpirelaw08.HelpNone", spec := "helpNone", unfollowed := true, recurses := true, apart := false }
def HelpNoneSaid : Prop := helpNoneRow.holds Try.pinned (OpenSpec.ofChange helpNoneSpec)

/-- ITS FALSE NEIGHBOUR: 'it returns false'. Refute it at one input. -/
def helpNoneWrong : ChangeSpec := { name := "helpNone", fn := fun _ => fun
  | [d1, d2, d3] => { results := [.lit (.bool false)], args := [d1, d2, d3] }
  | _ => none }
def HelpNoneWrongFalsely : Prop := helpNoneRow.holds Try.pinned (OpenSpec.ofChange helpNoneWrong)

/- THE SECOND FORM. 'bulk': how many values and letters a reading holds, each counted each time it is reached (what is shared counts as often as it is met; a slice's spare places count too). A statement '..UptoSaid' is the law's where the arguments, and the package variables that the reading takes, are together of bulk at most 1048576: NARROWER than '..Said'. Prove '..Said' where nothing that the law and all that it calls make is longer than what came in: it says more and counts as full. Else prove '..UptoSaid'. A law counts once. -/
mutual
def uptoBulk {H : Type} : DataW H → Nat
  | .lit (.string bytes) => bytes.length + 1
  | .lit _ => 1
  | .nil => 1
  | .ptr d => uptoBulk d + 1
  | .slice elems spare => uptoBulkAll elems + uptoBulkAll spare + 1
  | .agg parts => uptoBulkAll parts + 1
  | .iface _ d => uptoBulk d + 1
  | .map entries => uptoBulkEntries entries + 1
  | .held _ => 1
def uptoBulkAll {H : Type} : List (DataW H) → Nat
  | [] => 0
  | d :: r => uptoBulk d + uptoBulkAll r
def uptoBulkEntries {H : Type} : List (Lit × DataW H) → Nat
  | [] => 0
  | x :: r => uptoBulkEntry x + uptoBulkEntries r
def uptoBulkEntry {H : Type} : Lit × DataW H → Nat
  | (.string bytes, d) => bytes.length + uptoBulk d + 1
  | (_, d) => uptoBulk d + 1
 end
def uptoSmall : (H : Type) → List (DataW H) → Bool := fun _ ds => decide (uptoBulkAll ds ≤ 1048576)
def OpenSpec.upto (s : _root_.Go.ChangeSpec) : _root_.Go.OpenSpec := { _root_.Go.OpenSpec.ofChange s with cond := some uptoSmall }

/-- 'umpirelaw08.HelpSteps', WHERE WHAT IT READS IS OF BULK AT MOST 1048576: true; the input reads as it did. -/
def helpStepsUptoRow : OpenClaim := { program := "ytglmniciojemfaa", sum := "68c4a3bd7416b0ff68513e8fb9875cd2509562f0dd0deb5f4548bc50ebfe6357", func := "umpire/umpirelaw08.HelpSteps", spec := "helpSteps", unfollowed := true, recurses := true, apart := false, narrowed := true }
def HelpStepsUptoSaid : Prop := helpStepsUptoRow.holds Try.pinned (OpenSpec.upto helpStepsSpec)

/-- 'umpirelaw08.HelpAlone', WHERE WHAT IT READS IS OF BULK AT MOST 1048576: true; the input reads as it did. -/
def helpAloneUptoRow : OpenClaim := { program := "ytglmniciojemfaa", sum := "68c4a3bd7416b0ff68513e8fb9875cd2509562f0dd0deb5f4548bc50ebfe6357", func := "umpire/umpirelaw08.HelpAlone", spec := "helpAlone", unfollowed := true, recurses := true, apart := false, narrowed := true }
def HelpAloneUptoSaid : Prop := helpAloneUptoRow.holds Try.pinned (OpenSpec.upto helpAloneSpec)

/-- 'umpirelaw08.HelpOnly', WHERE WHAT IT READS IS OF BULK AT MOST 1048576: true; the input reads as it did. -/
def helpOnlyUptoRow : OpenClaim := { program := "ytglmniciojemfaa", sum := "68c4a3bd7416b0ff68513e8fb9875cd2509562f0dd0deb5f4548bc50ebfe6357", func := "umpire/umpirelaw08.HelpOnly", spec := "helpOnly", unfollowed := true, recurses := true, apart := false, narrowed := true }
def HelpOnlyUptoSaid : Prop := helpOnlyUptoRow.holds Try.pinned (OpenSpec.upto helpOnlySpec)

/-- 'umpirelaw08.HelpTwo', WHERE WHAT IT READS IS OF BULK AT MOST 1048576: true; the input reads as it did. -/
def helpTwoUptoRow : OpenClaim := { program := "ytglmniciojemfaa", sum := "68c4a3bd7416b0ff68513e8fb9875cd2509562f0dd0deb5f4548bc50ebfe6357", func := "umpire/umpirelaw08.HelpTwo", spec := "helpTwo", unfollowed := true, recurses := true, apart := false, narrowed := true }
def HelpTwoUptoSaid : Prop := helpTwoUptoRow.holds Try.pinned (OpenSpec.upto helpTwoSpec)

/-- 'umpirelaw08.HelpSides', WHERE WHAT IT READS IS OF BULK AT MOST 1048576: true; the input reads as it did. -/
def helpSidesUptoRow : OpenClaim := { program := "ytglmniciojemfaa", sum := "68c4a3bd7416b0ff68513e8fb9875cd2509562f0dd0deb5f4548bc50ebfe6357", func := "umpire/umpirelaw08.HelpSides", spec := "helpSides", unfollowed := true, recurses := true, apart := false, narrowed := true }
def HelpSidesUptoSaid : Prop := helpSidesUptoRow.holds Try.pinned (OpenSpec.upto helpSidesSpec)

/-- 'umpirelaw08.HelpLate', WHERE WHAT IT READS IS OF BULK AT MOST 1048576: true; the input reads as it did. -/
def helpLateUptoRow : OpenClaim := { program := "ytglmniciojemfaa", sum := "68c4a3bd7416b0ff68513e8fb9875cd2509562f0dd0deb5f4548bc50ebfe6357", func := "umpire/umpirelaw08.HelpLate", spec := "helpLate", unfollowed := true, recurses := true, apart := false, narrowed := true }
def HelpLateUptoSaid : Prop := helpLateUptoRow.holds Try.pinned (OpenSpec.upto helpLateSpec)

/-- 'umpirelaw08.HelpNone', WHERE WHAT IT READS IS OF BULK AT MOST 1048576: true; the input reads as it did. -/
def helpNoneUptoRow : OpenClaim := { program := "ytglmniciojemfaa", sum := "68c4a3bd7416b0ff68513e8fb9875cd2509562f0dd0deb5f4548bc50ebfe6357", func := "umpire/umpirelaw08.HelpNone", spec := "helpNone", unfollowed := true, recurses := true, apart := false, narrowed := true }
def HelpNoneUptoSaid : Prop := helpNoneUptoRow.holds Try.pinned (OpenSpec.upto helpNoneSpec)

end Rows
end Go.Proofs.Ytglmniciojemfaa

/-
  No cell of these rows narrows 'for every input' (looked for: loops, veiled, ifaces, maps, wideKeys, modest, calm, conditions, laid).
  DERIVED. THE GIVEN ROWS OF THIS SEAT. 6 by the template 'for every input the law returns true; each argument reads behind the call as it read before'; 0 by the template 'total and deterministic' (their statements: YtcpmclidndmgeaaTotals.lean).
  GIVEN WITH THE SEED: the statements are not yours to turn. If you find one false, say at which input.
  Laid BY PROGRAM, IN A SANDBOX (cutbox-rows.mjs): the forced cells as the released guide's own fill.sh prints them over the translation c7096a82dd961543… (all of the seat's roots in one cut). By AI agents, Wed Nov 11 2026. No macro, syntax, notation, axiom, sorry.
-/
import Derived.Test.YtcpmclidndmgeaaChecked
import GoSem.Claim
import GoSem.ClaimJoined
import GoSem.ClaimMapViews
import Derived.JoinedTies
import Derived.KernelRfl
namespace Go.Proofs.Ytcpmclidndmgeaa
/- THE CELL 'sum', in the pinned program and in every row, IS THE sha256 OF THE DUMP (.gsa) THAT YtcpmclidndmgeaaProg.lean LOADS. Nothing in Lean hashes anything: it is a label: what it is worth is what the hold of that sum in a sandbox is worth. -/
noncomputable def Try.pinned : Pinned := { name := "ytcpmclidndmgeaa", sum := "c7096a82dd961543e43c46ce8f99a6014b4488f1283d539c305740900cac21e4", checked := Try.checked }
namespace Rows
def none {H : Type} : Left H := { results := [], args := [] }

/-- 'umpirelaw11.JoinSteps': WHATEVER THE INPUT: true; the input reads as it did. -/
def joinStepsSpec : ChangeSpec := { name := "joinSteps", fn := fun _ => fun
  | [d1, d2, d3] => { results := [.lit (.bool true)], args := [d1, d2, d3] }
  | _ => none }
def joinStepsRow : OpenClaim := { program := "ytcpmclidndmgeaa", sum := "c7096a82dd961543e43c46ce8f99a6014b4488f1283d539c305740900cac21e4", func := "umpire/umpirelaw11.JoinSteps", spec := "joinSteps", unfollowed := true, recurses := true, apart := false }
def JoinStepsSaid : Prop := joinStepsRow.holds Try.pinned (OpenSpec.ofChange joinStepsSpec)

/-- ITS FALSE NEIGHBOUR: 'it returns false'. Refute it at one input. -/
def joinStepsWrong : ChangeSpec := { name := "joinSteps", fn := fun _ => fun
  | [d1, d2, d3] => { results := [.lit (.bool false)], args := [d1, d2, d3] }
  | _ => none }
def JoinStepsWrongFalsely : Prop := joinStepsRow.holds Try.pinned (OpenSpec.ofChange joinStepsWrong)

/-- 'umpirelaw11.JoinOwns': WHATEVER THE INPUT: true; the input reads as it did. -/
def joinOwnsSpec : ChangeSpec := { name := "joinOwns", fn := fun _ => fun
  | [d1, d2, d3] => { results := [.lit (.bool true)], args := [d1, d2, d3] }
  | _ => none }
def joinOwnsRow : OpenClaim := { program := "ytcpmclidndmgeaa", sum := "c7096a82dd961543e43c46ce8f99a6014b4488f1283d539c305740900cac21e4", func := "umpire/umpirelaw11.JoinOwns", spec := "joinOwns", unfollowed := true, recurses := true, apart := false }
def JoinOwnsSaid : Prop := joinOwnsRow.holds Try.pinned (OpenSpec.ofChange joinOwnsSpec)

/-- ITS FALSE NEIGHBOUR: 'it returns false'. Refute it at one input. -/
def joinOwnsWrong : ChangeSpec := { name := "joinOwns", fn := fun _ => fun
  | [d1, d2, d3] => { results := [.lit (.bool false)], args := [d1, d2, d3] }
  | _ => none }
def JoinOwnsWrongFalsely : Prop := joinOwnsRow.holds Try.pinned (OpenSpec.ofChange joinOwnsWrong)

/-- 'umpirelaw11.JoinAlone': WHATEVER THE INPUT: true; the input reads as it did. -/
def joinAloneSpec : ChangeSpec := { name := "joinAlone", fn := fun _ => fun
  | [d1, d2, d3] => { results := [.lit (.bool true)], args := [d1, d2, d3] }
  | _ => none }
def joinAloneRow : OpenClaim := { program := "ytcpmclidndmgeaa", sum := "c7096a82dd961543e43c46ce8f99a6014b4488f1283d539c305740900cac21e4", func := "umpire/umpirelaw11.JoinAlone", spec := "joinAlone", unfollowed := true, recurses := true, apart := false }
def JoinAloneSaid : Prop := joinAloneRow.holds Try.pinned (OpenSpec.ofChange joinAloneSpec)

/-- ITS FALSE NEIGHBOUR: 'it returns false'. Refute it at one input. -/
def joinAloneWrong : ChangeSpec := { name := "joinAlone", fn := fun _ => fun
  | [d1, d2, d3] => { results := [.lit (.bool false)], args := [d1, d2, d3] }
  | _ => none }
def JoinAloneWrongFalsely : Prop := joinAloneRow.holds Try.pinned (OpenSpec.ofChange joinAloneWrong)

/-- 'umpirelaw11.JoinBoth': WHATEVER THE INPUT: true; the input reads as it did. -/
def joinBothSpec : ChangeSpec := { name := "joinBoth", fn := fun _ => fun
  | [d1, d2, d3] => { results := [.lit (.bool true)], args := [d1, d2, d3] }
  | _ => none }
def joinBothRow : OpenClaim := { program := "ytcpmclidndmgeaa", sum := "c7096a82dd961543e43c46ce8f99a6014b4488f1283d539c305740900cac21e4", func := "umpire/umpirelaw11.JoinBoth", spec := "joinBoth", unfollowed := true, recurses := true, apart := false }
def JoinBothSaid : Prop := joinBothRow.holds Try.pinned (OpenSpec.ofChange joinBothSpec)

/-- ITS FALSE NEIGHBOUR: 'it returns false'. Refute it at one input. -/
def joinBothWrong : ChangeSpec := { name := "joinBoth", fn := fun _ => fun
  | [d1, d2, d3] => { results := [.lit (.bool false)], args := [d1, d2, d3] }
  | _ => none }
def JoinBothWrongFalsely : Prop := joinBothRow.holds Try.pinned (OpenSpec.ofChange joinBothWrong)

/-- 'umpirelaw11.JoinTwo': WHATEVER THE INPUT: true; the input reads as it did. -/
def joinTwoSpec : ChangeSpec := { name := "joinTwo", fn := fun _ => fun
  | [d1, d2, d3] => { results := [.lit (.bool true)], args := [d1, d2, d3] }
  | _ => none }
def joinTwoRow : OpenClaim := { program := "ytcpmclidndmgeaa", sum := "c7096a82dd961543e43c46ce8f99a6014b4488f1283d539c305740900cac21e4", func := "umpire/umpirelaw11.JoinTwo", spec := "joinTwo", unfollowed := true, recurses := true, apart := false }
def JoinTwoSaid : Prop := joinTwoRow.holds Try.pinned (OpenSpec.ofChange joinTwoSpec)

/-- ITS FALSE NEIGHBOUR: 'it returns false'. Refute it at one input. -/
def joinTwoWrong : ChangeSpec := { name := "joinTwo", fn := fun _ => fun
  | [d1, d2, d3] => { results := [.lit (.bool false)], args := [d1, d2, d3] }
  | _ => none }
def JoinTwoWrongFalsely : Prop := joinTwoRow.holds Try.pinned (OpenSpec.ofChange joinTwoWrong)

/-- 'umpirelaw11.JoinTwice': WHATEVER THE INPUT: true; the input reads as it did. -/
def joinTwiceSpec : ChangeSpec := { name := "joinTwice", fn := fun _ => fun
  | [d1, d2, d3] => { results := [.lit (.bool true)], args := [d1, d2, d3] }
  | _ => none }
def joinTwiceRow : OpenClaim := { program := "ytcpmclidndmgeaa", sum := "c7096a82dd961543e43c46ce8f99a6014b4488f1283d539c305740900cac21e4", func := "umpire/umpirelaw11.JoinTwice", spec := "joinTwice", unfollowed := true, recurses := true, apart := false }
def JoinTwiceSaid : Prop := joinTwiceRow.holds Try.pinned (OpenSpec.ofChange joinTwiceSpec)

/-- ITS FALSE NEIGHBOUR: 'it returns false'. Refute it at one input. -/
def joinTwiceWrong : ChangeSpec := { name := "joinTwice", fn := fun _ => fun
  | [d1, d2, d3] => { results := [.lit (.bool false)], args := [d1, d2, d3] }
  | _ => none }
def JoinTwiceWrongFalsely : Prop := joinTwiceRow.holds Try.pinned (OpenSpec.ofChange joinTwiceWrong)

/- THE SECOND FORM. 'bulk': how many values and letters a reading holds, each counted each time it is reached (what is shared counts as often as it is met; a slice's spare places count too). A statement '..UptoSaid' is the law's where the arguments, and the package variables that the reading takes, are together of bulk at most 1048576: NARROWER than '..Said'. Prove '..Said' where nothing that the law and all that it calls make is longer than what came in: it says more and counts as full. Else prove '..UptoSaid'. A law counts once. -/
mutual
def uptoBulk {H : Type} : DataW H → Nat
  | .lit (.string bytes) => bytes.length + 1
  | .lit _ => 1
  | .nil => 1
  | .ptr d => uptoBulk d + 1
  | .slice elems spare => uptoBulkAll elems + uptoBulkAll spare + 1
  | .agg parts => uptoBulkAll parts + 1
  | .iface _ d => uptoBulk d + 1
  | .map entries => uptoBulkEntries entries + 1
  | .held _ => 1
def uptoBulkAll {H : Type} : List (DataW H) → Nat
  | [] => 0
  | d :: r => uptoBulk d + uptoBulkAll r
def uptoBulkEntries {H : Type} : List (Lit × DataW H) → Nat
  | [] => 0
  | x :: r => uptoBulkEntry x + uptoBulkEntries r
def uptoBulkEntry {H : Type} : Lit × DataW H → Nat
  | (.string bytes, d) => bytes.length + uptoBulk d + 1
  | (_, d) => uptoBulk d + 1
 end
def uptoSmall : (H : Type) → List (DataW H) → Bool := fun _ ds => decide (uptoBulkAll ds ≤ 1048576)
def OpenSpec.upto (s : _root_.Go.ChangeSpec) : _root_.Go.OpenSpec := { _root_.Go.OpenSpec.ofChange s with cond := some uptoSmall }

/-- 'umpirelaw11.JoinSteps', WHERE WHAT IT READS IS OF BULK AT MOST 1048576: true; the input reads as it did. -/
def joinStepsUptoRow : OpenClaim := { program := "ytcpmclidndmgeaa", sum := "c7096a82dd961543e43c46ce8f99a6014b4488f1283d539c305740900cac21e4", func := "umpire/umpirelaw11.JoinSteps", spec := "joinSteps", unfollowed := true, recurses := true, apart := false, narrowed := true }
def JoinStepsUptoSaid : Prop := joinStepsUptoRow.holds Try.pinned (OpenSpec.upto joinStepsSpec)

/-- 'umpirelaw11.JoinOwns', WHERE WHAT IT READS IS OF BULK AT MOST 1048576: true; the input reads as it did. -/
def joinOwnsUptoRow : OpenClaim := { program := "ytcpmclidndmgeaa", sum := "c7096a82dd961543e43c46ce8f99a6014b4488f1283d539c305740900cac21e4", func := "umpire/umpirelaw11.JoinOwns", spec := "joinOwns", unfollowed := true, recurses := true, apart := false, narrowed := true }
def JoinOwnsUptoSaid : Prop := joinOwnsUptoRow.holds Try.pinned (OpenSpec.upto joinOwnsSpec)

/-- 'umpirelaw11.JoinAlone', WHERE WHAT IT READS IS OF BULK AT MOST 1048576: true; the input reads as it did. -/
def joinAloneUptoRow : OpenClaim := { program := "ytcpmclidndmgeaa", sum := "c7096a82dd961543e43c46ce8f99a6014b4488f1283d539c305740900cac21e4", func := "umpire/umpirelaw11.JoinAlone", spec := "joinAlone", unfollowed := true, recurses := true, apart := false, narrowed := true }
def JoinAloneUptoSaid : Prop := joinAloneUptoRow.holds Try.pinned (OpenSpec.upto joinAloneSpec)

/-- 'umpirelaw11.JoinBoth', WHERE WHAT IT READS IS OF BULK AT MOST 1048576: true; the input reads as it did. -/
def joinBothUptoRow : OpenClaim := { program := "ytcpmclidndmgeaa", sum := "c7096a82dd961543e43c46ce8f99a6014b4488f1283d539c305740900cac21e4", func := "umpire/umpirelaw11.JoinBoth", spec := "joinBoth", unfollowed := true, recurses := true, apart := false, narrowed := true }
def JoinBothUptoSaid : Prop := joinBothUptoRow.holds Try.pinned (OpenSpec.upto joinBothSpec)

/-- 'umpirelaw11.JoinTwo', WHERE WHAT IT READS IS OF BULK AT MOST 1048576: true; the input reads as it did. -/
def joinTwoUptoRow : OpenClaim := { program := "ytcpmclidndmgeaa", sum := "c7096a82dd961543e43c46ce8f99a6014b4488f1283d539c305740900cac21e4", func := "umpire/umpirelaw11.JoinTwo", spec := "joinTwo", unfollowed := true, recurses := true, apart := false, narrowed := true }
def JoinTwoUptoSaid : Prop := joinTwoUptoRow.holds Try.pinned (OpenSpec.upto joinTwoSpec)

/-- 'umpirelaw11.JoinTwice', WHERE WHAT IT READS IS OF BULK AT MOST 1048576: true; the input reads as it did. -/
def joinTwiceUptoRow : OpenClaim := { program := "ytcpmclidndmgeaa", sum := "c7096a82dd961543e43c46ce8f99a6014b4488f1283d539c305740900cac21e4", func := "umpire/umpirelaw11.JoinTwice", spec := "joinTwice", unfollowed := true, recurses := true, apart := false, narrowed := true }
def JoinTwiceUptoSaid : Prop := joinTwiceUptoRow.holds Try.pinned (OpenSpec.upto joinTwiceSpec)

end Rows
end Go.Proofs.Ytcpmclidndmgeaa

/-
  No cell of these rows narrows 'for every input' (looked for: loops, veiled, ifaces, maps, wideKeys, modest, calm, conditions, laid).
  DERIVED. THE GIVEN ROWS OF THIS SEAT. 7 by the template 'for every input the law returns true; each argument reads behind the call as it read before'; 0 by the template 'total and deterministic' (their statements: YtjicfonpldobdaaTotals.lean).
  GIVEN WITH THE SEED: the statements are not yours to turn. If you find one false, say at which input.
  Laid BY PROGRAM, IN A SANDBOX (cutbox-rows.mjs): the forced cells as the released guide's own fill.sh prints them over the translation f9da8ea7eb412cc7… (all of the seat's roots in one cut). By AI agents, Wed Nov 11 2026. No macro, syntax, notation, axiom, sorry.
-/
import Derived.Test.YtjicfonpldobdaaChecked
import GoSem.Claim
import GoSem.ClaimJoined
import GoSem.ClaimMapViews
import Derived.JoinedTies
import Derived.KernelRfl
namespace Go.Proofs.Ytjicfonpldobdaa
/- THE CELL 'sum', in the pinned program and in every row, IS THE sha256 OF THE DUMP (.gsa) THAT YtjicfonpldobdaaProg.lean LOADS. Nothing in Lean hashes anything: it is a label: what it is worth is what the hold of that sum in a sandbox is worth. -/
noncomputable def Try.pinned : Pinned := { name := "ytjicfonpldobdaa", sum := "f9da8ea7eb412cc7c8bc68f053af06f3426d23705526761030be561b3a64ee3a", checked := Try.checked }
namespace Rows
def none {H : Type} : Left H := { results := [], args := [] }

/-- 'umpirelaw06.StoreAll': WHATEVER THE INPUT: true; the input reads as it did. -/
def storeAllSpec : ChangeSpec := { name := "storeAll", fn := fun _ => fun
  | [d1, d2, d3] => { results := [.lit (.bool true)], args := [d1, d2, d3] }
  | _ => none }
def storeAllRow : OpenClaim := { program := "ytjicfonpldobdaa", sum := "f9da8ea7eb412cc7c8bc68f053af06f3426d23705526761030be561b3a64ee3a", func := "umpire/umpirelaw06.StoreAll", spec := "storeAll", unfollowed := true, recurses := true, apart := false }
def StoreAllSaid : Prop := storeAllRow.holds Try.pinned (OpenSpec.ofChange storeAllSpec)

/-- ITS FALSE NEIGHBOUR: 'it returns false'. Refute it at one input. -/
def storeAllWrong : ChangeSpec := { name := "storeAll", fn := fun _ => fun
  | [d1, d2, d3] => { results := [.lit (.bool false)], args := [d1, d2, d3] }
  | _ => none }
def StoreAllWrongFalsely : Prop := storeAllRow.holds Try.pinned (OpenSpec.ofChange storeAllWrong)

/-- 'umpirelaw07.PinSteps': WHATEVER THE INPUT: true; the input reads as it did. -/
def pinStepsSpec : ChangeSpec := { name := "pinSteps", fn := fun _ => fun
  | [d1, d2, d3] => { results := [.lit (.bool true)], args := [d1, d2, d3] }
  | _ => none }
def pinStepsRow : OpenClaim := { program := "ytjicfonpldobdaa", sum := "f9da8ea7eb412cc7c8bc68f053af06f3426d23705526761030be561b3a64ee3a", func := "umpire/umpirelaw07.PinSteps", spec := "pinSteps", unfollowed := true, recurses := true, apart := false }
def PinStepsSaid : Prop := pinStepsRow.holds Try.pinned (OpenSpec.ofChange pinStepsSpec)

/-- ITS FALSE NEIGHBOUR: 'it returns false'. Refute it at one input. -/
def pinStepsWrong : ChangeSpec := { name := "pinSteps", fn := fun _ => fun
  | [d1, d2, d3] => { results := [.lit (.bool false)], args := [d1, d2, d3] }
  | _ => none }
def PinStepsWrongFalsely : Prop := pinStepsRow.holds Try.pinned (OpenSpec.ofChange pinStepsWrong)

/-- 'umpirelaw07.PinGraces': WHATEVER THE INPUT: true; the input reads as it did. -/
def pinGracesSpec : ChangeSpec := { name := "pinGraces", fn := fun _ => fun
  | [d1, d2, d3] => { results := [.lit (.bool true)], args := [d1, d2, d3] }
  | _ => none }
def pinGracesRow : OpenClaim := { program := "ytjicfonpldobdaa", sum := "f9da8ea7eb412cc7c8bc68f053af06f3426d23705526761030be561b3a64ee3a", func := "umpire/umpirelaw07.PinGraces", spec := "pinGraces", unfollowed := true, recurses := true, apart := false }
def PinGracesSaid : Prop := pinGracesRow.holds Try.pinned (OpenSpec.ofChange pinGracesSpec)

/-- ITS FALSE NEIGHBOUR: 'it returns false'. Refute it at one input. -/
def pinGracesWrong : ChangeSpec := { name := "pinGraces", fn := fun _ => fun
  | [d1, d2, d3] => { results := [.lit (.bool false)], args := [d1, d2, d3] }
  | _ => none }
def PinGracesWrongFalsely : Prop := pinGracesRow.holds Try.pinned (OpenSpec.ofChange pinGracesWrong)

/-- 'umpirelaw07.PinHolds': WHATEVER THE INPUT: true; the input reads as it did. -/
def pinHoldsSpec : ChangeSpec := { name := "pinHolds", fn := fun _ => fun
  | [d1, d2, d3] => { results := [.lit (.bool true)], args := [d1, d2, d3] }
  | _ => none }
def pinHoldsRow : OpenClaim := { program := "ytjicfonpldobdaa", sum := "f9da8ea7eb412cc7c8bc68f053af06f3426d23705526761030be561b3a64ee3a", func := "umpire/umpirelaw07.PinHolds", spec := "pinHolds", unfollowed := true, recurses := true, apart := false }
def PinHoldsSaid : Prop := pinHoldsRow.holds Try.pinned (OpenSpec.ofChange pinHoldsSpec)

/-- ITS FALSE NEIGHBOUR: 'it returns false'. Refute it at one input. -/
def pinHoldsWrong : ChangeSpec := { name := "pinHolds", fn := fun _ => fun
  | [d1, d2, d3] => { results := [.lit (.bool false)], args := [d1, d2, d3] }
  | _ => none }
def PinHoldsWrongFalsely : Prop := pinHoldsRow.holds Try.pinned (OpenSpec.ofChange pinHoldsWrong)

/-- 'umpirelaw07.PinLate': WHATEVER THE INPUT: true; the input reads as it did. -/
def pinLateSpec : ChangeSpec := { name := "pinLate", fn := fun _ => fun
  | [d1, d2, d3] => { results := [.lit (.bool true)], args := [d1, d2, d3] }
  | _ => none }
def pinLateRow : OpenClaim := { program := "ytjicfonpldobdaa", sum := "f9da8ea7eb412cc7c8bc68f053af06f3426d23705526761030be561b3a64ee3a", func := "umpire/umpirelaw07.PinLate", spec := "pinLate", unfollowed := true, recurses := true, apart := false }
def PinLateSaid : Prop := pinLateRow.holds Try.pinned (OpenSpec.ofChange pinLateSpec)

/-- ITS FALSE NEIGHBOUR: 'it returns false'. Refute it at one input. -/
def pinLateWrong : ChangeSpec := { name := "pinLate", fn := fun _ => fun
  | [d1, d2, d3] => { results := [.lit (.bool false)], args := [d1, d2, d3] }
  | _ => none }
def PinLateWrongFalsely : Prop := pinLateRow.holds Try.pinned (OpenSpec.ofChange pinLateWrong)

/-- 'umpirelaw07.PinOnly': WHATEVER THE INPUT: true; the input reads as it did. -/
def pinOnlySpec : ChangeSpec := { name := "pinOnly", fn := fun _ => fun
  | [d1, d2, d3] => { results := [.lit (.bool true)], args := [d1, d2, d3] }
  | _ => none }
def pinOnlyRow : OpenClaim := { program := "ytjicfonpldobdaa", sum := "f9da8ea7eb412cc7c8bc68f053af06f3426d23705526761030be561b3a64ee3a", func := "umpire/umpirelaw07.PinOnly", spec := "pinOnly", unfollowed := true, recurses := true, apart := false }
def PinOnlySaid : Prop := pinOnlyRow.holds Try.pinned (OpenSpec.ofChange pinOnlySpec)

/-- ITS FALSE NEIGHBOUR: 'it returns false'. Refute it at one input. -/
def pinOnlyWrong : ChangeSpec := { name := "pinOnly", fn := fun _ => fun
  | [d1, d2, d3] => { results := [.lit (.bool false)], args := [d1, d2, d3] }
  | _ => none }
def PinOnlyWrongFalsely : Prop := pinOnlyRow.holds Try.pinned (OpenSpec.ofChange pinOnlyWrong)

/-- 'umpirelaw07.PinTwice': WHATEVER THE INPUT: true; the input reads as it did. -/
def pinTwiceSpec : ChangeSpec := { name := "pinTwice", fn := fun _ => fun
  | [d1, d2, d3] => { results := [.lit (.bool true)], args := [d1, d2, d3] }
  | _ => none }
def pinTwiceRow : OpenClaim := { program := "ytjicfonpldobdaa", sum := "f9da8ea7eb412cc7c8bc68f053af06f3426d23705526761030be561b3a64ee3a", func := "umpire/umpirelaw07.PinTwice", spec := "pinTwice", unfollowed := true, recurses := true, apart := false }
def PinTwiceSaid : Prop := pinTwiceRow.holds Try.pinned (OpenSpec.ofChange pinTwiceSpec)

/-- ITS FALSE NEIGHBOUR: 'it returns false'. Refute it at one input. -/
def pinTwiceWrong : ChangeSpec := { name := "pinTwice", fn := fun _ => fun
  | [d1, d2, d3] => { results := [.lit (.bool false)], args := [d1, d2, d3] }
  | _ => none }
def PinTwiceWrongFalsely : Prop := pinTwiceRow.holds Try.pinned (OpenSpec.ofChange pinTwiceWrong)

/- THE SECOND FORM. 'bulk': how many values and letters a reading holds, each counted each time it is reached (what is shared counts as often as it is met; a slice's spare places count too). A statement '..UptoSaid' is the law's where the arguments, and the package variables that the reading takes, are together of bulk at most 1048576: NARROWER than '..Said'. Prove '..Said' where nothing that the law and all that it calls make is longer than what came in: it says more and counts as full. Else prove '..UptoSaid'. A law counts once. -/
mutual
def uptoBulk {H : Type} : DataW H → Nat
  | .lit (.string bytes) => bytes.length + 1
  | .lit _ => 1
  | .nil => 1
  | .ptr d => uptoBulk d + 1
  | .slice elems spare => uptoBulkAll elems + uptoBulkAll spare + 1
  | .agg parts => uptoBulkAll parts + 1
  | .iface _ d => uptoBulk d + 1
  | .map entries => uptoBulkEntries entries + 1
  | .held _ => 1
def uptoBulkAll {H : Type} : List (DataW H) → Nat
  | [] => 0
  | d :: r => uptoBulk d + uptoBulkAll r
def uptoBulkEntries {H : Type} : List (Lit × DataW H) → Nat
  | [] => 0
  | x :: r => uptoBulkEntry x + uptoBulkEntries r
def uptoBulkEntry {H : Type} : Lit × DataW H → Nat
  | (.string bytes, d) => bytes.length + uptoBulk d + 1
  | (_, d) => uptoBulk d + 1
 end
def uptoSmall : (H : Type) → List (DataW H) → Bool := fun _ ds => decide (uptoBulkAll ds ≤ 1048576)
def OpenSpec.upto (s : _root_.Go.ChangeSpec) : _root_.Go.OpenSpec := { _root_.Go.OpenSpec.ofChange s with cond := some uptoSmall }

/-- 'umpirelaw06.StoreAll', WHERE WHAT IT READS IS OF BULK AT MOST 1048576: true; the input reads as it did. -/
def storeAllUptoRow : OpenClaim := { program := "ytjicfonpldobdaa", sum := "f9da8ea7eb412cc7c8bc68f053af06f3426d23705526761030be561b3a64ee3a", func := "umpire/umpirelaw06.StoreAll", spec := "storeAll", unfollowed := true, recurses := true, apart := false, narrowed := true }
def StoreAllUptoSaid : Prop := storeAllUptoRow.holds Try.pinned (OpenSpec.upto storeAllSpec)

/-- 'umpirelaw07.PinSteps', WHERE WHAT IT READS IS OF BULK AT MOST 1048576: true; the input reads as it did. -/
def pinStepsUptoRow : OpenClaim := { program := "ytjicfonpldobdaa", sum := "f9da8ea7eb412cc7c8bc68f053af06f3426d23705526761030be561b3a64ee3a", func := "umpire/umpirelaw07.PinSteps", spec := "pinSteps", unfollowed := true, recurses := true, apart := false, narrowed := true }
def PinStepsUptoSaid : Prop := pinStepsUptoRow.holds Try.pinned (OpenSpec.upto pinStepsSpec)

/-- 'umpirelaw07.PinGraces', WHERE WHAT IT READS IS OF BULK AT MOST 1048576: true; the input reads as it did. -/
def pinGracesUptoRow : OpenClaim := { program := "ytjicfonpldobdaa", sum := "f9da8ea7eb412cc7c8bc68f053af06f3426d23705526761030be561b3a64ee3a", func := "umpire/umpirelaw07.PinGraces", spec := "pinGraces", unfollowed := true, recurses := true, apart := false, narrowed := true }
def PinGracesUptoSaid : Prop := pinGracesUptoRow.holds Try.pinned (OpenSpec.upto pinGracesSpec)

/-- 'umpirelaw07.PinHolds', WHERE WHAT IT READS IS OF BULK AT MOST 1048576: true; the input reads as it did. -/
def pinHoldsUptoRow : OpenClaim := { program := "ytjicfonpldobdaa", sum := "f9da8ea7eb412cc7c8bc68f053af06f3426d23705526761030be561b3a64ee3a", func := "umpire/umpirelaw07.PinHolds", spec := "pinHolds", unfollowed := true, recurses := true, apart := false, narrowed := true }
def PinHoldsUptoSaid : Prop := pinHoldsUptoRow.holds Try.pinned (OpenSpec.upto pinHoldsSpec)

/-- 'umpirelaw07.PinLate', WHERE WHAT IT READS IS OF BULK AT MOST 1048576: true; the input reads as it did. -/
def pinLateUptoRow : OpenClaim := { program := "ytjicfonpldobdaa", sum := "f9da8ea7eb412cc7c8bc68f053af06f3426d23705526761030be561b3a64ee3a", func := "umpire/umpirelaw07.PinLate", spec := "pinLate", unfollowed := true, recurses := true, apart := false, narrowed := true }
def PinLateUptoSaid : Prop := pinLateUptoRow.holds Try.pinned (OpenSpec.upto pinLateSpec)

/-- 'umpirelaw07.PinOnly', WHERE WHAT IT READS IS OF BULK AT MOST 1048576: true; the input reads as it did. -/
def pinOnlyUptoRow : OpenClaim := { program := "ytjicfonpldobdaa", sum := "f9da8ea7eb412cc7c8bc68f053af06f3426d23705526761030be561b3a64ee3a", func := "umpire/umpirelaw07.PinOnly", spec := "pinOnly", unfollowed := true, recurses := true, apart := false, narrowed := true }
def PinOnlyUptoSaid : Prop := pinOnlyUptoRow.holds Try.pinned (OpenSpec.upto pinOnlySpec)

/-- 'umpirelaw07.PinTwice', WHERE WHAT IT READS IS OF BULK AT MOST 1048576: true; the input reads as it did. -/
def pinTwiceUptoRow : OpenClaim := { program := "ytjicfonpldobdaa", sum := "f9da8ea7eb412cc7c8bc68f053af06f3426d23705526761030be561b3a64ee3a", func := "umpire/umpirelaw07.PinTwice", spec := "pinTwice", unfollowed := true, recurses := true, apart := false, narrowed := true }
def PinTwiceUptoSaid : Prop := pinTwiceUptoRow.holds Try.pinned (OpenSpec.upto pinTwiceSpec)

end Rows
end Go.Proofs.Ytjicfonpldobdaa

/-
  No cell of these rows narrows 'for every input' (looked for: loops, veiled, ifaces, maps, wideKeys, modest, calm, conditions, laid).
  DERIVED. THE GIVEN ROWS OF THIS SEAT. 7 by the template 'for every input the law returns true; each argument reads behind the call as it read before'; 0 by the template 'total and deterministic' (their statements: YtcofbaioflfehaaTotals.lean).
  GIVEN WITH THE SEED: the statements are not yours to turn. If you find one false, say at which input.
  Laid BY PROGRAM, IN A SANDBOX (cutbox-rows.mjs): the forced cells as the released guide's own fill.sh prints them over the translation 44df1fd04b48987e… (all of the seat's roots in one cut). By AI agents, Wed Nov 11 2026. No macro, syntax, notation, axiom, sorry.
-/
import Derived.Test.YtcofbaioflfehaaChecked
import GoSem.Claim
import GoSem.ClaimJoined
import GoSem.ClaimMapViews
import Derived.JoinedTies
import Derived.KernelRfl
namespace Go.Proofs.Ytcofbaioflfehaa
/- THE CELL 'sum', in the pinned program and in every row, IS THE sha256 OF THE DUMP (.gsa) THAT YtcofbaioflfehaaProg.lean LOADS. Nothing in Lean hashes anything: it is a label: what it is worth is what the hold of that sum in a sandbox is worth. -/
noncomputable def Try.pinned : Pinned := { name := "ytcofbaioflfehaa", sum := "44df1fd04b48987ebcc3f0341b01ac2756e949972b43c63274df25da7678873d", checked := Try.checked }
namespace Rows
def none {H : Type} : Left H := { results := [], args := [] }

/-- 'aqueductlaw13.SpotSteps': WHATEVER THE INPUT: true; the input reads as it did. -/
def spotStepsSpec : ChangeSpec := { name := "spotSteps", fn := fun _ => fun
  | [d] => { results := [.lit (.bool true)], args := [d] }
  | _ => none }
def spotStepsRow : OpenClaim := { program := "ytcofbaioflfehaa", sum := "44df1fd04b48987ebcc3f0341b01ac2756e949972b43c63274df25da7678873d", func := "aqueduct/aqueductlaw13.SpotSteps", spec := "spotSteps", apart := false }
def SpotStepsSaid : Prop := spotStepsRow.holds Try.pinned (OpenSpec.ofChange spotStepsSpec)

/-- ITS FALSE NEIGHBOUR: 'it returns false'. Refute it at one input. -/
def spotStepsWrong : ChangeSpec := { name := "spotSteps", fn := fun _ => fun
  | [d] => { results := [.lit (.bool false)], args := [d] }
  | _ => none }
def SpotStepsWrongFalsely : Prop := spotStepsRow.holds Try.pinned (OpenSpec.ofChange spotStepsWrong)

/-- 'aqueductlaw13.SpotEvents': WHATEVER THE INPUT: true; the input reads as it did. -/
def spotEventsSpec : ChangeSpec := { name := "spotEvents", fn := fun _ => fun
  | [d1, d2] => { results := [.lit (.bool true)], args := [d1, d2] }
  | _ => none }
def spotEventsRow : OpenClaim := { program := "ytcofbaioflfehaa", sum := "44df1fd04b48987ebcc3f0341b01ac2756e949972b43c63274df25da7678873d", func := "aqueduct/aqueductlaw13.SpotEvents", spec := "spotEvents", apart := false }
def SpotEventsSaid : Prop := spotEventsRow.holds Try.pinned (OpenSpec.ofChange spotEventsSpec)

/-- ITS FALSE NEIGHBOUR: 'it returns false'. Refute it at one input. -/
def spotEventsWrong : ChangeSpec := { name := "spotEvents", fn := fun _ => fun
  | [d1, d2] => { results := [.lit (.bool false)], args := [d1, d2] }
  | _ => none }
def SpotEventsWrongFalsely : Prop := spotEventsRow.holds Try.pinned (OpenSpec.ofChange spotEventsWrong)

/-- 'aqueductlaw13.SpotNeeds': WHATEVER THE INPUT: true; the input reads as it did. -/
def spotNeedsSpec : ChangeSpec := { name := "spotNeeds", fn := fun _ => fun
  | [d] => { results := [.lit (.bool true)], args := [d] }
  | _ => none }
def spotNeedsRow : OpenClaim := { program := "ytcofbaioflfehaa", sum := "44df1fd04b48987ebcc3f0341b01ac2756e949972b43c63274df25da7678873d", func := "aqueduct/aqueductlaw13.SpotNeeds", spec := "spotNeeds", apart := false }
def SpotNeedsSaid : Prop := spotNeedsRow.holds Try.pinned (OpenSpec.ofChange spotNeedsSpec)

/-- ITS FALSE NEIGHBOUR: 'it returns false'. Refute it at one input. -/
def spotNeedsWrong : ChangeSpec := { name := "spotNeeds", fn := fun _ => fun
  | [d] => { results := [.lit (.bool false)], args := [d] }
  | _ => none }
def SpotNeedsWrongFalsely : Prop := spotNeedsRow.holds Try.pinned (OpenSpec.ofChange spotNeedsWrong)

/-- 'aqueductlaw13.SpotBack': WHATEVER THE INPUT: true; the input reads as it did. -/
def spotBackSpec : ChangeSpec := { name := "spotBack", fn := fun _ => fun
  | [d] => { results := [.lit (.bool true)], args := [d] }
  | _ => none }
def spotBackRow : OpenClaim := { program := "ytcofbaioflfehaa", sum := "44df1fd04b48987ebcc3f0341b01ac2756e949972b43c63274df25da7678873d", func := "aqueduct/aqueductlaw13.SpotBack", spec := "spotBack", apart := false }
def SpotBackSaid : Prop := spotBackRow.holds Try.pinned (OpenSpec.ofChange spotBackSpec)

/-- ITS FALSE NEIGHBOUR: 'it returns false'. Refute it at one input. -/
def spotBackWrong : ChangeSpec := { name := "spotBack", fn := fun _ => fun
  | [d] => { results := [.lit (.bool false)], args := [d] }
  | _ => none }
def SpotBackWrongFalsely : Prop := spotBackRow.holds Try.pinned (OpenSpec.ofChange spotBackWrong)

/-- 'aqueductlaw13.SpotParts': WHATEVER THE INPUT: true; the input reads as it did. -/
def spotPartsSpec : ChangeSpec := { name := "spotParts", fn := fun _ => fun
  | [d] => { results := [.lit (.bool true)], args := [d] }
  | _ => none }
def spotPartsRow : OpenClaim := { program := "ytcofbaioflfehaa", sum := "44df1fd04b48987ebcc3f0341b01ac2756e949972b43c63274df25da7678873d", func := "aqueduct/aqueductlaw13.SpotParts", spec := "spotParts", apart := false }
def SpotPartsSaid : Prop := spotPartsRow.holds Try.pinned (OpenSpec.ofChange spotPartsSpec)

/-- ITS FALSE NEIGHBOUR: 'it returns false'. Refute it at one input. -/
def spotPartsWrong : ChangeSpec := { name := "spotParts", fn := fun _ => fun
  | [d] => { results := [.lit (.bool false)], args := [d] }
  | _ => none }
def SpotPartsWrongFalsely : Prop := spotPartsRow.holds Try.pinned (OpenSpec.ofChange spotPartsWrong)

/-- 'aqueductlaw13.SpotOnce': WHATEVER THE INPUT: true; the input reads as it did. -/
def spotOnceSpec : ChangeSpec := { name := "spotOnce", fn := fun _ => fun
  | [d] => { results := [.lit (.bool true)], args := [d] }
  | _ => none }
def spotOnceRow : OpenClaim := { program := "ytcofbaioflfehaa", sum := "44df1fd04b48987ebcc3f0341b01ac2756e949972b43c63274df25da7678873d", func := "aqueduct/aqueductlaw13.SpotOnce", spec := "spotOnce", apart := false }
def SpotOnceSaid : Prop := spotOnceRow.holds Try.pinned (OpenSpec.ofChange spotOnceSpec)

/-- ITS FALSE NEIGHBOUR: 'it returns false'. Refute it at one input. -/
def spotOnceWrong : ChangeSpec := { name := "spotOnce", fn := fun _ => fun
  | [d] => { results := [.lit (.bool false)], args := [d] }
  | _ => none }
def SpotOnceWrongFalsely : Prop := spotOnceRow.holds Try.pinned (OpenSpec.ofChange spotOnceWrong)

/-- 'aqueductlaw13.SpotHalves': WHATEVER THE INPUT: true; the input reads as it did. -/
def spotHalvesSpec : ChangeSpec := { name := "spotHalves", fn := fun _ => fun
  | [d] => { results := [.lit (.bool true)], args := [d] }
  | _ => none }
def spotHalvesRow : OpenClaim := { program := "ytcofbaioflfehaa", sum := "44df1fd04b48987ebcc3f0341b01ac2756e949972b43c63274df25da7678873d", func := "aqueduct/aqueductlaw13.SpotHalves", spec := "spotHalves", apart := false }
def SpotHalvesSaid : Prop := spotHalvesRow.holds Try.pinned (OpenSpec.ofChange spotHalvesSpec)

/-- ITS FALSE NEIGHBOUR: 'it returns false'. Refute it at one input. -/
def spotHalvesWrong : ChangeSpec := { name := "spotHalves", fn := fun _ => fun
  | [d] => { results := [.lit (.bool false)], args := [d] }
  | _ => none }
def SpotHalvesWrongFalsely : Prop := spotHalvesRow.holds Try.pinned (OpenSpec.ofChange spotHalvesWrong)

/- THE SECOND FORM. 'bulk': how many values and letters a reading holds, each counted each time it is reached (what is shared counts as often as it is met; a slice's spare places count too). A statement '..UptoSaid' is the law's where the arguments, and the package variables that the reading takes, are together of bulk at most 1048576: NARROWER than '..Said'. Prove '..Said' where nothing that the law and all that it calls make is longer than what came in: it says more and counts as full. Else prove '..UptoSaid'. A law counts once. -/
mutual
def uptoBulk {H : Type} : DataW H → Nat
  | .lit (.string bytes) => bytes.length + 1
  | .lit _ => 1
  | .nil => 1
  | .ptr d => uptoBulk d + 1
  | .slice elems spare => uptoBulkAll elems + uptoBulkAll spare + 1
  | .agg parts => uptoBulkAll parts + 1
  | .iface _ d => uptoBulk d + 1
  | .map entries => uptoBulkEntries entries + 1
  | .held _ => 1
def uptoBulkAll {H : Type} : List (DataW H) → Nat
  | [] => 0
  | d :: r => uptoBulk d + uptoBulkAll r
def uptoBulkEntries {H : Type} : List (Lit × DataW H) → Nat
  | [] => 0
  | x :: r => uptoBulkEntry x + uptoBulkEntries r
def uptoBulkEntry {H : Type} : Lit × DataW H → Nat
  | (.string bytes, d) => bytes.length + uptoBulk d + 1
  | (_, d) => uptoBulk d + 1
 end
def uptoSmall : (H : Type) → List (DataW H) → Bool := fun _ ds => decide (uptoBulkAll ds ≤ 1048576)
def OpenSpec.upto (s : _root_.Go.ChangeSpec) : _root_.Go.OpenSpec := { _root_.Go.OpenSpec.ofChange s with cond := some uptoSmall }

/-- 'aqueductlaw13.SpotSteps', WHERE WHAT IT READS IS OF BULK AT MOST 1048576: true; the input reads as it did. -/
def spotStepsUptoRow : OpenClaim := { program := "ytcofbaioflfehaa", sum := "44df1fd04b48987ebcc3f0341b01ac2756e949972b43c63274df25da7678873d", func := "aqueduct/aqueductlaw13.SpotSteps", spec := "spotSteps", apart := false, narrowed := true }
def SpotStepsUptoSaid : Prop := spotStepsUptoRow.holds Try.pinned (OpenSpec.upto spotStepsSpec)

/-- 'aqueductlaw13.SpotEvents', WHERE WHAT IT READS IS OF BULK AT MOST 1048576: true; the input reads as it did. -/
def spotEventsUptoRow : OpenClaim := { program := "ytcofbaioflfehaa", sum := "44df1fd04b48987ebcc3f0341b01ac2756e949972b43c63274df25da7678873d", func := "aqueduct/aqueductlaw13.SpotEvents", spec := "spotEvents", apart := false, narrowed := true }
def SpotEventsUptoSaid : Prop := spotEventsUptoRow.holds Try.pinned (OpenSpec.upto spotEventsSpec)

/-- 'aqueductlaw13.SpotNeeds', WHERE WHAT IT READS IS OF BULK AT MOST 1048576: true; the input reads as it did. -/
def spotNeedsUptoRow : OpenClaim := { program := "ytcofbaioflfehaa", sum := "44df1fd04b48987ebcc3f0341b01ac2756e949972b43c63274df25da7678873d", func := "aqueduct/aqueductlaw13.SpotNeeds", spec := "spotNeeds", apart := false, narrowed := true }
def SpotNeedsUptoSaid : Prop := spotNeedsUptoRow.holds Try.pinned (OpenSpec.upto spotNeedsSpec)

/-- 'aqueductlaw13.SpotBack', WHERE WHAT IT READS IS OF BULK AT MOST 1048576: true; the input reads as it did. -/
def spotBackUptoRow : OpenClaim := { program := "ytcofbaioflfehaa", sum := "44df1fd04b48987ebcc3f0341b01ac2756e949972b43c63274df25da7678873d", func := "aqueduct/aqueductlaw13.SpotBack", spec := "spotBack", apart := false, narrowed := true }
def SpotBackUptoSaid : Prop := spotBackUptoRow.holds Try.pinned (OpenSpec.upto spotBackSpec)

/-- 'aqueductlaw13.SpotParts', WHERE WHAT IT READS IS OF BULK AT MOST 1048576: true; the input reads as it did. -/
def spotPartsUptoRow : OpenClaim := { program := "ytcofbaioflfehaa", sum := "44df1fd04b48987ebcc3f0341b01ac2756e949972b43c63274df25da7678873d", func := "aqueduct/aqueductlaw13.SpotParts", spec := "spotParts", apart := false, narrowed := true }
def SpotPartsUptoSaid : Prop := spotPartsUptoRow.holds Try.pinned (OpenSpec.upto spotPartsSpec)

/-- 'aqueductlaw13.SpotOnce', WHERE WHAT IT READS IS OF BULK AT MOST 1048576: true; the input reads as it did. -/
def spotOnceUptoRow : OpenClaim := { program := "ytcofbaioflfehaa", sum := "44df1fd04b48987ebcc3f0341b01ac2756e949972b43c63274df25da7678873d", func := "aqueduct/aqueductlaw13.SpotOnce", spec := "spotOnce", apart := false, narrowed := true }
def SpotOnceUptoSaid : Prop := spotOnceUptoRow.holds Try.pinned (OpenSpec.upto spotOnceSpec)

/-- 'aqueductlaw13.SpotHalves', WHERE WHAT IT READS IS OF BULK AT MOST 1048576: true; the input reads as it did. -/
def spotHalvesUptoRow : OpenClaim := { program := "ytcofbaioflfehaa", sum := "44df1fd04b48987ebcc3f0341b01ac2756e949972b43c63274df25da7678873d", func := "aqueduct/aqueductlaw13.SpotHalves", spec := "spotHalves", apart := false, narrowed := true }
def SpotHalvesUptoSaid : Prop := spotHalvesUptoRow.holds Try.pinned (OpenSpec.upto spotHalvesSpec)

end Rows
end Go.Proofs.Ytcofbaioflfehaa

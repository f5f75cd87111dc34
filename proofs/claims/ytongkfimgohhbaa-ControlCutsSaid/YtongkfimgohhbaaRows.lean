/-
  No cell of these rows narrows 'for every input' (looked for: loops, veiled, ifaces, maps, wideKeys, modest, calm, conditions, laid).
  DERIVED. THE GIVEN ROWS OF THIS SEAT. 6 by the template 'for every input the law returns true; each argument reads behind the call as it read before'; 0 by the template 'total and deterministic' (their statements: YtongkfimgohhbaaTotals.lean).
  GIVEN WITH THE SEED: the statements are not yours to turn. If you find one false, say at which input.
  Laid BY PROGRAM, IN A SANDBOX (cutbox-rows.mjs): the forced cells as the released guide's own fill.sh prints them over the translation 68366f2934edba64… (all of the seat's roots in one cut). By AI agents, Wed Nov 11 2026. No macro, syntax, notation, axiom, sorry.
-/
import Derived.Test.YtongkfimgohhbaaChecked
import GoSem.Claim
import GoSem.ClaimJoined
import GoSem.ClaimMapViews
import Derived.JoinedTies
import Derived.KernelRfl
namespace Go.Proofs.Ytongkfimgohhbaa
/- THE CELL 'sum', in the pinned program and in every row, IS THE sha256 OF THE DUMP (.gsa) THAT YtongkfimgohhbaaProg.lean LOADS. Nothing in Lean hashes anything: it is a label: what it is worth is what the hold of that sum in a sandbox is worth. -/
noncomputable def Try.pinned : Pinned := { name := "ytongkfimgohhbaa", sum := "68366f2934edba644a37a838549dec1a79010849e95693ff0f99fba66e9cb10b", checked := Try.checked }
namespace Rows
def none {H : Type} : Left H := { results := [], args := [] }

/-- 'aqueductlaw17.ControlApplies': WHATEVER THE INPUT: true; the input reads as it did. -/
def controlAppliesSpec : ChangeSpec := { name := "controlApplies", fn := fun _ => fun
  | [d1, d2] => { results := [.lit (.bool true)], args := [d1, d2] }
  | _ => none }
def controlAppliesRow : OpenClaim := { program := "ytongkfimgohhbaa", sum := "68366f2934edba644a37a838549dec1a79010849e95693ff0f99fba66e9cb10b", func := "aqueduct/aqueductlaw17.ControlApplies", spec := "controlApplies", inPlace := ["slices.overlaps[int]", "internal/abi.NoEscape", "internal/bytealg.MakeNoZero"], unfollowed := true, recurses := true, apart := false }
def ControlAppliesSaid : Prop := controlAppliesRow.holds Try.pinned (OpenSpec.ofChange controlAppliesSpec)

/-- ITS FALSE NEIGHBOUR: 'it returns false'. Refute it at one input. -/
def controlAppliesWrong : ChangeSpec := { name := "controlApplies", fn := fun _ => fun
  | [d1, d2] => { results := [.lit (.bool false)], args := [d1, d2] }
  | _ => none }
def ControlAppliesWrongFalsely : Prop := controlAppliesRow.holds Try.pinned (OpenSpec.ofChange controlAppliesWrong)

/-- 'aqueductlaw17.ControlBytes': WHATEVER THE INPUT: true; the input reads as it did. -/
def controlBytesSpec : ChangeSpec := { name := "controlBytes", fn := fun _ => fun
  | [d] => { results := [.lit (.bool true)], args := [d] }
  | _ => none }
def controlBytesRow : OpenClaim := { program := "ytongkfimgohhbaa", sum := "68366f2934edba644a37a838549dec1a79010849e95693ff0f99fba66e9cb10b", func := "aqueduct/aqueductlaw17.ControlBytes", spec := "controlBytes", inPlace := ["internal/abi.NoEscape", "internal/bytealg.MakeNoZero", "slices.overlaps[int]"], unfollowed := true, recurses := true, apart := false }
def ControlBytesSaid : Prop := controlBytesRow.holds Try.pinned (OpenSpec.ofChange controlBytesSpec)

/-- ITS FALSE NEIGHBOUR: 'it returns false'. Refute it at one input. -/
def controlBytesWrong : ChangeSpec := { name := "controlBytes", fn := fun _ => fun
  | [d] => { results := [.lit (.bool false)], args := [d] }
  | _ => none }
def ControlBytesWrongFalsely : Prop := controlBytesRow.holds Try.pinned (OpenSpec.ofChange controlBytesWrong)

/-- 'aqueductlaw17.ControlSets': WHATEVER THE INPUT: true; the input reads as it did. -/
def controlSetsSpec : ChangeSpec := { name := "controlSets", fn := fun _ => fun
  | [d1, d2] => { results := [.lit (.bool true)], args := [d1, d2] }
  | _ => none }
def controlSetsRow : OpenClaim := { program := "ytongkfimgohhbaa", sum := "68366f2934edba644a37a838549dec1a79010849e95693ff0f99fba66e9cb10b", func := "aqueduct/aqueductlaw17.ControlSets", spec := "controlSets", inPlace := ["slices.overlaps[int]", "internal/abi.NoEscape", "internal/bytealg.MakeNoZero"], unfollowed := true, recurses := true, apart := false }
def ControlSetsSaid : Prop := controlSetsRow.holds Try.pinned (OpenSpec.ofChange controlSetsSpec)

/-- ITS FALSE NEIGHBOUR: 'it returns false'. Refute it at one input. -/
def controlSetsWrong : ChangeSpec := { name := "controlSets", fn := fun _ => fun
  | [d1, d2] => { results := [.lit (.bool false)], args := [d1, d2] }
  | _ => none }
def ControlSetsWrongFalsely : Prop := controlSetsRow.holds Try.pinned (OpenSpec.ofChange controlSetsWrong)

/-- 'aqueductlaw17.ControlRules': WHATEVER THE INPUT: true; the input reads as it did. -/
def controlRulesSpec : ChangeSpec := { name := "controlRules", fn := fun _ => fun
  | [d1, d2, d3] => { results := [.lit (.bool true)], args := [d1, d2, d3] }
  | _ => none }
def controlRulesRow : OpenClaim := { program := "ytongkfimgohhbaa", sum := "68366f2934edba644a37a838549dec1a79010849e95693ff0f99fba66e9cb10b", func := "aqueduct/aqueductlaw17.ControlRules", spec := "controlRules", inPlace := ["internal/abi.NoEscape", "internal/bytealg.MakeNoZero", "slices.overlaps[int]"], unfollowed := true, recurses := true, apart := false }
def ControlRulesSaid : Prop := controlRulesRow.holds Try.pinned (OpenSpec.ofChange controlRulesSpec)

/-- ITS FALSE NEIGHBOUR: 'it returns false'. Refute it at one input. -/
def controlRulesWrong : ChangeSpec := { name := "controlRules", fn := fun _ => fun
  | [d1, d2, d3] => { results := [.lit (.bool false)], args := [d1, d2, d3] }
  | _ => none }
def ControlRulesWrongFalsely : Prop := controlRulesRow.holds Try.pinned (OpenSpec.ofChange controlRulesWrong)

/-- 'aqueductlaw17.ControlApart': WHATEVER THE INPUT: true; the input reads as it did. -/
def controlApartSpec : ChangeSpec := { name := "controlApart", fn := fun _ => fun
  | [d1, d2] => { results := [.lit (.bool true)], args := [d1, d2] }
  | _ => none }
def controlApartRow : OpenClaim := { program := "ytongkfimgohhbaa", sum := "68366f2934edba644a37a838549dec1a79010849e95693ff0f99fba66e9cb10b", func := "aqueduct/aqueductlaw17.ControlApart", spec := "controlApart", inPlace := ["internal/abi.NoEscape", "internal/bytealg.MakeNoZero", "slices.overlaps[int]"], unfollowed := true, recurses := true, apart := false }
def ControlApartSaid : Prop := controlApartRow.holds Try.pinned (OpenSpec.ofChange controlApartSpec)

/-- ITS FALSE NEIGHBOUR: 'it returns false'. Refute it at one input. -/
def controlApartWrong : ChangeSpec := { name := "controlApart", fn := fun _ => fun
  | [d1, d2] => { results := [.lit (.bool false)], args := [d1, d2] }
  | _ => none }
def ControlApartWrongFalsely : Prop := controlApartRow.holds Try.pinned (OpenSpec.ofChange controlApartWrong)

/-- 'aqueductlaw17.ControlCuts': WHATEVER THE INPUT: true; the input reads as it did. -/
def controlCutsSpec : ChangeSpec := { name := "controlCuts", fn := fun _ => fun
  | [d1, d2, d3] => { results := [.lit (.bool true)], args := [d1, d2, d3] }
  | _ => none }
def controlCutsRow : OpenClaim := { program := "ytongkfimgohhbaa", sum := "68366f2934edba644a37a838549dec1a79010849e95693ff0f99fba66e9cb10b", func := "aqueduct/aqueductlaw17.ControlCuts", spec := "controlCuts", inPlace := ["internal/abi.NoEscape", "internal/bytealg.MakeNoZero", "slices.overlaps[int]"], unfollowed := true, recurses := true, apart := false }
def ControlCutsSaid : Prop := controlCutsRow.holds Try.pinned (OpenSpec.ofChange controlCutsSpec)

/-- ITS FALSE NEIGHBOUR: 'it returns false'. Refute it at one input. -/
def controlCutsWrong : ChangeSpec := { name := "controlCuts", fn := fun _ => fun
  | [d1, d2, d3] => { results := [.lit (.bool false)], args := [d1, d2, d3] }
  | _ => none }
def ControlCutsWrongFalsely : Prop := controlCutsRow.holds Try.pinned (OpenSpec.ofChange controlCutsWrong)

/- THE SECOND FORM. 'bulk': how many values and letters a reading holds, each counted each time it is reached (what is shared counts as often as it is met; a slice's spare places count too). A statement '..UptoSaid' is the law's where the arguments, and the package variables that the reading takes, are together of bulk at most 1048576: NARROWER than '..Said'. Prove '..Said' where nothing that the law and all that it calls make is longer than what came in: it says more and counts as full. Else prove '..UptoSaid'. A law counts once. -/
mutual
def uptoBulk {H : Type} : DataW H → Nat
  | .lit (.string bytes) => bytes.length + 1
  | .lit _ => 1
  | .nil => 1
  | .ptr d => uptoBulk d + 1
  | .slice elems spare => uptoBulkAll elems + uptoBulkAll spare + 1
  | .agg parts => uptoBulkAll parts + 1
  | .iface _ d => uptoBulk d + 1
  | .map entries => uptoBulkEntries entries + 1
  | .held _ => 1
def uptoBulkAll {H : Type} : List (DataW H) → Nat
  | [] => 0
  | d :: r => uptoBulk d + uptoBulkAll r
def uptoBulkEntries {H : Type} : List (Lit × DataW H) → Nat
  | [] => 0
  | x :: r => uptoBulkEntry x + uptoBulkEntries r
def uptoBulkEntry {H : Type} : Lit × DataW H → Nat
  | (.string bytes, d) => bytes.length + uptoBulk d + 1
  | (_, d) => uptoBulk d + 1
 end
def uptoSmall : (H : Type) → List (DataW H) → Bool := fun _ ds => decide (uptoBulkAll ds ≤ 1048576)
def OpenSpec.upto (s : _root_.Go.ChangeSpec) : _root_.Go.OpenSpec := { _root_.Go.OpenSpec.ofChange s with cond := some uptoSmall }

/-- 'aqueductlaw17.ControlApplies', WHERE WHAT IT READS IS OF BULK AT MOST 1048576: true; the input reads as it did. -/
def controlAppliesUptoRow : OpenClaim := { program := "ytongkfimgohhbaa", sum := "68366f2934edba644a37a838549dec1a79010849e95693ff0f99fba66e9cb10b", func := "aqueduct/aqueductlaw17.ControlApplies", spec := "controlApplies", inPlace := ["slices.overlaps[int]", "internal/abi.NoEscape", "internal/bytealg.MakeNoZero"], unfollowed := true, recurses := true, apart := false, narrowed := true }
def ControlAppliesUptoSaid : Prop := controlAppliesUptoRow.holds Try.pinned (OpenSpec.upto controlAppliesSpec)

/-- 'aqueductlaw17.ControlBytes', WHERE WHAT IT READS IS OF BULK AT MOST 1048576: true; the input reads as it did. -/
def controlBytesUptoRow : OpenClaim := { program := "ytongkfimgohhbaa", sum := "68366f2934edba644a37a838549dec1a79010849e95693ff0f99fba66e9cb10b", func := "aqueduct/aqueductlaw17.ControlBytes", spec := "controlBytes", inPlace := ["internal/abi.NoEscape", "internal/bytealg.MakeNoZero", "slices.overlaps[int]"], unfollowed := true, recurses := true, apart := false, narrowed := true }
def ControlBytesUptoSaid : Prop := controlBytesUptoRow.holds Try.pinned (OpenSpec.upto controlBytesSpec)

/-- 'aqueductlaw17.ControlSets', WHERE WHAT IT READS IS OF BULK AT MOST 1048576: true; the input reads as it did. -/
def controlSetsUptoRow : OpenClaim := { program := "ytongkfimgohhbaa", sum := "68366f2934edba644a37a838549dec1a79010849e95693ff0f99fba66e9cb10b", func := "aqueduct/aqueductlaw17.ControlSets", spec := "controlSets", inPlace := ["slices.overlaps[int]", "internal/abi.NoEscape", "internal/bytealg.MakeNoZero"], unfollowed := true, recurses := true, apart := false, narrowed := true }
def ControlSetsUptoSaid : Prop := controlSetsUptoRow.holds Try.pinned (OpenSpec.upto controlSetsSpec)

/-- 'aqueductlaw17.ControlRules', WHERE WHAT IT READS IS OF BULK AT MOST 1048576: true; the input reads as it did. -/
def controlRulesUptoRow : OpenClaim := { program := "ytongkfimgohhbaa", sum := "68366f2934edba644a37a838549dec1a79010849e95693ff0f99fba66e9cb10b", func := "aqueduct/aqueductlaw17.ControlRules", spec := "controlRules", inPlace := ["internal/abi.NoEscape", "internal/bytealg.MakeNoZero", "slices.overlaps[int]"], unfollowed := true, recurses := true, apart := false, narrowed := true }
def ControlRulesUptoSaid : Prop := controlRulesUptoRow.holds Try.pinned (OpenSpec.upto controlRulesSpec)

/-- 'aqueductlaw17.ControlApart', WHERE WHAT IT READS IS OF BULK AT MOST 1048576: true; the input reads as it did. -/
def controlApartUptoRow : OpenClaim := { program := "ytongkfimgohhbaa", sum := "68366f2934edba644a37a838549dec1a79010849e95693ff0f99fba66e9cb10b", func := "aqueduct/aqueductlaw17.ControlApart", spec := "controlApart", inPlace := ["internal/abi.NoEscape", "internal/bytealg.MakeNoZero", "slices.overlaps[int]"], unfollowed := true, recurses := true, apart := false, narrowed := true }
def ControlApartUptoSaid : Prop := controlApartUptoRow.holds Try.pinned (OpenSpec.upto controlApartSpec)

/-- 'aqueductlaw17.ControlCuts', WHERE WHAT IT READS IS OF BULK AT MOST 1048576: true; the input reads as it did. -/
def controlCutsUptoRow : OpenClaim := { program := "ytongkfimgohhbaa", sum := "68366f2934edba644a37a838549dec1a79010849e95693ff0f99fba66e9cb10b", func := "aqueduct/aqueductlaw17.ControlCuts", spec := "controlCuts", inPlace := ["internal/abi.NoEscape", "internal/bytealg.MakeNoZero", "slices.overlaps[int]"], unfollowed := true, recurses := true, apart := false, narrowed := true }
def ControlCutsUptoSaid : Prop := controlCutsUptoRow.holds Try.pinned (OpenSpec.upto controlCutsSpec)

end Rows
end Go.Proofs.Ytongkfimgohhbaa

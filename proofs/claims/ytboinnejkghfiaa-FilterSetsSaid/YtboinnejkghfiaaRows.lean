/-
  No cell of these rows narrows 'for every input' (looked for: loops, veiled, ifaces, maps, wideKeys, modest, calm, conditions, laid).
  DERIVED. THE GIVEN ROWS OF THIS SEAT. 6 by the template 'for every input the law returns true; each argument reads behind the call as it read before'; 0 by the template 'total and deterministic' (their statements: YtboinnejkghfiaaTotals.lean).
  GIVEN WITH THE SEED: the statements are not yours to turn. If you find one false, say at which input.
  Laid BY PROGRAM, IN A SANDBOX (cutbox-rows.mjs): the forced cells as the released guide's own fill.sh prints them over the translation 20ee7f170c472948… (all of the seat's roots in one cut). By AI agents, Wed Nov 11 2026. No macro, syntax, notation, axiom, sorry.
-/
import Derived.Test.YtboinnejkghfiaaChecked
import GoSem.Claim
import GoSem.ClaimJoined
import GoSem.ClaimMapViews
import Derived.JoinedTies
import Derived.KernelRfl
namespace Go.Proofs.Ytboinnejkghfiaa
/- THE CELL 'sum', in the pinned program and in every row, IS THE sha256 OF THE DUMP (.gsa) THAT YtboinnejkghfiaaProg.lean LOADS. Nothing in Lean hashes anything: it is a label: what it is worth is what the hold of that sum in a sandbox is worth. -/
noncomputable def Try.pinned : Pinned := { name := "ytboinnejkghfiaa", sum := "20ee7f170c4729481082a58dfd073912c37c8bbbfafc4495573778c0b207f377", checked := Try.checked }
namespace Rows
def none {H : Type} : Left H := { results := [], args := [] }

/-- 'aqueductlaw16.FilterChecks': WHATEVER THE INPUT: true; the input reads as it did. -/
def filterChecksSpec : ChangeSpec := { name := "filterChecks", fn := fun _ => fun
  | [d1, d2] => { results := [.lit (.bool true)], args := [d1, d2] }
  | _ => none }
def filterChecksRow : OpenClaim := { program := "ytboinnejkghfiaa", sum := "20ee7f170c4729481082a58dfd073912c37c8bbbfafc4495573778c0b207f377", func := "aqueduct/aqueductlaw16.FilterChecks", spec := "filterChecks", inPlace := ["slices.overlaps[int]"], unfollowed := true, recurses := true, apart := false }
def FilterChecksSaid : Prop := filterChecksRow.holds Try.pinned (OpenSpec.ofChange filterChecksSpec)

/-- ITS FALSE NEIGHBOUR: 'it returns false'. Refute it at one input. -/
def filterChecksWrong : ChangeSpec := { name := "filterChecks", fn := fun _ => fun
  | [d1, d2] => { results := [.lit (.bool false)], args := [d1, d2] }
  | _ => none }
def FilterChecksWrongFalsely : Prop := filterChecksRow.holds Try.pinned (OpenSpec.ofChange filterChecksWrong)

/-- 'aqueductlaw16.FilterSets': WHATEVER THE INPUT: true; the input reads as it did. -/
def filterSetsSpec : ChangeSpec := { name := "filterSets", fn := fun _ => fun
  | [d1, d2] => { results := [.lit (.bool true)], args := [d1, d2] }
  | _ => none }
def filterSetsRow : OpenClaim := { program := "ytboinnejkghfiaa", sum := "20ee7f170c4729481082a58dfd073912c37c8bbbfafc4495573778c0b207f377", func := "aqueduct/aqueductlaw16.FilterSets", spec := "filterSets", inPlace := ["slices.overlaps[int]"], unfollowed := true, recurses := true, apart := false }
def FilterSetsSaid : Prop := filterSetsRow.holds Try.pinned (OpenSpec.ofChange filterSetsSpec)

/-- ITS FALSE NEIGHBOUR: 'it returns false'. Refute it at one input. -/
def filterSetsWrong : ChangeSpec := { name := "filterSets", fn := fun _ => fun
  | [d1, d2] => { results := [.lit (.bool false)], args := [d1, d2] }
  | _ => none }
def FilterSetsWrongFalsely : Prop := filterSetsRow.holds Try.pinned (OpenSpec.ofChange filterSetsWrong)

/-- 'aqueductlaw16.FilterGrows': WHATEVER THE INPUT: true; the input reads as it did. -/
def filterGrowsSpec : ChangeSpec := { name := "filterGrows", fn := fun _ => fun
  | [d1, d2, d3] => { results := [.lit (.bool true)], args := [d1, d2, d3] }
  | _ => none }
def filterGrowsRow : OpenClaim := { program := "ytboinnejkghfiaa", sum := "20ee7f170c4729481082a58dfd073912c37c8bbbfafc4495573778c0b207f377", func := "aqueduct/aqueductlaw16.FilterGrows", spec := "filterGrows", inPlace := ["slices.overlaps[int]"], unfollowed := true, recurses := true, apart := false }
def FilterGrowsSaid : Prop := filterGrowsRow.holds Try.pinned (OpenSpec.ofChange filterGrowsSpec)

/-- ITS FALSE NEIGHBOUR: 'it returns false'. Refute it at one input. -/
def filterGrowsWrong : ChangeSpec := { name := "filterGrows", fn := fun _ => fun
  | [d1, d2, d3] => { results := [.lit (.bool false)], args := [d1, d2, d3] }
  | _ => none }
def FilterGrowsWrongFalsely : Prop := filterGrowsRow.holds Try.pinned (OpenSpec.ofChange filterGrowsWrong)

/-- 'aqueductlaw16.FilterNets': WHATEVER THE INPUT: true; the input reads as it did. -/
def filterNetsSpec : ChangeSpec := { name := "filterNets", fn := fun _ => fun
  | [d1, d2, d3] => { results := [.lit (.bool true)], args := [d1, d2, d3] }
  | _ => none }
def filterNetsRow : OpenClaim := { program := "ytboinnejkghfiaa", sum := "20ee7f170c4729481082a58dfd073912c37c8bbbfafc4495573778c0b207f377", func := "aqueduct/aqueductlaw16.FilterNets", spec := "filterNets", inPlace := ["slices.overlaps[int]"], unfollowed := true, recurses := true, apart := false }
def FilterNetsSaid : Prop := filterNetsRow.holds Try.pinned (OpenSpec.ofChange filterNetsSpec)

/-- ITS FALSE NEIGHBOUR: 'it returns false'. Refute it at one input. -/
def filterNetsWrong : ChangeSpec := { name := "filterNets", fn := fun _ => fun
  | [d1, d2, d3] => { results := [.lit (.bool false)], args := [d1, d2, d3] }
  | _ => none }
def FilterNetsWrongFalsely : Prop := filterNetsRow.holds Try.pinned (OpenSpec.ofChange filterNetsWrong)

/-- 'aqueductlaw16.FilterTwice': WHATEVER THE INPUT: true; the input reads as it did. -/
def filterTwiceSpec : ChangeSpec := { name := "filterTwice", fn := fun _ => fun
  | [d1, d2, d3] => { results := [.lit (.bool true)], args := [d1, d2, d3] }
  | _ => none }
def filterTwiceRow : OpenClaim := { program := "ytboinnejkghfiaa", sum := "20ee7f170c4729481082a58dfd073912c37c8bbbfafc4495573778c0b207f377", func := "aqueduct/aqueductlaw16.FilterTwice", spec := "filterTwice", inPlace := ["slices.overlaps[int]"], unfollowed := true, recurses := true, apart := false }
def FilterTwiceSaid : Prop := filterTwiceRow.holds Try.pinned (OpenSpec.ofChange filterTwiceSpec)

/-- ITS FALSE NEIGHBOUR: 'it returns false'. Refute it at one input. -/
def filterTwiceWrong : ChangeSpec := { name := "filterTwice", fn := fun _ => fun
  | [d1, d2, d3] => { results := [.lit (.bool false)], args := [d1, d2, d3] }
  | _ => none }
def FilterTwiceWrongFalsely : Prop := filterTwiceRow.holds Try.pinned (OpenSpec.ofChange filterTwiceWrong)

/-- 'aqueductlaw16.FilterOwn': WHATEVER THE INPUT: true; the input reads as it did. -/
def filterOwnSpec : ChangeSpec := { name := "filterOwn", fn := fun _ => fun
  | [d1, d2, d3] => { results := [.lit (.bool true)], args := [d1, d2, d3] }
  | _ => none }
def filterOwnRow : OpenClaim := { program := "ytboinnejkghfiaa", sum := "20ee7f170c4729481082a58dfd073912c37c8bbbfafc4495573778c0b207f377", func := "aqueduct/aqueductlaw16.FilterOwn", spec := "filterOwn", inPlace := ["slices.overlaps[int]"], unfollowed := true, recurses := true, apart := false }
def FilterOwnSaid : Prop := filterOwnRow.holds Try.pinned (OpenSpec.ofChange filterOwnSpec)

/-- ITS FALSE NEIGHBOUR: 'it returns false'. Refute it at one input. -/
def filterOwnWrong : ChangeSpec := { name := "filterOwn", fn := fun _ => fun
  | [d1, d2, d3] => { results := [.lit (.bool false)], args := [d1, d2, d3] }
  | _ => none }
def FilterOwnWrongFalsely : Prop := filterOwnRow.holds Try.pinned (OpenSpec.ofChange filterOwnWrong)

/- THE SECOND FORM. 'bulk': how many values and letters a reading holds, each counted each time it is reached (what is shared counts as often as it is met; a slice's spare places count too). A statement '..UptoSaid' is the law's where the arguments, and the package variables that the reading takes, are together of bulk at most 1048576: NARROWER than '..Said'. Prove '..Said' where nothing that the law and all that it calls make is longer than what came in: it says more and counts as full. Else prove '..UptoSaid'. A law counts once. -/
mutual
def uptoBulk {H : Type} : DataW H → Nat
  | .lit (.string bytes) => bytes.length + 1
  | .lit _ => 1
  | .nil => 1
  | .ptr d => uptoBulk d + 1
  | .slice elems spare => uptoBulkAll elems + uptoBulkAll spare + 1
  | .agg parts => uptoBulkAll parts + 1
  | .iface _ d => uptoBulk d + 1
  | .map entries => uptoBulkEntries entries + 1
  | .held _ => 1
def uptoBulkAll {H : Type} : List (DataW H) → Nat
  | [] => 0
  | d :: r => uptoBulk d + uptoBulkAll r
def uptoBulkEntries {H : Type} : List (Lit × DataW H) → Nat
  | [] => 0
  | x :: r => uptoBulkEntry x + uptoBulkEntries r
def uptoBulkEntry {H : Type} : Lit × DataW H → Nat
  | (.string bytes, d) => bytes.length + uptoBulk d + 1
  | (_, d) => uptoBulk d + 1
 end
def uptoSmall : (H : Type) → List (DataW H) → Bool := fun _ ds => decide (uptoBulkAll ds ≤ 1048576)
def OpenSpec.upto (s : _root_.Go.ChangeSpec) : _root_.Go.OpenSpec := { _root_.Go.OpenSpec.ofChange s with cond := some uptoSmall }

/-- 'aqueductlaw16.FilterChecks', WHERE WHAT IT READS IS OF BULK AT MOST 1048576: true; the input reads as it did. -/
def filterChecksUptoRow : OpenClaim := { program := "ytboinnejkghfiaa", sum := "20ee7f170c4729481082a58dfd073912c37c8bbbfafc4495573778c0b207f377", func := "aqueduct/aqueductlaw16.FilterChecks", spec := "filterChecks", inPlace := ["slices.overlaps[int]"], unfollowed := true, recurses := true, apart := false, narrowed := true }
def FilterChecksUptoSaid : Prop := filterChecksUptoRow.holds Try.pinned (OpenSpec.upto filterChecksSpec)

/-- 'aqueductlaw16.FilterSets', WHERE WHAT IT READS IS OF BULK AT MOST 1048576: true; the input reads as it did. -/
def filterSetsUptoRow : OpenClaim := { program := "ytboinnejkghfiaa", sum := "20ee7f170c4729481082a58dfd073912c37c8bbbfafc4495573778c0b207f377", func := "aqueduct/aqueductlaw16.FilterSets", spec := "filterSets", inPlace := ["slices.overlaps[int]"], unfollowed := true, recurses := true, apart := false, narrowed := true }
def FilterSetsUptoSaid : Prop := filterSetsUptoRow.holds Try.pinned (OpenSpec.upto filterSetsSpec)

/-- 'aqueductlaw16.FilterGrows', WHERE WHAT IT READS IS OF BULK AT MOST 1048576: true; the input reads as it did. -/
def filterGrowsUptoRow : OpenClaim := { program := "ytboinnejkghfiaa", sum := "20ee7f170c4729481082a58dfd073912c37c8bbbfafc4495573778c0b207f377", func := "aqueduct/aqueductlaw16.FilterGrows", spec := "filterGrows", inPlace := ["slices.overlaps[int]"], unfollowed := true, recurses := true, apart := false, narrowed := true }
def FilterGrowsUptoSaid : Prop := filterGrowsUptoRow.holds Try.pinned (OpenSpec.upto filterGrowsSpec)

/-- 'aqueductlaw16.FilterNets', WHERE WHAT IT READS IS OF BULK AT MOST 1048576: true; the input reads as it did. -/
def filterNetsUptoRow : OpenClaim := { program := "ytboinnejkghfiaa", sum := "20ee7f170c4729481082a58dfd073912c37c8bbbfafc4495573778c0b207f377", func := "aqueduct/aqueductlaw16.FilterNets", spec := "filterNets", inPlace := ["slices.overlaps[int]"], unfollowed := true, recurses := true, apart := false, narrowed := true }
def FilterNetsUptoSaid : Prop := filterNetsUptoRow.holds Try.pinned (OpenSpec.upto filterNetsSpec)

/-- 'aqueductlaw16.FilterTwice', WHERE WHAT IT READS IS OF BULK AT MOST 1048576: true; the input reads as it did. -/
def filterTwiceUptoRow : OpenClaim := { program := "ytboinnejkghfiaa", sum := "20ee7f170c4729481082a58dfd073912c37c8bbbfafc4495573778c0b207f377", func := "aqueduct/aqueductlaw16.FilterTwice", spec := "filterTwice", inPlace := ["slices.overlaps[int]"], unfollowed := true, recurses := true, apart := false, narrowed := true }
def FilterTwiceUptoSaid : Prop := filterTwiceUptoRow.holds Try.pinned (OpenSpec.upto filterTwiceSpec)

/-- 'aqueductlaw16.FilterOwn', WHERE WHAT IT READS IS OF BULK AT MOST 1048576: true; the input reads as it did. -/
def filterOwnUptoRow : OpenClaim := { program := "ytboinnejkghfiaa", sum := "20ee7f170c4729481082a58dfd073912c37c8bbbfafc4495573778c0b207f377", func := "aqueduct/aqueductlaw16.FilterOwn", spec := "filterOwn", inPlace := ["slices.overlaps[int]"], unfollowed := true, recurses := true, apart := false, narrowed := true }
def FilterOwnUptoSaid : Prop := filterOwnUptoRow.holds Try.pinned (OpenSpec.upto filterOwnSpec)

end Rows
end Go.Proofs.Ytboinnejkghfiaa

/-
  No cell of these rows narrows 'for every input' (looked for: loops, veiled, ifaces, maps, wideKeys, modest, calm, conditions, laid).
  DERIVED. THE GIVEN ROWS OF THIS SEAT. 6 by the template 'for every input the law returns true; each argument reads behind the call as it read before'; 0 by the template 'total and deterministic' (their statements: YtmipjmoemmgkiaaTotals.lean).
  GIVEN WITH THE SEED: the statements are not yours to turn. If you find one false, say at which input.
  Laid BY PROGRAM, IN A SANDBOX (cutbox-rows.mjs): the forced cells as the released guide's own fill.sh prints them over the translation 4565504eeda9dcb0… (all of the seat's roots in one cut). By AI agents, Wed Nov 11 2026. No macro, syntax, notation, axiom, sorry.
-/
import Derived.Test.YtmipjmoemmgkiaaChecked
import GoSem.Claim
import GoSem.ClaimJoined
import GoSem.ClaimMapViews
import Derived.JoinedTies
import Derived.KernelRfl
namespace Go.Proofs.Ytmipjmoemmgkiaa
/- THE CELL 'sum', in the pinned program and in every row, IS THE sha256 OF THE DUMP (.gsa) THAT YtmipjmoemmgkiaaProg.lean LOADS. Nothing in Lean hashes anything: it is a label: what it is worth is what the hold of that sum in a sandbox is worth. -/
noncomputable def Try.pinned : Pinned := { name := "ytmipjmoemmgkiaa", sum := "4565504eeda9dcb08fc3b21d5916f22ec0fdfe58a819a41fa97feedb4b30dfc3", checked := Try.checked }
namespace Rows
def none {H : Type} : Left H := { results := [], args := [] }

/-- 'aqueductlaw12.DescParses': WHATEVER THE INPUT: true; the input reads as it did. -/
def descParsesSpec : ChangeSpec := { name := "descParses", fn := fun _ => fun
  | [d1, d2] => { results := [.lit (.bool true)], args := [d1, d2] }
  | _ => none }
def descParsesRow : OpenClaim := { program := "ytmipjmoemmgkiaa", sum := "4565504eeda9dcb08fc3b21d5916f22ec0fdfe58a819a41fa97feedb4b30dfc3", func := "aqueduct/aqueductlaw12.DescParses", spec := "descParses", apart := false }
def DescParsesSaid : Prop := descParsesRow.holds Try.pinned (OpenSpec.ofChange descParsesSpec)

/-- ITS FALSE NEIGHBOUR: 'it returns false'. Refute it at one input. -/
def descParsesWrong : ChangeSpec := { name := "descParses", fn := fun _ => fun
  | [d1, d2] => { results := [.lit (.bool false)], args := [d1, d2] }
  | _ => none }
def DescParsesWrongFalsely : Prop := descParsesRow.holds Try.pinned (OpenSpec.ofChange descParsesWrong)

/-- 'aqueductlaw12.DescMarks': WHATEVER THE INPUT: true; the input reads as it did. -/
def descMarksSpec : ChangeSpec := { name := "descMarks", fn := fun _ => fun
  | [d1, d2, d3] => { results := [.lit (.bool true)], args := [d1, d2, d3] }
  | _ => none }
def descMarksRow : OpenClaim := { program := "ytmipjmoemmgkiaa", sum := "4565504eeda9dcb08fc3b21d5916f22ec0fdfe58a819a41fa97feedb4b30dfc3", func := "aqueduct/aqueductlaw12.DescMarks", spec := "descMarks", apart := false }
def DescMarksSaid : Prop := descMarksRow.holds Try.pinned (OpenSpec.ofChange descMarksSpec)

/-- ITS FALSE NEIGHBOUR: 'it returns false'. Refute it at one input. -/
def descMarksWrong : ChangeSpec := { name := "descMarks", fn := fun _ => fun
  | [d1, d2, d3] => { results := [.lit (.bool false)], args := [d1, d2, d3] }
  | _ => none }
def DescMarksWrongFalsely : Prop := descMarksRow.holds Try.pinned (OpenSpec.ofChange descMarksWrong)

/-- 'aqueductlaw12.DescBack': WHATEVER THE INPUT: true; the input reads as it did. -/
def descBackSpec : ChangeSpec := { name := "descBack", fn := fun _ => fun
  | [d1, d2, d3] => { results := [.lit (.bool true)], args := [d1, d2, d3] }
  | _ => none }
def descBackRow : OpenClaim := { program := "ytmipjmoemmgkiaa", sum := "4565504eeda9dcb08fc3b21d5916f22ec0fdfe58a819a41fa97feedb4b30dfc3", func := "aqueduct/aqueductlaw12.DescBack", spec := "descBack", apart := false }
def DescBackSaid : Prop := descBackRow.holds Try.pinned (OpenSpec.ofChange descBackSpec)

/-- ITS FALSE NEIGHBOUR: 'it returns false'. Refute it at one input. -/
def descBackWrong : ChangeSpec := { name := "descBack", fn := fun _ => fun
  | [d1, d2, d3] => { results := [.lit (.bool false)], args := [d1, d2, d3] }
  | _ => none }
def DescBackWrongFalsely : Prop := descBackRow.holds Try.pinned (OpenSpec.ofChange descBackWrong)

/-- 'aqueductlaw12.DescRounds': WHATEVER THE INPUT: true; the input reads as it did. -/
def descRoundsSpec : ChangeSpec := { name := "descRounds", fn := fun _ => fun
  | [d1, d2] => { results := [.lit (.bool true)], args := [d1, d2] }
  | _ => none }
def descRoundsRow : OpenClaim := { program := "ytmipjmoemmgkiaa", sum := "4565504eeda9dcb08fc3b21d5916f22ec0fdfe58a819a41fa97feedb4b30dfc3", func := "aqueduct/aqueductlaw12.DescRounds", spec := "descRounds", apart := false }
def DescRoundsSaid : Prop := descRoundsRow.holds Try.pinned (OpenSpec.ofChange descRoundsSpec)

/-- ITS FALSE NEIGHBOUR: 'it returns false'. Refute it at one input. -/
def descRoundsWrong : ChangeSpec := { name := "descRounds", fn := fun _ => fun
  | [d1, d2] => { results := [.lit (.bool false)], args := [d1, d2] }
  | _ => none }
def DescRoundsWrongFalsely : Prop := descRoundsRow.holds Try.pinned (OpenSpec.ofChange descRoundsWrong)

/-- 'aqueductlaw12.DescBytes': WHATEVER THE INPUT: true; the input reads as it did. -/
def descBytesSpec : ChangeSpec := { name := "descBytes", fn := fun _ => fun
  | [d1, d2] => { results := [.lit (.bool true)], args := [d1, d2] }
  | _ => none }
def descBytesRow : OpenClaim := { program := "ytmipjmoemmgkiaa", sum := "4565504eeda9dcb08fc3b21d5916f22ec0fdfe58a819a41fa97feedb4b30dfc3", func := "aqueduct/aqueductlaw12.DescBytes", spec := "descBytes", apart := false }
def DescBytesSaid : Prop := descBytesRow.holds Try.pinned (OpenSpec.ofChange descBytesSpec)

/-- ITS FALSE NEIGHBOUR: 'it returns false'. Refute it at one input. -/
def descBytesWrong : ChangeSpec := { name := "descBytes", fn := fun _ => fun
  | [d1, d2] => { results := [.lit (.bool false)], args := [d1, d2] }
  | _ => none }
def DescBytesWrongFalsely : Prop := descBytesRow.holds Try.pinned (OpenSpec.ofChange descBytesWrong)

/-- 'aqueductlaw12.DescLess': WHATEVER THE INPUT: true; the input reads as it did. -/
def descLessSpec : ChangeSpec := { name := "descLess", fn := fun _ => fun
  | [d1, d2, d3] => { results := [.lit (.bool true)], args := [d1, d2, d3] }
  | _ => none }
def descLessRow : OpenClaim := { program := "ytmipjmoemmgkiaa", sum := "4565504eeda9dcb08fc3b21d5916f22ec0fdfe58a819a41fa97feedb4b30dfc3", func := "aqueduct/aqueductlaw12.DescLess", spec := "descLess", apart := false }
def DescLessSaid : Prop := descLessRow.holds Try.pinned (OpenSpec.ofChange descLessSpec)

/-- ITS FALSE NEIGHBOUR: 'it returns false'. Refute it at one input. -/
def descLessWrong : ChangeSpec := { name := "descLess", fn := fun _ => fun
  | [d1, d2, d3] => { results := [.lit (.bool false)], args := [d1, d2, d3] }
  | _ => none }
def DescLessWrongFalsely : Prop := descLessRow.holds Try.pinned (OpenSpec.ofChange descLessWrong)

/- THE SECOND FORM. 'bulk': how many values and letters a reading holds, each counted each time it is reached (what is shared counts as often as it is met; a slice's spare places count too). A statement '..UptoSaid' is the law's where the arguments, and the package variables that the reading takes, are together of bulk at most 1048576: NARROWER than '..Said'. Prove '..Said' where nothing that the law and all that it calls make is longer than what came in: it says more and counts as full. Else prove '..UptoSaid'. A law counts once. -/
mutual
def uptoBulk {H : Type} : DataW H → Nat
  | .lit (.string bytes) => bytes.length + 1
  | .lit _ => 1
  | .nil => 1
  | .ptr d => uptoBulk d + 1
  | .slice elems spare => uptoBulkAll elems + uptoBulkAll spare + 1
  | .agg parts => uptoBulkAll parts + 1
  | .iface _ d => uptoBulk d + 1
  | .map entries => uptoBulkEntries entries + 1
  | .held _ => 1
def uptoBulkAll {H : Type} : List (DataW H) → Nat
  | [] => 0
  | d :: r => uptoBulk d + uptoBulkAll r
def uptoBulkEntries {H : Type} : List (Lit × DataW H) → Nat
  | [] => 0
  | x :: r => uptoBulkEntry x + uptoBulkEntries r
def uptoBulkEntry {H : Type} : Lit × DataW H → Nat
  | (.string bytes, d) => bytes.length + uptoBulk d + 1
  | (_, d) => uptoBulk d + 1
 end
def uptoSmall : (H : Type) → List (DataW H) → Bool := fun _ ds => decide (uptoBulkAll ds ≤ 1048576)
def OpenSpec.upto (s : _root_.Go.ChangeSpec) : _root_.Go.OpenSpec := { _root_.Go.OpenSpec.ofChange s with cond := some uptoSmall }

/-- 'aqueductlaw12.DescParses', WHERE WHAT IT READS IS OF BULK AT MOST 1048576: true; the input reads as it did. -/
def descParsesUptoRow : OpenClaim := { program := "ytmipjmoemmgkiaa", sum := "4565504eeda9dcb08fc3b21d5916f22ec0fdfe58a819a41fa97feedb4b30dfc3", func := "aqueduct/aqueductlaw12.DescParses", spec := "descParses", apart := false, narrowed := true }
def DescParsesUptoSaid : Prop := descParsesUptoRow.holds Try.pinned (OpenSpec.upto descParsesSpec)

/-- 'aqueductlaw12.DescMarks', WHERE WHAT IT READS IS OF BULK AT MOST 1048576: true; the input reads as it did. -/
def descMarksUptoRow : OpenClaim := { program := "ytmipjmoemmgkiaa", sum := "4565504eeda9dcb08fc3b21d5916f22ec0fdfe58a819a41fa97feedb4b30dfc3", func := "aqueduct/aqueductlaw12.DescMarks", spec := "descMarks", apart := false, narrowed := true }
def DescMarksUptoSaid : Prop := descMarksUptoRow.holds Try.pinned (OpenSpec.upto descMarksSpec)

/-- 'aqueductlaw12.DescBack', WHERE WHAT IT READS IS OF BULK AT MOST 1048576: true; the input reads as it did. -/
def descBackUptoRow : OpenClaim := { program := "ytmipjmoemmgkiaa", sum := "4565504eeda9dcb08fc3b21d5916f22ec0fdfe58a819a41fa97feedb4b30dfc3", func := "aqueduct/aqueductlaw12.DescBack", spec := "descBack", apart := false, narrowed := true }
def DescBackUptoSaid : Prop := descBackUptoRow.holds Try.pinned (OpenSpec.upto descBackSpec)

/-- 'aqueductlaw12.DescRounds', WHERE WHAT IT READS IS OF BULK AT MOST 1048576: true; the input reads as it did. -/
def descRoundsUptoRow : OpenClaim := { program := "ytmipjmoemmgkiaa", sum := "4565504eeda9dcb08fc3b21d5916f22ec0fdfe58a819a41fa97feedb4b30dfc3", func := "aqueduct/aqueductlaw12.DescRounds", spec := "descRounds", apart := false, narrowed := true }
def DescRoundsUptoSaid : Prop := descRoundsUptoRow.holds Try.pinned (OpenSpec.upto descRoundsSpec)

/-- 'aqueductlaw12.DescBytes', WHERE WHAT IT READS IS OF BULK AT MOST 1048576: true; the input reads as it did. -/
def descBytesUptoRow : OpenClaim := { program := "ytmipjmoemmgkiaa", sum := "4565504eeda9dcb08fc3b21d5916f22ec0fdfe58a819a41fa97feedb4b30dfc3", func := "aqueduct/aqueductlaw12.DescBytes", spec := "descBytes", apart := false, narrowed := true }
def DescBytesUptoSaid : Prop := descBytesUptoRow.holds Try.pinned (OpenSpec.upto descBytesSpec)

/-- 'aqueductlaw12.DescLess', WHERE WHAT IT READS IS OF BULK AT MOST 1048576: true; the input reads as it did. -/
def descLessUptoRow : OpenClaim := { program := "ytmipjmoemmgkiaa", sum := "4565504eeda9dcb08fc3b21d5916f22ec0fdfe58a819a41fa97feedb4b30dfc3", func := "aqueduct/aqueductlaw12.DescLess", spec := "descLess", apart := false, narrowed := true }
def DescLessUptoSaid : Prop := descLessUptoRow.holds Try.pinned (OpenSpec.upto descLessSpec)

end Rows
end Go.Proofs.Ytmipjmoemmgkiaa

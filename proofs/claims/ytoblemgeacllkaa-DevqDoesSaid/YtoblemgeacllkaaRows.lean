/-
  No cell of these rows narrows 'for every input' (looked for: loops, veiled, ifaces, maps, wideKeys, modest, calm, conditions, laid).
  DERIVED. THE GIVEN ROWS OF THIS SEAT. 4 by the template 'for every input the law returns true; each argument reads behind the call as it read before'; 0 by the template 'total and deterministic' (their statements: YtoblemgeacllkaaTotals.lean).
  GIVEN WITH THE SEED: the statements are not yours to turn. If you find one false, say at which input.
  Laid BY PROGRAM, IN A SANDBOX (cutbox-rows.mjs): the forced cells as the released guide's own fill.sh prints them over the translation f6573a53ac813c86… (all of the seat's roots in one cut). By AI agents, Wed Nov 11 2026. No macro, syntax, notation, axiom, sorry.
-/
import Derived.Test.YtoblemgeacllkaaChecked
import GoSem.Claim
import GoSem.ClaimJoined
import GoSem.ClaimMapViews
import Derived.JoinedTies
import Derived.KernelRfl
namespace Go.Proofs.Ytoblemgeacllkaa
/- THE CELL 'sum', in the pinned program and in every row, IS THE sha256 OF THE DUMP (.gsa) THAT YtoblemgeacllkaaProg.lean LOADS. Nothing in Lean hashes anything: it is a label: what it is worth is what the hold of that sum in a sandbox is worth. -/
noncomputable def Try.pinned : Pinned := { name := "ytoblemgeacllkaa", sum := "f6573a53ac813c865e1ec47ac76de00ac1b474176ef4249c0f1aeb1ec5e140cc", checked := Try.checked }
namespace Rows
def none {H : Type} : Left H := { results := [], args := [] }

/-- 'aqueductlaw14.DevqDoes': WHATEVER THE INPUT: true; the input reads as it did. -/
def devqDoesSpec : ChangeSpec := { name := "devqDoes", fn := fun _ => fun
  | [d] => { results := [.lit (.bool true)], args := [d] }
  | _ => none }
def devqDoesRow : OpenClaim := { program := "ytoblemgeacllkaa", sum := "f6573a53ac813c865e1ec47ac76de00ac1b474176ef4249c0f1aeb1ec5e140cc", func := "aqueduct/aqueductlaw14.DevqDoes", spec := "devqDoes", unfollowed := true, recurses := true, apart := false }
def DevqDoesSaid : Prop := devqDoesRow.holds Try.pinned (OpenSpec.ofChange devqDoesSpec)

/-- ITS FALSE NEIGHBOUR: 'it returns false'. Refute it at one input. -/
def devqDoesWrong : ChangeSpec := { name := "devqDoes", fn := fun _ => fun
  | [d] => { results := [.lit (.bool false)], args := [d] }
  | _ => none }
def DevqDoesWrongFalsely : Prop := devqDoesRow.holds Try.pinned (OpenSpec.ofChange devqDoesWrong)

/-- 'aqueductlaw14.DevqOrder': WHATEVER THE INPUT: true; the input reads as it did. -/
def devqOrderSpec : ChangeSpec := { name := "devqOrder", fn := fun _ => fun
  | [d1, d2] => { results := [.lit (.bool true)], args := [d1, d2] }
  | _ => none }
def devqOrderRow : OpenClaim := { program := "ytoblemgeacllkaa", sum := "f6573a53ac813c865e1ec47ac76de00ac1b474176ef4249c0f1aeb1ec5e140cc", func := "aqueduct/aqueductlaw14.DevqOrder", spec := "devqOrder", unfollowed := true, recurses := true, apart := false }
def DevqOrderSaid : Prop := devqOrderRow.holds Try.pinned (OpenSpec.ofChange devqOrderSpec)

/-- ITS FALSE NEIGHBOUR: 'it returns false'. Refute it at one input. -/
def devqOrderWrong : ChangeSpec := { name := "devqOrder", fn := fun _ => fun
  | [d1, d2] => { results := [.lit (.bool false)], args := [d1, d2] }
  | _ => none }
def DevqOrderWrongFalsely : Prop := devqOrderRow.holds Try.pinned (OpenSpec.ofChange devqOrderWrong)

/-- 'aqueductlaw14.DevqBroken': WHATEVER THE INPUT: true; the input reads as it did. -/
def devqBrokenSpec : ChangeSpec := { name := "devqBroken", fn := fun _ => fun
  | [d] => { results := [.lit (.bool true)], args := [d] }
  | _ => none }
def devqBrokenRow : OpenClaim := { program := "ytoblemgeacllkaa", sum := "f6573a53ac813c865e1ec47ac76de00ac1b474176ef4249c0f1aeb1ec5e140cc", func := "aqueduct/aqueductlaw14.DevqBroken", spec := "devqBroken", unfollowed := true, recurses := true, apart := false }
def DevqBrokenSaid : Prop := devqBrokenRow.holds Try.pinned (OpenSpec.ofChange devqBrokenSpec)

/-- ITS FALSE NEIGHBOUR: 'it returns false'. Refute it at one input. -/
def devqBrokenWrong : ChangeSpec := { name := "devqBroken", fn := fun _ => fun
  | [d] => { results := [.lit (.bool false)], args := [d] }
  | _ => none }
def DevqBrokenWrongFalsely : Prop := devqBrokenRow.holds Try.pinned (OpenSpec.ofChange devqBrokenWrong)

/-- 'aqueductlaw14.DevqClones': WHATEVER THE INPUT: true; the input reads as it did. -/
def devqClonesSpec : ChangeSpec := { name := "devqClones", fn := fun _ => fun
  | [d] => { results := [.lit (.bool true)], args := [d] }
  | _ => none }
def devqClonesRow : OpenClaim := { program := "ytoblemgeacllkaa", sum := "f6573a53ac813c865e1ec47ac76de00ac1b474176ef4249c0f1aeb1ec5e140cc", func := "aqueduct/aqueductlaw14.DevqClones", spec := "devqClones", unfollowed := true, recurses := true, apart := false }
def DevqClonesSaid : Prop := devqClonesRow.holds Try.pinned (OpenSpec.ofChange devqClonesSpec)

/-- ITS FALSE NEIGHBOUR: 'it returns false'. Refute it at one input. -/
def devqClonesWrong : ChangeSpec := { name := "devqClones", fn := fun _ => fun
  | [d] => { results := [.lit (.bool false)], args := [d] }
  | _ => none }
def DevqClonesWrongFalsely : Prop := devqClonesRow.holds Try.pinned (OpenSpec.ofChange devqClonesWrong)

/- THE SECOND FORM. 'bulk': how many values and letters a reading holds, each counted each time it is reached (what is shared counts as often as it is met; a slice's spare places count too). A statement '..UptoSaid' is the law's where the arguments, and the package variables that the reading takes, are together of bulk at most 1048576: NARROWER than '..Said'. Prove '..Said' where nothing that the law and all that it calls make is longer than what came in: it says more and counts as full. Else prove '..UptoSaid'. A law counts once. -/
mutual
def uptoBulk {H : Type} : DataW H → Nat
  | .lit (.string bytes) => bytes.length + 1
  | .lit _ => 1
  | .nil => 1
  | .ptr d => uptoBulk d + 1
  | .slice elems spare => uptoBulkAll elems + uptoBulkAll spare + 1
  | .agg parts => uptoBulkAll parts + 1
  | .iface _ d => uptoBulk d + 1
  | .map entries => uptoBulkEntries entries + 1
  | .held _ => 1
def uptoBulkAll {H : Type} : List (DataW H) → Nat
  | [] => 0
  | d :: r => uptoBulk d + uptoBulkAll r
def uptoBulkEntries {H : Type} : List (Lit × DataW H) → Nat
  | [] => 0
  | x :: r => uptoBulkEntry x + uptoBulkEntries r
def uptoBulkEntry {H : Type} : Lit × DataW H → Nat
  | (.string bytes, d) => bytes.length + uptoBulk d + 1
  | (_, d) => uptoBulk d + 1
 end
def uptoSmall : (H : Type) → List (DataW H) → Bool := fun _ ds => decide (uptoBulkAll ds ≤ 1048576)
def OpenSpec.upto (s : _root_.Go.ChangeSpec) : _root_.Go.OpenSpec := { _root_.Go.OpenSpec.ofChange s with cond := some uptoSmall }

/-- 'aqueductlaw14.DevqDoes', WHERE WHAT IT READS IS OF BULK AT MOST 1048576: true; the input reads as it did. -/
def devqDoesUptoRow : OpenClaim := { program := "ytoblemgeacllkaa", sum := "f6573a53ac813c865e1ec47ac76de00ac1b474176ef4249c0f1aeb1ec5e140cc", func := "aqueduct/aqueductlaw14.DevqDoes", spec := "devqDoes", unfollowed := true, recurses := true, apart := false, narrowed := true }
def DevqDoesUptoSaid : Prop := devqDoesUptoRow.holds Try.pinned (OpenSpec.upto devqDoesSpec)

/-- 'aqueductlaw14.DevqOrder', WHERE WHAT IT READS IS OF BULK AT MOST 1048576: true; the input reads as it did. -/
def devqOrderUptoRow : OpenClaim := { program := "ytoblemgeacllkaa", sum := "f6573a53ac813c865e1ec47ac76de00ac1b474176ef4249c0f1aeb1ec5e140cc", func := "aqueduct/aqueductlaw14.DevqOrder", spec := "devqOrder", unfollowed := true, recurses := true, apart := false, narrowed := true }
def DevqOrderUptoSaid : Prop := devqOrderUptoRow.holds Try.pinned (OpenSpec.upto devqOrderSpec)

/-- 'aqueductlaw14.DevqBroken', WHERE WHAT IT READS IS OF BULK AT MOST 1048576: true; the input reads as it did. -/
def devqBrokenUptoRow : OpenClaim := { program := "ytoblemgeacllkaa", sum := "f6573a53ac813c865e1ec47ac76de00ac1b474176ef4249c0f1aeb1ec5e140cc", func := "aqueduct/aqueductlaw14.DevqBroken", spec := "devqBroken", unfollowed := true, recurses := true, apart := false, narrowed := true }
def DevqBrokenUptoSaid : Prop := devqBrokenUptoRow.holds Try.pinned (OpenSpec.upto devqBrokenSpec)

/-- 'aqueductlaw14.DevqClones', WHERE WHAT IT READS IS OF BULK AT MOST 1048576: true; the input reads as it did. -/
def devqClonesUptoRow : OpenClaim := { program := "ytoblemgeacllkaa", sum := "f6573a53ac813c865e1ec47ac76de00ac1b474176ef4249c0f1aeb1ec5e140cc", func := "aqueduct/aqueductlaw14.DevqClones", spec := "devqClones", unfollowed := true, recurses := true, apart := false, narrowed := true }
def DevqClonesUptoSaid : Prop := devqClonesUptoRow.holds Try.pinned (OpenSpec.upto devqClonesSpec)

end Rows
end Go.Proofs.Ytoblemgeacllkaa

/-
  No cell of these rows narrows 'for every input' (looked for: loops, veiled, ifaces, maps, wideKeys, modest, calm, conditions, laid).
  DERIVED. THE GIVEN ROWS OF THIS SEAT. 7 by the template 'for every input the law returns true; each argument reads behind the call as it read before'; 0 by the template 'total and deterministic' (their statements: YtalkpllmcigjnaaTotals.lean).
  GIVEN WITH THE SEED: the statements are not yours to turn. If you find one false, say at which input.
  Laid BY PROGRAM, IN A SANDBOX (cutbox-rows.mjs): the forced cells as the released guide's own fill.sh prints them over the translation f2809fea7a893124… (all of the seat's roots in one cut). By AI agents, Wed Nov 11 2026. No macro, syntax, notation, axiom, sorry.
-/
import Derived.Test.YtalkpllmcigjnaaChecked
import GoSem.Claim
import GoSem.ClaimJoined
import GoSem.ClaimMapViews
import Derived.JoinedTies
import Derived.KernelRfl
namespace Go.Proofs.Ytalkpllmcigjnaa
/- THE CELL 'sum', in the pinned program and in every row, IS THE sha256 OF THE DUMP (.gsa) THAT YtalkpllmcigjnaaProg.lean LOADS. Nothing in Lean hashes anything: it is a label: what it is worth is what the hold of that sum in a sandbox is worth. -/
noncomputable def Try.pinned : Pinned := { name := "ytalkpllmcigjnaa", sum := "f2809fea7a893124ca7bc339d2ccf36906a46d393f3fe6e299dfb5a096ad617a", checked := Try.checked }
namespace Rows
def none {H : Type} : Left H := { results := [], args := [] }

/-- 'aqueductlaw10.HdrParses': WHATEVER THE INPUT: true; the input reads as it did. -/
def hdrParsesSpec : ChangeSpec := { name := "hdrParses", fn := fun _ => fun
  | [d1, d2] => { results := [.lit (.bool true)], args := [d1, d2] }
  | _ => none }
def hdrParsesRow : OpenClaim := { program := "ytalkpllmcigjnaa", sum := "f2809fea7a893124ca7bc339d2ccf36906a46d393f3fe6e299dfb5a096ad617a", func := "aqueduct/aqueductlaw10.HdrParses", spec := "hdrParses", unfollowed := true, recurses := true, apart := false }
def HdrParsesSaid : Prop := hdrParsesRow.holds Try.pinned (OpenSpec.ofChange hdrParsesSpec)

/-- ITS FALSE NEIGHBOUR: 'it returns false'. Refute it at one input. -/
def hdrParsesWrong : ChangeSpec := { name := "hdrParses", fn := fun _ => fun
  | [d1, d2] => { results := [.lit (.bool false)], args := [d1, d2] }
  | _ => none }
def HdrParsesWrongFalsely : Prop := hdrParsesRow.holds Try.pinned (OpenSpec.ofChange hdrParsesWrong)

/-- 'aqueductlaw10.HdrFinishes': WHATEVER THE INPUT: true; the input reads as it did. -/
def hdrFinishesSpec : ChangeSpec := { name := "hdrFinishes", fn := fun _ => fun
  | [d1, d2] => { results := [.lit (.bool true)], args := [d1, d2] }
  | _ => none }
def hdrFinishesRow : OpenClaim := { program := "ytalkpllmcigjnaa", sum := "f2809fea7a893124ca7bc339d2ccf36906a46d393f3fe6e299dfb5a096ad617a", func := "aqueduct/aqueductlaw10.HdrFinishes", spec := "hdrFinishes", unfollowed := true, recurses := true, apart := false }
def HdrFinishesSaid : Prop := hdrFinishesRow.holds Try.pinned (OpenSpec.ofChange hdrFinishesSpec)

/-- ITS FALSE NEIGHBOUR: 'it returns false'. Refute it at one input. -/
def hdrFinishesWrong : ChangeSpec := { name := "hdrFinishes", fn := fun _ => fun
  | [d1, d2] => { results := [.lit (.bool false)], args := [d1, d2] }
  | _ => none }
def HdrFinishesWrongFalsely : Prop := hdrFinishesRow.holds Try.pinned (OpenSpec.ofChange hdrFinishesWrong)

/-- 'aqueductlaw10.HdrBack': WHATEVER THE INPUT: true; the input reads as it did. -/
def hdrBackSpec : ChangeSpec := { name := "hdrBack", fn := fun _ => fun
  | [d1, d2] => { results := [.lit (.bool true)], args := [d1, d2] }
  | _ => none }
def hdrBackRow : OpenClaim := { program := "ytalkpllmcigjnaa", sum := "f2809fea7a893124ca7bc339d2ccf36906a46d393f3fe6e299dfb5a096ad617a", func := "aqueduct/aqueductlaw10.HdrBack", spec := "hdrBack", unfollowed := true, recurses := true, apart := false }
def HdrBackSaid : Prop := hdrBackRow.holds Try.pinned (OpenSpec.ofChange hdrBackSpec)

/-- ITS FALSE NEIGHBOUR: 'it returns false'. Refute it at one input. -/
def hdrBackWrong : ChangeSpec := { name := "hdrBack", fn := fun _ => fun
  | [d1, d2] => { results := [.lit (.bool false)], args := [d1, d2] }
  | _ => none }
def HdrBackWrongFalsely : Prop := hdrBackRow.holds Try.pinned (OpenSpec.ofChange hdrBackWrong)

/-- 'aqueductlaw10.HdrWhole': WHATEVER THE INPUT: true; the input reads as it did. -/
def hdrWholeSpec : ChangeSpec := { name := "hdrWhole", fn := fun _ => fun
  | [d1, d2, d3] => { results := [.lit (.bool true)], args := [d1, d2, d3] }
  | _ => none }
def hdrWholeRow : OpenClaim := { program := "ytalkpllmcigjnaa", sum := "f2809fea7a893124ca7bc339d2ccf36906a46d393f3fe6e299dfb5a096ad617a", func := "aqueduct/aqueductlaw10.HdrWhole", spec := "hdrWhole", unfollowed := true, recurses := true, apart := false }
def HdrWholeSaid : Prop := hdrWholeRow.holds Try.pinned (OpenSpec.ofChange hdrWholeSpec)

/-- ITS FALSE NEIGHBOUR: 'it returns false'. Refute it at one input. -/
def hdrWholeWrong : ChangeSpec := { name := "hdrWhole", fn := fun _ => fun
  | [d1, d2, d3] => { results := [.lit (.bool false)], args := [d1, d2, d3] }
  | _ => none }
def HdrWholeWrongFalsely : Prop := hdrWholeRow.holds Try.pinned (OpenSpec.ofChange hdrWholeWrong)

/-- 'aqueductlaw10.HdrOnly': WHATEVER THE INPUT: true; the input reads as it did. -/
def hdrOnlySpec : ChangeSpec := { name := "hdrOnly", fn := fun _ => fun
  | [d1, d2] => { results := [.lit (.bool true)], args := [d1, d2] }
  | _ => none }
def hdrOnlyRow : OpenClaim := { program := "ytalkpllmcigjnaa", sum := "f2809fea7a893124ca7bc339d2ccf36906a46d393f3fe6e299dfb5a096ad617a", func := "aqueduct/aqueductlaw10.HdrOnly", spec := "hdrOnly", unfollowed := true, recurses := true, apart := false }
def HdrOnlySaid : Prop := hdrOnlyRow.holds Try.pinned (OpenSpec.ofChange hdrOnlySpec)

/-- ITS FALSE NEIGHBOUR: 'it returns false'. Refute it at one input. -/
def hdrOnlyWrong : ChangeSpec := { name := "hdrOnly", fn := fun _ => fun
  | [d1, d2] => { results := [.lit (.bool false)], args := [d1, d2] }
  | _ => none }
def HdrOnlyWrongFalsely : Prop := hdrOnlyRow.holds Try.pinned (OpenSpec.ofChange hdrOnlyWrong)

/-- 'aqueductlaw10.HdrSizes': WHATEVER THE INPUT: true; the input reads as it did. -/
def hdrSizesSpec : ChangeSpec := { name := "hdrSizes", fn := fun _ => fun
  | [d1, d2] => { results := [.lit (.bool true)], args := [d1, d2] }
  | _ => none }
def hdrSizesRow : OpenClaim := { program := "ytalkpllmcigjnaa", sum := "f2809fea7a893124ca7bc339d2ccf36906a46d393f3fe6e299dfb5a096ad617a", func := "aqueduct/aqueductlaw10.HdrSizes", spec := "hdrSizes", unfollowed := true, recurses := true, apart := false }
def HdrSizesSaid : Prop := hdrSizesRow.holds Try.pinned (OpenSpec.ofChange hdrSizesSpec)

/-- ITS FALSE NEIGHBOUR: 'it returns false'. Refute it at one input. -/
def hdrSizesWrong : ChangeSpec := { name := "hdrSizes", fn := fun _ => fun
  | [d1, d2] => { results := [.lit (.bool false)], args := [d1, d2] }
  | _ => none }
def HdrSizesWrongFalsely : Prop := hdrSizesRow.holds Try.pinned (OpenSpec.ofChange hdrSizesWrong)

/-- 'aqueductlaw10.HdrAgain': WHATEVER THE INPUT: true; the input reads as it did. -/
def hdrAgainSpec : ChangeSpec := { name := "hdrAgain", fn := fun _ => fun
  | [d] => { results := [.lit (.bool true)], args := [d] }
  | _ => none }
def hdrAgainRow : OpenClaim := { program := "ytalkpllmcigjnaa", sum := "f2809fea7a893124ca7bc339d2ccf36906a46d393f3fe6e299dfb5a096ad617a", func := "aqueduct/aqueductlaw10.HdrAgain", spec := "hdrAgain", unfollowed := true, recurses := true, apart := false }
def HdrAgainSaid : Prop := hdrAgainRow.holds Try.pinned (OpenSpec.ofChange hdrAgainSpec)

/-- ITS FALSE NEIGHBOUR: 'it returns false'. Refute it at one input. -/
def hdrAgainWrong : ChangeSpec := { name := "hdrAgain", fn := fun _ => fun
  | [d] => { results := [.lit (.bool false)], args := [d] }
  | _ => none }
def HdrAgainWrongFalsely : Prop := hdrAgainRow.holds Try.pinned (OpenSpec.ofChange hdrAgainWrong)

/- THE SECOND FORM. 'bulk': how many values and letters a reading holds, each counted each time it is reached (what is shared counts as often as it is met; a slice's spare places count too). A statement '..UptoSaid' is the law's where the arguments, and the package variables that the reading takes, are together of bulk at most 1048576: NARROWER than '..Said'. Prove '..Said' where nothing that the law and all that it calls make is longer than what came in: it says more and counts as full. Else prove '..UptoSaid'. A law counts once. -/
mutual
def uptoBulk {H : Type} : DataW H → Nat
  | .lit (.string bytes) => bytes.length + 1
  | .lit _ => 1
  | .nil => 1
  | .ptr d => uptoBulk d + 1
  | .slice elems spare => uptoBulkAll elems + uptoBulkAll spare + 1
  | .agg parts => uptoBulkAll parts + 1
  | .iface _ d => uptoBulk d + 1
  | .map entries => uptoBulkEntries entries + 1
  | .held _ => 1
def uptoBulkAll {H : Type} : List (DataW H) → Nat
  | [] => 0
  | d :: r => uptoBulk d + uptoBulkAll r
def uptoBulkEntries {H : Type} : List (Lit × DataW H) → Nat
  | [] => 0
  | x :: r => uptoBulkEntry x + uptoBulkEntries r
def uptoBulkEntry {H : Type} : Lit × DataW H → Nat
  | (.string bytes, d) => bytes.length + uptoBulk d + 1
  | (_, d) => uptoBulk d + 1
 end
def uptoSmall : (H : Type) → List (DataW H) → Bool := fun _ ds => decide (uptoBulkAll ds ≤ 1048576)
def OpenSpec.upto (s : _root_.Go.ChangeSpec) : _root_.Go.OpenSpec := { _root_.Go.OpenSpec.ofChange s with cond := some uptoSmall }

/-- 'aqueductlaw10.HdrParses', WHERE WHAT IT READS IS OF BULK AT MOST 1048576: true; the input reads as it did. -/
def hdrParsesUptoRow : OpenClaim := { program := "ytalkpllmcigjnaa", sum := "f2809fea7a893124ca7bc339d2ccf36906a46d393f3fe6e299dfb5a096ad617a", func := "aqueduct/aqueductlaw10.HdrParses", spec := "hdrParses", unfollowed := true, recurses := true, apart := false, narrowed := true }
def HdrParsesUptoSaid : Prop := hdrParsesUptoRow.holds Try.pinned (OpenSpec.upto hdrParsesSpec)

/-- 'aqueductlaw10.HdrFinishes', WHERE WHAT IT READS IS OF BULK AT MOST 1048576: true; the input reads as it did. -/
def hdrFinishesUptoRow : OpenClaim := { program := "ytalkpllmcigjnaa", sum := "f2809fea7a893124ca7bc339d2ccf36906a46d393f3fe6e299dfb5a096ad617a", func := "aqueduct/aqueductlaw10.HdrFinishes", spec := "hdrFinishes", unfollowed := true, recurses := true, apart := false, narrowed := true }
def HdrFinishesUptoSaid : Prop := hdrFinishesUptoRow.holds Try.pinned (OpenSpec.upto hdrFinishesSpec)

/-- 'aqueductlaw10.HdrBack', WHERE WHAT IT READS IS OF BULK AT MOST 1048576: true; the input reads as it did. -/
def hdrBackUptoRow : OpenClaim := { program := "ytalkpllmcigjnaa", sum := "f2809fea7a893124ca7bc339d2ccf36906a46d393f3fe6e299dfb5a096ad617a", func := "aqueduct/aqueductlaw10.HdrBack", spec := "hdrBack", unfollowed := true, recurses := true, apart := false, narrowed := true }
def HdrBackUptoSaid : Prop := hdrBackUptoRow.holds Try.pinned (OpenSpec.upto hdrBackSpec)

/-- 'aqueductlaw10.HdrWhole', WHERE WHAT IT READS IS OF BULK AT MOST 1048576: true; the input reads as it did. -/
def hdrWholeUptoRow : OpenClaim := { program := "ytalkpllmcigjnaa", sum := "f2809fea7a893124ca7bc339d2ccf36906a46d393f3fe6e299dfb5a096ad617a", func := "aqueduct/aqueductlaw10.HdrWhole", spec := "hdrWhole", unfollowed := true, recurses := true, apart := false, narrowed := true }
def HdrWholeUptoSaid : Prop := hdrWholeUptoRow.holds Try.pinned (OpenSpec.upto hdrWholeSpec)

/-- 'aqueductlaw10.HdrOnly', WHERE WHAT IT READS IS OF BULK AT MOST 1048576: true; the input reads as it did. -/
def hdrOnlyUptoRow : OpenClaim := { program := "ytalkpllmcigjnaa", sum := "f2809fea7a893124ca7bc339d2ccf36906a46d393f3fe6e299dfb5a096ad617a", func := "aqueduct/aqueductlaw10.HdrOnly", spec := "hdrOnly", unfollowed := true, recurses := true, apart := false, narrowed := true }
def HdrOnlyUptoSaid : Prop := hdrOnlyUptoRow.holds Try.pinned (OpenSpec.upto hdrOnlySpec)

/-- 'aqueductlaw10.HdrSizes', WHERE WHAT IT READS IS OF BULK AT MOST 1048576: true; the input reads as it did. -/
def hdrSizesUptoRow : OpenClaim := { program := "ytalkpllmcigjnaa", sum := "f2809fea7a893124ca7bc339d2ccf36906a46d393f3fe6e299dfb5a096ad617a", func := "aqueduct/aqueductlaw10.HdrSizes", spec := "hdrSizes", unfollowed := true, recurses := true, apart := false, narrowed := true }
def HdrSizesUptoSaid : Prop := hdrSizesUptoRow.holds Try.pinned (OpenSpec.upto hdrSizesSpec)

/-- 'aqueductlaw10.HdrAgain', WHERE WHAT IT READS IS OF BULK AT MOST 1048576: true; the input reads as it did. -/
def hdrAgainUptoRow : OpenClaim := { program := "ytalkpllmcigjnaa", sum := "f2809fea7a893124ca7bc339d2ccf36906a46d393f3fe6e299dfb5a096ad617a", func := "aqueduct/aqueductlaw10.HdrAgain", spec := "hdrAgain", unfollowed := true, recurses := true, apart := false, narrowed := true }
def HdrAgainUptoSaid : Prop := hdrAgainUptoRow.holds Try.pinned (OpenSpec.upto hdrAgainSpec)

end Rows
end Go.Proofs.Ytalkpllmcigjnaa

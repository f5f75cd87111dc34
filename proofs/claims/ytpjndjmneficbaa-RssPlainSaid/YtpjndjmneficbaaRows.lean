/-
  No cell of these rows narrows 'for every input' (looked for: loops, veiled, ifaces, maps, wideKeys, modest, calm, conditions, laid).
  DERIVED. THE GIVEN ROWS OF THIS SEAT. 7 by the template 'for every input the law returns true; each argument reads behind the call as it read before'; 0 by the template 'total and deterministic' (their statements: YtpjndjmneficbaaTotals.lean).
  GIVEN WITH THE SEED: the statements are not yours to turn. If you find one false, say at which input.
  Laid BY PROGRAM, IN A SANDBOX (cutbox-rows.mjs): the forced cells as the released guide's own fill.sh prints them over the translation be875b5e9f9ba466… (all of the seat's roots in one cut). By AI agents, Wed Nov 11 2026. No macro, syntax, notation, axiom, sorry.
-/
import Derived.Test.YtpjndjmneficbaaChecked
import GoSem.Claim
import GoSem.ClaimJoined
import GoSem.ClaimMapViews
import Derived.JoinedTies
import Derived.KernelRfl
namespace Go.Proofs.Ytpjndjmneficbaa
/- THE CELL 'sum', in the pinned program and in every row, IS THE sha256 OF THE DUMP (.gsa) THAT YtpjndjmneficbaaProg.lean LOADS. Nothing in Lean hashes anything: it is a label: what it is worth is what the hold of that sum in a sandbox is worth. -/
noncomputable def Try.pinned : Pinned := { name := "ytpjndjmneficbaa", sum := "be875b5e9f9ba4662d24833320c0ddde64ff45151dfe1620391b6cd69ae1fd14", checked := Try.checked }
namespace Rows
def none {H : Type} : Left H := { results := [], args := [] }

/-- 'aqueductlaw11.RssChecks': WHATEVER THE INPUT: true; the input reads as it did. -/
def rssChecksSpec : ChangeSpec := { name := "rssChecks", fn := fun _ => fun
  | [d1, d2, d3] => { results := [.lit (.bool true)], args := [d1, d2, d3] }
  | _ => none }
def rssChecksRow : OpenClaim := { program := "ytpjndjmneficbaa", sum := "be875b5e9f9ba4662d24833320c0ddde64ff45151dfe1620391b6cd69ae1fd14", func := "aqueduct/aqueductlaw11.RssChecks", spec := "rssChecks", unfollowed := true, recurses := true, apart := false }
def RssChecksSaid : Prop := rssChecksRow.holds Try.pinned (OpenSpec.ofChange rssChecksSpec)

/-- ITS FALSE NEIGHBOUR: 'it returns false'. Refute it at one input. -/
def rssChecksWrong : ChangeSpec := { name := "rssChecks", fn := fun _ => fun
  | [d1, d2, d3] => { results := [.lit (.bool false)], args := [d1, d2, d3] }
  | _ => none }
def RssChecksWrongFalsely : Prop := rssChecksRow.holds Try.pinned (OpenSpec.ofChange rssChecksWrong)

/-- 'aqueductlaw11.RssChooses': WHATEVER THE INPUT: true; the input reads as it did. -/
def rssChoosesSpec : ChangeSpec := { name := "rssChooses", fn := fun _ => fun
  | [d1, d2, d3] => { results := [.lit (.bool true)], args := [d1, d2, d3] }
  | _ => none }
def rssChoosesRow : OpenClaim := { program := "ytpjndjmneficbaa", sum := "be875b5e9f9ba4662d24833320c0ddde64ff45151dfe1620391b6cd69ae1fd14", func := "aqueduct/aqueductlaw11.RssChooses", spec := "rssChooses", unfollowed := true, recurses := true, apart := false }
def RssChoosesSaid : Prop := rssChoosesRow.holds Try.pinned (OpenSpec.ofChange rssChoosesSpec)

/-- ITS FALSE NEIGHBOUR: 'it returns false'. Refute it at one input. -/
def rssChoosesWrong : ChangeSpec := { name := "rssChooses", fn := fun _ => fun
  | [d1, d2, d3] => { results := [.lit (.bool false)], args := [d1, d2, d3] }
  | _ => none }
def RssChoosesWrongFalsely : Prop := rssChoosesRow.holds Try.pinned (OpenSpec.ofChange rssChoosesWrong)

/-- 'aqueductlaw11.RssOne': WHATEVER THE INPUT: true; the input reads as it did. -/
def rssOneSpec : ChangeSpec := { name := "rssOne", fn := fun _ => fun
  | [d1, d2, d3] => { results := [.lit (.bool true)], args := [d1, d2, d3] }
  | _ => none }
def rssOneRow : OpenClaim := { program := "ytpjndjmneficbaa", sum := "be875b5e9f9ba4662d24833320c0ddde64ff45151dfe1620391b6cd69ae1fd14", func := "aqueduct/aqueductlaw11.RssOne", spec := "rssOne", unfollowed := true, recurses := true, apart := false }
def RssOneSaid : Prop := rssOneRow.holds Try.pinned (OpenSpec.ofChange rssOneSpec)

/-- ITS FALSE NEIGHBOUR: 'it returns false'. Refute it at one input. -/
def rssOneWrong : ChangeSpec := { name := "rssOne", fn := fun _ => fun
  | [d1, d2, d3] => { results := [.lit (.bool false)], args := [d1, d2, d3] }
  | _ => none }
def RssOneWrongFalsely : Prop := rssOneRow.holds Try.pinned (OpenSpec.ofChange rssOneWrong)

/-- 'aqueductlaw11.RssEven': WHATEVER THE INPUT: true; the input reads as it did. -/
def rssEvenSpec : ChangeSpec := { name := "rssEven", fn := fun _ => fun
  | [d1, d2] => { results := [.lit (.bool true)], args := [d1, d2] }
  | _ => none }
def rssEvenRow : OpenClaim := { program := "ytpjndjmneficbaa", sum := "be875b5e9f9ba4662d24833320c0ddde64ff45151dfe1620391b6cd69ae1fd14", func := "aqueduct/aqueductlaw11.RssEven", spec := "rssEven", unfollowed := true, recurses := true, apart := false }
def RssEvenSaid : Prop := rssEvenRow.holds Try.pinned (OpenSpec.ofChange rssEvenSpec)

/-- ITS FALSE NEIGHBOUR: 'it returns false'. Refute it at one input. -/
def rssEvenWrong : ChangeSpec := { name := "rssEven", fn := fun _ => fun
  | [d1, d2] => { results := [.lit (.bool false)], args := [d1, d2] }
  | _ => none }
def RssEvenWrongFalsely : Prop := rssEvenRow.holds Try.pinned (OpenSpec.ofChange rssEvenWrong)

/-- 'aqueductlaw11.RssDefault': WHATEVER THE INPUT: true; the input reads as it did. -/
def rssDefaultSpec : ChangeSpec := { name := "rssDefault", fn := fun _ => fun
  | [d1, d2, d3] => { results := [.lit (.bool true)], args := [d1, d2, d3] }
  | _ => none }
def rssDefaultRow : OpenClaim := { program := "ytpjndjmneficbaa", sum := "be875b5e9f9ba4662d24833320c0ddde64ff45151dfe1620391b6cd69ae1fd14", func := "aqueduct/aqueductlaw11.RssDefault", spec := "rssDefault", unfollowed := true, recurses := true, apart := false }
def RssDefaultSaid : Prop := rssDefaultRow.holds Try.pinned (OpenSpec.ofChange rssDefaultSpec)

/-- ITS FALSE NEIGHBOUR: 'it returns false'. Refute it at one input. -/
def rssDefaultWrong : ChangeSpec := { name := "rssDefault", fn := fun _ => fun
  | [d1, d2, d3] => { results := [.lit (.bool false)], args := [d1, d2, d3] }
  | _ => none }
def RssDefaultWrongFalsely : Prop := rssDefaultRow.holds Try.pinned (OpenSpec.ofChange rssDefaultWrong)

/-- 'aqueductlaw11.RssPlain': WHATEVER THE INPUT: true; the input reads as it did. -/
def rssPlainSpec : ChangeSpec := { name := "rssPlain", fn := fun _ => fun
  | [d1, d2, d3] => { results := [.lit (.bool true)], args := [d1, d2, d3] }
  | _ => none }
def rssPlainRow : OpenClaim := { program := "ytpjndjmneficbaa", sum := "be875b5e9f9ba4662d24833320c0ddde64ff45151dfe1620391b6cd69ae1fd14", func := "aqueduct/aqueductlaw11.RssPlain", spec := "rssPlain", unfollowed := true, recurses := true, apart := false }
def RssPlainSaid : Prop := rssPlainRow.holds Try.pinned (OpenSpec.ofChange rssPlainSpec)

/-- ITS FALSE NEIGHBOUR: 'it returns false'. Refute it at one input. -/
def rssPlainWrong : ChangeSpec := { name := "rssPlain", fn := fun _ => fun
  | [d1, d2, d3] => { results := [.lit (.bool false)], args := [d1, d2, d3] }
  | _ => none }
def RssPlainWrongFalsely : Prop := rssPlainRow.holds Try.pinned (OpenSpec.ofChange rssPlainWrong)

/-- 'aqueductlaw11.RssSame': WHATEVER THE INPUT: true; the input reads as it did. -/
def rssSameSpec : ChangeSpec := { name := "rssSame", fn := fun _ => fun
  | [d1, d2, d3] => { results := [.lit (.bool true)], args := [d1, d2, d3] }
  | _ => none }
def rssSameRow : OpenClaim := { program := "ytpjndjmneficbaa", sum := "be875b5e9f9ba4662d24833320c0ddde64ff45151dfe1620391b6cd69ae1fd14", func := "aqueduct/aqueductlaw11.RssSame", spec := "rssSame", unfollowed := true, recurses := true, apart := false }
def RssSameSaid : Prop := rssSameRow.holds Try.pinned (OpenSpec.ofChange rssSameSpec)

/-- ITS FALSE NEIGHBOUR: 'it returns false'. Refute it at one input. -/
def rssSameWrong : ChangeSpec := { name := "rssSame", fn := fun _ => fun
  | [d1, d2, d3] => { results := [.lit (.bool false)], args := [d1, d2, d3] }
  | _ => none }
def RssSameWrongFalsely : Prop := rssSameRow.holds Try.pinned (OpenSpec.ofChange rssSameWrong)

/- THE SECOND FORM. 'bulk': how many values and letters a reading holds, each counted each time it is reached (what is shared counts as often as it is met; a slice's spare places count too). A statement '..UptoSaid' is the law's where the arguments, and the package variables that the reading takes, are together of bulk at most 1048576: NARROWER than '..Said'. Prove '..Said' where nothing that the law and all that it calls make is longer than what came in: it says more and counts as full. Else prove '..UptoSaid'. A law counts once. -/
mutual
def uptoBulk {H : Type} : DataW H → Nat
  | .lit (.string bytes) => bytes.length + 1
  | .lit _ => 1
  | .nil => 1
  | .ptr d => uptoBulk d + 1
  | .slice elems spare => uptoBulkAll elems + uptoBulkAll spare + 1
  | .agg parts => uptoBulkAll parts + 1
  | .iface _ d => uptoBulk d + 1
  | .map entries => uptoBulkEntries entries + 1
  | .held _ => 1
def uptoBulkAll {H : Type} : List (DataW H) → Nat
  | [] => 0
  | d :: r => uptoBulk d + uptoBulkAll r
def uptoBulkEntries {H : Type} : List (Lit × DataW H) → Nat
  | [] => 0
  | x :: r => uptoBulkEntry x + uptoBulkEntries r
def uptoBulkEntry {H : Type} : Lit × DataW H → Nat
  | (.string bytes, d) => bytes.length + uptoBulk d + 1
  | (_, d) => uptoBulk d + 1
 end
def uptoSmall : (H : Type) → List (DataW H) → Bool := fun _ ds => decide (uptoBulkAll ds ≤ 1048576)
def OpenSpec.upto (s : _root_.Go.ChangeSpec) : _root_.Go.OpenSpec := { _root_.Go.OpenSpec.ofChange s with cond := some uptoSmall }

/-- 'aqueductlaw11.RssChecks', WHERE WHAT IT READS IS OF BULK AT MOST 1048576: true; the input reads as it did. -/
def rssChecksUptoRow : OpenClaim := { program := "ytpjndjmneficbaa", sum := "be875b5e9f9ba4662d24833320c0ddde64ff45151dfe1620391b6cd69ae1fd14", func := "aqueduct/aqueductlaw11.RssChecks", spec := "rssChecks", unfollowed := true, recurses := true, apart := false, narrowed := true }
def RssChecksUptoSaid : Prop := rssChecksUptoRow.holds Try.pinned (OpenSpec.upto rssChecksSpec)

/-- 'aqueductlaw11.RssChooses', WHERE WHAT IT READS IS OF BULK AT MOST 1048576: true; the input reads as it did. -/
def rssChoosesUptoRow : OpenClaim := { program := "ytpjndjmneficbaa", sum := "be875b5e9f9ba4662d24833320c0ddde64ff45151dfe1620391b6cd69ae1fd14", func := "aqueduct/aqueductlaw11.RssChooses", spec := "rssChooses", unfollowed := true, recurses := true, apart := false, narrowed := true }
def RssChoosesUptoSaid : Prop := rssChoosesUptoRow.holds Try.pinned (OpenSpec.upto rssChoosesSpec)

/-- 'aqueductlaw11.RssOne', WHERE WHAT IT READS IS OF BULK AT MOST 1048576: true; the input reads as it did. -/
def rssOneUptoRow : OpenClaim := { program := "ytpjndjmneficbaa", sum := "be875b5e9f9ba4662d24833320c0ddde64ff45151dfe1620391b6cd69ae1fd14", func := "aqueduct/aqueductlaw11.RssOne", spec := "rssOne", unfollowed := true, recurses := true, apart := false, narrowed := true }
def RssOneUptoSaid : Prop := rssOneUptoRow.holds Try.pinned (OpenSpec.upto rssOneSpec)

/-- 'aqueductlaw11.RssEven', WHERE WHAT IT READS IS OF BULK AT MOST 1048576: true; the input reads as it did. -/
def rssEvenUptoRow : OpenClaim := { program := "ytpjndjmneficbaa", sum := "be875b5e9f9ba4662d24833320c0ddde64ff45151dfe1620391b6cd69ae1fd14", func := "aqueduct/aqueductlaw11.RssEven", spec := "rssEven", unfollowed := true, recurses := true, apart := false, narrowed := true }
def RssEvenUptoSaid : Prop := rssEvenUptoRow.holds Try.pinned (OpenSpec.upto rssEvenSpec)

/-- 'aqueductlaw11.RssDefault', WHERE WHAT IT READS IS OF BULK AT MOST 1048576: true; the input reads as it did. -/
def rssDefaultUptoRow : OpenClaim := { program := "ytpjndjmneficbaa", sum := "be875b5e9f9ba4662d24833320c0ddde64ff45151dfe1620391b6cd69ae1fd14", func := "aqueduct/aqueductlaw11.RssDefault", spec := "rssDefault", unfollowed := true, recurses := true, apart := false, narrowed := true }
def RssDefaultUptoSaid : Prop := rssDefaultUptoRow.holds Try.pinned (OpenSpec.upto rssDefaultSpec)

/-- 'aqueductlaw11.RssPlain', WHERE WHAT IT READS IS OF BULK AT MOST 1048576: true; the input reads as it did. -/
def rssPlainUptoRow : OpenClaim := { program := "ytpjndjmneficbaa", sum := "be875b5e9f9ba4662d24833320c0ddde64ff45151dfe1620391b6cd69ae1fd14", func := "aqueduct/aqueductlaw11.RssPlain", spec := "rssPlain", unfollowed := true, recurses := true, apart := false, narrowed := true }
def RssPlainUptoSaid : Prop := rssPlainUptoRow.holds Try.pinned (OpenSpec.upto rssPlainSpec)

/-- 'aqueductlaw11.RssSame', WHERE WHAT IT READS IS OF BULK AT MOST 1048576: true; the input reads as it did. -/
def rssSameUptoRow : OpenClaim := { program := "ytpjndjmneficbaa", sum := "be875b5e9f9ba4662d24833320c0ddde64ff45151dfe1620391b6cd69ae1fd14", func := "aqueduct/aqueductlaw11.RssSame", spec := "rssSame", unfollowed := true, recurses := true, apart := false, narrowed := true }
def RssSameUptoSaid : Prop := rssSameUptoRow.holds Try.pinned (OpenSpec.upto rssSameSpec)

end Rows
end Go.Proofs.Ytpjndjmneficbaa

/-
  No cell of these rows narrows 'for every input' (looked for: loops, veiled, ifaces, maps, wideKeys, modest, calm, conditions, laid).
  DERIVED. THE GIVEN ROWS OF THIS SEAT. 5 by the template 'for every input the law returns true; each argument reads behind the call as it read before'; 0 by the template 'total and deterministic' (their statements: YthknggabioadhaaTotals.lean).
  GIVEN WITH THE SEED: the statements are not yours to turn. If you find one false, say at which input.
  Laid BY PROGRAM, IN A SANDBOX (cutbox-rows.mjs): the forced cells as the released guide's own fill.sh prints them over the translation 24745d7ef76dc6bd… (all of the seat's roots in one cut). By AI agents, Wed Nov 11 2026. No macro, syntax, notation, axiom, sorry.
-/
import Derived.Test.YthknggabioadhaaChecked
import GoSem.Claim
import GoSem.ClaimJoined
import GoSem.ClaimMapViews
import Derived.JoinedTies
import Derived.KernelRfl
namespace Go.Proofs.Ythknggabioadhaa
/- THE CELL 'sum', in the pinned program and in every row, IS THE sha256 OF THE DUMP (.gsa) THAT YthknggabioadhaaProg.lean LOADS. Nothing in Lean hashes anything: it is a label: what it is worth is what the hold of that sum in a sandbox is worth. -/
noncomputable def Try.pinned : Pinned := { name := "ythknggabioadhaa", sum := "24745d7ef76dc6bd55703bb356b03730d629f5d21f974fd099d22840b083f2a2", checked := Try.checked }
namespace Rows
def none {H : Type} : Left H := { results := [], args := [] }

/-- 'aqueductlaw05.AddrTexts': WHATEVER THE INPUT: true; the input reads as it did. -/
def addrTextsSpec : ChangeSpec := { name := "addrTexts", fn := fun _ => fun
  | [d1, d2] => { results := [.lit (.bool true)], args := [d1, d2] }
  | _ => none }
def addrTextsRow : OpenClaim := { program := "ythknggabioadhaa", sum := "24745d7ef76dc6bd55703bb356b03730d629f5d21f974fd099d22840b083f2a2", func := "aqueduct/aqueductlaw05.AddrTexts", spec := "addrTexts", apart := false }
def AddrTextsSaid : Prop := addrTextsRow.holds Try.pinned (OpenSpec.ofChange addrTextsSpec)

/-- ITS FALSE NEIGHBOUR: 'it returns false'. Refute it at one input. -/
def addrTextsWrong : ChangeSpec := { name := "addrTexts", fn := fun _ => fun
  | [d1, d2] => { results := [.lit (.bool false)], args := [d1, d2] }
  | _ => none }
def AddrTextsWrongFalsely : Prop := addrTextsRow.holds Try.pinned (OpenSpec.ofChange addrTextsWrong)

/-- 'aqueductlaw05.AddrKinds': WHATEVER THE INPUT: true; the input reads as it did. -/
def addrKindsSpec : ChangeSpec := { name := "addrKinds", fn := fun _ => fun
  | [d1, d2] => { results := [.lit (.bool true)], args := [d1, d2] }
  | _ => none }
def addrKindsRow : OpenClaim := { program := "ythknggabioadhaa", sum := "24745d7ef76dc6bd55703bb356b03730d629f5d21f974fd099d22840b083f2a2", func := "aqueduct/aqueductlaw05.AddrKinds", spec := "addrKinds", apart := false }
def AddrKindsSaid : Prop := addrKindsRow.holds Try.pinned (OpenSpec.ofChange addrKindsSpec)

/-- ITS FALSE NEIGHBOUR: 'it returns false'. Refute it at one input. -/
def addrKindsWrong : ChangeSpec := { name := "addrKinds", fn := fun _ => fun
  | [d1, d2] => { results := [.lit (.bool false)], args := [d1, d2] }
  | _ => none }
def AddrKindsWrongFalsely : Prop := addrKindsRow.holds Try.pinned (OpenSpec.ofChange addrKindsWrong)

/-- 'aqueductlaw05.AddrBack': WHATEVER THE INPUT: true; the input reads as it did. -/
def addrBackSpec : ChangeSpec := { name := "addrBack", fn := fun _ => fun
  | [d1, d2, d3] => { results := [.lit (.bool true)], args := [d1, d2, d3] }
  | _ => none }
def addrBackRow : OpenClaim := { program := "ythknggabioadhaa", sum := "24745d7ef76dc6bd55703bb356b03730d629f5d21f974fd099d22840b083f2a2", func := "aqueduct/aqueductlaw05.AddrBack", spec := "addrBack", apart := false }
def AddrBackSaid : Prop := addrBackRow.holds Try.pinned (OpenSpec.ofChange addrBackSpec)

/-- ITS FALSE NEIGHBOUR: 'it returns false'. Refute it at one input. -/
def addrBackWrong : ChangeSpec := { name := "addrBack", fn := fun _ => fun
  | [d1, d2, d3] => { results := [.lit (.bool false)], args := [d1, d2, d3] }
  | _ => none }
def AddrBackWrongFalsely : Prop := addrBackRow.holds Try.pinned (OpenSpec.ofChange addrBackWrong)

/-- 'aqueductlaw05.AddrPorts': WHATEVER THE INPUT: true; the input reads as it did. -/
def addrPortsSpec : ChangeSpec := { name := "addrPorts", fn := fun _ => fun
  | [d1, d2] => { results := [.lit (.bool true)], args := [d1, d2] }
  | _ => none }
def addrPortsRow : OpenClaim := { program := "ythknggabioadhaa", sum := "24745d7ef76dc6bd55703bb356b03730d629f5d21f974fd099d22840b083f2a2", func := "aqueduct/aqueductlaw05.AddrPorts", spec := "addrPorts", apart := false }
def AddrPortsSaid : Prop := addrPortsRow.holds Try.pinned (OpenSpec.ofChange addrPortsSpec)

/-- ITS FALSE NEIGHBOUR: 'it returns false'. Refute it at one input. -/
def addrPortsWrong : ChangeSpec := { name := "addrPorts", fn := fun _ => fun
  | [d1, d2] => { results := [.lit (.bool false)], args := [d1, d2] }
  | _ => none }
def AddrPortsWrongFalsely : Prop := addrPortsRow.holds Try.pinned (OpenSpec.ofChange addrPortsWrong)

/-- 'aqueductlaw05.AddrBits': WHATEVER THE INPUT: true; the input reads as it did. -/
def addrBitsSpec : ChangeSpec := { name := "addrBits", fn := fun _ => fun
  | [d] => { results := [.lit (.bool true)], args := [d] }
  | _ => none }
def addrBitsRow : OpenClaim := { program := "ythknggabioadhaa", sum := "24745d7ef76dc6bd55703bb356b03730d629f5d21f974fd099d22840b083f2a2", func := "aqueduct/aqueductlaw05.AddrBits", spec := "addrBits", apart := false }
def AddrBitsSaid : Prop := addrBitsRow.holds Try.pinned (OpenSpec.ofChange addrBitsSpec)

/-- ITS FALSE NEIGHBOUR: 'it returns false'. Refute it at one input. -/
def addrBitsWrong : ChangeSpec := { name := "addrBits", fn := fun _ => fun
  | [d] => { results := [.lit (.bool false)], args := [d] }
  | _ => none }
def AddrBitsWrongFalsely : Prop := addrBitsRow.holds Try.pinned (OpenSpec.ofChange addrBitsWrong)

/- THE SECOND FORM. 'bulk': how many values and letters a reading holds, each counted each time it is reached (what is shared counts as often as it is met; a slice's spare places count too). A statement '..UptoSaid' is the law's where the arguments, and the package variables that the reading takes, are together of bulk at most 1048576: NARROWER than '..Said'. Prove '..Said' where nothing that the law and all that it calls make is longer than what came in: it says more and counts as full. Else prove '..UptoSaid'. A law counts once. -/
mutual
def uptoBulk {H : Type} : DataW H → Nat
  | .lit (.string bytes) => bytes.length + 1
  | .lit _ => 1
  | .nil => 1
  | .ptr d => uptoBulk d + 1
  | .slice elems spare => uptoBulkAll elems + uptoBulkAll spare + 1
  | .agg parts => uptoBulkAll parts + 1
  | .iface _ d => uptoBulk d + 1
  | .map entries => uptoBulkEntries entries + 1
  | .held _ => 1
def uptoBulkAll {H : Type} : List (DataW H) → Nat
  | [] => 0
  | d :: r => uptoBulk d + uptoBulkAll r
def uptoBulkEntries {H : Type} : List (Lit × DataW H) → Nat
  | [] => 0
  | x :: r => uptoBulkEntry x + uptoBulkEntries r
def uptoBulkEntry {H : Type} : Lit × DataW H → Nat
  | (.string bytes, d) => bytes.length + uptoBulk d + 1
  | (_, d) => uptoBulk d + 1
 end
def uptoSmall : (H : Type) → List (DataW H) → Bool := fun _ ds => decide (uptoBulkAll ds ≤ 1048576)
def OpenSpec.upto (s : _root_.Go.ChangeSpec) : _root_.Go.OpenSpec := { _root_.Go.OpenSpec.ofChange s with cond := some uptoSmall }

/-- 'aqueductlaw05.AddrTexts', WHERE WHAT IT READS IS OF BULK AT MOST 1048576: true; the input reads as it did. -/
def addrTextsUptoRow : OpenClaim := { program := "ythknggabioadhaa", sum := "24745d7ef76dc6bd55703bb356b03730d629f5d21f974fd099d22840b083f2a2", func := "aqueduct/aqueductlaw05.AddrTexts", spec := "addrTexts", apart := false, narrowed := true }
def AddrTextsUptoSaid : Prop := addrTextsUptoRow.holds Try.pinned (OpenSpec.upto addrTextsSpec)

/-- 'aqueductlaw05.AddrKinds', WHERE WHAT IT READS IS OF BULK AT MOST 1048576: true; the input reads as it did. -/
def addrKindsUptoRow : OpenClaim := { program := "ythknggabioadhaa", sum := "24745d7ef76dc6bd55703bb356b03730d629f5d21f974fd099d22840b083f2a2", func := "aqueduct/aqueductlaw05.AddrKinds", spec := "addrKinds", apart := false, narrowed := true }
def AddrKindsUptoSaid : Prop := addrKindsUptoRow.holds Try.pinned (OpenSpec.upto addrKindsSpec)

/-- 'aqueductlaw05.AddrBack', WHERE WHAT IT READS IS OF BULK AT MOST 1048576: true; the input reads as it did. -/
def addrBackUptoRow : OpenClaim := { program := "ythknggabioadhaa", sum := "24745d7ef76dc6bd55703bb356b03730d629f5d21f974fd099d22840b083f2a2", func := "aqueduct/aqueductlaw05.AddrBack", spec := "addrBack", apart := false, narrowed := true }
def AddrBackUptoSaid : Prop := addrBackUptoRow.holds Try.pinned (OpenSpec.upto addrBackSpec)

/-- 'aqueductlaw05.AddrPorts', WHERE WHAT IT READS IS OF BULK AT MOST 1048576: true; the input reads as it did. -/
def addrPortsUptoRow : OpenClaim := { program := "ythknggabioadhaa", sum := "24745d7ef76dc6bd55703bb356b03730d629f5d21f974fd099d22840b083f2a2", func := "aqueduct/aqueductlaw05.AddrPorts", spec := "addrPorts", apart := false, narrowed := true }
def AddrPortsUptoSaid : Prop := addrPortsUptoRow.holds Try.pinned (OpenSpec.upto addrPortsSpec)

/-- 'aqueductlaw05.AddrBits', WHERE WHAT IT READS IS OF BULK AT MOST 1048576: true; the input reads as it did. -/
def addrBitsUptoRow : OpenClaim := { program := "ythknggabioadhaa", sum := "24745d7ef76dc6bd55703bb356b03730d629f5d21f974fd099d22840b083f2a2", func := "aqueduct/aqueductlaw05.AddrBits", spec := "addrBits", apart := false, narrowed := true }
def AddrBitsUptoSaid : Prop := addrBitsUptoRow.holds Try.pinned (OpenSpec.upto addrBitsSpec)

end Rows
end Go.Proofs.Ythknggabioadhaa

/-
  What words.Put answers, for all numbers: the bytes, or the error.
-/
import Derived.Test.YtongkfimgohhbaaBytes
namespace Go.Proofs.Ytongkfimgohhbaa
open Go.RowKit

def putE (v n : Int) : Int := if 1 ≤ n ∧ n ≤ 8 ∧ v < 256 ^ n.toNat then 0 else 1
def putS (v n : Int) (big : Bool) : ByteArray := if 1 ≤ n ∧ n ≤ 8 ∧ v < 256 ^ n.toNat then ⟨(enc v.toNat n.toNat big).toArray⟩ else ⟨#[]⟩
theorem pow_cast (n : Nat) : ((256 ^ n : Nat) : Int) = 256 ^ n := by simp
end Go.Proofs.Ytongkfimgohhbaa

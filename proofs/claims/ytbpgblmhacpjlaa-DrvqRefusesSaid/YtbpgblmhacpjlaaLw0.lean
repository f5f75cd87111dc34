/-
  Low bits; a slice of ints; no condition.
-/
import Derived.Test.YtbpgblmhacpjlaaFx
namespace Go.Proofs.Ytbpgblmhacpjlaa
open Go.RowKit

theorem low_and (n : Int) (j : Nat) (m : Int) (hj : j ≤ 32) (hm : (BitVec.ofInt 64 m).toNat = 2 ^ j - 1) : ∃ X : Nat, X < 2 ^ j ∧ bits .and .i64 n m = (X : Int) := by
  have h : bits .and .i64 n m = IntKind.i64.wrap (((BitVec.ofInt 64 n).toNat % 2 ^ j : Nat) : Int) := by
    show IntKind.i64.wrap (((BitVec.ofInt 64 n &&& BitVec.ofInt 64 m).toNat : Nat) : Int) = _
    rw [BitVec.toNat_and, hm, Nat.and_two_pow_sub_one_eq_mod]
  have hb : (BitVec.ofInt 64 n).toNat % 2 ^ j < 2 ^ j := Nat.mod_lt _ (Nat.two_pow_pos j)
  have hp : 2 ^ j ≤ 2 ^ 32 := Nat.pow_le_pow_right (by omega) hj
  rw [IntWalk.i64_in _ (by omega)] at h
  exact ⟨_, hb, h⟩
theorem and16 (n : Int) : ∃ X : Nat, X < 65536 ∧ bits .and .i64 n 65535 = (X : Int) := low_and n 16 65535 (by decide) (by decide)
def IntsAt (A : Option Addr) (n : Nat) (w : World) : Prop := 0 < n → ∃ b off, A = some ⟨b, off, none⟩ ∧ b < w.heap.size ∧ ∀ i, i < n → ∃ z : Int, w.cell? ⟨b, off + i, none⟩ = some (.int .i64 z)
theorem IntsAt.cell {A : Option Addr} {n : Nat} {w w' : World} (h : IntsAt A n w) (hb : Below w.heap.size w w') (i : Nat) (hi : i < n) : ∃ b off, ∃ z : Int, A = some ⟨b, off, none⟩ ∧ b < w.heap.size ∧ w'.cell? ⟨b, off + i, none⟩ = some (.int .i64 z) := by
  obtain ⟨b, off, hA, hlt, hc⟩ := h (by omega)
  obtain ⟨z, hz⟩ := hc i hi
  exact ⟨b, off, z, hA, hlt, (hb.cell (p := ⟨b, off + i, none⟩) hlt).trans hz⟩
end Go.Proofs.Ytbpgblmhacpjlaa

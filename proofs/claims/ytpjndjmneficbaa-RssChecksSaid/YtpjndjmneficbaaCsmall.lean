/-
  What csum's word and adder, and the document's Ones, answer: for every word; no condition beyond that.
-/
import Derived.Test.YtpjndjmneficbaaRows
import Derived.WalkKit
import Derived.WalkSpells
import Derived.WalkLawsBesides
import Derived.Test.YtpjndjmneficbaaSmall
import Derived.Test.YtpjndjmneficbaaCmath
import Derived.Deep.QuietTactic
import Derived.BigQuiet
namespace Go.Proofs.Ytpjndjmneficbaa
open Go.RowKit


theorem word_any (a b : Nat) (w : World) (ha : a < 256) (hb : b < 256) :
    Calls Try.prog 86 #[.int .u8 a, .int .u8 b] w fun e w' => e = .returned (.int .u16 (256 * a + b)) ∧ w = w' := by
  go_enter Try.func86, Try.ntmps86
  go_wp2
  go_ret
  have e : bits .or .u16 ((a : Int) * 256) b = 256 * a + b := by
    rw [bits_join .u16 16 (by decide) wraps_u16 8 _ _ (by omega) (by omega) (by omega) (by omega) (by omega) (by omega)]; omega
  exact ⟨by rw [← e]; rfl, rfl⟩

theorem ones_any (a b : Int) (w : World) (h1 : 0 ≤ a) (h2 : a ≤ 65535) (h3 : 0 ≤ b) (h4 : b ≤ 65535) :
    Calls Try.prog 84 #[.int .i64 a, .int .i64 b] w fun e w' => e = .returned (.int .i64 (ones a b)) ∧ w = w' := by
  unfold ones
  by_cases h : 65536 ≤ a + b
  · rw [if_pos h]
    go_enter Try.func84, Try.ntmps84
    go_wp2
    go_ret
    exact ⟨by rw [show a + b - 65535 = a + b - 65536 + 1 by omega]; rfl, rfl⟩
  · rw [if_neg h]
    go_enter Try.func84, Try.ntmps84
    go_wp2
    go_ret
    exact ⟨rfl, rfl⟩

theorem add_any (b : Nat) (s x : Int) (w : World) (h1 : 0 ≤ s) (h2 : s ≤ 65535) (h3 : 0 ≤ x) (h4 : x ≤ 65535)
    (hc : w.cell? ⟨b, 0, none⟩ = some (.int .u16 s)) (hf : w.frozen? ⟨b, 0, none⟩ = false) :
    Calls Try.prog 87 #[.int .u16 x, .pointer (some ⟨b, 0, none⟩)] w fun e w' => e = .returned (.int .u16 (ones s x)) ∧ w' = w.setCell ⟨b, 0, none⟩ (.int .u16 (ones s x)) := by
  have e : IntKind.u16.wrap (IntKind.u16.wrap (s + x) + (s + x) / 65536) = ones s x := by
    simp only [IntKind.wrap_u16]; unfold ones; split <;> omega
  go_enter Try.func87, Try.ntmps87
  go_wp2
  go_ret
  exact ⟨rfl, rfl⟩

theorem adder_any (s : Int) (w : World) :
    Calls Try.prog 85 #[.int .u16 s] w fun e w' => e = .returned (.func (.func 87) #[] #[.pointer (some ⟨w.heap.size, 0, none⟩)]) ∧ w' = w.alloc (.cells #[.int .u16 s] 90) := by
  go_enter Try.func85, Try.ntmps85
  go_wp2
  go_ret
  exact ⟨rfl, rfl⟩
end Go.Proofs.Ytpjndjmneficbaa

/-
  desc.Used; no condition.
-/
import Derived.Test.YtbpgblmhacpjlaaDsm
namespace Go.Proofs.Ytbpgblmhacpjlaa
open Go.RowKit

theorem used_walk (X M K : Int) (wrap : Bool) (hX : bits .and .i64 X 32896 = M) (HS : ∀ w, Calls Try.prog 69 #[.bool wrap, .bool true] w fun e w' => e = .returned (.int .i64 K) ∧ w = w') (w : World) :
    Calls Try.prog 42 #[.int .i64 X, .bool wrap] w fun e w' => e = .returned (.bool (M == K)) ∧ w = w' := by
  go_enter Try.func42, Try.ntmps42
  go_wp2_with fail
  refine (HS _).mono ?_
  rintro e w1 ⟨rfl, rfl⟩
  go_wp2_with fail
  go_ret
  exact ⟨rfl, rfl⟩
theorem used_any (R : Nat) (h : Rest R) (a u wrap : Bool) (w : World) :
    Calls Try.prog 42 #[.int .i64 ((R + mk a u : Nat) : Int), .bool wrap] w fun e w' => e = .returned (.bool (a == wrap && u == wrap)) ∧ w = w' := by
  have e : (mkI a u == mkI wrap (wrap == true)) = (a == wrap && u == wrap) := by cases a <;> cases u <;> cases wrap <;> decide
  rw [← e]
  exact used_walk _ _ _ wrap (mk_and R h a u) (fun w => stating_any wrap true w) w
end Go.Proofs.Ytbpgblmhacpjlaa

/-
  What the four small functions of package words answer (isSize, holds, shift, fits): for every number; the string within the language's own length.
-/
import Derived.Test.YtongkfimgohhbaaRows
import Derived.WalkKit
import Derived.WalkSpells
import Derived.WalkLawsBesides
import Derived.Test.YtongkfimgohhbaaMath
import Derived.Deep.QuietTactic
import Derived.BigQuiet
namespace Go.Proofs.Ytongkfimgohhbaa
open Go.RowKit

theorem ret_bool {a b : Bool} (h : a = b) : Ending.returned (.bool a) = .returned (.bool b) := by rw [h]

theorem isSize_yes (n : Int) (w : World) (h1 : 1 ≤ n) (h2 : n ≤ 8) :
    Calls Try.prog 70 #[.int .i64 n] w fun e w' => e = .returned (.bool true) ∧ w = w' := by
  go_enter Try.func70, Try.ntmps70
  go_wp2
  go_ret
  exact ⟨rfl, rfl⟩
theorem isSize_no (n : Int) (w : World) (h : n < 1 ∨ 8 < n) :
    Calls Try.prog 70 #[.int .i64 n] w fun e w' => e = .returned (.bool false) ∧ w = w' := by
  rcases h with h | h
  · go_enter Try.func70, Try.ntmps70
    go_wp2
    go_ret
    exact ⟨rfl, rfl⟩
  · go_enter Try.func70, Try.ntmps70
    go_wp2
    go_ret
    exact ⟨ret_bool (decide_eq_false (by omega)), rfl⟩
theorem shift_big (i n : Int) (w : World) (h1 : 0 ≤ i) (h2 : i < n) (h3 : n ≤ 8) :
    Calls Try.prog 72 #[.int .i64 i, .int .i64 n, .bool true] w fun e w' => e = .returned (.int .i64 (8 * (n - 1 - i))) ∧ w = w' := by
  go_enter Try.func72, Try.ntmps72
  go_wp2
  go_ret
  exact ⟨rfl, rfl⟩
theorem shift_low (i n : Int) (w : World) (h1 : 0 ≤ i) (h2 : i < n) (h3 : n ≤ 8) :
    Calls Try.prog 72 #[.int .i64 i, .int .i64 n, .bool false] w fun e w' => e = .returned (.int .i64 (8 * i)) ∧ w = w' := by
  go_enter Try.func72, Try.ntmps72
  go_wp2
  go_ret
  exact ⟨rfl, rfl⟩
theorem shift_any (k n : Nat) (big : Bool) (w : World) (h2 : k < n) (h3 : n ≤ 8) :
    Calls Try.prog 72 #[.int .i64 k, .int .i64 n, .bool big] w fun e w' => e = .returned (.int .i64 (8 * plc n k big : Nat)) ∧ w = w' := by
  cases big
  · have e : ((8 * plc n k false : Nat) : Int) = 8 * (k : Int) := by simp [plc]
    rw [e]; exact shift_low k n w (by omega) (by omega) (by omega)
  · have e : ((8 * plc n k true : Nat) : Int) = 8 * ((n : Int) - 1 - k) := by simp [plc]; omega
    rw [e]; exact shift_big k n w (by omega) (by omega) (by omega)
theorem quiet_left {P : Program} {f : FuncId} {args : Array Value} {w : World} {n : Nat} {v : Value}
    (h : Calls P f args (w.drewN n) fun e w' => e = .returned v ∧ w.drewN n = w') : Calls P f args (w.drewN n) fun e w'' => e = .returned v ∧ ∃ m, w'' = w.drewN m :=
  h.mono fun _ _ ⟨he, hm⟩ => ⟨he, n, hm.symm⟩
theorem holds_yes (s : ByteArray) (a n : Int) (w : World) (hs : s.size ≤ maxLen) (h1 : 1 ≤ n) (h2 : n ≤ 8) (h3 : 0 ≤ a) (h4 : a + n ≤ s.size) :
    Calls Try.prog 75 #[.string s, .int .i64 a, .int .i64 n] w fun e w' => e = .returned (.bool true) ∧ w = w' := by
  unfold maxLen at hs
  go_enter Try.func75, Try.ntmps75
  go_wp2
  go_ret
  exact ⟨ret_bool (decide_eq_true (by omega)), rfl⟩
theorem holds_no (s : ByteArray) (a n : Int) (w : World) (hs : s.size ≤ maxLen) (h1 : 1 ≤ n) (h2 : n ≤ 8) (h : a < 0 ∨ (s.size : Int) < a + n) :
    Calls Try.prog 75 #[.string s, .int .i64 a, .int .i64 n] w fun e w' => e = .returned (.bool false) ∧ w = w' := by
  unfold maxLen at hs
  by_cases h0 : a < 0
  · go_enter Try.func75, Try.ntmps75
    go_wp2
    go_ret
    exact ⟨rfl, rfl⟩
  · have h3 : (s.size : Int) - n < a := by omega
    clear h
    go_enter Try.func75, Try.ntmps75
    go_wp2
    go_ret
    exact ⟨ret_bool (decide_eq_false (by omega)), rfl⟩
theorem pow_bytes (n : Nat) : (2 : Int) ^ (8 * (n : Int)).toNat = 256 ^ n := by
  have e : (8 * (n : Int)).toNat = 8 * n := by omega
  rw [e, Int.pow_mul]; rfl
end Go.Proofs.Ytongkfimgohhbaa

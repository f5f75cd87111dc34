/-
  Positions of a ring: what Check and the document's Check and 'one' answer, for all of them.
-/
import Derived.Test.YtbpgblmhacpjlaaDbk
import Derived.Lib.Hide
namespace Go.Proofs.Ytbpgblmhacpjlaa.Sp
open Go.RowKit

theorem wrap64_of {x : Int} (h1 : -9223372036854775808 ≤ x) (h2 : x ≤ 9223372036854775807) : wrap64 x = x := by unfold wrap64; omega
/-- what Check answers -/
def chkE (a n : Int) : Int := if n < 1 ∨ 32768 < n then 130 else if a < 0 ∨ n ≤ a then 1 else 0
theorem chk_size {a n : Int} (h : n < 1 ∨ 32768 < n) : chkE a n = 130 := if_pos h
theorem chk_arg {a n : Int} (h : ¬ (n < 1 ∨ 32768 < n)) (k : a < 0 ∨ n ≤ a) : chkE a n = 1 := by rw [chkE, if_neg h, if_pos k]
theorem chk_ok {a n : Int} (h : ¬ (n < 1 ∨ 32768 < n)) (k : ¬ (a < 0 ∨ n ≤ a)) : chkE a n = 0 := by rw [chkE, if_neg h, if_neg k]
theorem chk_cases (a n : Int) : (chkE a n = 0 ∧ 1 ≤ n ∧ n ≤ 32768 ∧ 0 ≤ a ∧ a < n) ∨ (chkE a n = 1) ∨ (chkE a n = 130) := by
  unfold chkE
  by_cases h : n < 1 ∨ 32768 < n
  · simp [h]
  · by_cases k : a < 0 ∨ n ≤ a
    · simp [h, k]
    · left; rw [if_neg h, if_neg k]; omega
theorem chk_zero {a n : Int} (h : chkE a n = 0) : 1 ≤ n ∧ n ≤ 32768 ∧ 0 ≤ a ∧ a < n := by
  rcases chk_cases a n with k | k | k
  · exact k.2
  · rw [h] at k; cases k
  · rw [h] at k; cases k
theorem chk_0 (a n : Int) (b : Bool) (w : World) (h0 : n < 1) :
    Calls Try.prog 78 #[.agg #[.int .i64 a, .bool b], .int .i64 n] w fun e w' => e = .returned (.int .i64 130) ∧ Below w.heap.size w w' := by
  go_enter Try.func78, Try.ntmps78
  go_wp2
  go_ret
  exact ⟨rfl, ba (Below.refl _ _) _⟩
theorem chk_1 (a n : Int) (b : Bool) (w : World) (h0 : ¬ n < 1) (h1 : 32768 < n) :
    Calls Try.prog 78 #[.agg #[.int .i64 a, .bool b], .int .i64 n] w fun e w' => e = .returned (.int .i64 130) ∧ Below w.heap.size w w' := by
  go_enter Try.func78, Try.ntmps78
  go_wp2
  go_ret
  exact ⟨rfl, ba (Below.refl _ _) _⟩
theorem chk_2 (a n : Int) (b : Bool) (w : World) (h0 : ¬ n < 1) (h1 : ¬ 32768 < n) (h2 : a < 0) :
    Calls Try.prog 78 #[.agg #[.int .i64 a, .bool b], .int .i64 n] w fun e w' => e = .returned (.int .i64 1) ∧ Below w.heap.size w w' := by
  go_enter Try.func78, Try.ntmps78
  go_wp2
  go_ret
  exact ⟨rfl, ba (Below.refl _ _) _⟩
theorem chk_3 (a n : Int) (b : Bool) (w : World) (h0 : ¬ n < 1) (h1 : ¬ 32768 < n) (h2 : ¬ a < 0) (h3 : n ≤ a) :
    Calls Try.prog 78 #[.agg #[.int .i64 a, .bool b], .int .i64 n] w fun e w' => e = .returned (.int .i64 1) ∧ Below w.heap.size w w' := by
  go_enter Try.func78, Try.ntmps78
  go_wp2
  go_ret
  exact ⟨rfl, ba (Below.refl _ _) _⟩
theorem chk_4 (a n : Int) (b : Bool) (w : World) (h0 : ¬ n < 1) (h1 : ¬ 32768 < n) (h2 : ¬ a < 0) (h3 : ¬ n ≤ a) :
    Calls Try.prog 78 #[.agg #[.int .i64 a, .bool b], .int .i64 n] w fun e w' => e = .returned (.int .i64 0) ∧ Below w.heap.size w w' := by
  go_enter Try.func78, Try.ntmps78
  go_wp2
  go_ret
  exact ⟨rfl, ba (Below.refl _ _) _⟩
theorem chk_any (a n : Int) (b : Bool) (w : World) :
    Calls Try.prog 78 #[.agg #[.int .i64 a, .bool b], .int .i64 n] w fun e w' => e = .returned (.int .i64 (chkE a n)) ∧ Below w.heap.size w w' := by
  by_cases h0 : n < 1
  · rw [chk_size (Or.inl h0)]; exact chk_0 a n b w h0
  by_cases h1 : 32768 < n
  · rw [chk_size (Or.inr h1)]; exact chk_1 a n b w h0 h1
  by_cases h2 : a < 0
  · rw [chk_arg (by omega) (Or.inl h2)]; exact chk_2 a n b w h0 h1 h2
  by_cases h3 : n ≤ a
  · rw [chk_arg (by omega) (Or.inr h3)]; exact chk_3 a n b w h0 h1 h2 (by omega)
  · rw [chk_ok (by omega) (by omega)]; exact chk_4 a n b w h0 h1 h2 (by omega)
theorem res2 (f : Func) (w : World) (tmps : Array Value) (gf : Nat) {n : Int} (hf : f.results = Try.f59.results) (h : tmps[6]?.getD undef = .pointer (some ⟨gf, 0, none⟩)) (h3 : tmps[7]?.getD undef = .int .i64 n) (a b : Value)
    (hF : Blk w gf 69 #[a, b]) : (results f tmps).run Try.prog w = .ok (.tuple #[.agg #[a, b], .int .i64 n]) w := by
  have c0 := hF.cell 0
  have c1 := hF.cell 1
  simp only [List.getElem?_toArray, List.getElem?_cons_zero, List.getElem?_cons_succ] at c0 c1
  simp [results, hf, Try.results59, go_sem, h, h3, c0, c1]
theorem Blk.new2 (w : World) (o : Obj) (t : TypeId) (cs : Array Value) : Blk ((w.alloc o).alloc (.cells cs t)) (w.heap.size + 1) t cs := by
  have h := Blk.new (w.alloc o) t cs
  have e : (w.alloc o).heap.size = w.heap.size + 1 := by simp
  rwa [e] at h
end Go.Proofs.Ytbpgblmhacpjlaa.Sp

/-
  What the reader's take and word do, where there are bytes enough and where there are not; no condition but the language's own length.
-/
import Derived.Test.YtboinnejkghfiaaPut
import Derived.Recover
namespace Go.Proofs.Ytboinnejkghfiaa
open Go.RowKit

def shortV : Value := .iface 67 (.agg #[])
theorem take_ok (g : Nat) (s : ByteArray) (n : Nat) (w : World) (hn : n ≤ s.size) (hc : w.cell? ⟨g, 0, none⟩ = some (.string s)) (hf : w.frozen? ⟨g, 0, none⟩ = false) :
    Calls Try.prog 51 #[.pointer (some ⟨g, 0, none⟩), .int .i64 n] w fun e w' => e = .returned (.string (s.extract 0 n)) ∧ w' = w.setCell ⟨g, 0, none⟩ (.string (s.extract n s.size)) := by
  go_enter Try.func51, Try.ntmps51
  go_wp2
  go_ret
  exact ⟨rfl, rfl⟩
theorem take_short (g : Nat) (s : ByteArray) (n : Nat) (w : World) (hn : s.size < n) (hc : w.cell? ⟨g, 0, none⟩ = some (.string s)) :
    Calls Try.prog 51 #[.pointer (some ⟨g, 0, none⟩), .int .i64 n] w fun e w' => e = .panicked [{ v := shortV, recovered := false }] ∧ w = w' := by
  go_enter Try.func51, Try.ntmps51
  go_wp2
  exact ⟨rfl, rfl, rfl⟩

/-- The number in two bytes of s from a on; nought where there are none. -/
def num (s : ByteArray) (a : Nat) : Nat := dec (cutl s a 2) true
theorem num_lt (s : ByteArray) (a : Nat) : num s a < 65536 := by
  have h := dec_lt (cutl s a 2) true
  have h2 : (cutl s a 2).length ≤ 2 := by simp [cutl]; omega
  have h3 : 256 ^ (cutl s a 2).length ≤ 256 ^ 2 := Nat.pow_le_pow_right (by decide) h2
  unfold num; omega
theorem num_cut (s : ByteArray) (a b n : Nat) (h : b + 2 ≤ n) : num (s.extract a (a + n)) b = num s (a + b) := by
  unfold num cutl
  rw [ByteArray.data_extract, Array.toList_extract, List.extract_eq_take_drop, List.drop_take, List.take_take, List.drop_drop]
  congr 2
  omega
theorem word_ok (g : Nat) (s : ByteArray) (w : World) (hn : 2 ≤ s.size) (hc : w.cell? ⟨g, 0, none⟩ = some (.string s)) (hf : w.frozen? ⟨g, 0, none⟩ = false) :
    Calls Try.prog 52 #[.pointer (some ⟨g, 0, none⟩)] w fun e w' => e = .returned (.int .i64 (num s 0)) ∧ Below w.heap.size (w.setCell ⟨g, 0, none⟩ (.string (s.extract 2 s.size))) w' := by
  have h1 : (s.extract 0 2).size = 2 := by simp [ByteArray.size_extract]; omega
  have e1 : num (s.extract 0 2) 0 = num s 0 := num_cut s 0 0 2 (by omega)
  have hlt := num_lt s 0
  have G := fun W => get_ok (s.extract 0 2) 0 2 true W (by rw [h1]; decide) (by omega) (by omega) (by rw [h1]; omega)
  change ∀ W, Calls Try.prog 57 #[.string (s.extract 0 2), .int .i64 0, .int .i64 2, .bool true] W fun e w' => e = .returned (.tuple #[.int .u64 (num (s.extract 0 2) 0), .int .i64 0]) ∧ Below W.heap.size W w' at G
  rw [e1] at G
  have HG := Lib.hid G
  have T : Calls Try.prog 51 #[.pointer (some ⟨g, 0, none⟩), .int .i64 2] w fun e w' => e = .returned (.string (s.extract 0 2)) ∧ w' = w.setCell ⟨g, 0, none⟩ (.string (s.extract 2 s.size)) := take_ok g s 2 w hn hc hf
  have HT := Lib.hid T
  clear G e1 h1 T
  generalize num s 0 = X at *
  go_enter Try.func52, Try.ntmps52
  go_wp2_with (first
    | (go_at_call 51; (with_reducible refine HT.out.mono ?_); rintro e w' ⟨rfl, rfl⟩)
    | (go_at_call 57; (with_reducible refine (HG.out _).mono ?_); rintro e w' ⟨rfl, hb⟩))
  go_ret
  exact ⟨rfl, hb.mono (by simp)⟩
theorem word_short (g : Nat) (s : ByteArray) (w : World) (hn : s.size < 2) (hc : w.cell? ⟨g, 0, none⟩ = some (.string s)) :
    Calls Try.prog 52 #[.pointer (some ⟨g, 0, none⟩)] w fun e w' => e = .panicked [{ v := shortV, recovered := false }] ∧ w = w' := by
  have T : Calls Try.prog 51 #[.pointer (some ⟨g, 0, none⟩), .int .i64 2] w fun e w' => e = .panicked [{ v := shortV, recovered := false }] ∧ w = w' := take_short g s 2 w hn hc
  have HT := Lib.hid T
  clear T
  go_enter Try.func52, Try.ntmps52
  go_wp2_with (first
    | (go_at_call 51; (with_reducible refine HT.out.mono ?_); rintro e w' ⟨rfl, rfl⟩))
  exact ⟨rfl, rfl, rfl⟩
end Go.Proofs.Ytboinnejkghfiaa

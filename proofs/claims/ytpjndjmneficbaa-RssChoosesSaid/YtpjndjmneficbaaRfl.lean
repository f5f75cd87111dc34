/-
  What the document's Less and its num of packets answer.
-/
import Derived.Test.YtpjndjmneficbaaFlo
import Derived.Test.YtpjndjmneficbaaGetr
import Derived.Test.YtpjndjmneficbaaIpk
namespace Go.Proofs.Ytpjndjmneficbaa
open Go.RowKit

theorem cut_all (s : ByteArray) (n : Nat) (h : s.size ≤ n) : s.extract 0 n = s := by
  apply ByteArray.ext
  rw [ByteArray.data_extract]
  have : s.data.size = s.size := rfl
  rw [Array.extract_eq_self_of_le (by omega)]
set_option maxHeartbeats 1600000 in
theorem rless_any (f : Fw) (w : World) : Calls Try.prog 28 #[.agg #[.int .i64 f.kind, .string f.key]] w fun e w' => e = .returned (.agg #[.int .i64 (lessV f).kind, .string (lessV f).key]) ∧ Below w.heap.size w w' := by
  obtain ⟨k, x⟩ := f
  unfold lessV
  simp only
  by_cases h2 : k = 2
  · subst h2
    rw [if_pos (.inl rfl)]
    by_cases hx : 8 < x.size
    · have _ := hx
      go_enter Try.func28, Try.ntmps28
      go_wp2_with fail
      exact bodyPost_ret (v := .agg #[.int .i64 1, .string (x.extract 0 8)]) (by simp [results, Try.results28, go_sem]) rfl ⟨rfl, ((Below.refl _ _).alloc (Nat.le_refl _) _).alloc (by simp) _⟩
    · rw [cut_all x 8 (by omega)]
      go_enter Try.func28, Try.ntmps28
      go_wp2_with fail
      exact bodyPost_ret (v := .agg #[.int .i64 1, .string x]) (by simp [results, Try.results28, go_sem]) rfl ⟨rfl, ((Below.refl _ _).alloc (Nat.le_refl _) _).alloc (by simp) _⟩
  by_cases h3 : k = 3
  · subst h3
    rw [if_pos (.inr rfl)]
    by_cases hx : 8 < x.size
    · have _ := hx
      go_enter Try.func28, Try.ntmps28
      go_wp2_with fail
      exact bodyPost_ret (v := .agg #[.int .i64 1, .string (x.extract 0 8)]) (by simp [results, Try.results28, go_sem]) rfl ⟨rfl, ((Below.refl _ _).alloc (Nat.le_refl _) _).alloc (by simp) _⟩
    · rw [cut_all x 8 (by omega)]
      go_enter Try.func28, Try.ntmps28
      go_wp2_with fail
      exact bodyPost_ret (v := .agg #[.int .i64 1, .string x]) (by simp [results, Try.results28, go_sem]) rfl ⟨rfl, ((Below.refl _ _).alloc (Nat.le_refl _) _).alloc (by simp) _⟩
  by_cases h5 : k = 5
  · subst h5
    rw [if_neg (by omega), if_pos (.inl rfl)]
    by_cases hx : 32 < x.size
    · have _ := hx
      go_enter Try.func28, Try.ntmps28
      go_wp2_with fail
      exact bodyPost_ret (v := .agg #[.int .i64 4, .string (x.extract 0 32)]) (by simp [results, Try.results28, go_sem]) rfl ⟨rfl, ((Below.refl _ _).alloc (Nat.le_refl _) _).alloc (by simp) _⟩
    · rw [cut_all x 32 (by omega)]
      go_enter Try.func28, Try.ntmps28
      go_wp2_with fail
      exact bodyPost_ret (v := .agg #[.int .i64 4, .string x]) (by simp [results, Try.results28, go_sem]) rfl ⟨rfl, ((Below.refl _ _).alloc (Nat.le_refl _) _).alloc (by simp) _⟩
  by_cases h6 : k = 6
  · subst h6
    rw [if_neg (by omega), if_pos (.inr rfl)]
    by_cases hx : 32 < x.size
    · have _ := hx
      go_enter Try.func28, Try.ntmps28
      go_wp2_with fail
      exact bodyPost_ret (v := .agg #[.int .i64 4, .string (x.extract 0 32)]) (by simp [results, Try.results28, go_sem]) rfl ⟨rfl, ((Below.refl _ _).alloc (Nat.le_refl _) _).alloc (by simp) _⟩
    · rw [cut_all x 32 (by omega)]
      go_enter Try.func28, Try.ntmps28
      go_wp2_with fail
      exact bodyPost_ret (v := .agg #[.int .i64 4, .string x]) (by simp [results, Try.results28, go_sem]) rfl ⟨rfl, ((Below.refl _ _).alloc (Nat.le_refl _) _).alloc (by simp) _⟩
  rw [if_neg (by omega), if_neg (by omega)]
  have e2 : (k == 2) = false := by simpa using h2
  have e3 : (k == 3) = false := by simpa using h3
  have e5 : (k == 5) = false := by simpa using h5
  have e6 : (k == 6) = false := by simpa using h6
  go_enter Try.func28, Try.ntmps28
  go_wp2_with fail
  exact bodyPost_ret (v := .agg #[.int .i64 k, .string x]) (by simp [results, Try.results28, go_sem]) rfl ⟨rfl, ((Below.refl _ _).alloc (Nat.le_refl _) _).alloc (by simp) _⟩
theorem num7_any (s : ByteArray) (a n : Nat) (w : World) (hs : s.size ≤ maxLen) (h1 : 1 ≤ n) (h2 : n ≤ 4) (h3 : a + n ≤ s.size) :
    Calls Try.prog 58 #[.string s, .int .i64 a, .int .i64 n] w fun e w' => e = .returned (.int .i64 (nat s a n)) ∧ w = w' := by
  have hlt := nat_lt s a n
  have hp : 256 ^ n ≤ 256 ^ 4 := Nat.pow_le_pow_right (by decide) h2
  have G := fun W => getr_big s a n W hs (by omega) (by omega) h3
  change ∀ W, Calls Try.prog 72 #[.string s, .int .i64 a, .int .i64 n, .bool true] W fun e w' => e = .returned (.tuple #[.int .u64 (nat s a n), .int .i64 0]) ∧ W = w' at G
  have HG := Lib.hid G
  have hX : nat s a n < 4294967296 := by omega
  clear G hlt hp
  generalize nat s a n = X at *
  go_enter Try.func58, Try.ntmps58
  go_wp2_with (go_at_call 72; (with_reducible refine (HG.out _).mono ?_); rintro e w' ⟨rfl, rfl⟩)
  go_ret
  exact ⟨rfl, rfl⟩
end Go.Proofs.Ytpjndjmneficbaa

/-
  What flow.Less, flow.Hash and the document's Less answer: for every flow.
-/
import Derived.Test.YtpjndjmneficbaaFlw
namespace Go.Proofs.Ytpjndjmneficbaa
open Go.RowKit

def lessV (f : Fw) : Fw := if f.kind = 2 ∨ f.kind = 3 then ⟨1, f.key.extract 0 8⟩ else if f.kind = 5 ∨ f.kind = 6 then ⟨4, f.key.extract 0 32⟩ else f
set_option maxHeartbeats 1600000 in
theorem less_any (f : Fw) (w : World) : Calls Try.prog 38 #[.agg #[.int .i64 f.kind, .string f.key]] w fun e w' => e = .returned (.agg #[.int .i64 (lessV f).kind, .string (lessV f).key]) ∧ Below w.heap.size w w' := by
  obtain ⟨k, x⟩ := f
  unfold lessV
  have F8 : ∀ W, Calls Try.prog 54 #[.string x, .int .i64 8] W fun e w' => e = .returned (.string (x.extract 0 8)) ∧ W = w' := fun W => first_any x 8 W
  have F32 : ∀ W, Calls Try.prog 54 #[.string x, .int .i64 32] W fun e w' => e = .returned (.string (x.extract 0 32)) ∧ W = w' := fun W => first_any x 32 W
  generalize x.extract 0 8 = X8 at *
  generalize x.extract 0 32 = X32 at *
  have HF8 := Lib.hid F8
  have HF32 := Lib.hid F32
  clear F8 F32
  simp only
  by_cases h2 : k = 2
  · subst h2
    rw [if_pos (.inl rfl)]
    go_enter Try.func38, Try.ntmps38
    go_wp2_with (go_at_call 54; (with_reducible refine (HF8.out _).mono ?_); rintro e w' ⟨rfl, rfl⟩)
    exact bodyPost_ret (v := .agg #[.int .i64 1, .string X8]) (by simp [results, Try.results38, go_sem]) rfl ⟨rfl, ((Below.refl _ _).alloc (Nat.le_refl _) _).alloc (by simp) _⟩
  by_cases h3 : k = 3
  · subst h3
    rw [if_pos (.inr rfl)]
    go_enter Try.func38, Try.ntmps38
    go_wp2_with (go_at_call 54; (with_reducible refine (HF8.out _).mono ?_); rintro e w' ⟨rfl, rfl⟩)
    exact bodyPost_ret (v := .agg #[.int .i64 1, .string X8]) (by simp [results, Try.results38, go_sem]) rfl ⟨rfl, ((Below.refl _ _).alloc (Nat.le_refl _) _).alloc (by simp) _⟩
  by_cases h5 : k = 5
  · subst h5
    rw [if_neg (by omega), if_pos (.inl rfl)]
    go_enter Try.func38, Try.ntmps38
    go_wp2_with (go_at_call 54; (with_reducible refine (HF32.out _).mono ?_); rintro e w' ⟨rfl, rfl⟩)
    exact bodyPost_ret (v := .agg #[.int .i64 4, .string X32]) (by simp [results, Try.results38, go_sem]) rfl ⟨rfl, ((Below.refl _ _).alloc (Nat.le_refl _) _).alloc (by simp) _⟩
  by_cases h6 : k = 6
  · subst h6
    rw [if_neg (by omega), if_pos (.inr rfl)]
    go_enter Try.func38, Try.ntmps38
    go_wp2_with (go_at_call 54; (with_reducible refine (HF32.out _).mono ?_); rintro e w' ⟨rfl, rfl⟩)
    exact bodyPost_ret (v := .agg #[.int .i64 4, .string X32]) (by simp [results, Try.results38, go_sem]) rfl ⟨rfl, ((Below.refl _ _).alloc (Nat.le_refl _) _).alloc (by simp) _⟩
  rw [if_neg (by omega), if_neg (by omega)]
  have e2 : (k == 2) = false := by simpa using h2
  have e3 : (k == 3) = false := by simpa using h3
  have e5 : (k == 5) = false := by simpa using h5
  have e6 : (k == 6) = false := by simpa using h6
  go_enter Try.func38, Try.ntmps38
  go_wp2_with fail
  exact bodyPost_ret (v := .agg #[.int .i64 k, .string x]) (by simp [results, Try.results38, go_sem]) rfl ⟨rfl, ((Below.refl _ _).alloc (Nat.le_refl _) _).alloc (by simp) _⟩
theorem flowHash_any (key : ByteArray) (f : Fw) (w : World) : Calls Try.prog 37 #[.string key, .agg #[.int .i64 f.kind, .string f.key]] w fun e w' => e = .returned (hashE key f.key) ∧ Below w.heap.size w w' := by
  have A := fun W => hash_any key f.key W
  obtain ⟨k, x⟩ := f
  have hE : ∃ a b : Value, hashE key x = .tuple #[a, b] := by unfold hashE; split <;> exact ⟨_, _, rfl⟩
  obtain ⟨a, b, hE⟩ := hE
  simp only at A ⊢
  rw [hE] at A ⊢
  have HA := Lib.hid A
  clear A hE
  go_enter Try.func37, Try.ntmps37
  go_wp2_with fail
  refine (HA.out _).mono ?_
  rintro e w1 ⟨rfl, hq⟩
  have h1 := (Held.new w 38 #[.int .i64 k, .string x]).next hq
  go_wp2_with fail
  go_ret2
  exact ⟨rfl, h1.below⟩
end Go.Proofs.Ytpjndjmneficbaa

/-
  The calls whose answers the document fixes are answered so; no condition.
-/
import Derived.Test.YthknggabioadhaaParser
namespace Go.Proofs.Ythknggabioadhaa
open Go.RowKit

theorem fx1 (w : World) : Calls Try.prog 15 #[.int .i64 5] w fun e w' => e = .returned (.string ⟨#[2, 97, 113, 0, 0, 5]⟩) ∧ Below w.heap.size w w' := by
  have h := port_any 5 w
  rw [show portS 5 = ⟨#[2, 97, 113, 0, 0, 5]⟩ by decide +kernel] at h
  exact h
theorem fx2 (w : World) : Calls Try.prog 8 #[.string ⟨#[2, 97, 113, 0, 0, 5]⟩] w fun e w' => e = .returned (.tuple #[.string ⟨#[48, 50, 58, 54, 49, 58, 55, 49, 58, 48, 48, 58, 48, 48, 58, 48, 53]⟩, .int .i64 0]) ∧ Below w.heap.size w w' := by
  have h := print_any ⟨#[2, 97, 113, 0, 0, 5]⟩ w
  rw [show printS ⟨#[2, 97, 113, 0, 0, 5]⟩ = ⟨#[48, 50, 58, 54, 49, 58, 55, 49, 58, 48, 48, 58, 48, 48, 58, 48, 53]⟩ by decide +kernel, show printE ⟨#[2, 97, 113, 0, 0, 5]⟩ = 0 by decide +kernel] at h
  exact h
theorem fx3 (w : World) : Calls Try.prog 10 #[.string ⟨#[48, 49, 58, 48, 48, 58, 53, 101, 58, 48, 48, 58, 48, 48, 58, 48, 49]⟩] w fun e w' => e = .returned (.tuple #[.string ⟨#[1, 0, 94, 0, 0, 1]⟩, .int .i64 0]) ∧ Below w.heap.size w w' := by
  have h := parse_any ⟨#[48, 49, 58, 48, 48, 58, 53, 101, 58, 48, 48, 58, 48, 48, 58, 48, 49]⟩ w
  rw [show parseS ⟨#[48, 49, 58, 48, 48, 58, 53, 101, 58, 48, 48, 58, 48, 48, 58, 48, 49]⟩ = ⟨#[1, 0, 94, 0, 0, 1]⟩ by decide +kernel, show parseE ⟨#[48, 49, 58, 48, 48, 58, 53, 101, 58, 48, 48, 58, 48, 48, 58, 48, 49]⟩ = 0 by decide +kernel] at h
  exact h
theorem fx4 (w : World) : Calls Try.prog 10 #[.string ⟨#[48, 50, 58, 54, 49, 58, 55, 49, 58, 48, 48, 58, 48, 48, 58, 53]⟩] w fun e w' => e = .returned (.tuple #[.string ⟨#[]⟩, .int .i64 50]) ∧ Below w.heap.size w w' := by
  have h := parse_any ⟨#[48, 50, 58, 54, 49, 58, 55, 49, 58, 48, 48, 58, 48, 48, 58, 53]⟩ w
  rw [show parseS ⟨#[48, 50, 58, 54, 49, 58, 55, 49, 58, 48, 48, 58, 48, 48, 58, 53]⟩ = ⟨#[]⟩ by decide +kernel, show parseE ⟨#[48, 50, 58, 54, 49, 58, 55, 49, 58, 48, 48, 58, 48, 48, 58, 53]⟩ = 50 by decide +kernel] at h
  exact h
theorem fx5 (w : World) : Calls Try.prog 8 #[.string ⟨#[97, 98, 99]⟩] w fun e w' => e = .returned (.tuple #[.string ⟨#[]⟩, .int .i64 1]) ∧ Below w.heap.size w w' := by
  have h := print_any ⟨#[97, 98, 99]⟩ w
  rw [show printS ⟨#[97, 98, 99]⟩ = ⟨#[]⟩ by decide +kernel, show printE ⟨#[97, 98, 99]⟩ = 1 by decide +kernel] at h
  exact h
theorem fx6 (w : World) : Calls Try.prog 13 #[.string ⟨#[1, 0, 94, 0, 0, 1]⟩] w fun e w' => e = .returned (.int .i64 2) ∧ w = w' := by
  have h := kind_any ⟨#[1, 0, 94, 0, 0, 1]⟩ w
  rw [show kindV ⟨#[1, 0, 94, 0, 0, 1]⟩ = 2 by decide +kernel] at h
  exact h
theorem fx7 (w : World) : Calls Try.prog 17 #[.string ⟨#[2, 97, 113, 0, 0, 5]⟩] w fun e w' => e = .returned (.int .i64 5) ∧ Below w.heap.size w w' := by
  have h := by_any ⟨#[2, 97, 113, 0, 0, 5]⟩ w
  rw [show byV ⟨#[2, 97, 113, 0, 0, 5]⟩ = 5 by decide +kernel] at h
  exact h
theorem fx8 (w : World) : Calls Try.prog 17 #[.string ⟨#[1, 0, 94, 0, 0, 1]⟩] w fun e w' => e = .returned (.int .i64 (-1)) ∧ Below w.heap.size w w' := by
  have h := by_any ⟨#[1, 0, 94, 0, 0, 1]⟩ w
  rw [show byV ⟨#[1, 0, 94, 0, 0, 1]⟩ = -1 by decide +kernel] at h
  exact h
theorem fx9 (w : World) : Calls Try.prog 15 #[.int .i64 16] w fun e w' => e = .returned (.string ⟨#[]⟩) ∧ Below w.heap.size w w' := by
  have h := port_any 16 w
  rw [show portS 16 = ⟨#[]⟩ by decide +kernel] at h
  exact h

set_option maxRecDepth 100000 in
set_option maxHeartbeats 1000000 in
theorem fixed_any (w : World) : Calls Try.prog 12 #[] w fun e w' => e = .returned (.bool true) ∧ Below w.heap.size w w' := by
  have hB := Below.refl w.heap.size w
  go_enter Try.func12, Try.ntmps12
  go_wp2_with (first
    | (go_at_call 15; ((with_reducible refine (fx1 _).mono ?_); rintro e w1 ⟨rfl, hq⟩; replace hB := bl hB hq; clear hq))
    | (go_at_call 8; ((with_reducible refine (fx2 _).mono ?_); rintro e w1 ⟨rfl, hq⟩; replace hB := bl hB hq; clear hq))
    | (go_at_call 10; ((with_reducible refine (fx3 _).mono ?_); rintro e w1 ⟨rfl, hq⟩; replace hB := bl hB hq; clear hq))
    | (go_at_call 10; ((with_reducible refine (fx4 _).mono ?_); rintro e w1 ⟨rfl, hq⟩; replace hB := bl hB hq; clear hq))
    | (go_at_call 8; ((with_reducible refine (fx5 _).mono ?_); rintro e w1 ⟨rfl, hq⟩; replace hB := bl hB hq; clear hq))
    | (go_at_call 13; ((with_reducible refine (fx6 _).mono ?_); rintro e w1 ⟨rfl, rfl⟩))
    | (go_at_call 17; ((with_reducible refine (fx7 _).mono ?_); rintro e w1 ⟨rfl, hq⟩; replace hB := bl hB hq; clear hq))
    | (go_at_call 17; ((with_reducible refine (fx8 _).mono ?_); rintro e w1 ⟨rfl, hq⟩; replace hB := bl hB hq; clear hq))
    | (go_at_call 15; ((with_reducible refine (fx9 _).mono ?_); rintro e w1 ⟨rfl, hq⟩; replace hB := bl hB hq; clear hq)))
  go_ret
  exact ⟨rfl, hB⟩
end Go.Proofs.Ythknggabioadhaa

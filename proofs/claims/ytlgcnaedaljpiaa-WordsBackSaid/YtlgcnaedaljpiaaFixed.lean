/-
  The calls whose answers the document fixes are answered so; no condition.
-/
import Derived.Test.YtlgcnaedaljpiaaSet
import Derived.Test.YtlgcnaedaljpiaaTurnr
namespace Go.Proofs.Ytlgcnaedaljpiaa
open Go.RowKit

theorem fix1 (w : World) : Calls Try.prog 11 #[.int .u64 4660, .int .i64 2, .bool true] w fun e w' => e = .returned (.tuple #[.string ⟨#[18, 52]⟩, .int .i64 0]) ∧ Below w.heap.size w w' := by
  refine (put_any 4660 2 true w (by decide)).mono fun e w' ⟨he, hw⟩ => ⟨?_, hw⟩
  rw [he, show putS 4660 2 true = ⟨#[18, 52]⟩ by decide +kernel, show putE 4660 2 = 0 by decide +kernel]
theorem fix2 (w : World) : Calls Try.prog 11 #[.int .u64 4660, .int .i64 2, .bool false] w fun e w' => e = .returned (.tuple #[.string ⟨#[52, 18]⟩, .int .i64 0]) ∧ Below w.heap.size w w' := by
  refine (put_any 4660 2 false w (by decide)).mono fun e w' ⟨he, hw⟩ => ⟨?_, hw⟩
  rw [he, show putS 4660 2 false = ⟨#[52, 18]⟩ by decide +kernel, show putE 4660 2 = 0 by decide +kernel]
theorem fix3 (w : World) : Calls Try.prog 9 #[.string ⟨#[97, 98, 99]⟩, .int .i64 1, .int .i64 2, .bool true] w fun e w' => e = .returned (.tuple #[.int .u64 25187, .int .i64 0]) ∧ Below w.heap.size w w' := by
  refine (get_any ⟨#[97, 98, 99]⟩ 1 2 true w (by decide)).mono fun e w' ⟨he, hw⟩ => ⟨?_, hw⟩
  rw [he, show getV ⟨#[97, 98, 99]⟩ 1 2 true = 25187 by decide +kernel, show getE ⟨#[97, 98, 99]⟩ 1 2 = 0 by decide +kernel]
theorem fix4 (w : World) : Calls Try.prog 11 #[.int .u64 256, .int .i64 1, .bool true] w fun e w' => e = .returned (.tuple #[.string ⟨#[]⟩, .int .i64 1]) ∧ Below w.heap.size w w' := by
  refine (put_any 256 1 true w (by decide)).mono fun e w' ⟨he, hw⟩ => ⟨?_, hw⟩
  rw [he, show putS 256 1 true = ⟨#[]⟩ by decide +kernel, show putE 256 1 = 1 by decide +kernel]
theorem fix5 (w : World) : Calls Try.prog 9 #[.string ⟨#[97, 98, 99]⟩, .int .i64 2, .int .i64 2, .bool true] w fun e w' => e = .returned (.tuple #[.int .u64 0, .int .i64 10]) ∧ Below w.heap.size w w' := by
  refine (get_any ⟨#[97, 98, 99]⟩ 2 2 true w (by decide)).mono fun e w' ⟨he, hw⟩ => ⟨?_, hw⟩
  rw [he, show getV ⟨#[97, 98, 99]⟩ 2 2 true = 0 by decide +kernel, show getE ⟨#[97, 98, 99]⟩ 2 2 = 10 by decide +kernel]
theorem fix6 (w : World) : Calls Try.prog 14 #[.string ⟨#[97, 98, 99, 100]⟩, .int .i64 1, .int .u64 24930, .int .i64 2, .bool false] w fun e w' => e = .returned (.tuple #[.string ⟨#[97, 98, 97, 100]⟩, .int .i64 0]) ∧ Below w.heap.size w w' := by
  refine (set_any ⟨#[97, 98, 99, 100]⟩ 1 24930 2 false w (by decide) (by decide)).mono fun e w' ⟨he, hw⟩ => ⟨?_, hw⟩
  rw [he, show setS ⟨#[97, 98, 99, 100]⟩ 1 24930 2 false = ⟨#[97, 98, 97, 100]⟩ by decide +kernel, show setE ⟨#[97, 98, 99, 100]⟩ 1 24930 2 = 0 by decide +kernel]
theorem fix7 (w : World) : Calls Try.prog 16 #[.string ⟨#[97, 98, 99]⟩] w fun e w' => e = .returned (.string ⟨#[99, 98, 97]⟩) ∧ Below w.heap.size w w' := by
  refine (turn_any ⟨#[97, 98, 99]⟩ w (by decide)).mono fun e w' ⟨he, hw⟩ => ⟨?_, hw⟩
  rw [he, show turnS ⟨#[97, 98, 99]⟩ = ⟨#[99, 98, 97]⟩ by decide +kernel]

set_option maxHeartbeats 400000 in
theorem fixed_any (w : World) : Calls Try.prog 13 #[] w fun e w' => e = .returned (.bool true) ∧ Below w.heap.size w w' := by
  go_enter Try.func13, Try.ntmps13
  go_wp2_with (first
    | (go_at_call 11; ((with_reducible refine (fix1 _).mono ?_); rintro e w1 ⟨rfl, hb1⟩))
    | (go_at_call 11; ((with_reducible refine (fix2 _).mono ?_); rintro e w2 ⟨rfl, hb2⟩))
    | (go_at_call 9; ((with_reducible refine (fix3 _).mono ?_); rintro e w3 ⟨rfl, hb3⟩))
    | (go_at_call 11; ((with_reducible refine (fix4 _).mono ?_); rintro e w4 ⟨rfl, hb4⟩))
    | (go_at_call 9; ((with_reducible refine (fix5 _).mono ?_); rintro e w5 ⟨rfl, hb5⟩))
    | (go_at_call 14; ((with_reducible refine (fix6 _).mono ?_); rintro e w6 ⟨rfl, hb6⟩))
    | (go_at_call 16; ((with_reducible refine (fix7 _).mono ?_); rintro e w7 ⟨rfl, hb7⟩)))
  go_ret
  refine ⟨rfl, ?_⟩
  have hz1 := hb1.size
  have hz2 := hb2.size
  have hz3 := hb3.size
  have hz4 := hb4.size
  have hz5 := hb5.size
  have hz6 := hb6.size
  exact hb1.trans <| (hb2.mono (by omega)).trans <| (hb3.mono (by omega)).trans <| (hb4.mono (by omega)).trans <| (hb5.mono (by omega)).trans <| (hb6.mono (by omega)).trans (hb7.mono (by omega))
end Go.Proofs.Ytlgcnaedaljpiaa

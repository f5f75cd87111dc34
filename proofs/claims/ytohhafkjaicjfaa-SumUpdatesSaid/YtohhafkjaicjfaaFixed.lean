/-
  The calls whose answers the document fixes are answered so; no condition.
-/
import Derived.Test.YtohhafkjaicjfaaRest
namespace Go.Proofs.Ytohhafkjaicjfaa
open Go.RowKit

theorem fix1 (w : World) : Calls Try.prog 11 #[.int .u16 0, .string ⟨#[0, 1, 242, 3, 244, 245, 246, 247]⟩] w fun e w' => e = .returned (.int .u16 56818) ∧ Below w.heap.size w w' := by
  refine (on_any 0 ⟨#[0, 1, 242, 3, 244, 245, 246, 247]⟩ w (by decide) (by decide) (by decide)).mono fun e w' ⟨he, hw⟩ => ⟨?_, hw⟩
  rw [he, show onS 0 ⟨#[0, 1, 242, 3, 244, 245, 246, 247]⟩ = 56818 by decide +kernel]
theorem fix2 (w : World) : Calls Try.prog 13 #[.string ⟨#[0, 1, 242, 3, 244, 245, 246, 247]⟩] w fun e w' => e = .returned (.int .u16 8717) ∧ Below w.heap.size w w' := by
  refine (sum_any ⟨#[0, 1, 242, 3, 244, 245, 246, 247]⟩ w (by decide)).mono fun e w' ⟨he, hw⟩ => ⟨?_, hw⟩
  rw [he, show 65535 - onS 0 ⟨#[0, 1, 242, 3, 244, 245, 246, 247]⟩ = 8717 by decide +kernel]
theorem fix3 (w : World) : Calls Try.prog 11 #[.int .u16 0, .string ⟨#[97]⟩] w fun e w' => e = .returned (.int .u16 24832) ∧ Below w.heap.size w w' := by
  refine (on_any 0 ⟨#[97]⟩ w (by decide) (by decide) (by decide)).mono fun e w' ⟨he, hw⟩ => ⟨?_, hw⟩
  rw [he, show onS 0 ⟨#[97]⟩ = 24832 by decide +kernel]
theorem fix4 (w : World) : Calls Try.prog 15 #[.string ⟨#[0, 1, 242, 3, 244, 245, 246, 247, 34, 13]⟩] w fun e w' => e = .returned (.bool true) ∧ Below w.heap.size w w' := by
  refine (right_any ⟨#[0, 1, 242, 3, 244, 245, 246, 247, 34, 13]⟩ w (by decide)).mono fun e w' ⟨he, hw⟩ => ⟨?_, hw⟩
  rw [he, show (onS 0 ⟨#[0, 1, 242, 3, 244, 245, 246, 247, 34, 13]⟩ == 65535) = true by decide +kernel]
theorem fix5 (w : World) : Calls Try.prog 15 #[.string ⟨#[0, 1, 242, 3, 244, 245, 246, 247]⟩] w fun e w' => e = .returned (.bool false) ∧ Below w.heap.size w w' := by
  refine (right_any ⟨#[0, 1, 242, 3, 244, 245, 246, 247]⟩ w (by decide)).mono fun e w' ⟨he, hw⟩ => ⟨?_, hw⟩
  rw [he, show (onS 0 ⟨#[0, 1, 242, 3, 244, 245, 246, 247]⟩ == 65535) = false by decide +kernel]
theorem fix6 (w : World) : Calls Try.prog 16 #[.int .u16 8717, .int .u16 1, .int .u16 2] w fun e w' => e = .returned (.int .u16 8716) ∧ Below w.heap.size w w' := by
  refine (upd_any 8717 1 2 w (by decide) (by decide) (by decide) (by decide) (by decide) (by decide)).mono fun e w' ⟨he, hw⟩ => ⟨?_, hw⟩
  rw [he, show upd 8717 1 2 = 8716 by decide +kernel]
theorem fix7 (w : World) : Calls Try.prog 18 #[.int .u16 1, .int .u16 256, .int .i64 3] w fun e w' => e = .returned (.int .u16 2) ∧ Below w.heap.size w w' := by
  refine (join_any 1 256 3 w (by decide) (by decide) (by decide) (by decide)).mono fun e w' ⟨he, hw⟩ => ⟨?_, hw⟩
  rw [he, show join 1 256 3 = 2 by decide +kernel]

set_option maxHeartbeats 400000 in
theorem fixed_any (w : World) : Calls Try.prog 10 #[] w fun e w' => e = .returned (.bool true) ∧ Below w.heap.size w w' := by
  go_enter Try.func10, Try.ntmps10
  go_wp2_with (first
    | (go_at_call 11; ((with_reducible refine (fix1 _).mono ?_); rintro e w1 ⟨rfl, hb1⟩))
    | (go_at_call 13; ((with_reducible refine (fix2 _).mono ?_); rintro e w2 ⟨rfl, hb2⟩))
    | (go_at_call 11; ((with_reducible refine (fix3 _).mono ?_); rintro e w3 ⟨rfl, hb3⟩))
    | (go_at_call 15; refine (fix4 _).mono ?_; rintro e w4 ⟨rfl, hb4⟩)
    | (go_at_call 15; ((with_reducible refine (fix5 _).mono ?_); rintro e w5 ⟨rfl, hb5⟩))
    | (go_at_call 16; ((with_reducible refine (fix6 _).mono ?_); rintro e w6 ⟨rfl, hb6⟩))
    | (go_at_call 18; ((with_reducible refine (fix7 _).mono ?_); rintro e w7 ⟨rfl, hb7⟩)))
  go_ret
  refine ⟨rfl, ?_⟩
  have hz1 := hb1.size
  have hz2 := hb2.size
  have hz3 := hb3.size
  have hz4 := hb4.size
  have hz5 := hb5.size
  have hz6 := hb6.size
  exact hb1.trans <| (hb2.mono (by omega)).trans <| (hb3.mono (by omega)).trans <| (hb4.mono (by omega)).trans <| (hb5.mono (by omega)).trans <| (hb6.mono (by omega)).trans (hb7.mono (by omega))
end Go.Proofs.Ytohhafkjaicjfaa

/-
  The calls whose answers the document fixes are answered so; no condition.
-/
import Derived.Test.YteilbhdenheakaaHash
import Derived.Lib.Hide
namespace Go.Proofs.Yteilbhdenheakaa
open Go.RowKit

theorem fix1 (w : World) : Calls Try.prog 7 #[.string ⟨#[109, 90, 86, 218, 37, 91, 14, 194, 65, 103, 37, 61, 67, 163, 143, 176, 208, 202, 43, 203, 174, 123, 48, 180, 119, 203, 45, 163, 128, 48, 242, 12, 106, 66, 183, 59, 190, 172, 1, 250]⟩, .string ⟨#[66, 9, 149, 187, 161, 142, 100, 80]⟩] w fun e w' => e = .returned (.tuple #[.int .u32 842960834, .int .i64 0]) ∧ Below w.heap.size w w' := by
  refine (hash_any ⟨#[109, 90, 86, 218, 37, 91, 14, 194, 65, 103, 37, 61, 67, 163, 143, 176, 208, 202, 43, 203, 174, 123, 48, 180, 119, 203, 45, 163, 128, 48, 242, 12, 106, 66, 183, 59, 190, 172, 1, 250]⟩ ⟨#[66, 9, 149, 187, 161, 142, 100, 80]⟩ w).mono fun e w' ⟨he, hw⟩ => ⟨?_, hw⟩
  rw [he, show hashE ⟨#[109, 90, 86, 218, 37, 91, 14, 194, 65, 103, 37, 61, 67, 163, 143, 176, 208, 202, 43, 203, 174, 123, 48, 180, 119, 203, 45, 163, 128, 48, 242, 12, 106, 66, 183, 59, 190, 172, 1, 250]⟩ ⟨#[66, 9, 149, 187, 161, 142, 100, 80]⟩ = .tuple #[.int .u32 842960834, .int .i64 0] by
    unfold hashE; rw [if_neg (by decide), show hashV ⟨#[109, 90, 86, 218, 37, 91, 14, 194, 65, 103, 37, 61, 67, 163, 143, 176, 208, 202, 43, 203, 174, 123, 48, 180, 119, 203, 45, 163, 128, 48, 242, 12, 106, 66, 183, 59, 190, 172, 1, 250]⟩ ⟨#[66, 9, 149, 187, 161, 142, 100, 80]⟩ = 842960834 by decide +kernel]; rfl]
theorem fix_of (key X : ByteArray) (v : Nat) (hk : 4 ≤ key.size ∧ key.size ≤ 52) (hX : hashV key X = v) (w : World) : Calls Try.prog 7 #[.string key, .string X] w fun e w' => e = .returned (.tuple #[.int .u32 v, .int .i64 0]) ∧ Below w.heap.size w w' := by
  refine (hash_any key X w).mono fun e w' ⟨he, hw⟩ => ⟨?_, hw⟩
  rw [he, hashE, if_neg (by omega), hX]
theorem fix2 (w : World) : Calls Try.prog 7 #[.string ⟨#[109, 90, 86, 218, 37, 91, 14, 194, 65, 103, 37, 61, 67, 163, 143, 176, 208, 202, 43, 203, 174, 123, 48, 180, 119, 203, 45, 163, 128, 48, 242, 12, 106, 66, 183, 59, 190, 172, 1, 250]⟩, .string ((⟨#[66, 9, 149, 187, 161, 142, 100, 80]⟩ : ByteArray) ++ (⟨#[10, 234, 6, 230]⟩ : ByteArray))] w fun e w' => e = .returned (.tuple #[.int .u32 1372373368, .int .i64 0]) ∧ Below w.heap.size w w' :=
  fix_of _ _ 1372373368 (by decide) (by decide +kernel) w
theorem fix3 (w : World) : Calls Try.prog 7 #[.string ⟨#[97, 98, 99]⟩, .string ⟨#[66, 9, 149, 187, 161, 142, 100, 80]⟩] w fun e w' => e = .returned (.tuple #[.int .u32 0, .int .i64 30]) ∧ Below w.heap.size w w' := by
  refine (hash_any ⟨#[97, 98, 99]⟩ ⟨#[66, 9, 149, 187, 161, 142, 100, 80]⟩ w).mono fun e w' ⟨he, hw⟩ => ⟨?_, hw⟩
  rw [he, show hashE ⟨#[97, 98, 99]⟩ ⟨#[66, 9, 149, 187, 161, 142, 100, 80]⟩ = .tuple #[.int .u32 0, .int .i64 30] by unfold hashE; rw [if_pos (by decide)]]
theorem fix4 (w : World) : Calls Try.prog 10 #[.string ⟨#[109, 90, 86, 218, 37, 91, 14, 194, 65, 103, 37, 61, 67, 163, 143, 176, 208, 202, 43, 203, 174, 123, 48, 180, 119, 203, 45, 163, 128, 48, 242, 12, 106, 66, 183, 59, 190, 172, 1, 250]⟩, .int .i64 4] w fun e w' => e = .returned (.int .u32 3584388514) ∧ w = w' := by
  refine (window_any ⟨#[109, 90, 86, 218, 37, 91, 14, 194, 65, 103, 37, 61, 67, 163, 143, 176, 208, 202, 43, 203, 174, 123, 48, 180, 119, 203, 45, 163, 128, 48, 242, 12, 106, 66, 183, 59, 190, 172, 1, 250]⟩ 4 w (by decide) (by decide)).mono fun e w' ⟨he, hw⟩ => ⟨?_, hw⟩
  rw [he, show win ⟨#[109, 90, 86, 218, 37, 91, 14, 194, 65, 103, 37, 61, 67, 163, 143, 176, 208, 202, 43, 203, 174, 123, 48, 180, 119, 203, 45, 163, 128, 48, 242, 12, 106, 66, 183, 59, 190, 172, 1, 250]⟩ 4 = 3584388514 by decide +kernel]; rfl
theorem fix5 (w : World) : Calls Try.prog 10 #[.string ⟨#[109, 90, 86, 218, 37, 91, 14, 194, 65, 103, 37, 61, 67, 163, 143, 176, 208, 202, 43, 203, 174, 123, 48, 180, 119, 203, 45, 163, 128, 48, 242, 12, 106, 66, 183, 59, 190, 172, 1, 250]⟩, .int .i64 (-8)] w fun e w' => e = .returned (.int .u32 7166550) ∧ w = w' := by
  refine (window_any ⟨#[109, 90, 86, 218, 37, 91, 14, 194, 65, 103, 37, 61, 67, 163, 143, 176, 208, 202, 43, 203, 174, 123, 48, 180, 119, 203, 45, 163, 128, 48, 242, 12, 106, 66, 183, 59, 190, 172, 1, 250]⟩ (-8) w (by decide) (by decide)).mono fun e w' ⟨he, hw⟩ => ⟨?_, hw⟩
  rw [he, show win ⟨#[109, 90, 86, 218, 37, 91, 14, 194, 65, 103, 37, 61, 67, 163, 143, 176, 208, 202, 43, 203, 174, 123, 48, 180, 119, 203, 45, 163, 128, 48, 242, 12, 106, 66, 183, 59, 190, 172, 1, 250]⟩ (-8) = 7166550 by decide +kernel]; rfl

theorem bl {w w1 w2 : World} (h : Below w.heap.size w w1) (g : Below w1.heap.size w1 w2) : Below w.heap.size w w2 := h.trans (g.mono h.size)
theorem bla {w w1 : World} (h : Below w.heap.size w w1) (o : Obj) : Below w.heap.size w (w1.alloc o) := h.alloc h.size o

set_option maxHeartbeats 400000 in
theorem fixed_any (w : World) : Calls Try.prog 9 #[] w fun e w' => e = .returned (.bool true) ∧ Below w.heap.size w w' := by
  have hB := Below.refl w.heap.size w
  go_enter Try.func9, Try.ntmps9
  go_wp2_with (first
    | (go_at_call 7; ((with_reducible refine (fix1 _).mono ?_); rintro e w1 ⟨rfl, hq⟩; replace hB := bl hB hq; clear hq))
    | (go_at_call 7; ((with_reducible refine (fix3 _).mono ?_); rintro e w1 ⟨rfl, hq⟩; replace hB := bl hB hq; clear hq))
    | (go_at_call 7; ((with_reducible refine (fix2 _).mono ?_); rintro e w1 ⟨rfl, hq⟩; replace hB := bl hB hq; clear hq))
    | (go_at_call 10; ((with_reducible refine (fix4 _).mono ?_); rintro e w1 ⟨rfl, rfl⟩))
    | (go_at_call 10; ((with_reducible refine (fix5 _).mono ?_); rintro e w1 ⟨rfl, rfl⟩)))
  go_ret
  exact ⟨rfl, hB⟩
end Go.Proofs.Yteilbhdenheakaa

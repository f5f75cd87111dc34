/-
  What the document's On answers, for every sum and every string within the language's own length: the ones' sum of the string's words.
-/
import Derived.Test.YtpjndjmneficbaaCon
namespace Go.Proofs.Ytpjndjmneficbaa
open Go.RowKit

set_option maxHeartbeats 400000 in
theorem onr_any (n : Int) (s : ByteArray) (w : World) (h1 : 0 ≤ n) (h2 : n ≤ 65535) (hs : s.size < maxLen) :
    Calls Try.prog 81 #[.int .u16 n, .string s] w fun e w' => e = .returned (.int .u16 (onS n s)) ∧ w = w' := by
  unfold maxLen at hs
  go_enter Try.func81, Try.ntmps81
  go_wp2
  go_loop [5, 6] (fun v i => ∃ k : Nat, 2 * k ≤ s.size + 1 ∧ i = .int .i64 (2 * k) ∧ v = .int .i64 (onL n (s.data.toList.take (2 * k)))) (fun _ i => s.size + 1 - (intOf i).toNat)
  case atStart => exact ⟨0, by omega, rfl, rfl⟩
  case round =>
    obtain ⟨k, hk, rfl, rfl⟩ := hrel
    have hr := onL_range (s.data.toList.take (2 * k)) n h1 h2
    by_cases hlt : 2 * k < s.size
    · have hx1 : s[2 * k].toNat < 256 := s[2 * k].toNat_lt
      by_cases hlt2 : 2 * k + 1 < s.size
      · have hx2 : s[2 * k + 1].toNat < 256 := s[2 * k + 1].toNat_lt
        have hround := on_round s n k hlt2
        go_wp2_with (go_at_call 84; refine (ones_any _ _ _ hr.1 hr.2 (by omega) (by omega)).mono ?_; rintro e w3 ⟨rfl, rfl⟩)
        go_round
        case rel => exact ⟨k + 1, by omega, by go_num, by rw [hround, Int.mul_comm]⟩
        case measure => simp [intOf]; omega
      · have hend := on_end s n k (by omega)
        have hall : s.data.toList.take (2 * (k + 1)) = s.data.toList := by
          rw [List.take_of_length_le]; show s.size ≤ _; omega
        go_wp2_with (go_at_call 84; refine (ones_any _ _ _ hr.1 hr.2 (by omega) (by omega)).mono ?_; rintro e w3 ⟨rfl, rfl⟩)
        go_round
        case rel => exact ⟨k + 1, by omega, by go_num, by rw [hall, hend, Int.mul_comm]⟩
        case measure => simp [intOf]; omega
    · have hall : onL n (s.data.toList.take (2 * k)) = onS n s := by
        rw [List.take_of_length_le]; rfl
        show s.size ≤ _; omega
      rw [hall] at hr ⊢
      have hw := wraps_u16 (onS n s) hr.1 (by omega)
      go_wp2
      go_ret
      exact ⟨rfl, rfl⟩
end Go.Proofs.Ytpjndjmneficbaa

/-
  What addr's Port and By, and the document's, answer: for every input.
-/
import Derived.Test.YthknggabioadhaaBytes
namespace Go.Proofs.Ythknggabioadhaa
open Go.RowKit

theorem one_byte (W : World) (n : Nat) : (convert 33 9 (.slice (some ⟨W.heap.size, 0, none⟩) 1 1)).run Try.prog (W.alloc (.cells #[.int .u8 (n : Int)] 5)) = .ok (.string ⟨#[UInt8.ofNat n]⟩) (W.alloc (.cells #[.int .u8 (n : Int)] 5)) := by
  have h := run_convert_bytes_arg (P := Try.prog) (W.alloc (.cells #[.int .u8 (n : Int)] 5)) 33 5 Try.underlying33 Try.underlying5 W.heap.size 0 1 1 [(n : Int)] rfl (by
    intro i hi
    match i, hi with
    | 0, _ => simp) 9 Try.underlying9
  simpa [strOfNums] using h
theorem six_bytes (W : World) (n : Nat) : (convert 33 9 (.slice (some ⟨W.heap.size, 0, none⟩) 6 6)).run Try.prog (W.alloc (.cells #[.int .u8 2, .int .u8 97, .int .u8 113, .int .u8 0, .int .u8 0, .int .u8 (n : Int)] 5)) = .ok (.string ⟨#[2, 97, 113, 0, 0, UInt8.ofNat n]⟩) (W.alloc (.cells #[.int .u8 2, .int .u8 97, .int .u8 113, .int .u8 0, .int .u8 0, .int .u8 (n : Int)] 5)) := by
  have h := run_convert_bytes_arg (P := Try.prog) (W.alloc (.cells #[.int .u8 2, .int .u8 97, .int .u8 113, .int .u8 0, .int .u8 0, .int .u8 (n : Int)] 5)) 33 5 Try.underlying33 Try.underlying5 W.heap.size 0 6 6 [2, 97, 113, 0, 0, (n : Int)] rfl (by
    intro i hi
    match i, hi with
    | 0, _ => simp
    | 1, _ => simp
    | 2, _ => simp
    | 3, _ => simp
    | 4, _ => simp
    | 5, _ => simp) 9 Try.underlying9
  simpa [strOfNums] using h
theorem port_in (n : Nat) (w : World) (h : n < 16) :
    Calls Try.prog 15 #[.int .i64 n] w fun e w' => e = .returned (.string (portS n)) ∧ Below w.heap.size w w' := by
  rw [portS_in n (by omega) (by omega)]
  have hc := one_byte w n
  go_enter Try.func15, Try.ntmps15
  go_wp2
  go_ret
  exact ⟨rfl, (Below.refl _ _).alloc (Nat.le_refl _) _⟩
theorem portr_in (n : Nat) (w : World) (h : n < 16) :
    Calls Try.prog 16 #[.int .i64 n] w fun e w' => e = .returned (.string (portS n)) ∧ Below w.heap.size w w' := by
  rw [portS_in n (by omega) (by omega)]
  have hc := six_bytes w n
  go_enter Try.func16, Try.ntmps16
  go_wp2
  go_ret
  exact ⟨rfl, (Below.refl _ _).alloc (Nat.le_refl _) _⟩
theorem port_any (n : Int) (w : World) :
    Calls Try.prog 15 #[.int .i64 n] w fun e w' => e = .returned (.string (portS n)) ∧ Below w.heap.size w w' := by
  by_cases h0 : n < 0
  · rw [portS_out n (.inl h0)]
    go_enter Try.func15, Try.ntmps15
    go_wp2
    go_ret
    exact ⟨rfl, Below.refl _ _⟩
  · by_cases h1 : 16 ≤ n
    · rw [portS_out n (.inr h1)]
      go_enter Try.func15, Try.ntmps15
      go_wp2
      go_ret
      exact ⟨rfl, Below.refl _ _⟩
    · obtain ⟨k, rfl⟩ := Int.eq_ofNat_of_zero_le (by omega : 0 ≤ n)
      exact port_in k w (by omega)
theorem portr_any (n : Int) (w : World) :
    Calls Try.prog 16 #[.int .i64 n] w fun e w' => e = .returned (.string (portS n)) ∧ Below w.heap.size w w' := by
  by_cases h0 : n < 0
  · rw [portS_out n (.inl h0)]
    go_enter Try.func16, Try.ntmps16
    go_wp2
    go_ret
    exact ⟨rfl, Below.refl _ _⟩
  · by_cases h1 : 15 < n
    · rw [portS_out n (.inr (by omega))]
      go_enter Try.func16, Try.ntmps16
      go_wp2
      go_ret
      exact ⟨rfl, Below.refl _ _⟩
    · obtain ⟨k, rfl⟩ := Int.eq_ofNat_of_zero_le (by omega : 0 ≤ n)
      exact portr_in k w (by omega)
set_option maxHeartbeats 400000 in
theorem by_any (a : ByteArray) (w : World) :
    Calls Try.prog 17 #[.string a] w fun e w' => e = .returned (.int .i64 (byV a)) ∧ Below w.heap.size w w' := by
  go_enter Try.func17, Try.ntmps17
  go_wp2
  go_loopw [4] (fun i wr => ∃ k : Nat, k ≤ 16 ∧ (∀ j, j < k → portS (j : Nat) ≠ a) ∧ i = .int .i64 k ∧ Below w.heap.size w wr) (fun i _ => 16 - (intOf i).toNat)
  case atStart => exact ⟨0, by omega, fun j h => by omega, rfl, Below.refl _ _⟩
  case round =>
    obtain ⟨k, hk, hno, rfl, hB⟩ := hrel
    have HNO := Lib.hid hno
    clear hno
    by_cases hlt : k < 16
    · have hp := Lib.hid (fun w => port_in k w hlt)
      by_cases e : portS k = a
      · have HV := Lib.hid (byV_hit k hlt)
        rw [e] at HV hp
        clear e
        go_wp2_with (go_at_call 15; refine (hp.out _).mono ?_; rintro e w3 ⟨rfl, hq⟩)
        go_ret
        exact ⟨by rw [HV.out]; rfl, bl hB hq⟩
      · have e1 := str_ne e
        obtain ⟨S, hS⟩ : ∃ S, portS k = S := ⟨_, rfl⟩
        have e2 := Lib.hid e
        rw [hS] at hp e1
        clear hS e
        go_wp2_with (go_at_call 15; refine (hp.out _).mono ?_; rintro e w3 ⟨rfl, hq⟩)
        go_roundw
        case rel =>
          refine ⟨k + 1, by omega, fun j hj => ?_, by go_num, bl hB hq⟩
          by_cases ej : j = k
          · subst ej; exact e2.out
          · exact HNO.out j (by omega)
        case measure => simp [intOf]; omega
    · obtain rfl : k = 16 := by omega
      have HV := Lib.hid (byV_none a HNO.out)
      go_wp2
      go_ret
      exact ⟨by rw [HV.out]; rfl, hB⟩
set_option maxHeartbeats 400000 in
theorem byr_any (a : ByteArray) (w : World) :
    Calls Try.prog 18 #[.string a] w fun e w' => e = .returned (.int .i64 (byV a)) ∧ Below w.heap.size w w' := by
  go_enter Try.func18, Try.ntmps18
  go_wp2
  go_loopw [3] (fun i wr => ∃ k : Nat, k ≤ 16 ∧ (∀ j, j < k → portS (j : Nat) ≠ a) ∧ i = .int .i64 k ∧ Below w.heap.size w wr) (fun i _ => 16 - (intOf i).toNat)
  case atStart => exact ⟨0, by omega, fun j h => by omega, rfl, Below.refl _ _⟩
  case round =>
    obtain ⟨k, hk, hno, rfl, hB⟩ := hrel
    have HNO := Lib.hid hno
    clear hno
    by_cases hlt : k < 16
    · have hp := Lib.hid (fun w => portr_in k w hlt)
      by_cases e : portS k = a
      · have HV := Lib.hid (byV_hit k hlt)
        rw [e] at HV hp
        clear e
        go_wp2_with (go_at_call 16; refine (hp.out _).mono ?_; rintro e w3 ⟨rfl, hq⟩)
        go_ret
        exact ⟨by rw [HV.out]; rfl, bl hB hq⟩
      · have e1 := str_ne e
        obtain ⟨S, hS⟩ : ∃ S, portS k = S := ⟨_, rfl⟩
        have e2 := Lib.hid e
        rw [hS] at hp e1
        clear hS e
        go_wp2_with (go_at_call 16; refine (hp.out _).mono ?_; rintro e w3 ⟨rfl, hq⟩)
        go_roundw
        case rel =>
          refine ⟨k + 1, by omega, fun j hj => ?_, by go_num, bl hB hq⟩
          by_cases ej : j = k
          · subst ej; exact e2.out
          · exact HNO.out j (by omega)
        case measure => simp [intOf]; omega
    · obtain rfl : k = 16 := by omega
      have HV := Lib.hid (byV_none a HNO.out)
      go_wp2
      go_ret
      exact ⟨by rw [HV.out]; rfl, hB⟩
end Go.Proofs.Ythknggabioadhaa

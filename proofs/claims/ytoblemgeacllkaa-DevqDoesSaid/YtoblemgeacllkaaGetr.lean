/-
  What the document's own Get answers, for every string within the language's own length and all numbers: the same as words.Get.
-/
import Derived.Test.YtoblemgeacllkaaGet
namespace Go.Proofs.Ytoblemgeacllkaa
open Go.RowKit

set_option maxHeartbeats 400000 in
theorem getr_big (s : ByteArray) (a n : Nat) (w : World) (hs : s.size ≤ maxLen) (h1 : 1 ≤ n) (h2 : n ≤ 8) (h4 : a + n ≤ s.size) :
    Calls Try.prog 90 #[.string s, .int .i64 a, .int .i64 n, .bool true] w fun e w' => e = .returned (.tuple #[.int .u64 (dec (cutl s a n) true), .int .i64 0]) ∧ w = w' := by
  unfold maxLen at hs
  go_enter Try.func90, Try.ntmps90
  go_wp2
  go_loop [10, 11] (fun v i => ∃ k : Nat, k ≤ n ∧ i = .int .i64 k ∧ v = .int .u64 (accR (cutl s a n) n k true)) (fun _ i => n - (intOf i).toNat)
  case atStart => exact ⟨0, Nat.zero_le _, rfl, by rw [accR_zero _ _ _ (cutl_length s a n h4)]; rfl⟩
  case round =>
    obtain ⟨k, hk, rfl, rfl⟩ := hrel
    by_cases hlt : k < n
    · have hr := accR_round s a n k true h4 hlt
      have hl := accR_lt (cutl s a n) n k true (cutl_length s a n h4) hlt h2
      have hc : s[a + k].toNat < 256 := s[a + k].toNat_lt
      have HR := Lib.hid hr
      clear hr
      go_wp2
      go_round
      case rel => exact ⟨k + 1, by omega, by go_num, by rw [HR.out]; go_num⟩
      case measure => simp [intOf]; omega
    · go_wp2
      go_ret2
      obtain rfl : k = n := by omega
      rw [accR_all _ _ _ (cutl_length s a k h4)]
      exact ⟨rfl, rfl⟩
set_option maxHeartbeats 400000 in
theorem getr_low (s : ByteArray) (a n : Nat) (w : World) (hs : s.size ≤ maxLen) (h1 : 1 ≤ n) (h2 : n ≤ 8) (h4 : a + n ≤ s.size) :
    Calls Try.prog 90 #[.string s, .int .i64 a, .int .i64 n, .bool false] w fun e w' => e = .returned (.tuple #[.int .u64 (dec (cutl s a n) false), .int .i64 0]) ∧ w = w' := by
  unfold maxLen at hs
  go_enter Try.func90, Try.ntmps90
  go_wp2
  go_loop [10, 11] (fun v i => ∃ k : Nat, k ≤ n ∧ i = .int .i64 k ∧ v = .int .u64 (accR (cutl s a n) n k false)) (fun _ i => n - (intOf i).toNat)
  case atStart => exact ⟨0, Nat.zero_le _, rfl, by rw [accR_zero _ _ _ (cutl_length s a n h4)]; rfl⟩
  case round =>
    obtain ⟨k, hk, rfl, rfl⟩ := hrel
    by_cases hlt : k < n
    · have hr := accR_round s a n k false h4 hlt
      have hl := accR_lt (cutl s a n) n k false (cutl_length s a n h4) hlt h2
      obtain ⟨m, hm⟩ : ∃ m : Nat, m = a + (n - 1 - k) := ⟨_, rfl⟩
      have hml : m < s.size := by omega
      have em : (a : Int) + n - 1 - k = m := by omega
      have hc : s[m].toNat < 256 := s[m].toNat_lt
      have HR := Lib.hid (show accR (cutl s a n) n (k + 1) false = accR (cutl s a n) n k false * 256 + s[m].toNat by subst hm; exact hr)
      clear hr hm
      go_wp2
      go_round
      case rel => exact ⟨k + 1, by omega, by go_num, by rw [HR.out]; go_num⟩
      case measure => simp [intOf]; omega
    · go_wp2
      go_ret2
      obtain rfl : k = n := by omega
      rw [accR_all _ _ _ (cutl_length s a k h4)]
      exact ⟨rfl, rfl⟩
theorem getr_size (s : ByteArray) (a n : Int) (big : Bool) (w : World) (h : n < 1 ∨ 8 < n) :
    Calls Try.prog 90 #[.string s, .int .i64 a, .int .i64 n, .bool big] w fun e w' => e = .returned (.tuple #[.int .u64 0, .int .i64 1]) ∧ w = w' := by
  rcases h with h | h
  · go_enter Try.func90, Try.ntmps90
    go_wp2
    go_ret2
    exact ⟨rfl, rfl⟩
  · have h' : ¬ n < 1 := by omega
    go_enter Try.func90, Try.ntmps90
    go_wp2
    go_ret2
    exact ⟨rfl, rfl⟩
theorem getr_at (s : ByteArray) (a n : Int) (big : Bool) (w : World) (hs : s.size ≤ maxLen) (h1 : 1 ≤ n) (h2 : n ≤ 8) (h : a < 0 ∨ (s.size : Int) < a + n) :
    Calls Try.prog 90 #[.string s, .int .i64 a, .int .i64 n, .bool big] w fun e w' => e = .returned (.tuple #[.int .u64 0, .int .i64 10]) ∧ w = w' := by
  unfold maxLen at hs
  by_cases h0 : a < 0
  · clear h
    go_enter Try.func90, Try.ntmps90
    go_wp2
    go_ret2
    exact ⟨rfl, rfl⟩
  · have h3 : (s.size : Int) - n < a := by omega
    clear h
    go_enter Try.func90, Try.ntmps90
    go_wp2
    go_ret2
    exact ⟨rfl, rfl⟩
theorem getr_any (s : ByteArray) (a n : Int) (big : Bool) (w : World) (hs : s.size ≤ maxLen) :
    Calls Try.prog 90 #[.string s, .int .i64 a, .int .i64 n, .bool big] w fun e w' => e = .returned (.tuple #[.int .u64 (getV s a n big), .int .i64 (getE s a n)]) ∧ w = w' := by
  by_cases h1 : 1 ≤ n ∧ n ≤ 8
  · by_cases h2 : 0 ≤ a ∧ a + n ≤ s.size
    · obtain ⟨k, rfl⟩ := Int.eq_ofNat_of_zero_le (show 0 ≤ n by omega)
      obtain ⟨b, rfl⟩ := Int.eq_ofNat_of_zero_le h2.1
      have hv : getV s b k big = (dec (cutl s b k) big : Int) := by rw [getV, if_pos ⟨h1.1, h1.2, h2.1, h2.2⟩]; rfl
      have he : getE s b k = 0 := by rw [getE, if_pos h1, if_pos h2]
      rw [hv, he]
      cases big
      · exact getr_low s b k w hs (by omega) (by omega) (by omega)
      · exact getr_big s b k w hs (by omega) (by omega) (by omega)
    · refine (getr_at s a n big w hs h1.1 h1.2 (by omega)).mono fun e w' ⟨he, hw⟩ => ⟨?_, hw⟩
      rw [he, getV, getE, if_neg (by omega), if_pos h1, if_neg h2]
  · refine (getr_size s a n big w (by omega)).mono fun e w' ⟨he, hw⟩ => ⟨?_, hw⟩
    rw [he, getV, getE, if_neg (by omega), if_neg h1]
end Go.Proofs.Ytoblemgeacllkaa

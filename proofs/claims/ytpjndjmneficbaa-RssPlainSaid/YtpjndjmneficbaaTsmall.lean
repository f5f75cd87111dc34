/-
  What toeplitz's byteAt and Window, and the document's Bit, Window and Hash, answer: for every key and string within the language's own reach.
-/
import Derived.Test.YtpjndjmneficbaaRows
import Derived.WalkKit
import Derived.WalkSpells
import Derived.WalkLawsBesides
import Derived.Test.YtpjndjmneficbaaTmath
import Derived.Deep.QuietTactic
import Derived.BigQuiet
namespace Go.Proofs.Ytpjndjmneficbaa
open Go.RowKit

theorem byteAt_any (s : ByteArray) (i : Int) (w : World) :
    Calls Try.prog 80 #[.string s, .int .i64 i] w fun e w' => e = .returned (.int .u8 (byteZ s i)) ∧ w = w' := by
  by_cases h0 : i < 0
  · rw [byteZ_out s i (.inl h0)]
    go_enter Try.func80, Try.ntmps80
    go_wp2
    go_ret
    exact ⟨rfl, rfl⟩
  · obtain ⟨k, rfl⟩ := Int.eq_ofNat_of_zero_le (by omega : 0 ≤ i)
    by_cases h1 : k < s.size
    · rw [byteZ_in s k h1]
      go_enter Try.func80, Try.ntmps80
      go_wp2
      go_ret
      exact ⟨rfl, rfl⟩
    · rw [byteZ_out s k (.inr (by omega))]
      go_enter Try.func80, Try.ntmps80
      go_wp2
      go_ret
      exact ⟨rfl, rfl⟩

theorem low3 (n : Int) : bits .and .i64 n 7 = n % 8 := by
  have e : (BitVec.ofInt 64 7).toNat = 2 ^ 3 - 1 := by decide
  have k : (BitVec.ofInt 64 n &&& BitVec.ofInt 64 7).toNat = (n % ((2 ^ 64 : Nat) : Int)).toNat % 2 ^ 3 := by
    rw [BitVec.toNat_and, BitVec.toNat_ofInt, e, Nat.and_two_pow_sub_one_eq_mod]
  show IntKind.i64.wrap ((BitVec.ofInt 64 n &&& BitVec.ofInt 64 7).toNat : Nat) = n % 8
  rw [k, IntKind.wrap_i64]
  omega
theorem five_next (s : ByteArray) (q : Int) (k : Nat) (h : k < 5) :
    bits .or .u64 (IntKind.u64.wrap ((five s q k : Int) * 256)) (byteZ s (q + k)) = (five s q (k + 1) : Nat) := by
  have hv := five_lt s q k
  have hb := byteZ_lt s (q + k)
  have hp : 256 ^ k ≤ 256 ^ 4 := Nat.pow_le_pow_right (by omega) (by omega)
  have hp4 : 256 ^ 4 = 4294967296 := by decide
  rw [hp4] at hp
  have e : IntKind.u64.wrap ((five s q k : Int) * 256) = (five s q k : Int) * 256 := by rw [IntKind.wrap_u64]; omega
  rw [e, bits_join .u64 64 (by decide) wraps_u64 8 _ _ (by omega) (by omega) (by omega) (by omega) (by omega) (by omega)]
  simp only [five]
  omega

set_option maxHeartbeats 1000000 in
theorem window_any (s : ByteArray) (bit : Int) (w : World) (h1 : -9223372036854775808 ≤ bit) (h2 : bit ≤ 9223372036854775807) :
    Calls Try.prog 70 #[.string s, .int .i64 bit] w fun e w' => e = .returned (.int .u32 (win s bit)) ∧ w = w' := by
  obtain ⟨R, hR, eR, eRn⟩ : ∃ R : Nat, R < 8 ∧ bits .and .i64 bit 7 = (R : Int) ∧ (bit % 8).toNat = R := ⟨(bit % 8).toNat, by omega, by rw [low3]; omega, rfl⟩
  go_enter Try.func70, Try.ntmps70
  go_wp2
  go_loop [5, 7] (fun v i => ∃ k : Nat, k ≤ 5 ∧ i = .int .i64 k ∧ v = .int .u64 (five s (bit / 8) k)) (fun _ i => 5 - (intOf i).toNat)
  case atStart => exact ⟨0, by omega, rfl, rfl⟩
  case round =>
    obtain ⟨k, hk, rfl, rfl⟩ := hrel
    have hv := five_lt s (bit / 8) k
    by_cases hlt : k < 5
    · have hb := byteZ_lt s (bit / 8 + k)
      have hn := five_next s (bit / 8) k hlt
      go_wp2_with (go_at_call 80; refine (byteAt_any _ _ _).mono ?_; rintro e w3 ⟨rfl, rfl⟩)
      go_round
      case rel => exact ⟨k + 1, by omega, by go_num, rfl⟩
      case measure => simp [intOf]; omega
    · obtain rfl : k = 5 := by omega
      have hw : win s bit = five s (bit / 8) 5 / 2 ^ (8 - R) % 4294967296 := by unfold win; rw [eRn]
      have h40 : 256 ^ 5 = 1099511627776 := by decide
      rw [h40] at hv
      have hr : R = 0 ∨ R = 1 ∨ R = 2 ∨ R = 3 ∨ R = 4 ∨ R = 5 ∨ R = 6 ∨ R = 7 := by omega
      rcases hr with rfl | rfl | rfl | rfl | rfl | rfl | rfl | rfl
      all_goals (go_wp2; go_ret; refine ⟨?_, rfl⟩; first | rfl | (show Ending.returned (.int .u32 _) = Ending.returned (.int .u32 _); congr 2; omega))

/-- a byte, halved so often -/
theorem halved (c : Int) (j : Nat) : c / 2 ^ j / 2 = c / 2 ^ (j + 1) := by
  rw [Int.pow_succ, Int.ediv_ediv_of_nonneg (Int.pow_nonneg (by decide))]

set_option maxHeartbeats 400000 in
theorem bitr_any (s : ByteArray) (n : Int) (w : World) (hs : s.size ≤ 140737488351232) :
    Calls Try.prog 42 #[.string s, .int .i64 n] w fun e w' => e = .returned (.int .i64 (bitZ s n)) ∧ w = w' := by
  by_cases h0 : n < 0
  · rw [bitZ_out s n (.inl h0)]
    go_enter Try.func42, Try.ntmps42
    go_wp2
    go_ret
    exact ⟨rfl, rfl⟩
  · obtain ⟨k, rfl⟩ := Int.eq_ofNat_of_zero_le (by omega : 0 ≤ n)
    by_cases h1 : k < 8 * s.size
    · have hq : k / 8 < s.size := by omega
      have hb : bitZ s k = s[k / 8].toNat / 2 ^ (7 - k % 8) % 2 := by
        unfold bitZ
        have e1 : (k : Int) / 8 = ((k / 8 : Nat) : Int) := by omega
        have e2 : ((k : Int) % 8).toNat = k % 8 := by omega
        rw [e1, e2, byteZ_in s _ hq]
      have hc : s[k / 8].toNat < 256 := UInt8.toNat_lt _
      go_enter Try.func42, Try.ntmps42
      go_wp2
      go_loop [5, 6] (fun v i => ∃ j V : Nat, j ≤ 7 - k % 8 ∧ V = s[k / 8].toNat / 2 ^ j ∧ i = .int .i64 ((k : Int) % 8 + j) ∧ v = .int .i64 V) (fun _ i => 7 - (intOf i).toNat)
      case atStart => exact ⟨0, s[k / 8].toNat, by omega, by simp, by simp, rfl⟩
      case round =>
        obtain ⟨j, V, hj, hV, rfl, rfl⟩ := hrel
        have hV2 : V < 256 := by rw [hV]; exact Nat.lt_of_le_of_lt (Nat.div_le_self _ _) hc
        by_cases hlt : j < 7 - k % 8
        · have hV3 : V / 2 = s[k / 8].toNat / 2 ^ (j + 1) := by rw [hV, Nat.pow_succ, Nat.div_div_eq_div_mul]
          clear hV hb hc
          go_wp2
          go_round
          case rel => exact ⟨j + 1, V / 2, by omega, hV3, by go_num, by go_num⟩
          case measure => simp [intOf]; omega
        · obtain rfl : j = 7 - k % 8 := by omega
          have hb2 : (bitZ s k : Int) = V % 2 := by rw [hb, ← hV]; simp
          clear hV hc hb
          go_wp2
          go_ret
          exact ⟨rfl, rfl⟩
    · rw [bitZ_out s k (.inr (by omega))]
      go_enter Try.func42, Try.ntmps42
      go_wp2
      go_ret
      exact ⟨rfl, rfl⟩

set_option maxHeartbeats 400000 in
theorem windowr_any (s : ByteArray) (a : Int) (w : World) (hs : s.size ≤ 140737488351232) :
    Calls Try.prog 43 #[.string s, .int .i64 a] w fun e w' => e = .returned (.int .u32 (win s a)) ∧ w = w' := by
  by_cases h0 : a < -40
  · rw [win_out s a (.inl (by omega))]
    go_enter Try.func43, Try.ntmps43
    go_wp2
    go_ret
    exact ⟨rfl, rfl⟩
  · by_cases h1 : a ≤ 8 * s.size
    · go_enter Try.func43, Try.ntmps43
      go_wp2
      go_loop [5, 6] (fun v i => ∃ j : Nat, j ≤ 32 ∧ i = .int .i64 j ∧ v = .int .i64 (foldB s a j)) (fun _ i => 32 - (intOf i).toNat)
      case atStart => exact ⟨0, by omega, rfl, rfl⟩
      case round =>
        obtain ⟨j, hj, rfl, rfl⟩ := hrel
        have hf : foldB s a j < 4294967296 := by
          rw [foldB_eq s a j hj]
          have h2 : 2 ^ j ≤ 2 ^ 32 := Nat.pow_le_pow_right (by omega) hj
          exact Nat.lt_of_lt_of_le (Nat.mod_lt _ (Nat.two_pow_pos j)) h2
        by_cases hlt : j < 32
        · have hb := bitZ_le s (a + j)
          have hn : (foldB s a (j + 1) : Int) = 2 * foldB s a j + bitZ s (a + j) := by simp [foldB]
          go_wp2_with (go_at_call 42; refine (bitr_any _ _ _ hs).mono ?_; rintro e w3 ⟨rfl, rfl⟩)
          go_round
          case rel => exact ⟨j + 1, by omega, by go_num, by rw [hn]⟩
          case measure => simp [intOf]; omega
        · obtain rfl : j = 32 := by omega
          rw [foldB_win] at hf ⊢
          go_wp2
          go_ret
          exact ⟨rfl, rfl⟩
    · rw [win_out s a (.inr (by omega))]
      go_enter Try.func43, Try.ntmps43
      go_wp2
      go_ret
      exact ⟨rfl, rfl⟩

/-- the answer of Hash -/
def hashE (key s : ByteArray) : Value := if key.size < 4 ∨ 52 < key.size then .tuple #[.int .u32 0, .int .i64 30] else .tuple #[.int .u32 (hashV key s), .int .i64 0]

set_option maxHeartbeats 400000 in
theorem hashr_any (key s : ByteArray) (w : World) (hs : s.size ≤ 200) :
    Calls Try.prog 29 #[.string key, .string s] w fun e w' => e = .returned (hashE key s) ∧ w = w' := by
  unfold hashE
  by_cases h0 : key.size < 4
  · rw [if_pos (.inl h0)]
    go_enter Try.func29, Try.ntmps29
    go_wp2
    go_ret2
    exact ⟨rfl, rfl⟩
  · by_cases h1 : 52 < key.size
    · rw [if_pos (.inr h1)]
      go_enter Try.func29, Try.ntmps29
      go_wp2
      go_ret2
      exact ⟨rfl, rfl⟩
    · rw [if_neg (by omega)]
      have hk : key.size ≤ 140737488351232 := by omega
      have hs' : s.size ≤ 140737488351232 := by omega
      go_enter Try.func29, Try.ntmps29
      go_wp2
      go_loop [6, 7] (fun v i => ∃ j : Nat, j ≤ 8 * s.size ∧ i = .int .i64 j ∧ v = .int .u32 (hashN (fun n => win key n) (bitB s) j)) (fun _ i => 8 * s.size - (intOf i).toNat)
      case atStart => exact ⟨0, by omega, rfl, rfl⟩
      case round =>
        obtain ⟨j, hj, rfl, rfl⟩ := hrel
        have hf := hashN_lt (fun n => win key n) (bitB s) (fun _ => win_lt _ _) j
        have hwl := win_lt key j
        have hx := u32_xor_nat _ _ hf hwl
        by_cases hlt : j < 8 * s.size
        · by_cases hb : bitZ s j = 1
          · have hn : hashN (fun n => win key n) (bitB s) (j + 1) = hashN (fun n => win key n) (bitB s) j ^^^ win key j := by simp [hashN, bitB, hb]
            go_wp2_with (first
              | (go_at_call 42; refine (bitr_any _ _ _ hs').mono ?_; rintro e w3 ⟨rfl, rfl⟩)
              | (go_at_call 43; refine (windowr_any _ _ _ hk).mono ?_; rintro e w3 ⟨rfl, rfl⟩))
            go_round
            case rel => exact ⟨j + 1, by omega, by go_num, by rw [hn]⟩
            case measure => simp [intOf]; omega
          · have hb0 : bitZ s j = 0 := by have := bitZ_le s j; omega
            have hn : hashN (fun n => win key n) (bitB s) (j + 1) = hashN (fun n => win key n) (bitB s) j := by simp [hashN, bitB, hb]
            go_wp2_with (first
              | (go_at_call 42; refine (bitr_any _ _ _ hs').mono ?_; rintro e w3 ⟨rfl, rfl⟩))
            go_round
            case rel => exact ⟨j + 1, by omega, by go_num, by rw [hn]⟩
            case measure => simp [intOf]; omega
        · obtain rfl : j = 8 * s.size := by omega
          go_wp2
          go_ret2
          exact ⟨rfl, rfl⟩
end Go.Proofs.Ytpjndjmneficbaa

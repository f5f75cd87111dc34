/-
  Hashes: what the package toeplitz and its document answer.
-/
import Derived.Lib.EndianBits
import Derived.Test.YtpelohmondhiiaaRows
import Derived.WalkKit
import Derived.WalkSpells
import Derived.WalkLawsBesides
import Derived.Deep.QuietTactic
import Derived.BigQuiet
import Derived.RangeFuncNested
import Derived.RangeFuncBound
import Derived.RangeFuncCalls
import Derived.RangeFuncLeaves
import Derived.RangeFuncBox
import Derived.Shelf.Abstract
import Derived.Shelf.RegionOpen
import Derived.OwnWalkIn
import Derived.TacticsInMore
import Derived.LoopNIn
import Derived.LoopIn
namespace Go.Proofs.Ytpelohmondhiiaa

/-- a byte of bytes: 0 outside of them -/
def byteZ (s : ByteArray) (i : Int) : Nat := if h : 0 ≤ i ∧ i < s.size then (s[i.toNat]'(by omega)).toNat else 0
/-- a bit of bytes: 0 outside of them -/
def bitZ (s : ByteArray) (n : Int) : Nat := byteZ s (n / 8) / 2 ^ (7 - (n % 8).toNat) % 2
/-- the number of so many bytes from a place on -/
def five (s : ByteArray) (j : Int) : Nat → Nat
  | 0 => 0
  | k + 1 => 256 * five s j k + byteZ s (j + k)
def win (s : ByteArray) (bit : Int) : Nat := five s (bit / 8) 5 / 2 ^ (8 - (bit % 8).toNat) % 4294967296
def foldB (s : ByteArray) (a : Int) : Nat → Nat
  | 0 => 0
  | i + 1 => 2 * foldB s a i + bitZ s (a + i)
def hashN (f : Nat → Nat) (b : Nat → Bool) : Nat → Nat
  | 0 => 0
  | n + 1 => if b n then hashN f b n ^^^ f n else hashN f b n
def bitB (s : ByteArray) (n : Nat) : Bool := bitZ s n == 1
def hashV (key s : ByteArray) : Nat := hashN (fun n => win key n) (bitB s) (8 * s.size)

theorem byteZ_lt (s : ByteArray) (i : Int) : byteZ s i < 256 := by
  unfold byteZ
  split
  · exact UInt8.toNat_lt _
  · omega
theorem byteZ_in (s : ByteArray) (k : Nat) (h : k < s.size) : byteZ s k = s[k].toNat := by
  unfold byteZ
  rw [dif_pos ⟨by omega, by omega⟩]
  rfl
theorem byteZ_out (s : ByteArray) (i : Int) (h : i < 0 ∨ s.size ≤ i) : byteZ s i = 0 := by
  unfold byteZ
  rw [dif_neg (by omega)]
theorem bitZ_le (s : ByteArray) (n : Int) : bitZ s n ≤ 1 := by
  unfold bitZ
  have := Nat.mod_lt (byteZ s (n / 8) / 2 ^ (7 - (n % 8).toNat)) (y := 2) (by omega)
  omega
theorem bitZ_out (s : ByteArray) (n : Int) (h : n < 0 ∨ 8 * (s.size : Int) ≤ n) : bitZ s n = 0 := by
  unfold bitZ
  rw [byteZ_out s _ (by omega)]
  simp
theorem five_bits (s : ByteArray) (q : Int) (m : Nat) (h : m < 40) : five s q 5 / 2 ^ (39 - m) % 2 = bitZ s (8 * q + m) := by
  have h0 := byteZ_lt s (q + (0 : Nat))
  have h1 := byteZ_lt s (q + (1 : Nat))
  have h2 := byteZ_lt s (q + (2 : Nat))
  have h3 := byteZ_lt s (q + (3 : Nat))
  have h4 := byteZ_lt s (q + (4 : Nat))
  have key : ∀ (c t : Nat), m = 8 * c + t → t < 8 → c < 5 → bitZ s (8 * q + m) = byteZ s (q + c) / 2 ^ (7 - t) % 2 := by
    intro c t e ht hc
    unfold bitZ
    have e1 : (8 * q + (m : Int)) / 8 = q + c := by omega
    have e2 : ((8 * q + (m : Int)) % 8).toNat = t := by omega
    rw [e1, e2]
  have hm : m = 8 * (m / 8) + m % 8 := by omega
  rw [key (m / 8) (m % 8) hm (by omega) (by omega)]
  have hc : m / 8 = 0 ∨ m / 8 = 1 ∨ m / 8 = 2 ∨ m / 8 = 3 ∨ m / 8 = 4 := by omega
  have ht : m % 8 = 0 ∨ m % 8 = 1 ∨ m % 8 = 2 ∨ m % 8 = 3 ∨ m % 8 = 4 ∨ m % 8 = 5 ∨ m % 8 = 6 ∨ m % 8 = 7 := by omega
  simp only [five, Nat.mul_zero, Nat.zero_add]
  generalize m / 8 = c at *
  generalize m % 8 = t at *
  subst hm
  rcases hc with rfl | rfl | rfl | rfl | rfl <;> rcases ht with rfl | rfl | rfl | rfl | rfl | rfl | rfl | rfl <;> simp only [Nat.reducePow, Nat.reduceSub, Nat.reduceMul, Nat.reduceAdd, Nat.mul_zero, Nat.zero_add, Nat.add_zero, Nat.sub_zero] <;> omega
theorem five_lt (s : ByteArray) (q : Int) : ∀ k : Nat, five s q k < 256 ^ k
  | 0 => by simp [five]
  | k + 1 => by
    have := five_lt s q k
    have := byteZ_lt s (q + k)
    simp only [five]
    rw [Nat.pow_succ]
    omega
theorem foldB_eq (s : ByteArray) (a : Int) : ∀ i : Nat, i ≤ 32 → foldB s a i = five s (a / 8) 5 / 2 ^ (40 - (a % 8).toNat - i) % 2 ^ i
  | 0, _ => by simp [foldB, Nat.mod_one]
  | i + 1, h => by
    have hr : (a % 8).toNat < 8 := by omega
    have hb := five_bits s (a / 8) ((a % 8).toNat + i) (by omega)
    have e : 8 * (a / 8) + (((a % 8).toNat + i : Nat) : Int) = a + i := by omega
    rw [e] at hb
    simp only [foldB]
    rw [foldB_eq s a i (by omega), ← hb]
    generalize five s (a / 8) 5 = X
    have e1 : 40 - (a % 8).toNat - i = 39 - ((a % 8).toNat + i) + 1 := by omega
    have e2 : 40 - (a % 8).toNat - (i + 1) = 39 - ((a % 8).toNat + i) := by omega
    rw [e1, e2, Nat.pow_succ, ← Nat.div_div_eq_div_mul]
    generalize X / 2 ^ (39 - ((a % 8).toNat + i)) = Y
    rw [Nat.pow_succ, Nat.mul_comm (2 ^ i) 2, Nat.mod_mul]
    omega
theorem foldB_win (s : ByteArray) (a : Int) : foldB s a 32 = win s a := by
  rw [foldB_eq s a 32 (by omega)]
  unfold win
  have : 40 - (a % 8).toNat - 32 = 8 - (a % 8).toNat := by omega
  rw [this]
theorem win_lt (s : ByteArray) (a : Int) : win s a < 4294967296 := Nat.mod_lt _ (by omega)
theorem win_out (s : ByteArray) (a : Int) (h : a < -39 ∨ 8 * (s.size : Int) ≤ a) : win s a = 0 := by
  unfold win
  simp only [five]
  rw [byteZ_out s _ (by omega), byteZ_out s _ (by omega), byteZ_out s _ (by omega), byteZ_out s _ (by omega), byteZ_out s _ (by omega)]
  simp
/-- the next window is this one, shifted -/
theorem win_next (s : ByteArray) (a : Int) : win s (a + 1) / 2 = win s a % 2147483648 := by
  have h : ∀ i : Nat, i ≤ 31 → foldB s (a + 1) i = foldB s a (i + 1) % 2 ^ i := by
    intro i
    induction i with
    | zero => intro _; simp [foldB, Nat.mod_one]
    | succ i ih =>
      intro hi
      have e : a + 1 + (i : Int) = a + ((i + 1 : Nat) : Int) := by omega
      have hb := bitZ_le s (a + ((i + 1 : Nat) : Int))
      simp only [foldB, e]
      rw [ih (by omega)]
      have := bitZ_le s (a + (i : Int))
      simp only [foldB]
      rw [Nat.pow_succ, Nat.mul_comm (2 ^ i) 2, Nat.mod_mul]
      generalize bitZ s (a + ((i + 1 : Nat) : Int)) = y at *
      generalize 2 * foldB s a i + bitZ s (a + (i : Int)) = X at *
      have e1 : (2 * X + y) / 2 = X := by omega
      rw [e1]
      omega
  have h31 := h 31 (by omega)
  rw [show foldB s a (31 + 1) = win s a from foldB_win s a] at h31
  have h32 : foldB s (a + 1) 32 = win s (a + 1) := foldB_win s (a + 1)
  have hb := bitZ_le s (a + 1 + (31 : Nat))
  rw [show foldB s (a + 1) 32 = 2 * foldB s (a + 1) 31 + bitZ s (a + 1 + (31 : Nat)) from rfl, h31] at h32
  rw [← h32]
  have : 2 ^ 31 = 2147483648 := by decide
  rw [this]
  omega

/-! the hash -/
theorem hashN_lt (f : Nat → Nat) (b : Nat → Bool) (hf : ∀ n, f n < 4294967296) : ∀ n, hashN f b n < 4294967296
  | 0 => by simp [hashN]
  | n + 1 => by
    simp only [hashN]
    split
    · exact Nat.xor_lt_two_pow (n := 32) (hashN_lt f b hf n) (hf n)
    · exact hashN_lt f b hf n
theorem hashV_lt (key s : ByteArray) : hashV key s < 4294967296 := hashN_lt _ _ (fun _ => win_lt _ _) _
theorem hashN_congr (f g : Nat → Nat) (b c : Nat → Bool) : ∀ n, (∀ i, i < n → b i = c i) → (∀ i, i < n → f i = g i) → hashN f b n = hashN g c n
  | 0, _, _ => rfl
  | n + 1, h, k => by
    simp only [hashN]
    rw [hashN_congr f g b c n (fun i hi => h i (by omega)) (fun i hi => k i (by omega)), h n (by omega), k n (by omega)]
/-- what is beyond makes no difference, if no bit is 1 there, or all windows are 0 -/
theorem hashN_more (f : Nat → Nat) (b : Nat → Bool) (n : Nat) : ∀ m, (∀ i, n ≤ i → i < n + m → b i = false ∨ f i = 0) → hashN f b (n + m) = hashN f b n
  | 0, _ => rfl
  | m + 1, h => by
    show hashN f b (n + m + 1) = _
    simp only [hashN]
    rw [hashN_more f b n m (fun i h1 h2 => h i h1 (by omega))]
    rcases h (n + m) (by omega) (by omega) with e | e
    · rw [e]; simp
    · rw [e]; simp
theorem hashN_upto (f : Nat → Nat) (b : Nat → Bool) (n m : Nat) (hm : n ≤ m) (h : ∀ i, n ≤ i → i < m → b i = false ∨ f i = 0) : hashN f b m = hashN f b n := by
  obtain ⟨k, rfl⟩ : ∃ k, m = n + k := ⟨m - n, by omega⟩
  exact hashN_more f b n k h
theorem hashN_linear (f : Nat → Nat) (b c d : Nat → Bool) : ∀ n, (∀ i, i < n → d i = (b i != c i)) → hashN f d n = hashN f b n ^^^ hashN f c n
  | 0, _ => by simp [hashN]
  | n + 1, h => by
    have ih := hashN_linear f b c d n (fun i hi => h i (by omega))
    simp only [hashN, ih, h n (by omega)]
    cases b n <;> cases c n <;> simp
    · rw [Nat.xor_assoc]
    · rw [Nat.xor_assoc, Nat.xor_assoc, Nat.xor_comm (hashN f c n)]
    · rw [Nat.xor_assoc, Nat.xor_comm (f n), Nat.xor_assoc, Nat.xor_self, Nat.xor_zero]
theorem hashN_zero (f : Nat → Nat) (b : Nat → Bool) (n : Nat) (h : ∀ i, i < n → b i = false) : hashN f b n = 0 := by
  have := hashN_more f b 0 n (fun i _ hi => .inl (h i (by omega)))
  simpa [hashN] using this
theorem hashN_one (f : Nat → Nat) (b : Nat → Bool) (n k : Nat) (hk : k < n) (h1 : b k = true) (h : ∀ i, i < n → i ≠ k → b i = false) : hashN f b n = f k := by
  rw [hashN_upto f b (k + 1) n (by omega) (fun i hi hj => .inl (h i hj (by omega)))]
  simp only [hashN, h1, if_true]
  rw [hashN_zero f b k (fun i hi => h i (by omega) (by omega))]
  simp
end Go.Proofs.Ytpelohmondhiiaa
namespace Go.Proofs.Ytpelohmondhiiaa
open Go.RowKit

theorem byteAt_any (s : ByteArray) (i : Int) (w : World) :
    Calls Try.prog 85 #[.string s, .int .i64 i] w fun e w' => e = .returned (.int .u8 (byteZ s i)) ∧ w = w' := by
  by_cases h0 : i < 0
  · rw [byteZ_out s i (.inl h0)]
    go_enter Try.func85, Try.ntmps85
    go_wp2
    go_ret
    exact ⟨rfl, rfl⟩
  · obtain ⟨k, rfl⟩ := Int.eq_ofNat_of_zero_le (by omega : 0 ≤ i)
    by_cases h1 : k < s.size
    · rw [byteZ_in s k h1]
      go_enter Try.func85, Try.ntmps85
      go_wp2
      go_ret
      exact ⟨rfl, rfl⟩
    · rw [byteZ_out s k (.inr (by omega))]
      go_enter Try.func85, Try.ntmps85
      go_wp2
      go_ret
      exact ⟨rfl, rfl⟩

theorem low3 (n : Int) : bits .and .i64 n 7 = n % 8 := by
  have e : (BitVec.ofInt 64 7).toNat = 2 ^ 3 - 1 := by decide
  have k : (BitVec.ofInt 64 n &&& BitVec.ofInt 64 7).toNat = (n % ((2 ^ 64 : Nat) : Int)).toNat % 2 ^ 3 := by
    rw [BitVec.toNat_and, BitVec.toNat_ofInt, e, Nat.and_two_pow_sub_one_eq_mod]
  show IntKind.i64.wrap ((BitVec.ofInt 64 n &&& BitVec.ofInt 64 7).toNat : Nat) = n % 8
  rw [k, IntKind.wrap_i64]
  omega
theorem five_next (s : ByteArray) (q : Int) (k : Nat) (h : k < 5) :
    bits .or .u64 (IntKind.u64.wrap ((five s q k : Int) * 256)) (byteZ s (q + k)) = (five s q (k + 1) : Nat) := by
  have hv := five_lt s q k
  have hb := byteZ_lt s (q + k)
  have hp : 256 ^ k ≤ 256 ^ 4 := Nat.pow_le_pow_right (by omega) (by omega)
  have hp4 : 256 ^ 4 = 4294967296 := by decide
  rw [hp4] at hp
  have e : IntKind.u64.wrap ((five s q k : Int) * 256) = (five s q k : Int) * 256 := by rw [IntKind.wrap_u64]; omega
  rw [e, bits_join .u64 64 (by decide) wraps_u64 8 _ _ (by omega) (by omega) (by omega) (by omega) (by omega) (by omega)]
  simp only [five]
  omega

set_option maxHeartbeats 1000000 in
theorem window_any (s : ByteArray) (bit : Int) (w : World) (h1 : -9223372036854775808 ≤ bit) (h2 : bit ≤ 9223372036854775807) :
    Calls Try.prog 56 #[.string s, .int .i64 bit] w fun e w' => e = .returned (.int .u32 (win s bit)) ∧ w = w' := by
  obtain ⟨R, hR, eR, eRn⟩ : ∃ R : Nat, R < 8 ∧ bits .and .i64 bit 7 = (R : Int) ∧ (bit % 8).toNat = R := ⟨(bit % 8).toNat, by omega, by rw [low3]; omega, rfl⟩
  go_enter Try.func56, Try.ntmps56
  go_wp2
  go_loop [5, 7] (fun v i => ∃ k : Nat, k ≤ 5 ∧ i = .int .i64 k ∧ v = .int .u64 (five s (bit / 8) k)) (fun _ i => 5 - (intOf i).toNat)
  case atStart => exact ⟨0, by omega, rfl, rfl⟩
  case round =>
    obtain ⟨k, hk, rfl, rfl⟩ := hrel
    have hv := five_lt s (bit / 8) k
    by_cases hlt : k < 5
    · have hb := byteZ_lt s (bit / 8 + k)
      have hn := five_next s (bit / 8) k hlt
      go_wp2_with (go_at_call 85; refine (byteAt_any _ _ _).mono ?_; rintro e w3 ⟨rfl, rfl⟩)
      go_round
      case rel => exact ⟨k + 1, by omega, by go_num, rfl⟩
      case measure => simp [intOf]; omega
    · obtain rfl : k = 5 := by omega
      have hw : win s bit = five s (bit / 8) 5 / 2 ^ (8 - R) % 4294967296 := by unfold win; rw [eRn]
      have h40 : 256 ^ 5 = 1099511627776 := by decide
      rw [h40] at hv
      have hr : R = 0 ∨ R = 1 ∨ R = 2 ∨ R = 3 ∨ R = 4 ∨ R = 5 ∨ R = 6 ∨ R = 7 := by omega
      rcases hr with rfl | rfl | rfl | rfl | rfl | rfl | rfl | rfl
      all_goals (go_wp2; go_ret; refine ⟨?_, rfl⟩; first | rfl | (show Ending.returned (.int .u32 _) = Ending.returned (.int .u32 _); congr 2; omega))

/-- a byte, halved so often -/
theorem halved (c : Int) (j : Nat) : c / 2 ^ j / 2 = c / 2 ^ (j + 1) := by
  rw [Int.pow_succ, Int.ediv_ediv_of_nonneg (Int.pow_nonneg (by decide))]

set_option maxHeartbeats 400000 in
theorem bitr_any (s : ByteArray) (n : Int) (w : World) (hs : s.size ≤ 140737488351232) :
    Calls Try.prog 29 #[.string s, .int .i64 n] w fun e w' => e = .returned (.int .i64 (bitZ s n)) ∧ w = w' := by
  by_cases h0 : n < 0
  · rw [bitZ_out s n (.inl h0)]
    go_enter Try.func29, Try.ntmps29
    go_wp2
    go_ret
    exact ⟨rfl, rfl⟩
  · obtain ⟨k, rfl⟩ := Int.eq_ofNat_of_zero_le (by omega : 0 ≤ n)
    by_cases h1 : k < 8 * s.size
    · have hq : k / 8 < s.size := by omega
      have hb : bitZ s k = s[k / 8].toNat / 2 ^ (7 - k % 8) % 2 := by
        unfold bitZ
        have e1 : (k : Int) / 8 = ((k / 8 : Nat) : Int) := by omega
        have e2 : ((k : Int) % 8).toNat = k % 8 := by omega
        rw [e1, e2, byteZ_in s _ hq]
      have hc : s[k / 8].toNat < 256 := UInt8.toNat_lt _
      go_enter Try.func29, Try.ntmps29
      go_wp2
      go_loop [5, 6] (fun v i => ∃ j V : Nat, j ≤ 7 - k % 8 ∧ V = s[k / 8].toNat / 2 ^ j ∧ i = .int .i64 ((k : Int) % 8 + j) ∧ v = .int .i64 V) (fun _ i => 7 - (intOf i).toNat)
      case atStart => exact ⟨0, s[k / 8].toNat, by omega, by simp, by simp, rfl⟩
      case round =>
        obtain ⟨j, V, hj, hV, rfl, rfl⟩ := hrel
        have hV2 : V < 256 := by rw [hV]; exact Nat.lt_of_le_of_lt (Nat.div_le_self _ _) hc
        by_cases hlt : j < 7 - k % 8
        · have hV3 : V / 2 = s[k / 8].toNat / 2 ^ (j + 1) := by rw [hV, Nat.pow_succ, Nat.div_div_eq_div_mul]
          clear hV hb hc
          go_wp2
          go_round
          case rel => exact ⟨j + 1, V / 2, by omega, hV3, by go_num, by go_num⟩
          case measure => simp [intOf]; omega
        · obtain rfl : j = 7 - k % 8 := by omega
          have hb2 : (bitZ s k : Int) = V % 2 := by rw [hb, ← hV]; simp
          clear hV hc hb
          go_wp2
          go_ret
          exact ⟨rfl, rfl⟩
    · rw [bitZ_out s k (.inr (by omega))]
      go_enter Try.func29, Try.ntmps29
      go_wp2
      go_ret
      exact ⟨rfl, rfl⟩

set_option maxHeartbeats 400000 in
theorem windowr_any (s : ByteArray) (a : Int) (w : World) (hs : s.size ≤ 140737488351232) :
    Calls Try.prog 30 #[.string s, .int .i64 a] w fun e w' => e = .returned (.int .u32 (win s a)) ∧ w = w' := by
  by_cases h0 : a < -40
  · rw [win_out s a (.inl (by omega))]
    go_enter Try.func30, Try.ntmps30
    go_wp2
    go_ret
    exact ⟨rfl, rfl⟩
  · by_cases h1 : a ≤ 8 * s.size
    · go_enter Try.func30, Try.ntmps30
      go_wp2
      go_loop [5, 6] (fun v i => ∃ j : Nat, j ≤ 32 ∧ i = .int .i64 j ∧ v = .int .i64 (foldB s a j)) (fun _ i => 32 - (intOf i).toNat)
      case atStart => exact ⟨0, by omega, rfl, rfl⟩
      case round =>
        obtain ⟨j, hj, rfl, rfl⟩ := hrel
        have hf : foldB s a j < 4294967296 := by
          rw [foldB_eq s a j hj]
          have h2 : 2 ^ j ≤ 2 ^ 32 := Nat.pow_le_pow_right (by omega) hj
          exact Nat.lt_of_lt_of_le (Nat.mod_lt _ (Nat.two_pow_pos j)) h2
        by_cases hlt : j < 32
        · have hb := bitZ_le s (a + j)
          have hn : (foldB s a (j + 1) : Int) = 2 * foldB s a j + bitZ s (a + j) := by simp [foldB]
          go_wp2_with (go_at_call 29; refine (bitr_any _ _ _ hs).mono ?_; rintro e w3 ⟨rfl, rfl⟩)
          go_round
          case rel => exact ⟨j + 1, by omega, by go_num, by rw [hn]⟩
          case measure => simp [intOf]; omega
        · obtain rfl : j = 32 := by omega
          rw [foldB_win] at hf ⊢
          go_wp2
          go_ret
          exact ⟨rfl, rfl⟩
    · rw [win_out s a (.inr (by omega))]
      go_enter Try.func30, Try.ntmps30
      go_wp2
      go_ret
      exact ⟨rfl, rfl⟩

/-- the answer of Hash -/
def hashE (key s : ByteArray) : Value := if key.size < 4 ∨ 52 < key.size then .tuple #[.int .u32 0, .int .i64 30] else .tuple #[.int .u32 (hashV key s), .int .i64 0]

set_option maxHeartbeats 400000 in
theorem hashr_any (key s : ByteArray) (w : World) (hs : s.size ≤ 200) :
    Calls Try.prog 13 #[.string key, .string s] w fun e w' => e = .returned (hashE key s) ∧ w = w' := by
  unfold hashE
  by_cases h0 : key.size < 4
  · rw [if_pos (.inl h0)]
    go_enter Try.func13, Try.ntmps13
    go_wp2
    go_ret2
    exact ⟨rfl, rfl⟩
  · by_cases h1 : 52 < key.size
    · rw [if_pos (.inr h1)]
      go_enter Try.func13, Try.ntmps13
      go_wp2
      go_ret2
      exact ⟨rfl, rfl⟩
    · rw [if_neg (by omega)]
      have hk : key.size ≤ 140737488351232 := by omega
      have hs' : s.size ≤ 140737488351232 := by omega
      go_enter Try.func13, Try.ntmps13
      go_wp2
      go_loop [6, 7] (fun v i => ∃ j : Nat, j ≤ 8 * s.size ∧ i = .int .i64 j ∧ v = .int .u32 (hashN (fun n => win key n) (bitB s) j)) (fun _ i => 8 * s.size - (intOf i).toNat)
      case atStart => exact ⟨0, by omega, rfl, rfl⟩
      case round =>
        obtain ⟨j, hj, rfl, rfl⟩ := hrel
        have hf := hashN_lt (fun n => win key n) (bitB s) (fun _ => win_lt _ _) j
        have hwl := win_lt key j
        have hx := u32_xor_nat _ _ hf hwl
        by_cases hlt : j < 8 * s.size
        · by_cases hb : bitZ s j = 1
          · have hn : hashN (fun n => win key n) (bitB s) (j + 1) = hashN (fun n => win key n) (bitB s) j ^^^ win key j := by simp [hashN, bitB, hb]
            go_wp2_with (first
              | (go_at_call 29; refine (bitr_any _ _ _ hs').mono ?_; rintro e w3 ⟨rfl, rfl⟩)
              | (go_at_call 30; refine (windowr_any _ _ _ hk).mono ?_; rintro e w3 ⟨rfl, rfl⟩))
            go_round
            case rel => exact ⟨j + 1, by omega, by go_num, by rw [hn]⟩
            case measure => simp [intOf]; omega
          · have hb0 : bitZ s j = 0 := by have := bitZ_le s j; omega
            have hn : hashN (fun n => win key n) (bitB s) (j + 1) = hashN (fun n => win key n) (bitB s) j := by simp [hashN, bitB, hb]
            go_wp2_with (first
              | (go_at_call 29; refine (bitr_any _ _ _ hs').mono ?_; rintro e w3 ⟨rfl, rfl⟩))
            go_round
            case rel => exact ⟨j + 1, by omega, by go_num, by rw [hn]⟩
            case measure => simp [intOf]; omega
        · obtain rfl : j = 8 * s.size := by omega
          go_wp2
          go_ret2
          exact ⟨rfl, rfl⟩
end Go.Proofs.Ytpelohmondhiiaa
namespace Go.Proofs.Ytpelohmondhiiaa
open Go.RowKit Go.Shelf
attribute [local go_sem] Oper.semAt_some

/-- the bits that are 1, of the first k -/
def onesF (s : ByteArray) : Nat → List (Fin 416)
  | 0 => []
  | k + 1 => if bitB s k then onesF s k ++ [Fin.ofNat 416 k] else onesF s k
theorem onesF_length (s : ByteArray) : ∀ k, (onesF s k).length ≤ k
  | 0 => Nat.le_refl _
  | k + 1 => by
    have := onesF_length s k
    simp only [onesF]
    split
    · simp; omega
    · omega
def hashL (key : ByteArray) (l : List (Fin 416)) : Nat := l.foldl (fun h n => h ^^^ win key (n.val : Int)) 0
theorem hashL_snoc (key : ByteArray) (l : List (Fin 416)) (x : Fin 416) : hashL key (l ++ [x]) = hashL key l ^^^ win key (x.val : Int) := by simp [hashL]
theorem hashL_ones (key s : ByteArray) : ∀ k, k ≤ 416 → hashL key (onesF s k) = hashN (fun n => win key n) (bitB s) k
  | 0, _ => rfl
  | k + 1, h => by
    simp only [onesF, hashN]
    split
    · rw [hashL_snoc, hashL_ones key s k (by omega)]
      have : (Fin.ofNat 416 k).val = k := by simp [Fin.ofNat]; omega
      rw [this]
    · exact hashL_ones key s k (by omega)
theorem hashL_lt (key : ByteArray) (l : List (Fin 416)) : hashL key l < 4294967296 := by
  suffices h : ∀ (l : List (Fin 416)) (a : Nat), a < 4294967296 → l.foldl (fun h n => h ^^^ win key (n.val : Int)) a < 4294967296 from h l 0 (by omega)
  intro l
  induction l with
  | nil => intro a h; exact h
  | cons x l ih => intro a h; exact ih _ (Nat.xor_lt_two_pow (n := 32) h (win_lt _ _))

theorem top_bit : ∀ (c : Fin 256) (t : Fin 8), (c.val * 2 ^ t.val % 256) &&& 128 = 128 * (c.val / 2 ^ (7 - t.val) % 2) := by decide +kernel
theorem test_bit (s : ByteArray) (k : Nat) (hq : k / 8 < s.size) : bits .and .u8 ((s[k / 8].toNat : Int) * 2 ^ (k % 8) % 256) 128 = 128 * (bitZ s k : Int) := by
  have hc : s[k / 8].toNat < 256 := UInt8.toNat_lt _
  have h := top_bit ⟨s[k / 8].toNat, hc⟩ ⟨k % 8, by omega⟩
  have e1 : (k : Int) / 8 = ((k / 8 : Nat) : Int) := by omega
  have e2 : ((k : Int) % 8).toNat = k % 8 := by omega
  have e3 : bitZ s k = s[k / 8].toNat / 2 ^ (7 - k % 8) % 2 := by unfold bitZ; rw [e1, e2, byteZ_in s _ hq]
  have e4 : (s[k / 8].toNat : Int) * 2 ^ (k % 8) % 256 = ((s[k / 8].toNat * 2 ^ (k % 8) % 256 : Nat) : Int) := by simp
  have e5 := u8_and_nat (s[k / 8].toNat * 2 ^ (k % 8) % 256) 128 (Nat.mod_lt _ (by omega)) (by omega)
  rw [e4, e3]
  refine e5.trans ?_
  rw [h]
  simp

/-- what the loop's body keeps: the string's own box -/
def KeepsBox (b : Nat) (A B : World) : Prop := B.cell? ⟨b, 0, none⟩ = A.cell? ⟨b, 0, none⟩
theorem keepsBox_b {b : Nat} {w : World} (hb : b < w.heap.size) (W : World) (l : Nat) (o o' : Obj) (hl : w.heap.size ≤ l) (h : W.heap[l]? = some o) (h1 : o.isCells = false) (h2 : o.isWalk = false) : KeepsBox b W (W.putObj l o') :=
  (belowK_b (n₀ := b + 1) (w := w) (by omega) W l o o' hl h h1 h2).cell (p := ⟨b, 0, none⟩) (by show b < b + 1; omega)

theorem onesT_any (F : Fence) (n : Nat) (h12 : F.fn 55) (hro : F.round = none) (s : ByteArray) (w : World) :
    CallsIn F n Try.prog 55 #[.string s] w fun e w' => e = .returned (.func (.func 84) #[] #[.pointer (some ⟨w.heap.size, 0, none⟩)]) ∧ w' = w.alloc (.cells #[.string s] 9) := by
  refine callsIn_of_wp Try.func55 rfl h12 ?_ hro
  simp only [Try.ntmps55, List.size_toArray, List.length_cons, List.length_nil, Nat.reduceAdd, Nat.reduceSub, Array.replicate_succ, Array.replicate_zero, List.push_toArray, List.append_toArray, List.nil_append, List.cons_append]
  gi_wp2
  go_ret
  exact ⟨rfl, rfl⟩

set_option maxRecDepth 100000 in
set_option maxHeartbeats 2000000 in
theorem ones1_in (F : Fence) (n : Nat) (h15 : F.fn 84) (hro : F.round = none) (hn : 1 ≤ n) (l Bs : Nat) (s : ByteArray) (hs : s.size ≤ 52) (J Jx : List (Fin 416) → World → Prop)
    (hY : ∀ pre x W, J pre W → pre.length < 416 → YieldAt F (n - 1) Try.prog l #[.int .i64 (x.val : Int)] W fun e W' =>
      (e = .returned (.bool true) ∧ J (pre ++ [x]) W' ∧ KeepsBox Bs W W') ∨ (e = .returned (.bool false) ∧ Jx (pre ++ [x]) W'))
    (W : World) (hBs : W.cell? ⟨Bs, 0, none⟩ = some (.string s)) (h0 : J [] W) :
    CallsIn F n Try.prog 84 #[.func (.yield l) #[] #[], .pointer (some ⟨Bs, 0, none⟩)] W fun e W' => (∃ v, e = .returned v) ∧
      ((∃ ys, ys = onesF s (8 * s.size) ∧ J ys W') ∨ (∃ pre, True ∧ Jx pre W')) := by
  refine callsIn_of_wp Try.func84 rfl h15 ?_ hro
  simp only [Try.ntmps84, List.size_toArray, List.length_cons, List.length_nil, Nat.reduceAdd, Nat.reduceSub, Array.replicate_succ, Array.replicate_zero, List.push_toArray, List.append_toArray, List.nil_append, List.cons_append]
  gi_wp2
  gi_loopw [7] (fun i wr => ∃ k : Nat, k ≤ 8 * s.size ∧ i = .int .i64 k ∧ J (onesF s k) wr ∧ wr.cell? ⟨Bs, 0, none⟩ = some (.string s))
    (fun i _ => 8 * s.size - (intOf i).toNat)
  case atStart => exact ⟨0, Nat.zero_le _, rfl, h0, hBs⟩
  case round =>
    obtain ⟨k, hk, rfl, hJs, hcx⟩ := hrel
    by_cases hlt : k < 8 * s.size
    · have hlen := onesF_length s k
      obtain ⟨fn, tmps, assign, body, hy, hR⟩ := hY _ (Fin.ofNat 416 k) wr hJs (by omega)
      have hv : (Fin.ofNat 416 k).val = k := by simp [Fin.ofNat]; omega
      rw [hv] at hy
      have hq : k / 8 < s.size := by omega
      have htest := test_bit s k hq
      by_cases hb1 : bitZ s k = 1
      · have hB : bitB s k = true := by simp [bitB, hb1]
        have hnext : onesF s (k + 1) = onesF s k ++ [Fin.ofNat 416 k] := by simp [onesF, hB]
        have ht1 : bits .and .u8 ((s[k / 8].toNat : Int) * 2 ^ (k % 8) % 256) 128 = 128 := by rw [htest, hb1]; rfl
        clear htest
        gi_wp2
        refine hR.mono ?_
        rintro e W3 (⟨rfl, hJ3, hk3⟩ | ⟨rfl, hJx3⟩)
        · gi_wp2
          go_roundw
          case rel => exact ⟨k + 1, by omega, by simp, by rw [hnext]; exact hJ3, Eq.trans hk3 hcx⟩
          case measure => simp [intOf]; omega
        · gi_wp2
          refine bodyPost_ret (results_none rfl _ _ _) rfl ?_
          exact ⟨⟨_, rfl⟩, .inr ⟨_, trivial, hJx3⟩⟩
      · have hb0 : bitZ s k = 0 := by have := bitZ_le s k; omega
        have hB : bitB s k = false := by simp [bitB, hb0]
        have hnext : onesF s (k + 1) = onesF s k := by simp [onesF, hB]
        have ht1 : bits .and .u8 ((s[k / 8].toNat : Int) * 2 ^ (k % 8) % 256) 128 = 0 := by rw [htest, hb0]; rfl
        clear htest hy hR
        gi_wp2
        refine ⟨fun _ h => (by cases h), ?_⟩
        gi_wp2
        go_roundw
        case rel => exact ⟨k + 1, by omega, by simp, by rw [hnext]; exact hJs, hcx⟩
        case measure => simp [intOf]; omega
    · obtain rfl : k = 8 * s.size := by omega
      gi_wp2
      go_end0
      exact ⟨⟨_, rfl⟩, .inl ⟨_, rfl, hJs⟩⟩

theorem ones_stops (F : Fence) (n : Nat) (h15 : F.fn 84) (hro : F.round = none) (hn : 1 ≤ n) (Bs : Nat) (s : ByteArray) (hs : s.size ≤ 52) (w : World) (hb : Bs < w.heap.size) (hBs : w.cell? ⟨Bs, 0, none⟩ = some (.string s)) :
    SeqStopsK F n Try.prog 84 #[.pointer (some ⟨Bs, 0, none⟩)] (fun x : Fin 416 => #[Value.int .i64 (x.val : Int)]) (KeepsBox Bs) (fun ys => ys = onesF s (8 * s.size)) (fun _ => True) 416 w := fun l J Jx W hW _ _ hY h0 =>
  ones1_in F n h15 hro hn l Bs s hs J Jx hY W ((hW.cell (p := ⟨Bs, 0, none⟩) hb).trans hBs) h0

set_option maxRecDepth 100000 in
set_option maxHeartbeats 2000000 in
theorem hash_short (key s : ByteArray) (w : World) (hk1 : 4 ≤ key.size) (hk2 : key.size ≤ 52) (hs : s.size ≤ key.size) :
    Calls Try.prog 28 #[.string key, .string s] w fun e W' => e = .returned (.tuple #[.int .u32 (hashV key s), .int .i64 0]) ∧ Below w.heap.size w W' := by
  have ecut : s.extract 0 s.size = s := by simp
  refine (callsIn_wide (n := 3)).1 ?_
  refine callsIn_of_wp_marks Try.func28 rfl trivial ?_ rfl
  simp only [Try.ntmps28, List.size_toArray, List.length_cons, List.length_nil, Nat.reduceAdd, Nat.reduceSub, Array.replicate_succ, Array.replicate_zero, List.push_toArray, List.append_toArray, List.nil_append, List.cons_append]
  gi_wp2_with (refine ⟨trivial, ?_⟩; gi_at_call 55; refine (onesT_any Fence.wide _ trivial rfl _ _).mono ?_; rintro e w' ⟨rfl, rfl⟩)
  have c0 := Boxed.new w 9 (.string key)
  have c1 := Boxed.new (w.alloc (.cells #[.string key] 9)) 27 (.int .u32 0)
  have c2 := Boxed.new ((w.alloc (.cells #[.string key] 9)).alloc (.cells #[.int .u32 0] 27)) 9 (.string s)
  simp only [World.size_alloc] at c1 c2
  have hB0 : Below w.heap.size w (((w.alloc (.cells #[.string key] 9)).alloc (.cells #[.int .u32 0] 27)).alloc (.cells #[.string s] 9)) := (((Below.refl _ w).alloc (Nat.le_refl _) _).alloc (by simp) _).alloc (by simp; omega) _
  refine wpIn_rangeFunc_ownF rfl (by omega) (gf := 84) (lb := #[.pointer (some ⟨w.heap.size + 1 + 1, 0, none⟩)]) rfl trivial (enters_of Try.func84 (by kernel_rfl) rfl)
    (ones_stops Fence.wide _ trivial rfl (by omega) (w.heap.size + 1 + 1) s (by omega) _ (by simp) c2.cell) (Kp := KeepsBox (w.heap.size + 1 + 1)) (fun h k => Eq.trans k h) (keepsBox_b (by simp)) (Below.refl _ _) (fun _ => rfl)
    (fun pre W => (W.cell? ⟨w.heap.size, 0, none⟩ = some (.string key) ∧ W.cell? ⟨w.heap.size + 1, 0, none⟩ = some (.int .u32 (hashL key pre)) ∧ W.frozen? ⟨w.heap.size + 1, 0, none⟩ = false) ∧ Below w.heap.size w W)
    (fun _ _ _ => False)
    (OwnFrom.and (Own.from (fun s A B row hs hg hr => ⟨cell_kept hs.1 hg hr, cell_kept hs.2.1 hg hr, (frozen_kept hs.2.1 hg hr).trans hs.2.2⟩) _) (ownFrom_below (Nat.le_refl _) (by simp; omega)))
    (fun _ _ _ _ _ hs _ _ => hs)
    ⟨⟨((c0.alloc _).alloc _).cell, (c1.alloc _).cell, (c1.alloc _).frozen⟩, hB0⟩
    (fun x => { tmps := #[.string key, .string s, .pointer (some ⟨w.heap.size, 0, none⟩), undef, .int .u32 0, .int .i64 0, .pointer (some ⟨w.heap.size + 1, 0, none⟩), .int .i64 (x.val : Int), .string key, .int .i64 key.size, .bool (decide ((key.size : Int) < 4)), .bool (decide ((key.size : Int) < 4)), .string key, .int .i64 key.size, .bool (decide (52 < (key.size : Int))), .bool (decide ((key.size : Int) < 4) || decide (52 < (key.size : Int))), .string s, .string s, .int .i64 s.size, .string key, .int .i64 key.size, .int .i64 s.size, .string s, .string s, .func (.func 84) #[] #[.pointer (some ⟨w.heap.size + 1 + 1, 0, none⟩)], .int .i64 (x.val : Int), undef, undef, undef, undef, undef, undef], defers := [] }) ?assign ?body ?done ?stop
  case assign =>
    intro l x W K hK
    gi_wp2
    exact hK
  case body =>
    rintro l pre x W ⟨⟨hk, hc, hf⟩, hB⟩ _
    have hmx : Try.prog.follows .mixedOrders = true := by kernel_rfl
    have hx := x.isLt
    have hwl := win_lt key (x.val : Int)
    have hxor := u32_xor_nat _ _ (hashL_lt key pre) hwl
    gi_wp2
    gi_region_with_o (refine ⟨trivial, ?_⟩; gi_at_call 56; refine (CallsIn.inRound l (callsIn_wide.2 (window_any key (x.val : Int) _ (by omega) (by omega)))).mono ?_; rintro e w' ⟨rfl, rfl⟩)
    all_goals gi_wp2
    all_goals exact ⟨(KeepsOthers.setCell _ _ _).trans (KeepsOthers.drew _), (World.cell?_setCell_other W ⟨w.heap.size + 1, 0, none⟩ ⟨w.heap.size + 1 + 1, 0, none⟩ _ (by simp)), ⟨(World.cell?_setCell_other W ⟨w.heap.size + 1, 0, none⟩ ⟨w.heap.size, 0, none⟩ _ (by simp)).trans hk, (by rw [hashL_snoc]; exact World.cell?_setCell_same W ⟨w.heap.size + 1, 0, none⟩ _ hc), (World.frozen?_setCell W _ _ _).trans hf⟩, (hB.setCell (p := ⟨w.heap.size + 1, 0, none⟩) (by simp) _).drew⟩
  case done =>
    rintro D ys W hD rfl ⟨⟨_, hc, _⟩, hB⟩ hK
    have hv : hashL key (onesF s (8 * (s).size)) = hashV key s := hashL_ones key s _ (by omega)
    rw [hv] at hc
    gi_wp2
    refine ⟨by simp, .inl ⟨_, _, rfl, run_takeDeferred hK, ?_⟩⟩
    exact ⟨_, results_tmp2 rfl _ _ _, rfl, hB.trans (belowK_b (w := w) (Nat.le_refl _) W D _ _ (by simp at hD; omega) hK rfl rfl)⟩
  case stop =>
    rintro D c pre W _ _ h _
    exact h.elim

set_option maxRecDepth 100000 in
set_option maxHeartbeats 2000000 in
theorem hash_long (key s T : ByteArray) (w : World) (hk1 : 4 ≤ key.size) (hk2 : key.size ≤ 52) (hs : key.size < s.size) (eT : s.extract 0 key.size = T) (hT : T.size = key.size) :
    Calls Try.prog 28 #[.string key, .string s] w fun e W' => e = .returned (.tuple #[.int .u32 (hashV key T), .int .i64 0]) ∧ Below w.heap.size w W' := by
  refine (callsIn_wide (n := 3)).1 ?_
  refine callsIn_of_wp_marks Try.func28 rfl trivial ?_ rfl
  simp only [Try.ntmps28, List.size_toArray, List.length_cons, List.length_nil, Nat.reduceAdd, Nat.reduceSub, Array.replicate_succ, Array.replicate_zero, List.push_toArray, List.append_toArray, List.nil_append, List.cons_append]
  gi_wp2_with (refine ⟨trivial, ?_⟩; gi_at_call 55; refine (onesT_any Fence.wide _ trivial rfl _ _).mono ?_; rintro e w' ⟨rfl, rfl⟩)
  have c0 := Boxed.new w 9 (.string key)
  have c1 := Boxed.new (w.alloc (.cells #[.string key] 9)) 27 (.int .u32 0)
  have c2 := Boxed.new ((w.alloc (.cells #[.string key] 9)).alloc (.cells #[.int .u32 0] 27)) 9 (.string T)
  simp only [World.size_alloc] at c1 c2
  have hB0 : Below w.heap.size w (((w.alloc (.cells #[.string key] 9)).alloc (.cells #[.int .u32 0] 27)).alloc (.cells #[.string T] 9)) := (((Below.refl _ w).alloc (Nat.le_refl _) _).alloc (by simp) _).alloc (by simp; omega) _
  refine wpIn_rangeFunc_ownF rfl (by omega) (gf := 84) (lb := #[.pointer (some ⟨w.heap.size + 1 + 1, 0, none⟩)]) rfl trivial (enters_of Try.func84 (by kernel_rfl) rfl)
    (ones_stops Fence.wide _ trivial rfl (by omega) (w.heap.size + 1 + 1) T (by omega) _ (by simp) c2.cell) (Kp := KeepsBox (w.heap.size + 1 + 1)) (fun h k => Eq.trans k h) (keepsBox_b (by simp)) (Below.refl _ _) (fun _ => rfl)
    (fun pre W => (W.cell? ⟨w.heap.size, 0, none⟩ = some (.string key) ∧ W.cell? ⟨w.heap.size + 1, 0, none⟩ = some (.int .u32 (hashL key pre)) ∧ W.frozen? ⟨w.heap.size + 1, 0, none⟩ = false) ∧ Below w.heap.size w W)
    (fun _ _ _ => False)
    (OwnFrom.and (Own.from (fun s A B row hs hg hr => ⟨cell_kept hs.1 hg hr, cell_kept hs.2.1 hg hr, (frozen_kept hs.2.1 hg hr).trans hs.2.2⟩) _) (ownFrom_below (Nat.le_refl _) (by simp; omega)))
    (fun _ _ _ _ _ hs _ _ => hs)
    ⟨⟨((c0.alloc _).alloc _).cell, (c1.alloc _).cell, (c1.alloc _).frozen⟩, hB0⟩
    (fun x => { tmps := #[.string key, .string T, .pointer (some ⟨w.heap.size, 0, none⟩), undef, .int .u32 0, .int .i64 0, .pointer (some ⟨w.heap.size + 1, 0, none⟩), .int .i64 (x.val : Int), .string key, .int .i64 key.size, .bool (decide ((key.size : Int) < 4)), .bool (decide ((key.size : Int) < 4)), .string key, .int .i64 key.size, .bool (decide (52 < (key.size : Int))), .bool (decide ((key.size : Int) < 4) || decide (52 < (key.size : Int))), .string s, .string s, .int .i64 s.size, .string key, .int .i64 key.size, .int .i64 key.size, .string T, .string T, .func (.func 84) #[] #[.pointer (some ⟨w.heap.size + 1 + 1, 0, none⟩)], .int .i64 (x.val : Int), undef, undef, undef, undef, undef, undef], defers := [] }) ?assign ?body ?done ?stop
  case assign =>
    intro l x W K hK
    gi_wp2
    exact hK
  case body =>
    rintro l pre x W ⟨⟨hk, hc, hf⟩, hB⟩ _
    have hmx : Try.prog.follows .mixedOrders = true := by kernel_rfl
    have hx := x.isLt
    have hwl := win_lt key (x.val : Int)
    have hxor := u32_xor_nat _ _ (hashL_lt key pre) hwl
    gi_wp2
    gi_region_with_o (refine ⟨trivial, ?_⟩; gi_at_call 56; refine (CallsIn.inRound l (callsIn_wide.2 (window_any key (x.val : Int) _ (by omega) (by omega)))).mono ?_; rintro e w' ⟨rfl, rfl⟩)
    all_goals gi_wp2
    all_goals exact ⟨(KeepsOthers.setCell _ _ _).trans (KeepsOthers.drew _), (World.cell?_setCell_other W ⟨w.heap.size + 1, 0, none⟩ ⟨w.heap.size + 1 + 1, 0, none⟩ _ (by simp)), ⟨(World.cell?_setCell_other W ⟨w.heap.size + 1, 0, none⟩ ⟨w.heap.size, 0, none⟩ _ (by simp)).trans hk, (by rw [hashL_snoc]; exact World.cell?_setCell_same W ⟨w.heap.size + 1, 0, none⟩ _ hc), (World.frozen?_setCell W _ _ _).trans hf⟩, (hB.setCell (p := ⟨w.heap.size + 1, 0, none⟩) (by simp) _).drew⟩
  case done =>
    rintro D ys W hD rfl ⟨⟨_, hc, _⟩, hB⟩ hK
    have hv : hashL key (onesF T (8 * (T).size)) = hashV key T := hashL_ones key T _ (by omega)
    rw [hv] at hc
    gi_wp2
    refine ⟨by simp, .inl ⟨_, _, rfl, run_takeDeferred hK, ?_⟩⟩
    exact ⟨_, results_tmp2 rfl _ _ _, rfl, hB.trans (belowK_b (w := w) (Nat.le_refl _) W D _ _ (by simp at hD; omega) hK rfl rfl)⟩
  case stop =>
    rintro D c pre W _ _ h _
    exact h.elim

theorem bitZ_cut (s : ByteArray) (k : Nat) (n : Nat) (h : n < 8 * k) : bitZ (s.extract 0 k) n = bitZ s n := by
  unfold bitZ
  have e1 : (n : Int) / 8 = ((n / 8 : Nat) : Int) := by omega
  rw [e1]
  by_cases hq : n / 8 < s.size
  · have hq2 : n / 8 < (s.extract 0 k).size := by simp; omega
    rw [byteZ_in _ _ hq, byteZ_in _ _ hq2]
    have : (s.extract 0 k)[n / 8] = s[n / 8] := by rw [ByteArray.getElem_extract]; simp
    rw [this]
  · rw [byteZ_out s _ (.inr (by omega)), byteZ_out (s.extract 0 k) _ (.inr (by rw [ByteArray.size_extract]; omega))]
theorem hashV_cut (key s : ByteArray) (h : key.size < s.size) : hashV key (s.extract 0 key.size) = hashV key s := by
  have hz : (s.extract 0 key.size).size = key.size := by simp; omega
  unfold hashV
  rw [hz, hashN_upto _ (bitB s) (8 * key.size) (8 * s.size) (by omega) (fun i h1 h2 => .inr (win_out key i (.inr (by omega))))]
  exact hashN_congr _ _ _ _ _ (fun i hi => by unfold bitB; rw [bitZ_cut s _ i hi]) (fun _ _ => rfl)

/-- What toeplitz.Hash answers. -/
theorem hash_any (key s : ByteArray) (w : World) :
    Calls Try.prog 28 #[.string key, .string s] w fun e W' => e = .returned (hashE key s) ∧ Below w.heap.size w W' := by
  unfold hashE
  by_cases h0 : key.size < 4
  · rw [if_pos (.inl h0)]
    go_enter Try.func28, Try.ntmps28
    go_wp2
    go_ret2
    exact ⟨rfl, (Below.refl _ _).alloc (Nat.le_refl _) _⟩
  · by_cases h1 : 52 < key.size
    · rw [if_pos (.inr h1)]
      go_enter Try.func28, Try.ntmps28
      go_wp2
      go_ret2
      exact ⟨rfl, (Below.refl _ _).alloc (Nat.le_refl _) _⟩
    · rw [if_neg (by omega)]
      by_cases h2 : key.size < s.size
      · have := hash_long key s _ w (by omega) (by omega) h2 rfl (by simp; omega)
        rwa [hashV_cut key s h2] at this
      · exact hash_short key s w (by omega) (by omega) (by omega)
end Go.Proofs.Ytpelohmondhiiaa

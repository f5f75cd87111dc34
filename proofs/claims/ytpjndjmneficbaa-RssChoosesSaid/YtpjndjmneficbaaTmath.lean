/-
  Bytes, bits, windows and the hash as plain numbers, and what the laws ask of them; no condition beyond what each line says.
-/
import Derived.Lib.EndianBits
namespace Go.Proofs.Ytpjndjmneficbaa

/-- a byte of bytes: 0 outside of them -/
def byteZ (s : ByteArray) (i : Int) : Nat := if h : 0 ≤ i ∧ i < s.size then (s[i.toNat]'(by omega)).toNat else 0
/-- a bit of bytes: 0 outside of them -/
def bitZ (s : ByteArray) (n : Int) : Nat := byteZ s (n / 8) / 2 ^ (7 - (n % 8).toNat) % 2
/-- the number of so many bytes from a place on -/
def five (s : ByteArray) (j : Int) : Nat → Nat
  | 0 => 0
  | k + 1 => 256 * five s j k + byteZ s (j + k)
def win (s : ByteArray) (bit : Int) : Nat := five s (bit / 8) 5 / 2 ^ (8 - (bit % 8).toNat) % 4294967296
def foldB (s : ByteArray) (a : Int) : Nat → Nat
  | 0 => 0
  | i + 1 => 2 * foldB s a i + bitZ s (a + i)
def hashN (f : Nat → Nat) (b : Nat → Bool) : Nat → Nat
  | 0 => 0
  | n + 1 => if b n then hashN f b n ^^^ f n else hashN f b n
def bitB (s : ByteArray) (n : Nat) : Bool := bitZ s n == 1
def hashV (key s : ByteArray) : Nat := hashN (fun n => win key n) (bitB s) (8 * s.size)

theorem byteZ_lt (s : ByteArray) (i : Int) : byteZ s i < 256 := by
  unfold byteZ
  split
  · exact UInt8.toNat_lt _
  · omega
theorem byteZ_in (s : ByteArray) (k : Nat) (h : k < s.size) : byteZ s k = s[k].toNat := by
  unfold byteZ
  rw [dif_pos ⟨by omega, by omega⟩]
  rfl
theorem byteZ_out (s : ByteArray) (i : Int) (h : i < 0 ∨ s.size ≤ i) : byteZ s i = 0 := by
  unfold byteZ
  rw [dif_neg (by omega)]
theorem bitZ_le (s : ByteArray) (n : Int) : bitZ s n ≤ 1 := by
  unfold bitZ
  have := Nat.mod_lt (byteZ s (n / 8) / 2 ^ (7 - (n % 8).toNat)) (y := 2) (by omega)
  omega
theorem bitZ_out (s : ByteArray) (n : Int) (h : n < 0 ∨ 8 * (s.size : Int) ≤ n) : bitZ s n = 0 := by
  unfold bitZ
  rw [byteZ_out s _ (by omega)]
  simp
theorem five_bits (s : ByteArray) (q : Int) (m : Nat) (h : m < 40) : five s q 5 / 2 ^ (39 - m) % 2 = bitZ s (8 * q + m) := by
  have h0 := byteZ_lt s (q + (0 : Nat))
  have h1 := byteZ_lt s (q + (1 : Nat))
  have h2 := byteZ_lt s (q + (2 : Nat))
  have h3 := byteZ_lt s (q + (3 : Nat))
  have h4 := byteZ_lt s (q + (4 : Nat))
  have key : ∀ (c t : Nat), m = 8 * c + t → t < 8 → c < 5 → bitZ s (8 * q + m) = byteZ s (q + c) / 2 ^ (7 - t) % 2 := by
    intro c t e ht hc
    unfold bitZ
    have e1 : (8 * q + (m : Int)) / 8 = q + c := by omega
    have e2 : ((8 * q + (m : Int)) % 8).toNat = t := by omega
    rw [e1, e2]
  have hm : m = 8 * (m / 8) + m % 8 := by omega
  rw [key (m / 8) (m % 8) hm (by omega) (by omega)]
  have hc : m / 8 = 0 ∨ m / 8 = 1 ∨ m / 8 = 2 ∨ m / 8 = 3 ∨ m / 8 = 4 := by omega
  have ht : m % 8 = 0 ∨ m % 8 = 1 ∨ m % 8 = 2 ∨ m % 8 = 3 ∨ m % 8 = 4 ∨ m % 8 = 5 ∨ m % 8 = 6 ∨ m % 8 = 7 := by omega
  simp only [five, Nat.mul_zero, Nat.zero_add]
  generalize m / 8 = c at *
  generalize m % 8 = t at *
  subst hm
  rcases hc with rfl | rfl | rfl | rfl | rfl <;> rcases ht with rfl | rfl | rfl | rfl | rfl | rfl | rfl | rfl <;> simp only [Nat.reducePow, Nat.reduceSub, Nat.reduceMul, Nat.reduceAdd, Nat.mul_zero, Nat.zero_add, Nat.add_zero, Nat.sub_zero] <;> omega
theorem five_lt (s : ByteArray) (q : Int) : ∀ k : Nat, five s q k < 256 ^ k
  | 0 => by simp [five]
  | k + 1 => by
    have := five_lt s q k
    have := byteZ_lt s (q + k)
    simp only [five]
    rw [Nat.pow_succ]
    omega
theorem foldB_eq (s : ByteArray) (a : Int) : ∀ i : Nat, i ≤ 32 → foldB s a i = five s (a / 8) 5 / 2 ^ (40 - (a % 8).toNat - i) % 2 ^ i
  | 0, _ => by simp [foldB, Nat.mod_one]
  | i + 1, h => by
    have hr : (a % 8).toNat < 8 := by omega
    have hb := five_bits s (a / 8) ((a % 8).toNat + i) (by omega)
    have e : 8 * (a / 8) + (((a % 8).toNat + i : Nat) : Int) = a + i := by omega
    rw [e] at hb
    simp only [foldB]
    rw [foldB_eq s a i (by omega), ← hb]
    generalize five s (a / 8) 5 = X
    have e1 : 40 - (a % 8).toNat - i = 39 - ((a % 8).toNat + i) + 1 := by omega
    have e2 : 40 - (a % 8).toNat - (i + 1) = 39 - ((a % 8).toNat + i) := by omega
    rw [e1, e2, Nat.pow_succ, ← Nat.div_div_eq_div_mul]
    generalize X / 2 ^ (39 - ((a % 8).toNat + i)) = Y
    rw [Nat.pow_succ, Nat.mul_comm (2 ^ i) 2, Nat.mod_mul]
    omega
theorem foldB_win (s : ByteArray) (a : Int) : foldB s a 32 = win s a := by
  rw [foldB_eq s a 32 (by omega)]
  unfold win
  have : 40 - (a % 8).toNat - 32 = 8 - (a % 8).toNat := by omega
  rw [this]
theorem win_lt (s : ByteArray) (a : Int) : win s a < 4294967296 := Nat.mod_lt _ (by omega)
theorem win_out (s : ByteArray) (a : Int) (h : a < -39 ∨ 8 * (s.size : Int) ≤ a) : win s a = 0 := by
  unfold win
  simp only [five]
  rw [byteZ_out s _ (by omega), byteZ_out s _ (by omega), byteZ_out s _ (by omega), byteZ_out s _ (by omega), byteZ_out s _ (by omega)]
  simp
/-- the next window is this one, shifted -/
theorem win_next (s : ByteArray) (a : Int) : win s (a + 1) / 2 = win s a % 2147483648 := by
  have h : ∀ i : Nat, i ≤ 31 → foldB s (a + 1) i = foldB s a (i + 1) % 2 ^ i := by
    intro i
    induction i with
    | zero => intro _; simp [foldB, Nat.mod_one]
    | succ i ih =>
      intro hi
      have e : a + 1 + (i : Int) = a + ((i + 1 : Nat) : Int) := by omega
      have hb := bitZ_le s (a + ((i + 1 : Nat) : Int))
      simp only [foldB, e]
      rw [ih (by omega)]
      have := bitZ_le s (a + (i : Int))
      simp only [foldB]
      rw [Nat.pow_succ, Nat.mul_comm (2 ^ i) 2, Nat.mod_mul]
      generalize bitZ s (a + ((i + 1 : Nat) : Int)) = y at *
      generalize 2 * foldB s a i + bitZ s (a + (i : Int)) = X at *
      have e1 : (2 * X + y) / 2 = X := by omega
      rw [e1]
      omega
  have h31 := h 31 (by omega)
  rw [show foldB s a (31 + 1) = win s a from foldB_win s a] at h31
  have h32 : foldB s (a + 1) 32 = win s (a + 1) := foldB_win s (a + 1)
  have hb := bitZ_le s (a + 1 + (31 : Nat))
  rw [show foldB s (a + 1) 32 = 2 * foldB s (a + 1) 31 + bitZ s (a + 1 + (31 : Nat)) from rfl, h31] at h32
  rw [← h32]
  have : 2 ^ 31 = 2147483648 := by decide
  rw [this]
  omega

/-! the hash -/
theorem hashN_lt (f : Nat → Nat) (b : Nat → Bool) (hf : ∀ n, f n < 4294967296) : ∀ n, hashN f b n < 4294967296
  | 0 => by simp [hashN]
  | n + 1 => by
    simp only [hashN]
    split
    · exact Nat.xor_lt_two_pow (n := 32) (hashN_lt f b hf n) (hf n)
    · exact hashN_lt f b hf n
theorem hashV_lt (key s : ByteArray) : hashV key s < 4294967296 := hashN_lt _ _ (fun _ => win_lt _ _) _
theorem hashN_congr (f g : Nat → Nat) (b c : Nat → Bool) : ∀ n, (∀ i, i < n → b i = c i) → (∀ i, i < n → f i = g i) → hashN f b n = hashN g c n
  | 0, _, _ => rfl
  | n + 1, h, k => by
    simp only [hashN]
    rw [hashN_congr f g b c n (fun i hi => h i (by omega)) (fun i hi => k i (by omega)), h n (by omega), k n (by omega)]
/-- what is beyond makes no difference, if no bit is 1 there, or all windows are 0 -/
theorem hashN_more (f : Nat → Nat) (b : Nat → Bool) (n : Nat) : ∀ m, (∀ i, n ≤ i → i < n + m → b i = false ∨ f i = 0) → hashN f b (n + m) = hashN f b n
  | 0, _ => rfl
  | m + 1, h => by
    show hashN f b (n + m + 1) = _
    simp only [hashN]
    rw [hashN_more f b n m (fun i h1 h2 => h i h1 (by omega))]
    rcases h (n + m) (by omega) (by omega) with e | e
    · rw [e]; simp
    · rw [e]; simp
theorem hashN_upto (f : Nat → Nat) (b : Nat → Bool) (n m : Nat) (hm : n ≤ m) (h : ∀ i, n ≤ i → i < m → b i = false ∨ f i = 0) : hashN f b m = hashN f b n := by
  obtain ⟨k, rfl⟩ : ∃ k, m = n + k := ⟨m - n, by omega⟩
  exact hashN_more f b n k h
theorem hashN_linear (f : Nat → Nat) (b c d : Nat → Bool) : ∀ n, (∀ i, i < n → d i = (b i != c i)) → hashN f d n = hashN f b n ^^^ hashN f c n
  | 0, _ => by simp [hashN]
  | n + 1, h => by
    have ih := hashN_linear f b c d n (fun i hi => h i (by omega))
    simp only [hashN, ih, h n (by omega)]
    cases b n <;> cases c n <;> simp
    · rw [Nat.xor_assoc]
    · rw [Nat.xor_assoc, Nat.xor_assoc, Nat.xor_comm (hashN f c n)]
    · rw [Nat.xor_assoc, Nat.xor_comm (f n), Nat.xor_assoc, Nat.xor_self, Nat.xor_zero]
theorem hashN_zero (f : Nat → Nat) (b : Nat → Bool) (n : Nat) (h : ∀ i, i < n → b i = false) : hashN f b n = 0 := by
  have := hashN_more f b 0 n (fun i _ hi => .inl (h i (by omega)))
  simpa [hashN] using this
theorem hashN_one (f : Nat → Nat) (b : Nat → Bool) (n k : Nat) (hk : k < n) (h1 : b k = true) (h : ∀ i, i < n → i ≠ k → b i = false) : hashN f b n = f k := by
  rw [hashN_upto f b (k + 1) n (by omega) (fun i hi hj => .inl (h i hj (by omega)))]
  simp only [hashN, h1, if_true]
  rw [hashN_zero f b k (fun i hi => h i (by omega) (by omega))]
  simp
end Go.Proofs.Ytpjndjmneficbaa

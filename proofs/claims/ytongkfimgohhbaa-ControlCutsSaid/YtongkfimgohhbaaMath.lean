/-
  Plain numbers and bytes: the number of a list of bytes, the bytes of a number, and what the one does to the other; no condition.
-/
import Derived.Lib.EndianBits
namespace Go.Proofs.Ytongkfimgohhbaa

def val : List UInt8 → Nat
  | [] => 0
  | c :: l => c.toNat + 256 * val l
def dec (l : List UInt8) (big : Bool) : Nat := if big then val l.reverse else val l
def digs (v : Nat) : Nat → List UInt8
  | 0 => []
  | n + 1 => UInt8.ofNat v :: digs (v / 256) n
def enc (v n : Nat) (big : Bool) : List UInt8 := if big then (digs v n).reverse else digs v n

theorem val_append (l m : List UInt8) : val (l ++ m) = val l + 256 ^ l.length * val m := by
  induction l with
  | nil => simp [val]
  | cons c l ih =>
    simp only [List.cons_append, val, ih, List.length_cons, Nat.pow_succ]
    rw [Nat.mul_add, Nat.add_assoc]
    congr 2
    rw [← Nat.mul_assoc, Nat.mul_comm (256 ^ l.length) 256]
theorem val_snoc (l : List UInt8) (c : UInt8) : val (l ++ [c]) = val l + 256 ^ l.length * c.toNat := by
  rw [val_append]; simp [val]
theorem val_lt (l : List UInt8) : val l < 256 ^ l.length := by
  induction l with
  | nil => simp [val]
  | cons c l ih =>
    have hc : c.toNat < 256 := c.toNat_lt
    simp only [val, List.length_cons, Nat.pow_succ]
    omega
theorem dec_lt (l : List UInt8) (big : Bool) : dec l big < 256 ^ l.length := by
  cases big
  · exact val_lt l
  · have := val_lt l.reverse; simpa [dec] using this
theorem digs_length (v n : Nat) : (digs v n).length = n := by
  induction n generalizing v with
  | zero => rfl
  | succ n ih => simp [digs, ih]
theorem enc_length (v n : Nat) (big : Bool) : (enc v n big).length = n := by
  cases big <;> simp [enc, digs_length]
theorem val_digs (v n : Nat) : val (digs v n) = v % 256 ^ n := by
  induction n generalizing v with
  | zero => simp [digs, val, Nat.mod_one]
  | succ n ih =>
    simp only [digs, val, ih, UInt8.toNat_ofNat']
    rw [show 256 ^ (n + 1) = 256 * 256 ^ n by rw [Nat.pow_succ, Nat.mul_comm], Nat.mod_mul]
theorem dec_enc (v n : Nat) (big : Bool) (h : v < 256 ^ n) : dec (enc v n big) big = v := by
  cases big <;> simp [dec, enc, val_digs, Nat.mod_eq_of_lt h]
theorem digs_get (v n i : Nat) (h : i < n) : (digs v n)[i]'(by rw [digs_length]; exact h) = UInt8.ofNat (v / 256 ^ i) := by
  induction n generalizing v i with
  | zero => omega
  | succ n ih =>
    cases i with
    | zero => simp [digs]
    | succ i =>
      simp only [digs, List.getElem_cons_succ]
      rw [ih (v / 256) i (by omega), Nat.div_div_eq_div_mul, Nat.pow_succ, Nat.mul_comm (256 ^ i) 256]
theorem digs_snoc (v n : Nat) : digs v (n + 1) = digs v n ++ [UInt8.ofNat (v / 256 ^ n)] := by
  induction n generalizing v with
  | zero => simp [digs]
  | succ n ih =>
    have e : digs v (n + 1 + 1) = UInt8.ofNat v :: digs (v / 256) (n + 1) := rfl
    rw [e, ih, Nat.div_div_eq_div_mul, Nat.pow_succ, Nat.mul_comm (256 ^ n) 256]; rfl

/-- What is gathered of n bytes behind k rounds of Get. -/
def acc (l : List UInt8) (n k : Nat) (big : Bool) : Nat :=
  if big then 256 ^ (n - k) * val (l.take k).reverse else val (l.take k)
theorem acc_zero (l : List UInt8) (n : Nat) (big : Bool) : acc l n 0 big = 0 := by cases big <;> simp [acc, val]
theorem acc_all (l : List UInt8) (n : Nat) (big : Bool) (h : l.length = n) : acc l n n big = dec l big := by
  cases big
  · simp [acc, dec, ← h]
  · simp [acc, dec, ← h]
theorem take_snoc (l : List UInt8) (k : Nat) (h : k < l.length) : l.take (k + 1) = l.take k ++ [l[k]] := by
  rw [List.take_succ_eq_append_getElem h]
/-- where the byte of a round goes -/
def plc (n k : Nat) (big : Bool) : Nat := if big then n - 1 - k else k
theorem acc_succ (l : List UInt8) (n k : Nat) (big : Bool) (h : l.length = n) (hk : k < n) :
    acc l n (k + 1) big = acc l n k big + 256 ^ plc n k big * (l[k]'(by omega)).toNat := by
  have ht := take_snoc l k (by omega)
  cases big
  · simp only [acc, plc, ht, val_snoc]
    simp [List.length_take]
    rw [Nat.min_eq_left (by omega)]
  · simp only [acc, plc, ht, List.reverse_append, List.reverse_cons, List.reverse_nil, List.nil_append, List.singleton_append, val]
    simp only [if_true]
    obtain ⟨j, hj⟩ : ∃ j, n = k + 1 + j := ⟨n - k - 1, by omega⟩
    rw [show n - (k + 1) = j by omega, show n - k = j + 1 by omega, show n - 1 - k = j by omega, Nat.mul_add, Nat.pow_succ, Nat.mul_assoc, Nat.add_comm]
theorem acc_lt (l : List UInt8) (n k : Nat) (big : Bool) (h : l.length = n) (hk : k ≤ n) (hn : n ≤ 8) : acc l n k big < 2 ^ 64 := by
  have hp : 256 ^ n ≤ 256 ^ 8 := Nat.pow_le_pow_right (by decide) hn
  cases big
  · have h1 := val_lt (l.take k)
    have h2 : 256 ^ (l.take k).length ≤ 256 ^ n := Nat.pow_le_pow_right (by decide) (by simp; omega)
    simp only [acc, Bool.false_eq_true, if_false]
    omega
  · have h1 := val_lt (l.take k).reverse
    simp only [List.length_reverse, List.length_take, Nat.min_eq_left (show k ≤ l.length by omega)] at h1
    have h2 : 256 ^ (n - k) * val (l.take k).reverse < 256 ^ (n - k) * 256 ^ k := Nat.mul_lt_mul_of_pos_left h1 (Nat.pow_pos (by decide))
    rw [← Nat.pow_add, show n - k + k = n by omega] at h2
    simp only [acc, if_true]
    omega
theorem byte_lt (c n k : Nat) (big : Bool) (hc : c < 256) (hk : k < n) (hn : n ≤ 8) : 256 ^ plc n k big * c < 2 ^ 64 := by
  have h1 : plc n k big ≤ 7 := by cases big <;> simp [plc] <;> omega
  have h2 : 256 ^ plc n k big ≤ 256 ^ 7 := Nat.pow_le_pow_right (by decide) h1
  have h3 : 256 ^ plc n k big * c ≤ 256 ^ 7 * 255 := Nat.mul_le_mul h2 (by omega)
  omega
theorem pow_eq (i : Nat) : (2 : Int) ^ (8 * i) = ((256 ^ i : Nat) : Int) := by
  rw [Int.pow_mul]; simp
/-- The round's 'or' is a sum. -/
theorem acc_or (l : List UInt8) (n k : Nat) (big : Bool) (c : Nat) (h : l.length = n) (hk : k < n) (hn : n ≤ 8) (hc : c < 256) :
    bits .or .u64 (acc l n k big : Int) ((256 ^ plc n k big * c : Nat) : Int) = ((acc l n k big + 256 ^ plc n k big * c : Nat) : Int) := by
  have ha := acc_lt l n k big h (by omega) hn
  have hb := byte_lt c n k big hc hk hn
  have ha' : (acc l n k big : Int) < 2 ^ 64 := by omega
  have hb' : ((256 ^ plc n k big * c : Nat) : Int) < 2 ^ 64 := by omega
  cases big
  · refine (bits_join_low .u64 64 (by decide) wraps_u64 (8 * k) _ _ (by omega) ?_ ha' (by omega) ?_ hb').trans (by omega)
    · rw [pow_eq]
      have h1 := val_lt (l.take k)
      simp only [List.length_take, Nat.min_eq_left (show k ≤ l.length by omega)] at h1
      simp only [acc, Bool.false_eq_true, if_false]
      omega
    · rw [pow_eq]
      simp only [plc, Bool.false_eq_true, if_false]
      rw [← Int.natCast_emod, Nat.mul_mod_right]; rfl
  · refine (bits_join .u64 64 (by decide) wraps_u64 (8 * (n - k)) _ _ (by omega) ?_ ha' (by omega) ?_ hb').trans (by omega)
    · rw [pow_eq]
      simp only [acc, if_true]
      rw [← Int.natCast_emod, Nat.mul_mod_right]; rfl
    · rw [pow_eq]
      simp only [plc, if_true]
      obtain ⟨j, hj⟩ : ∃ j, n = k + 1 + j := ⟨n - k - 1, by omega⟩
      rw [hj, show k + 1 + j - k = j + 1 by omega, show k + 1 + j - 1 - k = j by omega, Nat.pow_succ]
      have : 256 ^ j * c < 256 ^ j * 256 := Nat.mul_lt_mul_of_pos_left hc (Nat.pow_pos (by decide))
      omega
end Go.Proofs.Ytongkfimgohhbaa

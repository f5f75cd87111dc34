/-
  Numbers and bytes.
-/
import Derived.Lib.EndianBits
import Derived.Test.YtbpgblmhacpjlaaGreatRows
import Derived.WalkKit
import Derived.WalkSpells
import Derived.WalkLawsBesides
import Derived.Deep.QuietTactic
import Derived.BigQuiet
import Derived.Lib.Hide
namespace Go.Proofs.YtbpgblmhacpjlaaGreat

def val : List UInt8 → Nat
  | [] => 0
  | c :: l => c.toNat + 256 * val l
def dec (l : List UInt8) (big : Bool) : Nat := if big then val l.reverse else val l
def digs (v : Nat) : Nat → List UInt8
  | 0 => []
  | n + 1 => UInt8.ofNat v :: digs (v / 256) n
def enc (v n : Nat) (big : Bool) : List UInt8 := if big then (digs v n).reverse else digs v n

theorem val_append (l m : List UInt8) : val (l ++ m) = val l + 256 ^ l.length * val m := by
  induction l with
  | nil => simp [val]
  | cons c l ih =>
    simp only [List.cons_append, val, ih, List.length_cons, Nat.pow_succ]
    rw [Nat.mul_add, Nat.add_assoc]
    congr 2
    rw [← Nat.mul_assoc, Nat.mul_comm (256 ^ l.length) 256]
theorem val_snoc (l : List UInt8) (c : UInt8) : val (l ++ [c]) = val l + 256 ^ l.length * c.toNat := by
  rw [val_append]; simp [val]
theorem val_lt (l : List UInt8) : val l < 256 ^ l.length := by
  induction l with
  | nil => simp [val]
  | cons c l ih =>
    have hc : c.toNat < 256 := c.toNat_lt
    simp only [val, List.length_cons, Nat.pow_succ]
    omega
theorem dec_lt (l : List UInt8) (big : Bool) : dec l big < 256 ^ l.length := by
  cases big
  · exact val_lt l
  · have := val_lt l.reverse; simpa [dec] using this
theorem digs_length (v n : Nat) : (digs v n).length = n := by
  induction n generalizing v with
  | zero => rfl
  | succ n ih => simp [digs, ih]
theorem enc_length (v n : Nat) (big : Bool) : (enc v n big).length = n := by
  cases big <;> simp [enc, digs_length]
theorem val_digs (v n : Nat) : val (digs v n) = v % 256 ^ n := by
  induction n generalizing v with
  | zero => simp [digs, val, Nat.mod_one]
  | succ n ih =>
    simp only [digs, val, ih, UInt8.toNat_ofNat']
    rw [show 256 ^ (n + 1) = 256 * 256 ^ n by rw [Nat.pow_succ, Nat.mul_comm], Nat.mod_mul]
theorem dec_enc (v n : Nat) (big : Bool) (h : v < 256 ^ n) : dec (enc v n big) big = v := by
  cases big <;> simp [dec, enc, val_digs, Nat.mod_eq_of_lt h]
theorem digs_get (v n i : Nat) (h : i < n) : (digs v n)[i]'(by rw [digs_length]; exact h) = UInt8.ofNat (v / 256 ^ i) := by
  induction n generalizing v i with
  | zero => omega
  | succ n ih =>
    cases i with
    | zero => simp [digs]
    | succ i =>
      simp only [digs, List.getElem_cons_succ]
      rw [ih (v / 256) i (by omega), Nat.div_div_eq_div_mul, Nat.pow_succ, Nat.mul_comm (256 ^ i) 256]
theorem digs_snoc (v n : Nat) : digs v (n + 1) = digs v n ++ [UInt8.ofNat (v / 256 ^ n)] := by
  induction n generalizing v with
  | zero => simp [digs]
  | succ n ih =>
    have e : digs v (n + 1 + 1) = UInt8.ofNat v :: digs (v / 256) (n + 1) := rfl
    rw [e, ih, Nat.div_div_eq_div_mul, Nat.pow_succ, Nat.mul_comm (256 ^ n) 256]; rfl

/-- What is gathered of n bytes behind k rounds of Get. -/
def acc (l : List UInt8) (n k : Nat) (big : Bool) : Nat :=
  if big then 256 ^ (n - k) * val (l.take k).reverse else val (l.take k)
theorem acc_zero (l : List UInt8) (n : Nat) (big : Bool) : acc l n 0 big = 0 := by cases big <;> simp [acc, val]
theorem acc_all (l : List UInt8) (n : Nat) (big : Bool) (h : l.length = n) : acc l n n big = dec l big := by
  cases big
  · simp [acc, dec, ← h]
  · simp [acc, dec, ← h]
theorem take_snoc (l : List UInt8) (k : Nat) (h : k < l.length) : l.take (k + 1) = l.take k ++ [l[k]] := by
  rw [List.take_succ_eq_append_getElem h]
/-- where the byte of a round goes -/
def plc (n k : Nat) (big : Bool) : Nat := if big then n - 1 - k else k
theorem acc_succ (l : List UInt8) (n k : Nat) (big : Bool) (h : l.length = n) (hk : k < n) :
    acc l n (k + 1) big = acc l n k big + 256 ^ plc n k big * (l[k]'(by omega)).toNat := by
  have ht := take_snoc l k (by omega)
  cases big
  · simp only [acc, plc, ht, val_snoc]
    simp [List.length_take]
    rw [Nat.min_eq_left (by omega)]
  · simp only [acc, plc, ht, List.reverse_append, List.reverse_cons, List.reverse_nil, List.nil_append, List.singleton_append, val]
    simp only [if_true]
    obtain ⟨j, hj⟩ : ∃ j, n = k + 1 + j := ⟨n - k - 1, by omega⟩
    rw [show n - (k + 1) = j by omega, show n - k = j + 1 by omega, show n - 1 - k = j by omega, Nat.mul_add, Nat.pow_succ, Nat.mul_assoc, Nat.add_comm]
theorem acc_lt (l : List UInt8) (n k : Nat) (big : Bool) (h : l.length = n) (hk : k ≤ n) (hn : n ≤ 8) : acc l n k big < 2 ^ 64 := by
  have hp : 256 ^ n ≤ 256 ^ 8 := Nat.pow_le_pow_right (by decide) hn
  cases big
  · have h1 := val_lt (l.take k)
    have h2 : 256 ^ (l.take k).length ≤ 256 ^ n := Nat.pow_le_pow_right (by decide) (by simp; omega)
    simp only [acc, Bool.false_eq_true, if_false]
    omega
  · have h1 := val_lt (l.take k).reverse
    simp only [List.length_reverse, List.length_take, Nat.min_eq_left (show k ≤ l.length by omega)] at h1
    have h2 : 256 ^ (n - k) * val (l.take k).reverse < 256 ^ (n - k) * 256 ^ k := Nat.mul_lt_mul_of_pos_left h1 (Nat.pow_pos (by decide))
    rw [← Nat.pow_add, show n - k + k = n by omega] at h2
    simp only [acc, if_true]
    omega
theorem byte_lt (c n k : Nat) (big : Bool) (hc : c < 256) (hk : k < n) (hn : n ≤ 8) : 256 ^ plc n k big * c < 2 ^ 64 := by
  have h1 : plc n k big ≤ 7 := by cases big <;> simp [plc] <;> omega
  have h2 : 256 ^ plc n k big ≤ 256 ^ 7 := Nat.pow_le_pow_right (by decide) h1
  have h3 : 256 ^ plc n k big * c ≤ 256 ^ 7 * 255 := Nat.mul_le_mul h2 (by omega)
  omega
theorem pow_eq (i : Nat) : (2 : Int) ^ (8 * i) = ((256 ^ i : Nat) : Int) := by
  rw [Int.pow_mul]; simp
/-- The round's 'or' is a sum. -/
theorem acc_or (l : List UInt8) (n k : Nat) (big : Bool) (c : Nat) (h : l.length = n) (hk : k < n) (hn : n ≤ 8) (hc : c < 256) :
    bits .or .u64 (acc l n k big : Int) ((256 ^ plc n k big * c : Nat) : Int) = ((acc l n k big + 256 ^ plc n k big * c : Nat) : Int) := by
  have ha := acc_lt l n k big h (by omega) hn
  have hb := byte_lt c n k big hc hk hn
  have ha' : (acc l n k big : Int) < 2 ^ 64 := by omega
  have hb' : ((256 ^ plc n k big * c : Nat) : Int) < 2 ^ 64 := by omega
  cases big
  · refine (bits_join_low .u64 64 (by decide) wraps_u64 (8 * k) _ _ (by omega) ?_ ha' (by omega) ?_ hb').trans (by omega)
    · rw [pow_eq]
      have h1 := val_lt (l.take k)
      simp only [List.length_take, Nat.min_eq_left (show k ≤ l.length by omega)] at h1
      simp only [acc, Bool.false_eq_true, if_false]
      omega
    · rw [pow_eq]
      simp only [plc, Bool.false_eq_true, if_false]
      rw [← Int.natCast_emod, Nat.mul_mod_right]; rfl
  · refine (bits_join .u64 64 (by decide) wraps_u64 (8 * (n - k)) _ _ (by omega) ?_ ha' (by omega) ?_ hb').trans (by omega)
    · rw [pow_eq]
      simp only [acc, if_true]
      rw [← Int.natCast_emod, Nat.mul_mod_right]; rfl
    · rw [pow_eq]
      simp only [plc, if_true]
      obtain ⟨j, hj⟩ : ∃ j, n = k + 1 + j := ⟨n - k - 1, by omega⟩
      rw [hj, show k + 1 + j - k = j + 1 by omega, show k + 1 + j - 1 - k = j by omega, Nat.pow_succ]
      have : 256 ^ j * c < 256 ^ j * 256 := Nat.mul_lt_mul_of_pos_left hc (Nat.pow_pos (by decide))
      omega
end Go.Proofs.YtbpgblmhacpjlaaGreat
namespace Go.Proofs.YtbpgblmhacpjlaaGreat
open Go.RowKit

theorem ret_bool {a b : Bool} (h : a = b) : Ending.returned (.bool a) = .returned (.bool b) := by rw [h]

theorem isSize_yes (n : Int) (w : World) (h1 : 1 ≤ n) (h2 : n ≤ 8) :
    Calls Tryz.prog 77 #[.int .i64 n] w fun e w' => e = .returned (.bool true) ∧ w = w' := by
  go_enter Tryz.func77, Tryz.ntmps77
  go_wp2
  go_ret
  exact ⟨rfl, rfl⟩
theorem isSize_no (n : Int) (w : World) (h : n < 1 ∨ 8 < n) :
    Calls Tryz.prog 77 #[.int .i64 n] w fun e w' => e = .returned (.bool false) ∧ w = w' := by
  rcases h with h | h
  · go_enter Tryz.func77, Tryz.ntmps77
    go_wp2
    go_ret
    exact ⟨rfl, rfl⟩
  · go_enter Tryz.func77, Tryz.ntmps77
    go_wp2
    go_ret
    exact ⟨ret_bool (decide_eq_false (by omega)), rfl⟩
theorem shift_big (i n : Int) (w : World) (h1 : 0 ≤ i) (h2 : i < n) (h3 : n ≤ 8) :
    Calls Tryz.prog 79 #[.int .i64 i, .int .i64 n, .bool true] w fun e w' => e = .returned (.int .i64 (8 * (n - 1 - i))) ∧ w = w' := by
  go_enter Tryz.func79, Tryz.ntmps79
  go_wp2
  go_ret
  exact ⟨rfl, rfl⟩
theorem shift_low (i n : Int) (w : World) (h1 : 0 ≤ i) (h2 : i < n) (h3 : n ≤ 8) :
    Calls Tryz.prog 79 #[.int .i64 i, .int .i64 n, .bool false] w fun e w' => e = .returned (.int .i64 (8 * i)) ∧ w = w' := by
  go_enter Tryz.func79, Tryz.ntmps79
  go_wp2
  go_ret
  exact ⟨rfl, rfl⟩
theorem shift_any (k n : Nat) (big : Bool) (w : World) (h2 : k < n) (h3 : n ≤ 8) :
    Calls Tryz.prog 79 #[.int .i64 k, .int .i64 n, .bool big] w fun e w' => e = .returned (.int .i64 (8 * plc n k big : Nat)) ∧ w = w' := by
  cases big
  · have e : ((8 * plc n k false : Nat) : Int) = 8 * (k : Int) := by simp [plc]
    rw [e]; exact shift_low k n w (by omega) (by omega) (by omega)
  · have e : ((8 * plc n k true : Nat) : Int) = 8 * ((n : Int) - 1 - k) := by simp [plc]; omega
    rw [e]; exact shift_big k n w (by omega) (by omega) (by omega)
theorem quiet_left {P : Program} {f : FuncId} {args : Array Value} {w : World} {n : Nat} {v : Value}
    (h : Calls P f args (w.drewN n) fun e w' => e = .returned v ∧ w.drewN n = w') : Calls P f args (w.drewN n) fun e w'' => e = .returned v ∧ ∃ m, w'' = w.drewN m :=
  h.mono fun _ _ ⟨he, hm⟩ => ⟨he, n, hm.symm⟩
theorem holds_yes (s : ByteArray) (a n : Int) (w : World) (hs : s.size ≤ maxLen) (h1 : 1 ≤ n) (h2 : n ≤ 8) (h3 : 0 ≤ a) (h4 : a + n ≤ s.size) :
    Calls Tryz.prog 97 #[.string s, .int .i64 a, .int .i64 n] w fun e w' => e = .returned (.bool true) ∧ w = w' := by
  unfold maxLen at hs
  go_enter Tryz.func97, Tryz.ntmps97
  go_wp2
  go_ret
  exact ⟨ret_bool (decide_eq_true (by omega)), rfl⟩
theorem holds_no (s : ByteArray) (a n : Int) (w : World) (hs : s.size ≤ maxLen) (h1 : 1 ≤ n) (h2 : n ≤ 8) (h : a < 0 ∨ (s.size : Int) < a + n) :
    Calls Tryz.prog 97 #[.string s, .int .i64 a, .int .i64 n] w fun e w' => e = .returned (.bool false) ∧ w = w' := by
  unfold maxLen at hs
  by_cases h0 : a < 0
  · go_enter Tryz.func97, Tryz.ntmps97
    go_wp2
    go_ret
    exact ⟨rfl, rfl⟩
  · have h3 : (s.size : Int) - n < a := by omega
    clear h
    go_enter Tryz.func97, Tryz.ntmps97
    go_wp2
    go_ret
    exact ⟨ret_bool (decide_eq_false (by omega)), rfl⟩
theorem pow_bytes (n : Nat) : (2 : Int) ^ (8 * (n : Int)).toNat = 256 ^ n := by
  have e : (8 * (n : Int)).toNat = 8 * n := by omega
  rw [e, Int.pow_mul]; rfl
theorem fits_any (v : Int) (n : Nat) (w : World) (h0 : 0 ≤ v) (h1 : 1 ≤ n) (h2 : n ≤ 8) :
    Calls Tryz.prog 78 #[.int .u64 v, .int .i64 n] w fun e w' => e = .returned (.bool (decide (v < 256 ^ n))) ∧ w = w' := by
  go_enter Tryz.func78, Tryz.ntmps78
  go_wp2
  go_ret
  refine ⟨ret_bool ?_, rfl⟩
  show (v / 2 ^ (8 * (n : Int)).toNat == 0) = _
  rw [pow_bytes]
  have hp : (0 : Int) < 256 ^ n := Int.pow_pos (by decide)
  rw [Bool.eq_iff_iff]
  simp only [beq_iff_eq, decide_eq_true_eq]
  constructor
  · intro h
    have := Int.lt_mul_ediv_self_add (x := v) hp; rw [h] at this; simpa using this
  · intro h; exact Int.ediv_eq_zero_of_lt h0 h
end Go.Proofs.YtbpgblmhacpjlaaGreat
namespace Go.Proofs.YtbpgblmhacpjlaaGreat
open Go.RowKit

/-- the n bytes of s from a on -/
def cutl (s : ByteArray) (a n : Nat) : List UInt8 := (s.data.toList.drop a).take n
theorem cutl_length (s : ByteArray) (a n : Nat) (h : a + n ≤ s.size) : (cutl s a n).length = n := by
  simp only [cutl, List.length_take, List.length_drop, Array.length_toList]
  have : s.data.size = s.size := rfl
  omega
theorem cutl_get (s : ByteArray) (a n k : Nat) (h : a + n ≤ s.size) (hk : k < n) : (cutl s a n)[k]'(by rw [cutl_length s a n h]; exact hk) = s[a + k] := by
  simp [cutl]; rfl
theorem acc_round (s : ByteArray) (a n k : Nat) (big : Bool) (h : a + n ≤ s.size) (hk : k < n) (hn : n ≤ 8) :
    bits .or .u64 (acc (cutl s a n) n k big : Int) (IntKind.u64.wrap ((s[a + k].toNat : Int) * 2 ^ (8 * plc n k big))) = (acc (cutl s a n) n (k + 1) big : Int) := by
  have hc : s[a + k].toNat < 256 := s[a + k].toNat_lt
  have hl := cutl_length s a n h
  rw [acc_succ _ n k big hl hk, cutl_get s a n k h hk, ← acc_or _ n k big _ hl hk hn hc, pow_eq]
  have hb := byte_lt s[a + k].toNat n k big hc hk hn
  have e : (s[a + k].toNat : Int) * ((256 ^ plc n k big : Nat) : Int) = ((256 ^ plc n k big * s[a + k].toNat : Nat) : Int) := by
    rw [Nat.mul_comm, Int.natCast_mul]
  rw [e, wraps_u64 _ (by omega) (by omega)]

set_option maxHeartbeats 400000 in
theorem get_ok (s : ByteArray) (a n : Nat) (big : Bool) (w : World) (hs : s.size ≤ maxLen) (h1 : 1 ≤ n) (h2 : n ≤ 8) (h4 : a + n ≤ s.size) :
    Calls Tryz.prog 93 #[.string s, .int .i64 a, .int .i64 n, .bool big] w fun e w' => e = .returned (.tuple #[.int .u64 (dec (cutl s a n) big), .int .i64 0]) ∧ Below w.heap.size w w' := by
  have hs0 := hs
  unfold maxLen at hs
  go_enter Tryz.func93, Tryz.ntmps93
  go_wp2_with (first | (go_at_call 77; refine (isSize_yes _ _ (by omega) (by omega)).mono ?_; rintro e w' ⟨rfl, rfl⟩) | (go_at_call 97; refine (holds_yes _ _ _ _ hs0 (by omega) (by omega) (by omega) (by omega)).mono ?_; rintro e w' ⟨rfl, rfl⟩))
  go_loopw [10, 21] (fun v i wr => ∃ k : Nat, k ≤ n ∧ i = .int .i64 k ∧ v = .int .u64 (acc (cutl s a n) n k big) ∧ Below w.heap.size w wr) (fun _ i _ => n - (intOf i).toNat)
  case atStart => exact ⟨0, Nat.zero_le _, rfl, by rw [acc_zero]; rfl, Below.refl _ _⟩
  case round =>
    obtain ⟨k, hk, rfl, rfl, hb⟩ := hrel
    by_cases hlt : k < n
    · go_wp2_with fail
      have e4 : (a : Int) + k < s.size := by omega
      have e5 : a + k < s.size := by omega
      have e3 : (0 : Int) ≤ (a : Int) + k := by omega
      have e2 : IntKind.i64.wrap ((a : Int) + k) = (a : Int) + k := IntWalk.i64_in _ (by omega)
      have e1 : ((a : Int) + k).toNat = a + k := by omega
      have hc : s[a + k].toNat < 256 := s[a + k].toNat_lt
      have e6 : IntKind.u64.wrap (s[a + k].toNat : Int) = (s[a + k].toNat : Int) := IntWalk.u64_in _ (by omega)
      have hp : plc n k big ≤ 7 := by cases big <;> simp [plc] <;> omega
      go_quiet ((go_at_call 79; exact quiet_left (shift_any _ _ _ _ hlt h2)))
      clear e2
      rw [acc_round s a n k big h4 hlt h2]
      go_wp2
      go_roundw
      case rel => exact ⟨k + 1, by omega, by go_num, rfl, below_drewN hb _⟩
      case measure => simp [intOf]; omega
    · go_wp2
      go_ret2
      obtain rfl : k = n := by omega
      rw [acc_all _ _ _ (cutl_length s a k h4)]
      exact ⟨rfl, hb⟩

def getE (s : ByteArray) (a n : Int) : Int := if 1 ≤ n ∧ n ≤ 8 then (if 0 ≤ a ∧ a + n ≤ s.size then 0 else 10) else 1
def getV (s : ByteArray) (a n : Int) (big : Bool) : Int := if 1 ≤ n ∧ n ≤ 8 ∧ 0 ≤ a ∧ a + n ≤ s.size then (dec (cutl s a.toNat n.toNat) big : Int) else 0

theorem get_size (s : ByteArray) (a n : Int) (big : Bool) (w : World) (h : n < 1 ∨ 8 < n) :
    Calls Tryz.prog 93 #[.string s, .int .i64 a, .int .i64 n, .bool big] w fun e w' => e = .returned (.tuple #[.int .u64 0, .int .i64 1]) ∧ w = w' := by
  go_enter Tryz.func93, Tryz.ntmps93
  go_wp2_with (go_at_call 77; refine (isSize_no _ _ h).mono ?_; rintro e w' ⟨rfl, rfl⟩)
  go_ret2
  exact ⟨rfl, rfl⟩
theorem get_at (s : ByteArray) (a n : Int) (big : Bool) (w : World) (hs : s.size ≤ maxLen) (h1 : 1 ≤ n) (h2 : n ≤ 8) (h : a < 0 ∨ (s.size : Int) < a + n) :
    Calls Tryz.prog 93 #[.string s, .int .i64 a, .int .i64 n, .bool big] w fun e w' => e = .returned (.tuple #[.int .u64 0, .int .i64 10]) ∧ w = w' := by
  go_enter Tryz.func93, Tryz.ntmps93
  go_wp2_with (first | (go_at_call 77; refine (isSize_yes _ _ (by omega) (by omega)).mono ?_; rintro e w' ⟨rfl, rfl⟩) | (go_at_call 97; refine (holds_no _ _ _ _ hs h1 h2 h).mono ?_; rintro e w' ⟨rfl, rfl⟩))
  go_ret2
  exact ⟨rfl, rfl⟩
theorem get_any (s : ByteArray) (a n : Int) (big : Bool) (w : World) (hs : s.size ≤ maxLen) :
    Calls Tryz.prog 93 #[.string s, .int .i64 a, .int .i64 n, .bool big] w fun e w' => e = .returned (.tuple #[.int .u64 (getV s a n big), .int .i64 (getE s a n)]) ∧ Below w.heap.size w w' := by
  by_cases h1 : 1 ≤ n ∧ n ≤ 8
  · by_cases h2 : 0 ≤ a ∧ a + n ≤ s.size
    · obtain ⟨k, rfl⟩ := Int.eq_ofNat_of_zero_le (show 0 ≤ n by omega)
      obtain ⟨b, rfl⟩ := Int.eq_ofNat_of_zero_le h2.1
      refine (get_ok s b k big w hs (by omega) (by omega) (by omega)).mono fun e w' ⟨he, hw⟩ => ⟨?_, hw⟩
      rw [he, getV, getE, if_pos ⟨h1.1, h1.2, h2.1, h2.2⟩, if_pos h1, if_pos h2]; rfl
    · refine (get_at s a n big w hs h1.1 h1.2 (by omega)).mono fun e w' ⟨he, hw⟩ => ⟨?_, hw ▸ Below.refl _ _⟩
      rw [he, getV, getE, if_neg (by omega), if_pos h1, if_neg h2]
  · refine (get_size s a n big w (by omega)).mono fun e w' ⟨he, hw⟩ => ⟨?_, hw ▸ Below.refl _ _⟩
    rw [he, getV, getE, if_neg (by omega), if_neg h1]

/-! The document's own Get -/
def accR (l : List UInt8) (n k : Nat) (big : Bool) : Nat := if big then val (l.take k).reverse else val (l.drop (n - k))
def pckR (n k : Nat) (big : Bool) : Nat := if big then k else n - 1 - k
theorem pckR_lt (n k : Nat) (big : Bool) (hk : k < n) : pckR n k big < n := by cases big <;> simp [pckR] <;> omega
theorem accR_succ (l : List UInt8) (n k : Nat) (big : Bool) (h : l.length = n) (hk : k < n) :
    accR l n (k + 1) big = accR l n k big * 256 + (l[pckR n k big]'(by have := pckR_lt n k big hk; omega)).toNat := by
  cases big
  · have e : l.drop (n - (k + 1)) = l[n - 1 - k]'(by omega) :: l.drop (n - k) := by
      rw [List.drop_eq_getElem_cons (by omega)]
      congr 2 <;> omega
    simp only [accR, pckR, Bool.false_eq_true, if_false, e, val]
    omega
  · have ht := take_snoc l k (by omega)
    simp only [accR, pckR, if_true, ht, List.reverse_append, List.reverse_cons, List.reverse_nil, List.nil_append, List.singleton_append, val]
    omega
theorem accR_zero (l : List UInt8) (n : Nat) (big : Bool) (h : l.length = n) : accR l n 0 big = 0 := by
  cases big <;> simp [accR, val, ← h]
theorem accR_all (l : List UInt8) (n : Nat) (big : Bool) (h : l.length = n) : accR l n n big = dec l big := by
  cases big <;> simp [accR, dec, ← h]
theorem accR_lt (l : List UInt8) (n k : Nat) (big : Bool) (h : l.length = n) (hk : k < n) (hn : n ≤ 8) : accR l n k big < 256 ^ 7 := by
  have hp : 256 ^ k ≤ 256 ^ 7 := Nat.pow_le_pow_right (by decide) (by omega)
  cases big
  · have h1 := val_lt (l.drop (n - k))
    simp only [List.length_drop, h, show n - (n - k) = k by omega] at h1
    simp only [accR, Bool.false_eq_true, if_false]; omega
  · have h1 := val_lt (l.take k).reverse
    simp only [List.length_reverse, List.length_take, Nat.min_eq_left (show k ≤ l.length by omega)] at h1
    simp only [accR, if_true]; omega
theorem accR_round (s : ByteArray) (a n k : Nat) (big : Bool) (h : a + n ≤ s.size) (hk : k < n) :
    accR (cutl s a n) n (k + 1) big = accR (cutl s a n) n k big * 256 + (s[a + pckR n k big]'(by have := pckR_lt n k big hk; omega)).toNat := by
  rw [accR_succ _ n k big (cutl_length s a n h) hk, cutl_get s a n _ h (pckR_lt n k big hk)]

end Go.Proofs.YtbpgblmhacpjlaaGreat
namespace Go.Proofs.YtbpgblmhacpjlaaGreat
open Go.RowKit

theorem Tryz.info5 : (Tryz.prog.info? 5).map (fun i => (i.zero, i.size, i.bytes)) = some (some (.int .u8 0), 1, 1) := by kernel_rfl

def byteV (c : UInt8) : Value := .int .u8 (c.toNat : Int)
/-- The row that begins block g holds the bytes xs. -/
def Row (B g : Nat) (xs : List UInt8) (w : World) : Prop :=
  w.ownsRow B 5 1 (.slice (some ⟨g, 0, none⟩) xs.length xs.length) xs.length (xs.map byteV)
theorem Row.cell {B g : Nat} {xs : List UInt8} {w : World} (h : Row B g xs w) (j : Nat) (hj : j < xs.length) : w.cell? ⟨g, j, none⟩ = some (byteV xs[j]) := by
  rw [World.ownsRow.cellAt h j (by omega)]
  simp [hj]
theorem Row.free {B g : Nat} {xs : List UInt8} {w : World} (h : Row B g xs w) (j : Nat) : w.frozen? ⟨g, j, none⟩ = false :=
  World.ownsRow.frozenAt h j
theorem Row.set {B g : Nat} {xs : List UInt8} {w : World} (h : Row B g xs w) (j : Nat) (c : UInt8) : Row B g (xs.set j c) (w.setCell ⟨g, j, none⟩ (byteV c)) := by
  have := (World.ownsRow.stored h j (byteV c)).1
  unfold Row
  rw [List.length_set, List.map_set]
  exact this
theorem Row.zero {B g n : Nat} {w : World} (h : w.ownsRow B 5 1 (.slice (some ⟨g, 0, none⟩) n n) n (madeCells (Value.cells (.int .u8 0)) (n * 1)).toList) : Row B g (List.replicate n 0) w := by
  unfold Row
  have e : (madeCells (Value.cells (.int .u8 0)) (n * 1)).toList = List.replicate n (.int .u8 0) := by
    rw [Nat.mul_one]; exact toList_madeCells_one _ n
  rw [e] at h
  simp only [List.length_replicate, List.map_replicate]
  exact h
theorem Row.text {B g : Nat} {xs : List UInt8} {w : World} (h : Row B g xs w) (cap : Nat) :
    (convert 65 9 (.slice (some ⟨g, 0, none⟩) xs.length cap)).run Tryz.prog w = .ok (.string ⟨xs.toArray⟩) w := by
  refine run_convert_bytes_back w 65 9 5 ⟨g, 0, none⟩ cap xs Tryz.underlying65 Tryz.underlying5 Tryz.underlying9 ?_
  intro j hj
  have e : (⟨g, 0, none⟩ : Addr).add j = ⟨g, j, none⟩ := by unfold Addr.add; split <;> simp_all
  rw [e]; exact h.cell j hj
theorem Row.below {B g : Nat} {xs : List UInt8} {w0 w : World} (h : Row B g xs w) (hb : Below B w0 w) (j : Nat) (c : UInt8) : Below B w0 (w.setCell ⟨g, j, none⟩ (byteV c)) := by
  refine hb.setCell ?_ _
  rcases h.2 with ⟨h', _⟩ | ⟨g', cap', cur, h', hB, _⟩
  · simp at h'
  · simp only [Value.slice.injEq, Option.some.injEq, Addr.mk.injEq, and_true] at h'
    rw [h'.1]; exact hB

/-- A row of l.length bytes at block B, those of which D speaks being l's. -/
def Fill (B : Nat) (l : List UInt8) (D : Nat → Prop) (w0 wr : World) : Prop :=
  ∃ xs : List UInt8, xs.length = l.length ∧ (∀ j, j < l.length → D j → xs[j]? = l[j]?) ∧ Row B B xs wr ∧ Below B w0 wr
theorem Fill.start {l : List UInt8} {n : Nat} {w w1 : World} (hn : l.length = n)
    (h : w1.ownsRow w.heap.size 5 1 (.slice (some ⟨w.heap.size, 0, none⟩) n n) n (madeCells (Value.cells (.int .u8 0)) (n * 1)).toList) (hg : w.grownBy w1 none) :
    Fill w.heap.size l (fun _ => False) w w1 :=
  ⟨List.replicate n 0, by simp [hn], fun _ _ h => h.elim, Row.zero h, (Below.refl _ _).grown hg (Nat.le_refl _) (by simp)⟩
theorem Fill.mono {B : Nat} {l : List UInt8} {D D' : Nat → Prop} {w0 wr : World} (h : Fill B l D w0 wr) (hD : ∀ j, j < l.length → D' j → D j) : Fill B l D' w0 wr := by
  obtain ⟨xs, h1, h2, h3, h4⟩ := h
  exact ⟨xs, h1, fun j hj hd => h2 j hj (hD j hj hd), h3, h4⟩
theorem Fill.cell {B : Nat} {l : List UInt8} {D : Nat → Prop} {w0 wr : World} (h : Fill B l D w0 wr) (j : Nat) (hj : j < l.length) : ∃ u : Int, wr.cell? ⟨B, j, none⟩ = some (.int .u8 u) := by
  obtain ⟨xs, h1, h2, h3, h4⟩ := h
  exact ⟨_, h3.cell j (by omega)⟩
theorem Fill.free {B : Nat} {l : List UInt8} {D : Nat → Prop} {w0 wr : World} (h : Fill B l D w0 wr) (j : Nat) : wr.frozen? ⟨B, j, none⟩ = false := by
  obtain ⟨xs, h1, h2, h3, h4⟩ := h
  exact h3.free j
theorem Fill.step {B : Nat} {l : List UInt8} {D : Nat → Prop} {w0 wr : World} (h : Fill B l D w0 wr) (j : Nat) (hj : j < l.length) :
    Fill B l (fun i => D i ∨ i = j) w0 (wr.setCell ⟨B, j, none⟩ (byteV l[j])) := by
  obtain ⟨xs, h1, h2, h3, h4⟩ := h
  refine ⟨xs.set j l[j], by simp [h1], ?_, h3.set j l[j], h3.below h4 j _⟩
  intro i hi hd
  rw [List.getElem?_set]
  by_cases e : j = i
  · subst e
    simp [h1, hi]
  · rw [if_neg e]
    rcases hd with hd | hd
    · exact h2 i hi hd
    · exact absurd hd.symm e
theorem Fill.text {B : Nat} {l : List UInt8} {w0 wr : World} (h : Fill B l (fun _ => True) w0 wr) (cap : Nat) :
    (convert 65 9 (.slice (some ⟨B, 0, none⟩) l.length cap)).run Tryz.prog wr = .ok (.string ⟨l.toArray⟩) wr := by
  obtain ⟨xs, h1, h2, h3, h4⟩ := h
  have e : xs = l := by
    apply List.ext_getElem?
    intro j
    by_cases hj : j < l.length
    · exact h2 j hj trivial
    · rw [List.getElem?_eq_none (by omega), List.getElem?_eq_none (by omega)]
  subst e
  exact h3.text cap
theorem Fill.below {B : Nat} {l : List UInt8} {D : Nat → Prop} {w0 wr : World} (h : Fill B l D w0 wr) : Below B w0 wr := by
  obtain ⟨xs, h1, h2, h3, h4⟩ := h
  exact h4
/-- The byte that a round of Put stores. -/
theorem enc_get (v n k : Nat) (big : Bool) (hk : k < n) : (enc v n big)[k]'(by rw [enc_length]; exact hk) = UInt8.ofNat (v / 256 ^ plc n k big) := by
  cases big
  · simp only [enc, plc, Bool.false_eq_true, if_false]; exact digs_get v n k hk
  · simp only [enc, plc, if_true]
    rw [List.getElem_reverse]
    simp only [digs_length]
    exact digs_get v n (n - 1 - k) (by omega)
theorem byte_round (v n k : Nat) (big : Bool) (hk : k < n) : Value.int .u8 (IntKind.u8.wrap ((v : Int) / 2 ^ (8 * plc n k big))) = byteV ((enc v n big)[k]'(by rw [enc_length]; exact hk)) := by
  rw [enc_get v n k big hk, byteV, pow_eq, IntKind.wrap_u8, ← Int.natCast_ediv]
  simp [UInt8.toNat_ofNat']
end Go.Proofs.YtbpgblmhacpjlaaGreat

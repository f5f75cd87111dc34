/-
  What words.Get and the document's Get answer, for every string within the language's own length and all numbers: one and the same number and error.
-/
import Derived.Test.YtongkfimgohhbaaSmall
import Derived.Lib.Hide
namespace Go.Proofs.Ytongkfimgohhbaa
open Go.RowKit

/-- the n bytes of s from a on -/
def cutl (s : ByteArray) (a n : Nat) : List UInt8 := (s.data.toList.drop a).take n
theorem cutl_length (s : ByteArray) (a n : Nat) (h : a + n ≤ s.size) : (cutl s a n).length = n := by
  simp only [cutl, List.length_take, List.length_drop, Array.length_toList]
  have : s.data.size = s.size := rfl
  omega
theorem cutl_get (s : ByteArray) (a n k : Nat) (h : a + n ≤ s.size) (hk : k < n) : (cutl s a n)[k]'(by rw [cutl_length s a n h]; exact hk) = s[a + k] := by
  simp [cutl]; rfl
theorem acc_round (s : ByteArray) (a n k : Nat) (big : Bool) (h : a + n ≤ s.size) (hk : k < n) (hn : n ≤ 8) :
    bits .or .u64 (acc (cutl s a n) n k big : Int) (IntKind.u64.wrap ((s[a + k].toNat : Int) * 2 ^ (8 * plc n k big))) = (acc (cutl s a n) n (k + 1) big : Int) := by
  have hc : s[a + k].toNat < 256 := s[a + k].toNat_lt
  have hl := cutl_length s a n h
  rw [acc_succ _ n k big hl hk, cutl_get s a n k h hk, ← acc_or _ n k big _ hl hk hn hc, pow_eq]
  have hb := byte_lt s[a + k].toNat n k big hc hk hn
  have e : (s[a + k].toNat : Int) * ((256 ^ plc n k big : Nat) : Int) = ((256 ^ plc n k big * s[a + k].toNat : Nat) : Int) := by
    rw [Nat.mul_comm, Int.natCast_mul]
  rw [e, wraps_u64 _ (by omega) (by omega)]

set_option maxHeartbeats 400000 in
theorem get_ok (s : ByteArray) (a n : Nat) (big : Bool) (w : World) (hs : s.size ≤ maxLen) (h1 : 1 ≤ n) (h2 : n ≤ 8) (h4 : a + n ≤ s.size) :
    Calls Try.prog 63 #[.string s, .int .i64 a, .int .i64 n, .bool big] w fun e w' => e = .returned (.tuple #[.int .u64 (dec (cutl s a n) big), .int .i64 0]) ∧ Below w.heap.size w w' := by
  have hs0 := hs
  unfold maxLen at hs
  go_enter Try.func63, Try.ntmps63
  go_wp2_with (first | (go_at_call 70; refine (isSize_yes _ _ (by omega) (by omega)).mono ?_; rintro e w' ⟨rfl, rfl⟩) | (go_at_call 75; refine (holds_yes _ _ _ _ hs0 (by omega) (by omega) (by omega) (by omega)).mono ?_; rintro e w' ⟨rfl, rfl⟩))
  go_loopw [10, 21] (fun v i wr => ∃ k : Nat, k ≤ n ∧ i = .int .i64 k ∧ v = .int .u64 (acc (cutl s a n) n k big) ∧ Below w.heap.size w wr) (fun _ i _ => n - (intOf i).toNat)
  case atStart => exact ⟨0, Nat.zero_le _, rfl, by rw [acc_zero]; rfl, Below.refl _ _⟩
  case round =>
    obtain ⟨k, hk, rfl, rfl, hb⟩ := hrel
    by_cases hlt : k < n
    · go_wp2_with fail
      have e4 : (a : Int) + k < s.size := by omega
      have e5 : a + k < s.size := by omega
      have e3 : (0 : Int) ≤ (a : Int) + k := by omega
      have e2 : IntKind.i64.wrap ((a : Int) + k) = (a : Int) + k := IntWalk.i64_in _ (by omega)
      have e1 : ((a : Int) + k).toNat = a + k := by omega
      have hc : s[a + k].toNat < 256 := s[a + k].toNat_lt
      have e6 : IntKind.u64.wrap (s[a + k].toNat : Int) = (s[a + k].toNat : Int) := IntWalk.u64_in _ (by omega)
      have hp : plc n k big ≤ 7 := by cases big <;> simp [plc] <;> omega
      go_quiet ((go_at_call 72; exact quiet_left (shift_any _ _ _ _ hlt h2)))
      clear e2
      rw [acc_round s a n k big h4 hlt h2]
      go_wp2
      go_roundw
      case rel => exact ⟨k + 1, by omega, by go_num, rfl, below_drewN hb _⟩
      case measure => simp [intOf]; omega
    · go_wp2
      go_ret2
      obtain rfl : k = n := by omega
      rw [acc_all _ _ _ (cutl_length s a k h4)]
      exact ⟨rfl, hb⟩

def getE (s : ByteArray) (a n : Int) : Int := if 1 ≤ n ∧ n ≤ 8 then (if 0 ≤ a ∧ a + n ≤ s.size then 0 else 10) else 1
def getV (s : ByteArray) (a n : Int) (big : Bool) : Int := if 1 ≤ n ∧ n ≤ 8 ∧ 0 ≤ a ∧ a + n ≤ s.size then (dec (cutl s a.toNat n.toNat) big : Int) else 0

theorem get_size (s : ByteArray) (a n : Int) (big : Bool) (w : World) (h : n < 1 ∨ 8 < n) :
    Calls Try.prog 63 #[.string s, .int .i64 a, .int .i64 n, .bool big] w fun e w' => e = .returned (.tuple #[.int .u64 0, .int .i64 1]) ∧ w = w' := by
  go_enter Try.func63, Try.ntmps63
  go_wp2_with (go_at_call 70; refine (isSize_no _ _ h).mono ?_; rintro e w' ⟨rfl, rfl⟩)
  go_ret2
  exact ⟨rfl, rfl⟩
theorem get_at (s : ByteArray) (a n : Int) (big : Bool) (w : World) (hs : s.size ≤ maxLen) (h1 : 1 ≤ n) (h2 : n ≤ 8) (h : a < 0 ∨ (s.size : Int) < a + n) :
    Calls Try.prog 63 #[.string s, .int .i64 a, .int .i64 n, .bool big] w fun e w' => e = .returned (.tuple #[.int .u64 0, .int .i64 10]) ∧ w = w' := by
  go_enter Try.func63, Try.ntmps63
  go_wp2_with (first | (go_at_call 70; refine (isSize_yes _ _ (by omega) (by omega)).mono ?_; rintro e w' ⟨rfl, rfl⟩) | (go_at_call 75; refine (holds_no _ _ _ _ hs h1 h2 h).mono ?_; rintro e w' ⟨rfl, rfl⟩))
  go_ret2
  exact ⟨rfl, rfl⟩
theorem get_any (s : ByteArray) (a n : Int) (big : Bool) (w : World) (hs : s.size ≤ maxLen) :
    Calls Try.prog 63 #[.string s, .int .i64 a, .int .i64 n, .bool big] w fun e w' => e = .returned (.tuple #[.int .u64 (getV s a n big), .int .i64 (getE s a n)]) ∧ Below w.heap.size w w' := by
  by_cases h1 : 1 ≤ n ∧ n ≤ 8
  · by_cases h2 : 0 ≤ a ∧ a + n ≤ s.size
    · obtain ⟨k, rfl⟩ := Int.eq_ofNat_of_zero_le (show 0 ≤ n by omega)
      obtain ⟨b, rfl⟩ := Int.eq_ofNat_of_zero_le h2.1
      refine (get_ok s b k big w hs (by omega) (by omega) (by omega)).mono fun e w' ⟨he, hw⟩ => ⟨?_, hw⟩
      rw [he, getV, getE, if_pos ⟨h1.1, h1.2, h2.1, h2.2⟩, if_pos h1, if_pos h2]; rfl
    · refine (get_at s a n big w hs h1.1 h1.2 (by omega)).mono fun e w' ⟨he, hw⟩ => ⟨?_, hw ▸ Below.refl _ _⟩
      rw [he, getV, getE, if_neg (by omega), if_pos h1, if_neg h2]
  · refine (get_size s a n big w (by omega)).mono fun e w' ⟨he, hw⟩ => ⟨?_, hw ▸ Below.refl _ _⟩
    rw [he, getV, getE, if_neg (by omega), if_neg h1]

/-! The document's own Get -/
def accR (l : List UInt8) (n k : Nat) (big : Bool) : Nat := if big then val (l.take k).reverse else val (l.drop (n - k))
def pckR (n k : Nat) (big : Bool) : Nat := if big then k else n - 1 - k
theorem pckR_lt (n k : Nat) (big : Bool) (hk : k < n) : pckR n k big < n := by cases big <;> simp [pckR] <;> omega
theorem accR_succ (l : List UInt8) (n k : Nat) (big : Bool) (h : l.length = n) (hk : k < n) :
    accR l n (k + 1) big = accR l n k big * 256 + (l[pckR n k big]'(by have := pckR_lt n k big hk; omega)).toNat := by
  cases big
  · have e : l.drop (n - (k + 1)) = l[n - 1 - k]'(by omega) :: l.drop (n - k) := by
      rw [List.drop_eq_getElem_cons (by omega)]
      congr 2 <;> omega
    simp only [accR, pckR, Bool.false_eq_true, if_false, e, val]
    omega
  · have ht := take_snoc l k (by omega)
    simp only [accR, pckR, if_true, ht, List.reverse_append, List.reverse_cons, List.reverse_nil, List.nil_append, List.singleton_append, val]
    omega
theorem accR_zero (l : List UInt8) (n : Nat) (big : Bool) (h : l.length = n) : accR l n 0 big = 0 := by
  cases big <;> simp [accR, val, ← h]
theorem accR_all (l : List UInt8) (n : Nat) (big : Bool) (h : l.length = n) : accR l n n big = dec l big := by
  cases big <;> simp [accR, dec, ← h]
theorem accR_lt (l : List UInt8) (n k : Nat) (big : Bool) (h : l.length = n) (hk : k < n) (hn : n ≤ 8) : accR l n k big < 256 ^ 7 := by
  have hp : 256 ^ k ≤ 256 ^ 7 := Nat.pow_le_pow_right (by decide) (by omega)
  cases big
  · have h1 := val_lt (l.drop (n - k))
    simp only [List.length_drop, h, show n - (n - k) = k by omega] at h1
    simp only [accR, Bool.false_eq_true, if_false]; omega
  · have h1 := val_lt (l.take k).reverse
    simp only [List.length_reverse, List.length_take, Nat.min_eq_left (show k ≤ l.length by omega)] at h1
    simp only [accR, if_true]; omega
theorem accR_round (s : ByteArray) (a n k : Nat) (big : Bool) (h : a + n ≤ s.size) (hk : k < n) :
    accR (cutl s a n) n (k + 1) big = accR (cutl s a n) n k big * 256 + (s[a + pckR n k big]'(by have := pckR_lt n k big hk; omega)).toNat := by
  rw [accR_succ _ n k big (cutl_length s a n h) hk, cutl_get s a n _ h (pckR_lt n k big hk)]

end Go.Proofs.Ytongkfimgohhbaa

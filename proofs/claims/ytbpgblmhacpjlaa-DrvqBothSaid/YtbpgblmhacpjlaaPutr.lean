/-
  What the document's own Put answers, for all numbers: the same as words.Put.
-/
import Derived.Test.YtbpgblmhacpjlaaPut
namespace Go.Proofs.Ytbpgblmhacpjlaa
open Go.RowKit

theorem one_byte (W : World) (c : Int) : (convert 82 9 (.slice (some ⟨W.heap.size, 0, none⟩) 1 1)).run Try.prog (W.alloc (.cells #[.int .u8 c] 5)) = .ok (.string (strOfNums [c])) (W.alloc (.cells #[.int .u8 c] 5)) := by
  refine run_convert_bytes_arg _ 82 5 Try.underlying82 Try.underlying5 W.heap.size 0 1 1 [c] rfl ?_ 9 Try.underlying9
  intro i hi
  obtain rfl : i = 0 := by omega
  simp

/-- What is gathered behind k rounds. -/
def PutrAt (v k : Nat) (X : Nat) (lo hi : ByteArray) : Prop := X = v / 256 ^ k ∧ lo = ⟨(digs v k).toArray⟩ ∧ hi = ⟨(digs v k).reverse.toArray⟩
theorem PutrAt.size {v k X : Nat} {lo hi : ByteArray} (h : PutrAt v k X lo hi) : lo.size = k ∧ hi.size = k := by
  obtain ⟨_, rfl, rfl⟩ := h
  have e := digs_length v k
  constructor
  · show (digs v k).toArray.size = k; simp [e]
  · show (digs v k).reverse.toArray.size = k; simp [e]
theorem PutrAt.step {v k X : Nat} {lo hi : ByteArray} (h : PutrAt v k X lo hi) : PutrAt v (k + 1) (X / 256) (lo ++ strOfNums [(X : Int) % 256]) (strOfNums [(X : Int) % 256] ++ hi) := by
  obtain ⟨rfl, rfl, rfl⟩ := h
  have e : strOfNums [((v / 256 ^ k : Nat) : Int) % 256] = ⟨[UInt8.ofNat (v / 256 ^ k)].toArray⟩ := by
    unfold strOfNums
    have : (((v / 256 ^ k : Nat) : Int) % 256).toNat = (v / 256 ^ k) % 256 := by omega
    simp only [List.map_cons, List.map_nil, this]
    congr 3
    apply UInt8.toNat_inj.1
    simp [UInt8.toNat_ofNat']
  refine ⟨by rw [Nat.div_div_eq_div_mul, Nat.pow_succ], ?_, ?_⟩
  · rw [e, ByteArray.mk_append_mk, digs_snoc]
  · rw [e, ByteArray.mk_append_mk, digs_snoc]; simp

set_option maxHeartbeats 400000 in
theorem putr_walk (v n : Nat) (big : Bool) (w : World) (hv64 : v < 18446744073709551616) (h1 : 1 ≤ n) (h2 : n ≤ 8) (b : Bool) (hb : decide (0 < v / 256 ^ n) = b) :
    Calls Try.prog 76 #[.int .u64 v, .int .i64 n, .bool big] w fun e w' => e = .returned (if b then .tuple #[.string ⟨#[]⟩, .int .i64 1] else .tuple #[.string ⟨(enc v n big).toArray⟩, .int .i64 0]) ∧ Below w.heap.size w w' := by
  have HB := Lib.hid hb
  clear hb
  have h3 : decide ((n : Int) < 1) = false := decide_eq_false (by omega)
  have h4 : decide (8 < (n : Int)) = false := decide_eq_false (by omega)
  go_enter Try.func76, Try.ntmps76
  go_wp2
  clear h3 h4
  go_loopw [0, 8, 9, 10] (fun x lo hi i wr => ∃ (k X : Nat) (l h : ByteArray), k ≤ n ∧ X ≤ v ∧ i = .int .i64 k ∧ x = .int .u64 X ∧ lo = .string l ∧ hi = .string h ∧ PutrAt v k X l h ∧ Below w.heap.size w wr) (fun _ _ _ i _ => n - (intOf i).toNat)
  case atStart => exact ⟨0, v, ⟨#[]⟩, ⟨#[]⟩, Nat.zero_le _, Nat.le_refl _, rfl, rfl, rfl, rfl, ⟨by simp, rfl, rfl⟩, Below.refl _ _⟩
  case round =>
    obtain ⟨k, X, l, h, hk, hX, rfl, rfl, rfl, rfl, hat, hbl⟩ := hrel
    have hl := Nat.le_of_eq hat.size.1
    have hh := Nat.le_of_eq hat.size.2
    by_cases hlt : k < n
    · have hone := fun c => one_byte wr c
      have hsz : (strOfNums [(X : Int) % 256]).size ≤ 1 := Nat.le_of_eq (strOfNums_size _)
      go_wp2
      go_roundw
      case rel => exact ⟨k + 1, X / 256, _, _, by omega, by omega, by go_num, by go_num, rfl, rfl, hat.step, hbl.alloc (by have := hbl.size; omega) _⟩
      case measure => simp [intOf]; omega
    · obtain rfl : k = n := by omega
      obtain ⟨e1, e2, e3⟩ := hat
      subst e2 e3
      have hX0 : decide (0 < X) = b := by rw [e1]; exact HB.out
      clear e1 hl hh
      cases b
      · have : X = 0 := by have := of_decide_eq_false hX0; omega
        subst this
        clear hX0
        cases big
        · go_wp2
          go_ret2
          exact ⟨rfl, hbl⟩
        · go_wp2
          go_ret2
          exact ⟨rfl, hbl⟩
      · have : 0 < X := of_decide_eq_true hX0
        clear hX0
        go_wp2
        go_ret2
        exact ⟨rfl, hbl⟩
theorem putr_size (v n : Int) (big : Bool) (w : World) (h : n < 1 ∨ 8 < n) :
    Calls Try.prog 76 #[.int .u64 v, .int .i64 n, .bool big] w fun e w' => e = .returned (.tuple #[.string ⟨#[]⟩, .int .i64 1]) ∧ w = w' := by
  rcases h with h | h
  · go_enter Try.func76, Try.ntmps76
    go_wp2
    go_ret2
    exact ⟨rfl, rfl⟩
  · have h' : ¬ n < 1 := by omega
    go_enter Try.func76, Try.ntmps76
    go_wp2
    go_ret2
    exact ⟨rfl, rfl⟩
theorem putr_any (v n : Int) (big : Bool) (w : World) (h0 : 0 ≤ v) (h64 : v < 18446744073709551616) :
    Calls Try.prog 76 #[.int .u64 v, .int .i64 n, .bool big] w fun e w' => e = .returned (.tuple #[.string (putS v n big), .int .i64 (putE v n)]) ∧ Below w.heap.size w w' := by
  by_cases h1 : 1 ≤ n ∧ n ≤ 8
  · obtain ⟨k, rfl⟩ := Int.eq_ofNat_of_zero_le (show 0 ≤ n by omega)
    obtain ⟨m, rfl⟩ := Int.eq_ofNat_of_zero_le h0
    have hp : 0 < 256 ^ k := Nat.pow_pos (by decide)
    have hc := pow_cast k
    refine (putr_walk m k big w (by omega) (by omega) (by omega) _ rfl).mono fun e w' ⟨he, hw⟩ => ⟨?_, hw⟩
    by_cases h2 : m < 256 ^ k
    · have h3 : (m : Int) < 256 ^ k := by omega
      have h4 : decide (0 < m / 256 ^ k) = false := decide_eq_false (by rw [Nat.div_eq_of_lt h2]; omega)
      have e1 : putS m k big = ⟨(enc m k big).toArray⟩ := by rw [putS, if_pos ⟨h1.1, h1.2, h3⟩]; rfl
      have e2 : putE m k = 0 := by rw [putE, if_pos ⟨h1.1, h1.2, h3⟩]
      rw [he, h4, e1, e2]; rfl
    · have h3 : ¬ (m : Int) < 256 ^ k := by omega
      have h4 : decide (0 < m / 256 ^ k) = true := decide_eq_true (Nat.div_pos (by omega) hp)
      have e1 : putS m k big = ⟨#[]⟩ := by rw [putS, if_neg (fun h => h3 h.2.2)]
      have e2 : putE m k = 1 := by rw [putE, if_neg (fun h => h3 h.2.2)]
      rw [he, h4, e1, e2]; rfl
  · refine (putr_size v n big w (by omega)).mono fun e w' ⟨he, hw⟩ => ⟨?_, hw ▸ Below.refl _ _⟩
    rw [he, putS, putE, if_neg (fun h => h1 ⟨h.1, h.2.1⟩), if_neg (fun h => h1 ⟨h.1, h.2.1⟩)]
end Go.Proofs.Ytbpgblmhacpjlaa

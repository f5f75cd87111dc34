/-
  A number of sixteen bits as two of its bits and the rest: what and, or, xor and and-not make of it; no condition.
-/
import Derived.Test.YtbpgblmhacpjlaaMath
namespace Go.Proofs.Ytbpgblmhacpjlaa

theorem low16 (n : Int) : ∃ K : Nat, K < 65536 ∧ bits .and .i64 n 65535 = (K : Int) := by
  have e : (BitVec.ofInt 64 65535).toNat = 2 ^ 16 - 1 := by decide
  have k : (BitVec.ofInt 64 n &&& BitVec.ofInt 64 65535).toNat = (n % ((2 ^ 64 : Nat) : Int)).toNat % 2 ^ 16 := by
    rw [BitVec.toNat_and, BitVec.toNat_ofInt, e, Nat.and_two_pow_sub_one_eq_mod]
  refine ⟨(n % ((2 ^ 64 : Nat) : Int)).toNat % 2 ^ 16, by omega, ?_⟩
  show IntKind.i64.wrap ((BitVec.ofInt 64 n &&& BitVec.ofInt 64 65535).toNat : Nat) = _
  rw [k, IntKind.wrap_i64]
  omega
theorem of_nat (x : Nat) (h : x < 65536) : (BitVec.ofInt 64 (x : Int)).toNat = x := by
  rw [BitVec.toNat_ofInt]; omega
theorem wrap_nat (x : Nat) (h : x < 65536) : IntKind.i64.wrap ((x : Nat) : Int) = x := by
  rw [IntKind.wrap_i64]; omega
theorem bits_and (x y : Nat) (hx : x < 65536) (hy : y < 65536) : bits .and .i64 x y = ((x &&& y : Nat) : Int) := by
  show IntKind.i64.wrap ((BitVec.ofInt 64 (x : Int) &&& BitVec.ofInt 64 (y : Int)).toNat : Nat) = _
  have h : x &&& y < 65536 := Nat.lt_of_le_of_lt Nat.and_le_left hx
  rw [BitVec.toNat_and, of_nat x hx, of_nat y hy, wrap_nat _ h]
theorem bits_or (x y : Nat) (hx : x < 65536) (hy : y < 65536) : bits .or .i64 x y = ((x ||| y : Nat) : Int) := by
  show IntKind.i64.wrap ((BitVec.ofInt 64 (x : Int) ||| BitVec.ofInt 64 (y : Int)).toNat : Nat) = _
  have h : x ||| y < 65536 := Nat.or_lt_two_pow (n := 16) hx hy
  rw [BitVec.toNat_or, of_nat x hx, of_nat y hy, wrap_nat _ h]
theorem bits_xor (x y : Nat) (hx : x < 65536) (hy : y < 65536) : bits .xor .i64 x y = ((x ^^^ y : Nat) : Int) := by
  show IntKind.i64.wrap ((BitVec.ofInt 64 (x : Int) ^^^ BitVec.ofInt 64 (y : Int)).toNat : Nat) = _
  have h : x ^^^ y < 65536 := Nat.xor_lt_two_pow (n := 16) hx hy
  rw [BitVec.toNat_xor, of_nat x hx, of_nat y hy, wrap_nat _ h]
theorem bits_not (x : Nat) (hx : x < 65536) : bits .andNot .i64 x 32896 = ((x &&& 32639 : Nat) : Int) := by
  show IntKind.i64.wrap ((BitVec.ofInt 64 (x : Int) &&& ~~~ BitVec.ofInt 64 32896).toNat : Nat) = _
  have h : x &&& 18446744073709518719 < 65536 := Nat.lt_of_le_of_lt Nat.and_le_left hx
  have e : (~~~ BitVec.ofInt 64 32896).toNat = 18446744073709518719 := by decide
  rw [BitVec.toNat_and, of_nat x hx, e, wrap_nat _ h]
  have := @Nat.and_mod_two_pow x 18446744073709518719 16
  rw [show 18446744073709518719 % 2 ^ 16 = 32639 from rfl, Nat.mod_eq_of_lt (show x < 2 ^ 16 from hx), Nat.mod_eq_of_lt (show x &&& 18446744073709518719 < 2 ^ 16 from h)] at this
  rw [this]
/-- two bytes apart -/
theorem two_and (x y : Nat) : x &&& y = 256 * (x / 256 &&& y / 256) + (x % 256 &&& y % 256) := by
  have a := @Nat.and_div_two_pow x y 8
  have b := @Nat.and_mod_two_pow x y 8
  simp only [show 2 ^ 8 = 256 from rfl] at a b
  rw [← a, ← b]; omega
theorem two_or (x y : Nat) : x ||| y = 256 * (x / 256 ||| y / 256) + (x % 256 ||| y % 256) := by
  have a := @Nat.or_div_two_pow x y 8
  have b := @Nat.or_mod_two_pow x y 8
  simp only [show 2 ^ 8 = 256 from rfl] at a b
  rw [← a, ← b]; omega
theorem two_xor (x y : Nat) : x ^^^ y = 256 * (x / 256 ^^^ y / 256) + (x % 256 ^^^ y % 256) := by
  have a := @Nat.xor_div_two_pow x y 8
  have b := @Nat.xor_mod_two_pow x y 8
  simp only [show 2 ^ 8 = 256 from rfl] at a b
  rw [← a, ← b]; omega
theorem byte_128 : ∀ b : Fin 256, b.val &&& 128 = 128 * (b.val / 128) := by decide +kernel
theorem byte_127 : ∀ b : Fin 256, b.val &&& 127 = b.val % 128 := by decide +kernel
theorem byte_or : ∀ b : Fin 128, ∀ c : Fin 2, b.val ||| (128 * c.val) = b.val + 128 * c.val := by decide +kernel
theorem byte_xor : ∀ b : Fin 128, ∀ c d : Fin 2, (b.val + 128 * c.val) ^^^ (b.val + 128 * d.val) = (128 * c.val) ^^^ (128 * d.val) := by decide +kernel
def one (a : Bool) : Nat := if a then 1 else 0
theorem one_lt (a : Bool) : one a < 2 := by cases a <;> decide
/-- the two bits -/
def mk (a u : Bool) : Nat := 128 * one a + 32768 * one u
/-- without the two bits -/
def Rest (R : Nat) : Prop := R < 65536 ∧ R / 128 % 2 = 0 ∧ R / 32768 = 0
theorem mk_lt (R : Nat) (h : Rest R) (a u : Bool) : R + mk a u < 65536 := by
  obtain ⟨h1, h2, h3⟩ := h
  have := one_lt a; have := one_lt u
  unfold mk; omega
theorem split (n : Nat) (h : n < 65536) : ∃ (a u : Bool) (R : Nat), Rest R ∧ n = R + mk a u := by
  refine ⟨decide (n / 128 % 2 = 1), decide (n / 32768 = 1), n - 128 * (n / 128 % 2) - 32768 * (n / 32768), ?_, ?_⟩
  · unfold Rest; omega
  · unfold mk one
    by_cases h1 : n / 128 % 2 = 1 <;> by_cases h2 : n / 32768 = 1 <;> simp [h1, h2] <;> omega
theorem mk_and (R : Nat) (h : Rest R) (a u : Bool) : bits .and .i64 ((R + mk a u : Nat) : Int) 32896 = (mk a u : Int) := by
  have hl := mk_lt R h a u
  have := bits_and (R + mk a u) 32896 hl (by decide)
  rw [show ((32896 : Nat) : Int) = 32896 from rfl] at this
  rw [this, two_and]
  obtain ⟨h1, h2, h3⟩ := h
  have := one_lt a; have := one_lt u
  have e1 := byte_128 ⟨(R + mk a u) / 256, by omega⟩
  have e2 := byte_128 ⟨(R + mk a u) % 256, by omega⟩
  simp only at e1 e2
  rw [show 32896 / 256 = 128 from rfl, show 32896 % 256 = 128 from rfl, e1, e2]
  unfold mk; omega
theorem mk_rest (R : Nat) (h : Rest R) (a u : Bool) : (R + mk a u) &&& 32639 = R := by
  have hl := mk_lt R h a u
  rw [two_and]
  obtain ⟨h1, h2, h3⟩ := h
  have := one_lt a; have := one_lt u
  have e1 := byte_127 ⟨(R + mk a u) / 256, by omega⟩
  have e2 := byte_127 ⟨(R + mk a u) % 256, by omega⟩
  simp only at e1 e2
  rw [show 32639 / 256 = 127 from rfl, show 32639 % 256 = 127 from rfl, e1, e2]
  unfold mk; omega
theorem mk_others (R : Nat) (h : Rest R) (a u : Bool) : bits .and .i64 ((R + mk a u : Nat) : Int) 32639 = (R : Int) := by
  have := bits_and (R + mk a u) 32639 (mk_lt R h a u) (by decide)
  rw [show ((32639 : Nat) : Int) = 32639 from rfl] at this
  rw [this, mk_rest R h]
theorem mk_not (R : Nat) (h : Rest R) (a u : Bool) : bits .andNot .i64 ((R + mk a u : Nat) : Int) 32896 = (R : Int) := by
  rw [bits_not _ (mk_lt R h a u), mk_rest R h]
theorem mk_or (R : Nat) (h : Rest R) (a u : Bool) : bits .or .i64 (R : Int) (mk a u : Int) = ((R + mk a u : Nat) : Int) := by
  have ha := one_lt a; have hu := one_lt u
  have hm : mk a u < 65536 := by unfold mk; omega
  rw [bits_or R (mk a u) h.1 hm, two_or]
  obtain ⟨h1, h2, h3⟩ := h
  have e1 := byte_or ⟨R / 256, by omega⟩ ⟨one u, hu⟩
  have e2 := byte_or ⟨R % 256, by omega⟩ ⟨one a, ha⟩
  simp only at e1 e2
  rw [show mk a u / 256 = 128 * one u by unfold mk; omega, show mk a u % 256 = 128 * one a by unfold mk; omega, e1, e2]
  unfold mk; omega
theorem mk_xor (R : Nat) (h : Rest R) (a u b v : Bool) : bits .andNot .i64 (bits .xor .i64 ((R + mk a u : Nat) : Int) ((R + mk b v : Nat) : Int)) 32896 = 0 := by
  rw [bits_xor _ _ (mk_lt R h a u) (mk_lt R h b v), two_xor]
  obtain ⟨h1, h2, h3⟩ := h
  have ha := one_lt a; have hu := one_lt u; have hb := one_lt b; have hv := one_lt v
  have e1 := byte_xor ⟨R / 256, by omega⟩ ⟨one u, hu⟩ ⟨one v, hv⟩
  have e2 := byte_xor ⟨R % 256, by omega⟩ ⟨one a, ha⟩ ⟨one b, hb⟩
  simp only at e1 e2
  rw [show (R + mk a u) / 256 = R / 256 + 128 * one u by unfold mk; omega, show (R + mk a u) % 256 = R % 256 + 128 * one a by unfold mk; omega,
    show (R + mk b v) / 256 = R / 256 + 128 * one v by unfold mk; omega, show (R + mk b v) % 256 = R % 256 + 128 * one b by unfold mk; omega, e1, e2]
  cases a <;> cases u <;> cases b <;> cases v <;> decide
theorem mk_same (R : Nat) (a u b v : Bool) : R + mk a u = R + mk b v ↔ a = b ∧ u = v := by
  constructor
  · intro h
    have h := Nat.add_left_cancel h
    revert h
    cases a <;> cases u <;> cases b <;> cases v <;> decide
  · rintro ⟨rfl, rfl⟩; rfl
end Go.Proofs.Ytbpgblmhacpjlaa

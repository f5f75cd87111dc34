/-
  Descriptors and their flags.
-/
import Derived.Test.YtbpgblmhacpjlaaGreatZa
import Derived.Test.YtbpgblmhacpjlaaGreatZb
import Derived.Lib.Hide
import Derived.Deep.RegionHeld3
namespace Go.Proofs.YtbpgblmhacpjlaaGreat

theorem low16 (n : Int) : ∃ K : Nat, K < 65536 ∧ bits .and .i64 n 65535 = (K : Int) := by
  have e : (BitVec.ofInt 64 65535).toNat = 2 ^ 16 - 1 := by decide
  have k : (BitVec.ofInt 64 n &&& BitVec.ofInt 64 65535).toNat = (n % ((2 ^ 64 : Nat) : Int)).toNat % 2 ^ 16 := by
    rw [BitVec.toNat_and, BitVec.toNat_ofInt, e, Nat.and_two_pow_sub_one_eq_mod]
  refine ⟨(n % ((2 ^ 64 : Nat) : Int)).toNat % 2 ^ 16, by omega, ?_⟩
  show IntKind.i64.wrap ((BitVec.ofInt 64 n &&& BitVec.ofInt 64 65535).toNat : Nat) = _
  rw [k, IntKind.wrap_i64]
  omega
theorem of_nat (x : Nat) (h : x < 65536) : (BitVec.ofInt 64 (x : Int)).toNat = x := by
  rw [BitVec.toNat_ofInt]; omega
theorem wrap_nat (x : Nat) (h : x < 65536) : IntKind.i64.wrap ((x : Nat) : Int) = x := by
  rw [IntKind.wrap_i64]; omega
theorem bits_and (x y : Nat) (hx : x < 65536) (hy : y < 65536) : bits .and .i64 x y = ((x &&& y : Nat) : Int) := by
  show IntKind.i64.wrap ((BitVec.ofInt 64 (x : Int) &&& BitVec.ofInt 64 (y : Int)).toNat : Nat) = _
  have h : x &&& y < 65536 := Nat.lt_of_le_of_lt Nat.and_le_left hx
  rw [BitVec.toNat_and, of_nat x hx, of_nat y hy, wrap_nat _ h]
theorem bits_or (x y : Nat) (hx : x < 65536) (hy : y < 65536) : bits .or .i64 x y = ((x ||| y : Nat) : Int) := by
  show IntKind.i64.wrap ((BitVec.ofInt 64 (x : Int) ||| BitVec.ofInt 64 (y : Int)).toNat : Nat) = _
  have h : x ||| y < 65536 := Nat.or_lt_two_pow (n := 16) hx hy
  rw [BitVec.toNat_or, of_nat x hx, of_nat y hy, wrap_nat _ h]
theorem bits_xor (x y : Nat) (hx : x < 65536) (hy : y < 65536) : bits .xor .i64 x y = ((x ^^^ y : Nat) : Int) := by
  show IntKind.i64.wrap ((BitVec.ofInt 64 (x : Int) ^^^ BitVec.ofInt 64 (y : Int)).toNat : Nat) = _
  have h : x ^^^ y < 65536 := Nat.xor_lt_two_pow (n := 16) hx hy
  rw [BitVec.toNat_xor, of_nat x hx, of_nat y hy, wrap_nat _ h]
theorem bits_not (x : Nat) (hx : x < 65536) : bits .andNot .i64 x 32896 = ((x &&& 32639 : Nat) : Int) := by
  show IntKind.i64.wrap ((BitVec.ofInt 64 (x : Int) &&& ~~~ BitVec.ofInt 64 32896).toNat : Nat) = _
  have h : x &&& 18446744073709518719 < 65536 := Nat.lt_of_le_of_lt Nat.and_le_left hx
  have e : (~~~ BitVec.ofInt 64 32896).toNat = 18446744073709518719 := by decide
  rw [BitVec.toNat_and, of_nat x hx, e, wrap_nat _ h]
  have := @Nat.and_mod_two_pow x 18446744073709518719 16
  rw [show 18446744073709518719 % 2 ^ 16 = 32639 from rfl, Nat.mod_eq_of_lt (show x < 2 ^ 16 from hx), Nat.mod_eq_of_lt (show x &&& 18446744073709518719 < 2 ^ 16 from h)] at this
  rw [this]
/-- two bytes apart -/
theorem two_and (x y : Nat) : x &&& y = 256 * (x / 256 &&& y / 256) + (x % 256 &&& y % 256) := by
  have a := @Nat.and_div_two_pow x y 8
  have b := @Nat.and_mod_two_pow x y 8
  simp only [show 2 ^ 8 = 256 from rfl] at a b
  rw [← a, ← b]; omega
theorem two_or (x y : Nat) : x ||| y = 256 * (x / 256 ||| y / 256) + (x % 256 ||| y % 256) := by
  have a := @Nat.or_div_two_pow x y 8
  have b := @Nat.or_mod_two_pow x y 8
  simp only [show 2 ^ 8 = 256 from rfl] at a b
  rw [← a, ← b]; omega
theorem two_xor (x y : Nat) : x ^^^ y = 256 * (x / 256 ^^^ y / 256) + (x % 256 ^^^ y % 256) := by
  have a := @Nat.xor_div_two_pow x y 8
  have b := @Nat.xor_mod_two_pow x y 8
  simp only [show 2 ^ 8 = 256 from rfl] at a b
  rw [← a, ← b]; omega
theorem byte_128 : ∀ b : Fin 256, b.val &&& 128 = 128 * (b.val / 128) := by decide +kernel
theorem byte_127 : ∀ b : Fin 256, b.val &&& 127 = b.val % 128 := by decide +kernel
theorem byte_or : ∀ b : Fin 128, ∀ c : Fin 2, b.val ||| (128 * c.val) = b.val + 128 * c.val := by decide +kernel
theorem byte_xor : ∀ b : Fin 128, ∀ c d : Fin 2, (b.val + 128 * c.val) ^^^ (b.val + 128 * d.val) = (128 * c.val) ^^^ (128 * d.val) := by decide +kernel
def one (a : Bool) : Nat := if a then 1 else 0
theorem one_lt (a : Bool) : one a < 2 := by cases a <;> decide
/-- the two bits -/
def mk (a u : Bool) : Nat := 128 * one a + 32768 * one u
/-- without the two bits -/
def Rest (R : Nat) : Prop := R < 65536 ∧ R / 128 % 2 = 0 ∧ R / 32768 = 0
theorem mk_lt (R : Nat) (h : Rest R) (a u : Bool) : R + mk a u < 65536 := by
  obtain ⟨h1, h2, h3⟩ := h
  have := one_lt a; have := one_lt u
  unfold mk; omega
theorem split (n : Nat) (h : n < 65536) : ∃ (a u : Bool) (R : Nat), Rest R ∧ n = R + mk a u := by
  refine ⟨decide (n / 128 % 2 = 1), decide (n / 32768 = 1), n - 128 * (n / 128 % 2) - 32768 * (n / 32768), ?_, ?_⟩
  · unfold Rest; omega
  · unfold mk one
    by_cases h1 : n / 128 % 2 = 1 <;> by_cases h2 : n / 32768 = 1 <;> simp [h1, h2] <;> omega
theorem mk_and (R : Nat) (h : Rest R) (a u : Bool) : bits .and .i64 ((R + mk a u : Nat) : Int) 32896 = (mk a u : Int) := by
  have hl := mk_lt R h a u
  have := bits_and (R + mk a u) 32896 hl (by decide)
  rw [show ((32896 : Nat) : Int) = 32896 from rfl] at this
  rw [this, two_and]
  obtain ⟨h1, h2, h3⟩ := h
  have := one_lt a; have := one_lt u
  have e1 := byte_128 ⟨(R + mk a u) / 256, by omega⟩
  have e2 := byte_128 ⟨(R + mk a u) % 256, by omega⟩
  simp only at e1 e2
  rw [show 32896 / 256 = 128 from rfl, show 32896 % 256 = 128 from rfl, e1, e2]
  unfold mk; omega
theorem mk_rest (R : Nat) (h : Rest R) (a u : Bool) : (R + mk a u) &&& 32639 = R := by
  have hl := mk_lt R h a u
  rw [two_and]
  obtain ⟨h1, h2, h3⟩ := h
  have := one_lt a; have := one_lt u
  have e1 := byte_127 ⟨(R + mk a u) / 256, by omega⟩
  have e2 := byte_127 ⟨(R + mk a u) % 256, by omega⟩
  simp only at e1 e2
  rw [show 32639 / 256 = 127 from rfl, show 32639 % 256 = 127 from rfl, e1, e2]
  unfold mk; omega
theorem mk_others (R : Nat) (h : Rest R) (a u : Bool) : bits .and .i64 ((R + mk a u : Nat) : Int) 32639 = (R : Int) := by
  have := bits_and (R + mk a u) 32639 (mk_lt R h a u) (by decide)
  rw [show ((32639 : Nat) : Int) = 32639 from rfl] at this
  rw [this, mk_rest R h]
theorem mk_not (R : Nat) (h : Rest R) (a u : Bool) : bits .andNot .i64 ((R + mk a u : Nat) : Int) 32896 = (R : Int) := by
  rw [bits_not _ (mk_lt R h a u), mk_rest R h]
theorem mk_or (R : Nat) (h : Rest R) (a u : Bool) : bits .or .i64 (R : Int) (mk a u : Int) = ((R + mk a u : Nat) : Int) := by
  have ha := one_lt a; have hu := one_lt u
  have hm : mk a u < 65536 := by unfold mk; omega
  rw [bits_or R (mk a u) h.1 hm, two_or]
  obtain ⟨h1, h2, h3⟩ := h
  have e1 := byte_or ⟨R / 256, by omega⟩ ⟨one u, hu⟩
  have e2 := byte_or ⟨R % 256, by omega⟩ ⟨one a, ha⟩
  simp only at e1 e2
  rw [show mk a u / 256 = 128 * one u by unfold mk; omega, show mk a u % 256 = 128 * one a by unfold mk; omega, e1, e2]
  unfold mk; omega
theorem mk_xor (R : Nat) (h : Rest R) (a u b v : Bool) : bits .andNot .i64 (bits .xor .i64 ((R + mk a u : Nat) : Int) ((R + mk b v : Nat) : Int)) 32896 = 0 := by
  rw [bits_xor _ _ (mk_lt R h a u) (mk_lt R h b v), two_xor]
  obtain ⟨h1, h2, h3⟩ := h
  have ha := one_lt a; have hu := one_lt u; have hb := one_lt b; have hv := one_lt v
  have e1 := byte_xor ⟨R / 256, by omega⟩ ⟨one u, hu⟩ ⟨one v, hv⟩
  have e2 := byte_xor ⟨R % 256, by omega⟩ ⟨one a, ha⟩ ⟨one b, hb⟩
  simp only at e1 e2
  rw [show (R + mk a u) / 256 = R / 256 + 128 * one u by unfold mk; omega, show (R + mk a u) % 256 = R % 256 + 128 * one a by unfold mk; omega,
    show (R + mk b v) / 256 = R / 256 + 128 * one v by unfold mk; omega, show (R + mk b v) % 256 = R % 256 + 128 * one b by unfold mk; omega, e1, e2]
  cases a <;> cases u <;> cases b <;> cases v <;> decide
theorem mk_same (R : Nat) (a u b v : Bool) : R + mk a u = R + mk b v ↔ a = b ∧ u = v := by
  constructor
  · intro h
    have h := Nat.add_left_cancel h
    revert h
    cases a <;> cases u <;> cases b <;> cases v <;> decide
  · rintro ⟨rfl, rfl⟩; rfl
end Go.Proofs.YtbpgblmhacpjlaaGreat
namespace Go.Proofs.YtbpgblmhacpjlaaGreat
open Go.RowKit

theorem dget_any (s : ByteArray) (a n : Int) (w : World) (hs : s.size ≤ maxLen) :
    Calls Tryz.prog 86 #[.string s, .int .i64 a, .int .i64 n] w fun e w' => e = .returned (.int .u64 (getV s a n false)) ∧ Below w.heap.size w w' := by
  have HG := Lib.hid (fun W => get_any s a n false W hs)
  clear hs
  go_enter Tryz.func86, Tryz.ntmps86
  go_wp2_with fail
  refine (HG.out _).mono ?_
  rintro e w1 ⟨rfl, hq⟩
  go_wp2_with fail
  go_ret
  exact ⟨rfl, hq⟩
theorem dput_any (v n : Int) (w : World) (h0 : 0 ≤ v) :
    Calls Tryz.prog 92 #[.int .u64 v, .int .i64 n] w fun e w' => e = .returned (.string (putS v n false)) ∧ Below w.heap.size w w' := by
  have HG := Lib.hid (fun W => put_any v n false W h0)
  clear h0
  go_enter Tryz.func92, Tryz.ntmps92
  go_wp2_with fail
  refine (HG.out _).mono ?_
  rintro e w1 ⟨rfl, hq⟩
  go_wp2_with fail
  go_ret
  exact ⟨rfl, hq⟩
theorem isWord_any (v : Int) (b : Bool) (hb : b = decide (0 ≤ v ∧ v ≤ 65535)) (w : World) :
    Calls Tryz.prog 91 #[.int .i64 v] w fun e w' => e = .returned (.bool b) ∧ w = w' := by
  subst hb
  by_cases h1 : 0 ≤ v
  · have h2 : decide (0 ≤ v ∧ v ≤ 65535) = decide (v ≤ 65535) := by simp [h1]
    rw [h2]
    go_enter Tryz.func91, Tryz.ntmps91
    go_wp2
    go_ret
    exact ⟨rfl, rfl⟩
  · have h2 : decide (0 ≤ v ∧ v ≤ 65535) = false := decide_eq_false (fun h => h1 h.1)
    rw [h2]
    go_enter Tryz.func91, Tryz.ntmps91
    go_wp2
    go_ret
    exact ⟨rfl, rfl⟩
/-- the two bits, as an int -/
def mkI (a u : Bool) : Int := (mk a u : Nat)
theorem stating_any (wrap used : Bool) (w : World) :
    Calls Tryz.prog 69 #[.bool wrap, .bool used] w fun e w' => e = .returned (.int .i64 (mkI wrap (wrap == used))) ∧ w = w' := by
  cases wrap <;> cases used
  · go_enter Tryz.func69, Tryz.ntmps69
    go_wp2
    go_ret
    exact ⟨rfl, rfl⟩
  · go_enter Tryz.func69, Tryz.ntmps69
    go_wp2
    go_ret
    exact ⟨rfl, rfl⟩
  · go_enter Tryz.func69, Tryz.ntmps69
    go_wp2
    go_ret
    exact ⟨rfl, rfl⟩
  · go_enter Tryz.func69, Tryz.ntmps69
    go_wp2
    go_ret
    exact ⟨rfl, rfl⟩
theorem mark_walk (X R K Y : Int) (wrap used : Bool) (hX : bits .andNot .i64 X 32896 = R) (hY : bits .or .i64 R K = Y) (HS : ∀ w, Calls Tryz.prog 69 #[.bool wrap, .bool used] w fun e w' => e = .returned (.int .i64 K) ∧ w = w') (w : World) :
    Calls Tryz.prog 84 #[.int .i64 X, .bool wrap, .bool used] w fun e w' => e = .returned (.int .i64 Y) ∧ w = w' := by
  go_enter Tryz.func84, Tryz.ntmps84
  go_wp2_with fail
  refine (HS _).mono ?_
  rintro e w1 ⟨rfl, rfl⟩
  go_wp2_with fail
  go_ret
  exact ⟨rfl, rfl⟩
theorem rused_walk (X : Nat) (P Q A U : Int) (a u wrap : Bool) (h1 : wrap64 ((X : Int) / 128) = P) (h2 : wrap64 ((X : Int) / 32768) = Q) (h3 : P.tmod 2 = A) (h4 : Q.tmod 2 = U) (h5 : (A == 1) = a) (h6 : (U == 1) = u) (w : World) :
    Calls Tryz.prog 39 #[.int .i64 (X : Int), .bool wrap] w fun e w' => e = .returned (.bool (a == wrap && u == wrap)) ∧ w = w' := by
  cases a <;> cases wrap <;> cases u
  all_goals
    go_enter Tryz.func39, Tryz.ntmps39
    go_wp2
    go_ret
    exact ⟨rfl, rfl⟩
def rmV (R : Int) : Bool → Bool → Int
  | false, false => wrap64 (R + 32768)
  | false, true => R
  | true, false => wrap64 (R + 128)
  | true, true => wrap64 (wrap64 (R + 128) + 32768)
theorem rmark_walk (X : Nat) (P Q A U R : Int) (wrap used : Bool) (h1 : wrap64 ((X : Int) / 128) = P) (h2 : wrap64 ((X : Int) / 32768) = Q) (h3 : P.tmod 2 = A) (h4 : Q.tmod 2 = U)
    (h5 : wrap64 (wrap64 ((X : Int) - wrap64 (A * 128)) - wrap64 (U * 32768)) = R) (w : World) :
    Calls Tryz.prog 35 #[.int .i64 (X : Int), .bool wrap, .bool used] w fun e w' => e = .returned (.int .i64 (rmV R wrap used)) ∧ w = w' := by
  cases wrap <;> cases used
  all_goals
    subst h5
    go_enter Tryz.func35, Tryz.ntmps35
    go_wp2
    go_ret
    exact ⟨rfl, rfl⟩

theorem mark_any (R : Nat) (h : Rest R) (a u wrap used : Bool) (w : World) :
    Calls Tryz.prog 84 #[.int .i64 ((R + mk a u : Nat) : Int), .bool wrap, .bool used] w fun e w' => e = .returned (.int .i64 ((R + mk wrap (wrap == used) : Nat) : Int)) ∧ w = w' :=
  mark_walk _ _ _ _ wrap used (mk_not R h a u) (mk_or R h wrap (wrap == used)) (fun w => stating_any wrap used w) w
theorem wrap64_of {x : Int} (h1 : -9223372036854775808 ≤ x) (h2 : x ≤ 9223372036854775807) : wrap64 x = x := by unfold wrap64; omega
theorem parts_of (R : Nat) (h : Rest R) (a u : Bool) (X : Nat) (hX : X = R + mk a u) :
    wrap64 ((X : Int) / 128) = ((X / 128 : Nat) : Int) ∧ wrap64 ((X : Int) / 32768) = ((X / 32768 : Nat) : Int) ∧ ((X / 128 : Nat) : Int).tmod 2 = (one a : Int) ∧ ((X / 32768 : Nat) : Int).tmod 2 = (one u : Int) := by
  have hl := mk_lt R h a u
  have ha := one_lt a; have hu := one_lt u
  rw [← hX] at hl
  unfold mk at hX
  obtain ⟨h1, h2, h3⟩ := h
  refine ⟨?_, ?_, ?_, ?_⟩
  · rw [wrap64_of] <;> omega
  · rw [wrap64_of] <;> omega
  · rw [Int.tmod_eq_emod_of_nonneg (by omega)]; omega
  · rw [Int.tmod_eq_emod_of_nonneg (by omega)]; omega
theorem one_is (a : Bool) : (((one a : Nat) : Int) == 1) = a := by cases a <;> decide
theorem rused_any (R : Nat) (h : Rest R) (a u wrap : Bool) (w : World) :
    Calls Tryz.prog 39 #[.int .i64 ((R + mk a u : Nat) : Int), .bool wrap] w fun e w' => e = .returned (.bool (a == wrap && u == wrap)) ∧ w = w' := by
  obtain ⟨p1, p2, p3, p4⟩ := parts_of R h a u _ rfl
  exact rused_walk _ _ _ _ _ a u wrap p1 p2 p3 p4 (one_is a) (one_is u) w
theorem rm_rest (R A U X : Nat) (hX : X = R + (128 * A + 32768 * U)) (hA : A < 2) (hU : U < 2) (hR : R < 65536) :
    wrap64 (wrap64 ((X : Int) - wrap64 ((A : Int) * 128)) - wrap64 ((U : Int) * 32768)) = (R : Int) := by
  have e1 : wrap64 ((A : Int) * 128) = (A : Int) * 128 := wrap64_of (by omega) (by omega)
  have e2 : wrap64 ((U : Int) * 32768) = (U : Int) * 32768 := wrap64_of (by omega) (by omega)
  have e3 : wrap64 ((X : Int) - (A : Int) * 128) = (X : Int) - (A : Int) * 128 := wrap64_of (by omega) (by omega)
  rw [e1, e2, e3, wrap64_of (by omega) (by omega)]
  omega
theorem mk_ff : mk false false = 0 := rfl
theorem mk_ft : mk false true = 32768 := rfl
theorem mk_tf : mk true false = 128 := rfl
theorem mk_tt : mk true true = 32896 := rfl
theorem rm_marked (R : Nat) (h : R < 65536) (wrap used : Bool) : rmV (R : Int) wrap used = ((R + mk wrap (wrap == used) : Nat) : Int) := by
  have e1 : wrap64 ((R : Int) + 32768) = ((R + 32768 : Nat) : Int) := by rw [wrap64_of (by omega) (by omega)]; omega
  have e2 : wrap64 ((R : Int) + 128) = ((R + 128 : Nat) : Int) := by rw [wrap64_of (by omega) (by omega)]; omega
  have e3 : wrap64 (((R + 128 : Nat) : Int) + 32768) = ((R + 32896 : Nat) : Int) := by rw [wrap64_of (by omega) (by omega)]; omega
  cases wrap <;> cases used
  · show wrap64 ((R : Int) + 32768) = ((R + mk false true : Nat) : Int)
    rw [mk_ft, e1]
  · show (R : Int) = ((R + mk false false : Nat) : Int)
    rw [mk_ff, Nat.add_zero]
  · show wrap64 ((R : Int) + 128) = ((R + mk true false : Nat) : Int)
    rw [mk_tf, e2]
  · show wrap64 (wrap64 ((R : Int) + 128) + 32768) = ((R + mk true true : Nat) : Int)
    rw [mk_tt, e2, e3]
theorem rmark_any (R : Nat) (h : Rest R) (a u wrap used : Bool) (w : World) :
    Calls Tryz.prog 35 #[.int .i64 ((R + mk a u : Nat) : Int), .bool wrap, .bool used] w fun e w' => e = .returned (.int .i64 ((R + mk wrap (wrap == used) : Nat) : Int)) ∧ w = w' := by
  obtain ⟨p1, p2, p3, p4⟩ := parts_of R h a u _ rfl
  have e3 := rm_rest R (one a) (one u) (R + mk a u) rfl (one_lt a) (one_lt u) h.1
  rw [← rm_marked R h.1]
  exact rmark_walk _ _ _ _ _ _ wrap used p1 p2 p3 p4 e3 w
end Go.Proofs.YtbpgblmhacpjlaaGreat
namespace Go.Proofs.YtbpgblmhacpjlaaGreat
open Go.RowKit

theorem one_byte (W : World) (c : Int) : (convert 65 9 (.slice (some ⟨W.heap.size, 0, none⟩) 1 1)).run Tryz.prog (W.alloc (.cells #[.int .u8 c] 5)) = .ok (.string (strOfNums [c])) (W.alloc (.cells #[.int .u8 c] 5)) := by
  refine run_convert_bytes_arg _ 65 5 Tryz.underlying65 Tryz.underlying5 W.heap.size 0 1 1 [c] rfl ?_ 9 Tryz.underlying9
  intro i hi
  obtain rfl : i = 0 := by omega
  simp

/-- What is gathered behind k rounds. -/
def PutrAt (v k : Nat) (X : Nat) (lo hi : ByteArray) : Prop := X = v / 256 ^ k ∧ lo = ⟨(digs v k).toArray⟩ ∧ hi = ⟨(digs v k).reverse.toArray⟩
theorem PutrAt.size {v k X : Nat} {lo hi : ByteArray} (h : PutrAt v k X lo hi) : lo.size = k ∧ hi.size = k := by
  obtain ⟨_, rfl, rfl⟩ := h
  have e := digs_length v k
  constructor
  · show (digs v k).toArray.size = k; simp [e]
  · show (digs v k).reverse.toArray.size = k; simp [e]
theorem PutrAt.step {v k X : Nat} {lo hi : ByteArray} (h : PutrAt v k X lo hi) : PutrAt v (k + 1) (X / 256) (lo ++ strOfNums [(X : Int) % 256]) (strOfNums [(X : Int) % 256] ++ hi) := by
  obtain ⟨rfl, rfl, rfl⟩ := h
  have e : strOfNums [((v / 256 ^ k : Nat) : Int) % 256] = ⟨[UInt8.ofNat (v / 256 ^ k)].toArray⟩ := by
    unfold strOfNums
    have : (((v / 256 ^ k : Nat) : Int) % 256).toNat = (v / 256 ^ k) % 256 := by omega
    simp only [List.map_cons, List.map_nil, this]
    congr 3
    apply UInt8.toNat_inj.1
    simp [UInt8.toNat_ofNat']
  refine ⟨by rw [Nat.div_div_eq_div_mul, Nat.pow_succ], ?_, ?_⟩
  · rw [e, ByteArray.mk_append_mk, digs_snoc]
  · rw [e, ByteArray.mk_append_mk, digs_snoc]; simp

set_option maxHeartbeats 400000 in
theorem putr_walk (v n : Nat) (big : Bool) (w : World) (hv64 : v < 18446744073709551616) (h1 : 1 ≤ n) (h2 : n ≤ 8) (b : Bool) (hb : decide (0 < v / 256 ^ n) = b) :
    Calls Tryz.prog 67 #[.int .u64 v, .int .i64 n, .bool big] w fun e w' => e = .returned (if b then .tuple #[.string ⟨#[]⟩, .int .i64 1] else .tuple #[.string ⟨(enc v n big).toArray⟩, .int .i64 0]) ∧ Below w.heap.size w w' := by
  have HB := Lib.hid hb
  clear hb
  have h3 : decide ((n : Int) < 1) = false := decide_eq_false (by omega)
  have h4 : decide (8 < (n : Int)) = false := decide_eq_false (by omega)
  go_enter Tryz.func67, Tryz.ntmps67
  go_wp2
  clear h3 h4
  go_loopw [0, 8, 9, 10] (fun x lo hi i wr => ∃ (k X : Nat) (l h : ByteArray), k ≤ n ∧ X ≤ v ∧ i = .int .i64 k ∧ x = .int .u64 X ∧ lo = .string l ∧ hi = .string h ∧ PutrAt v k X l h ∧ Below w.heap.size w wr) (fun _ _ _ i _ => n - (intOf i).toNat)
  case atStart => exact ⟨0, v, ⟨#[]⟩, ⟨#[]⟩, Nat.zero_le _, Nat.le_refl _, rfl, rfl, rfl, rfl, ⟨by simp, rfl, rfl⟩, Below.refl _ _⟩
  case round =>
    obtain ⟨k, X, l, h, hk, hX, rfl, rfl, rfl, rfl, hat, hbl⟩ := hrel
    have hl := Nat.le_of_eq hat.size.1
    have hh := Nat.le_of_eq hat.size.2
    by_cases hlt : k < n
    · have hone := fun c => one_byte wr c
      have hsz : (strOfNums [(X : Int) % 256]).size ≤ 1 := Nat.le_of_eq (strOfNums_size _)
      go_wp2
      go_roundw
      case rel => exact ⟨k + 1, X / 256, _, _, by omega, by omega, by go_num, by go_num, rfl, rfl, hat.step, hbl.alloc (by have := hbl.size; omega) _⟩
      case measure => simp [intOf]; omega
    · obtain rfl : k = n := by omega
      obtain ⟨e1, e2, e3⟩ := hat
      subst e2 e3
      have hX0 : decide (0 < X) = b := by rw [e1]; exact HB.out
      clear e1 hl hh
      cases b
      · have : X = 0 := by have := of_decide_eq_false hX0; omega
        subst this
        clear hX0
        cases big
        · go_wp2
          go_ret2
          exact ⟨rfl, hbl⟩
        · go_wp2
          go_ret2
          exact ⟨rfl, hbl⟩
      · have : 0 < X := of_decide_eq_true hX0
        clear hX0
        go_wp2
        go_ret2
        exact ⟨rfl, hbl⟩
theorem putr_size (v n : Int) (big : Bool) (w : World) (h : n < 1 ∨ 8 < n) :
    Calls Tryz.prog 67 #[.int .u64 v, .int .i64 n, .bool big] w fun e w' => e = .returned (.tuple #[.string ⟨#[]⟩, .int .i64 1]) ∧ w = w' := by
  rcases h with h | h
  · go_enter Tryz.func67, Tryz.ntmps67
    go_wp2
    go_ret2
    exact ⟨rfl, rfl⟩
  · have h' : ¬ n < 1 := by omega
    go_enter Tryz.func67, Tryz.ntmps67
    go_wp2
    go_ret2
    exact ⟨rfl, rfl⟩
theorem putr_any (v n : Int) (big : Bool) (w : World) (h0 : 0 ≤ v) (h64 : v < 18446744073709551616) :
    Calls Tryz.prog 67 #[.int .u64 v, .int .i64 n, .bool big] w fun e w' => e = .returned (.tuple #[.string (putS v n big), .int .i64 (putE v n)]) ∧ Below w.heap.size w w' := by
  by_cases h1 : 1 ≤ n ∧ n ≤ 8
  · obtain ⟨k, rfl⟩ := Int.eq_ofNat_of_zero_le (show 0 ≤ n by omega)
    obtain ⟨m, rfl⟩ := Int.eq_ofNat_of_zero_le h0
    have hp : 0 < 256 ^ k := Nat.pow_pos (by decide)
    have hc := pow_cast k
    refine (putr_walk m k big w (by omega) (by omega) (by omega) _ rfl).mono fun e w' ⟨he, hw⟩ => ⟨?_, hw⟩
    by_cases h2 : m < 256 ^ k
    · have h3 : (m : Int) < 256 ^ k := by omega
      have h4 : decide (0 < m / 256 ^ k) = false := decide_eq_false (by rw [Nat.div_eq_of_lt h2]; omega)
      have e1 : putS m k big = ⟨(enc m k big).toArray⟩ := by rw [putS, if_pos ⟨h1.1, h1.2, h3⟩]; rfl
      have e2 : putE m k = 0 := by rw [putE, if_pos ⟨h1.1, h1.2, h3⟩]
      rw [he, h4, e1, e2]; rfl
    · have h3 : ¬ (m : Int) < 256 ^ k := by omega
      have h4 : decide (0 < m / 256 ^ k) = true := decide_eq_true (Nat.div_pos (by omega) hp)
      have e1 : putS m k big = ⟨#[]⟩ := by rw [putS, if_neg (fun h => h3 h.2.2)]
      have e2 : putE m k = 1 := by rw [putE, if_neg (fun h => h3 h.2.2)]
      rw [he, h4, e1, e2]; rfl
  · refine (putr_size v n big w (by omega)).mono fun e w' ⟨he, hw⟩ => ⟨?_, hw ▸ Below.refl _ _⟩
    rw [he, putS, putE, if_neg (fun h => h1 ⟨h.1, h.2.1⟩), if_neg (fun h => h1 ⟨h.1, h.2.1⟩)]
end Go.Proofs.YtbpgblmhacpjlaaGreat
namespace Go.Proofs.YtbpgblmhacpjlaaGreat
open Go.RowKit

/-- the lowest n bytes of a number -/
def pb (v n : Nat) : ByteArray := ⟨(digs v n).toArray⟩
theorem pb_size (v n : Nat) : (pb v n).size = n := by
  show (digs v n).toArray.size = n
  simp [digs_length]
theorem putS_pb (v n : Nat) (h1 : 1 ≤ n) (h2 : n ≤ 8) (h : v < 256 ^ n) : putS v n false = pb v n ∧ putE v n = 0 := by
  have e : (v : Int) < 256 ^ n := by have := pow_cast n; omega
  have c : 1 ≤ (n : Int) ∧ (n : Int) ≤ 8 ∧ (v : Int) < 256 ^ (n : Int).toNat := ⟨by omega, by omega, by simpa using e⟩
  constructor
  · rw [putS, if_pos c]; rfl
  · rw [putE, if_pos c]
/-- a descriptor's bytes -/
def desB (A L I F : Nat) : ByteArray := pb A 8 ++ pb L 4 ++ pb I 2 ++ pb F 2
theorem put_pb (v n : Nat) (h1 : 1 ≤ n) (h2 : n ≤ 8) (h : v < 256 ^ n) (w : World) :
    Calls Tryz.prog 92 #[.int .u64 (v : Int), .int .i64 (n : Int)] w fun e w' => e = .returned (.string (pb v n)) ∧ Below w.heap.size w w' := by
  have := dput_any v n w (by omega)
  rwa [(putS_pb v n h1 h2 h).1] at this
theorem putr_pb (v n : Nat) (h1 : 1 ≤ n) (h2 : n ≤ 8) (h : v < 256 ^ n) (w : World) :
    Calls Tryz.prog 67 #[.int .u64 (v : Int), .int .i64 (n : Int), .bool false] w fun e w' => e = .returned (.tuple #[.string (pb v n), .int .i64 0]) ∧ Below w.heap.size w w' := by
  have h64 : v < 256 ^ 8 := Nat.lt_of_lt_of_le h (Nat.pow_le_pow_right (by decide) h2)
  have := putr_any v n false w (by omega) (by omega)
  rwa [(putS_pb v n h1 h2 h).1, (putS_pb v n h1 h2 h).2] at this
set_option maxHeartbeats 1600000 in
theorem build_walk (A L I F : Nat) (S1 S2 S3 S4 : ByteArray) (h1 : S1.size = 8) (h2 : S2.size = 4) (h3 : S3.size = 2) (h4 : S4.size = 2)
    (b1 : (I : Int) ≤ 65535) (b2 : (F : Int) ≤ 65535) (b3 : L < 4294967296)
    (H1 : ∀ W, Calls Tryz.prog 92 #[.int .u64 (A : Int), .int .i64 8] W fun e w' => e = .returned (.string S1) ∧ Below W.heap.size W w')
    (H2 : ∀ W, Calls Tryz.prog 92 #[.int .u64 (L : Int), .int .i64 4] W fun e w' => e = .returned (.string S2) ∧ Below W.heap.size W w')
    (H3 : ∀ W, Calls Tryz.prog 92 #[.int .u64 (I : Int), .int .i64 2] W fun e w' => e = .returned (.string S3) ∧ Below W.heap.size W w')
    (H4 : ∀ W, Calls Tryz.prog 92 #[.int .u64 (F : Int), .int .i64 2] W fun e w' => e = .returned (.string S4) ∧ Below W.heap.size W w')
    (K1 : ∀ W, Calls Tryz.prog 91 #[.int .i64 (I : Int)] W fun e w' => e = .returned (.bool true) ∧ W = w')
    (K2 : ∀ W, Calls Tryz.prog 91 #[.int .i64 (F : Int)] W fun e w' => e = .returned (.bool true) ∧ W = w') (w : World) :
    Calls Tryz.prog 83 #[.agg #[.int .u64 (A : Int), .int .u32 (L : Int), .int .i64 (I : Int), .int .i64 (F : Int)]] w fun e w' => e = .returned (.tuple #[.string (S1 ++ S2 ++ S3 ++ S4), .int .i64 0]) ∧ Below w.heap.size w w' := by
  have G1 := Lib.hid H1
  have G2 := Lib.hid H2
  have G3 := Lib.hid H3
  have G4 := Lib.hid H4
  have GI := Lib.hid K1
  have GF := Lib.hid K2
  clear H1 H2 H3 H4 K1 K2
  have c1 : ¬ 9223372036854775807 < S1.size + S2.size := by omega
  have c2 : ¬ 9223372036854775807 < S1.size + S2.size + S3.size := by omega
  have c3 : ¬ 9223372036854775807 < S1.size + S2.size + S3.size + S4.size := by omega
  have v1 : IntKind.u64.wrap (L : Int) = L := by rw [IntKind.wrap_u64]; omega
  have v2 : IntKind.u64.wrap (I : Int) = I := by rw [IntKind.wrap_u64]; omega
  have v3 : IntKind.u64.wrap (F : Int) = F := by rw [IntKind.wrap_u64]; omega
  have hB := Below.refl w.heap.size w
  clear h1 h2 h3 h4 b1 b2 b3 hB
  go_enter Tryz.func83, Tryz.ntmps83
  go_wp2_with (first
    | (go_at_call 91; ((with_reducible refine (GI.out _).mono ?_); rintro e w' ⟨rfl, rfl⟩))
    | (go_at_call 91; ((with_reducible refine (GF.out _).mono ?_); rintro e w' ⟨rfl, rfl⟩)))
  have c0 := (H4.new w 89 (.int .u64 (A : Int)) (.int .u32 (L : Int)) (.int .i64 (I : Int)) (.int .i64 (F : Int))).drew
  unfold H4 at c0
  go_region_held3 (fun w' => (w'.cell? ⟨w.heap.size, 0, none⟩ = some (.int .u64 (A : Int)) ∧ w'.cell? ⟨w.heap.size, 1, none⟩ = some (.int .u32 (L : Int)) ∧ w'.cell? ⟨w.heap.size, 2, none⟩ = some (.int .i64 (I : Int)) ∧ w'.cell? ⟨w.heap.size, 3, none⟩ = some (.int .i64 (F : Int))) ∧ Held w 89 #[.int .u64 (A : Int), .int .u32 (L : Int), .int .i64 (I : Int), .int .i64 (F : Int)] w')
    (first | exact c0 | assumption | exact H4.next (by assumption) hq)
    (first
      | (go_at_call 92; ((with_reducible refine (G1.out _).mono ?_); rintro e w' ⟨rfl, hq⟩))
      | (go_at_call 92; ((with_reducible refine (G2.out _).mono ?_); rintro e w' ⟨rfl, hq⟩))
      | (go_at_call 92; ((with_reducible refine (G3.out _).mono ?_); rintro e w' ⟨rfl, hq⟩))
      | (go_at_call 92; ((with_reducible refine (G4.out _).mono ?_); rintro e w' ⟨rfl, hq⟩)))
  all_goals
    rename_i hH
    go_wp2
    go_ret2
    exact ⟨rfl, hH.2.below⟩
theorem build_id (A L I F : Int) (w : World) (h : ¬ (0 ≤ I ∧ I ≤ 65535)) :
    Calls Tryz.prog 83 #[.agg #[.int .u64 A, .int .u32 L, .int .i64 I, .int .i64 F]] w fun e w' => e = .returned (.tuple #[.string ⟨#[]⟩, .int .i64 1]) ∧ Below w.heap.size w w' := by
  have GI := Lib.hid (fun W => isWord_any I false (decide_eq_false h).symm W)
  clear h
  go_enter Tryz.func83, Tryz.ntmps83
  go_wp2_with ((go_at_call 91; ((with_reducible refine (GI.out _).mono ?_); rintro e w' ⟨rfl, rfl⟩)))
  go_ret2
  exact ⟨rfl, ba (Below.refl _ _) _⟩
theorem build_flags (A L I F : Int) (w : World) (h1 : 0 ≤ I ∧ I ≤ 65535) (h : ¬ (0 ≤ F ∧ F ≤ 65535)) :
    Calls Tryz.prog 83 #[.agg #[.int .u64 A, .int .u32 L, .int .i64 I, .int .i64 F]] w fun e w' => e = .returned (.tuple #[.string ⟨#[]⟩, .int .i64 1]) ∧ Below w.heap.size w w' := by
  have GI := Lib.hid (fun W => isWord_any I true (decide_eq_true h1).symm W)
  have GF := Lib.hid (fun W => isWord_any F false (decide_eq_false h).symm W)
  clear h h1
  go_enter Tryz.func83, Tryz.ntmps83
  go_wp2_with (first
    | (go_at_call 91; ((with_reducible refine (GI.out _).mono ?_); rintro e w' ⟨rfl, rfl⟩))
    | (go_at_call 91; ((with_reducible refine (GF.out _).mono ?_); rintro e w' ⟨rfl, rfl⟩)))
  go_ret2
  exact ⟨rfl, ba (Below.refl _ _) _⟩
def isW (I F : Int) : Prop := (0 ≤ I ∧ I ≤ 65535) ∧ (0 ≤ F ∧ F ≤ 65535)
instance (I F : Int) : Decidable (isW I F) := by unfold isW; infer_instance
/-- what Build answers -/
def buS (A L : Nat) (I F : Int) : ByteArray := if isW I F then desB A L I.toNat F.toNat else ⟨#[]⟩
def buE (I F : Int) : Int := if isW I F then 0 else 1
theorem desB_def (A L I F : Nat) : pb A 8 ++ pb L 4 ++ pb I 2 ++ pb F 2 = desB A L I F := rfl
theorem build_ok (A L I F : Nat) (hA : A < 18446744073709551616) (hL : L < 4294967296) (hI : I ≤ 65535) (hF : F ≤ 65535) (w : World) :
    Calls Tryz.prog 83 #[.agg #[.int .u64 (A : Int), .int .u32 (L : Int), .int .i64 (I : Int), .int .i64 (F : Int)]] w fun e w' => e = .returned (.tuple #[.string (desB A L I F), .int .i64 0]) ∧ Below w.heap.size w w' :=
  build_walk A L I F (pb A 8) (pb L 4) (pb I 2) (pb F 2) (pb_size _ _) (pb_size _ _) (pb_size _ _) (pb_size _ _) (by omega) (by omega) hL
    (fun W => put_pb A 8 (by decide) (by decide) (by omega) W) (fun W => put_pb L 4 (by decide) (by decide) (by omega) W)
    (fun W => put_pb I 2 (by decide) (by decide) (by omega) W) (fun W => put_pb F 2 (by decide) (by decide) (by omega) W)
    (fun W => isWord_any I true (decide_eq_true (by omega)).symm W) (fun W => isWord_any F true (decide_eq_true (by omega)).symm W) w
theorem build_any (A L : Nat) (I F : Int) (hA : A < 18446744073709551616) (hL : L < 4294967296) (w : World) :
    Calls Tryz.prog 83 #[.agg #[.int .u64 (A : Int), .int .u32 (L : Int), .int .i64 I, .int .i64 F]] w fun e w' => e = .returned (.tuple #[.string (buS A L I F), .int .i64 (buE I F)]) ∧ Below w.heap.size w w' := by
  by_cases h1 : 0 ≤ I ∧ I ≤ 65535
  · by_cases h2 : 0 ≤ F ∧ F ≤ 65535
    · rw [buS, buE, if_pos ⟨h1, h2⟩, if_pos ⟨h1, h2⟩]
      obtain ⟨i, rfl⟩ := Int.eq_ofNat_of_zero_le h1.1
      obtain ⟨f, rfl⟩ := Int.eq_ofNat_of_zero_le h2.1
      exact build_ok A L i f hA hL (by omega) (by omega) w
    · rw [buS, buE, if_neg (fun h => h2 h.2), if_neg (fun h => h2 h.2)]
      exact build_flags A L I F w h1 h2
  · rw [buS, buE, if_neg (fun h => h1 h.1), if_neg (fun h => h1 h.1)]
    exact build_id A L I F w h1
end Go.Proofs.YtbpgblmhacpjlaaGreat
namespace Go.Proofs.YtbpgblmhacpjlaaGreat
open Go.RowKit

theorem used_walk (X M K : Int) (wrap : Bool) (hX : bits .and .i64 X 32896 = M) (HS : ∀ w, Calls Tryz.prog 69 #[.bool wrap, .bool true] w fun e w' => e = .returned (.int .i64 K) ∧ w = w') (w : World) :
    Calls Tryz.prog 37 #[.int .i64 X, .bool wrap] w fun e w' => e = .returned (.bool (M == K)) ∧ w = w' := by
  go_enter Tryz.func37, Tryz.ntmps37
  go_wp2_with fail
  refine (HS _).mono ?_
  rintro e w1 ⟨rfl, rfl⟩
  go_wp2_with fail
  go_ret
  exact ⟨rfl, rfl⟩
theorem used_any (R : Nat) (h : Rest R) (a u wrap : Bool) (w : World) :
    Calls Tryz.prog 37 #[.int .i64 ((R + mk a u : Nat) : Int), .bool wrap] w fun e w' => e = .returned (.bool (a == wrap && u == wrap)) ∧ w = w' := by
  have e : (mkI a u == mkI wrap (wrap == true)) = (a == wrap && u == wrap) := by cases a <;> cases u <;> cases wrap <;> decide
  rw [← e]
  exact used_walk _ _ _ wrap (mk_and R h a u) (fun w => stating_any wrap true w) w
end Go.Proofs.YtbpgblmhacpjlaaGreat
namespace Go.Proofs.YtbpgblmhacpjlaaGreat
open Go.RowKit

theorem rbuild_0 (A L I F : Int) (w : World)  (h0 : I < 0) :
    Calls Tryz.prog 34 #[.agg #[.int .u64 A, .int .u32 L, .int .i64 I, .int .i64 F]] w fun e w' => e = .returned (.tuple #[.string ⟨#[]⟩, .int .i64 1]) ∧ Below w.heap.size w w' := by
  go_enter Tryz.func34, Tryz.ntmps34
  go_wp2
  go_ret2
  exact ⟨rfl, ba (Below.refl _ _) _⟩
theorem rbuild_1 (A L I F : Int) (w : World) (h0 : ¬ I < 0) (h1 : 65535 < I) :
    Calls Tryz.prog 34 #[.agg #[.int .u64 A, .int .u32 L, .int .i64 I, .int .i64 F]] w fun e w' => e = .returned (.tuple #[.string ⟨#[]⟩, .int .i64 1]) ∧ Below w.heap.size w w' := by
  go_enter Tryz.func34, Tryz.ntmps34
  go_wp2
  go_ret2
  exact ⟨rfl, ba (Below.refl _ _) _⟩
theorem rbuild_2 (A L I F : Int) (w : World) (h0 : ¬ I < 0) (h1 : ¬ 65535 < I) (h2 : F < 0) :
    Calls Tryz.prog 34 #[.agg #[.int .u64 A, .int .u32 L, .int .i64 I, .int .i64 F]] w fun e w' => e = .returned (.tuple #[.string ⟨#[]⟩, .int .i64 1]) ∧ Below w.heap.size w w' := by
  go_enter Tryz.func34, Tryz.ntmps34
  go_wp2
  go_ret2
  exact ⟨rfl, ba (Below.refl _ _) _⟩
theorem rbuild_3 (A L I F : Int) (w : World) (h0 : ¬ I < 0) (h1 : ¬ 65535 < I) (h2 : ¬ F < 0) (h3 : 65535 < F) :
    Calls Tryz.prog 34 #[.agg #[.int .u64 A, .int .u32 L, .int .i64 I, .int .i64 F]] w fun e w' => e = .returned (.tuple #[.string ⟨#[]⟩, .int .i64 1]) ∧ Below w.heap.size w w' := by
  go_enter Tryz.func34, Tryz.ntmps34
  go_wp2
  go_ret2
  exact ⟨rfl, ba (Below.refl _ _) _⟩
set_option maxHeartbeats 1600000 in
theorem rbuild_walk (A L I F : Nat) (S1 S2 S3 S4 : ByteArray) (h1 : S1.size = 8) (h2 : S2.size = 4) (h3 : S3.size = 2) (h4 : S4.size = 2)
    (b1 : (I : Int) ≤ 65535) (b2 : (F : Int) ≤ 65535) (b3 : L < 4294967296)
    (H1 : ∀ W, Calls Tryz.prog 67 #[.int .u64 (A : Int), .int .i64 8, .bool false] W fun e w' => e = .returned (.tuple #[.string S1, .int .i64 0]) ∧ Below W.heap.size W w')
    (H2 : ∀ W, Calls Tryz.prog 67 #[.int .u64 (L : Int), .int .i64 4, .bool false] W fun e w' => e = .returned (.tuple #[.string S2, .int .i64 0]) ∧ Below W.heap.size W w')
    (H3 : ∀ W, Calls Tryz.prog 67 #[.int .u64 (I : Int), .int .i64 2, .bool false] W fun e w' => e = .returned (.tuple #[.string S3, .int .i64 0]) ∧ Below W.heap.size W w')
    (H4 : ∀ W, Calls Tryz.prog 67 #[.int .u64 (F : Int), .int .i64 2, .bool false] W fun e w' => e = .returned (.tuple #[.string S4, .int .i64 0]) ∧ Below W.heap.size W w') (w : World) :
    Calls Tryz.prog 34 #[.agg #[.int .u64 (A : Int), .int .u32 (L : Int), .int .i64 (I : Int), .int .i64 (F : Int)]] w fun e w' => e = .returned (.tuple #[.string (S1 ++ S2 ++ S3 ++ S4), .int .i64 0]) ∧ Below w.heap.size w w' := by
  have G1 := Lib.hid H1
  have G2 := Lib.hid H2
  have G3 := Lib.hid H3
  have G4 := Lib.hid H4
  clear H1 H2 H3 H4
  have c1 : ¬ 9223372036854775807 < S1.size + S2.size := by omega
  have c2 : ¬ 9223372036854775807 < S1.size + S2.size + S3.size := by omega
  have c3 : ¬ 9223372036854775807 < S1.size + S2.size + S3.size + S4.size := by omega
  have v1 : IntKind.u64.wrap (L : Int) = L := by rw [IntKind.wrap_u64]; omega
  have v2 : IntKind.u64.wrap (I : Int) = I := by rw [IntKind.wrap_u64]; omega
  have v3 : IntKind.u64.wrap (F : Int) = F := by rw [IntKind.wrap_u64]; omega
  have k1 : decide (65535 < (I : Int)) = false := decide_eq_false (by omega)
  have k2 : decide (65535 < (F : Int)) = false := decide_eq_false (by omega)
  have k3 : decide ((I : Int) < 0) = false := decide_eq_false (by omega)
  have k4 : decide ((F : Int) < 0) = false := decide_eq_false (by omega)
  clear h1 h2 h3 h4 b1 b2 b3
  go_enter Tryz.func34, Tryz.ntmps34
  go_wp2_with fail
  refine (G1.out _).mono ?_
  rintro e w1 ⟨rfl, hq⟩
  have e1 := (H4.new w 89 (.int .u64 (A : Int)) (.int .u32 (L : Int)) (.int .i64 (I : Int)) (.int .i64 (F : Int))).next hq
  clear hq
  obtain ⟨⟨p0, p1, p2, p3⟩, _⟩ := id e1
  go_wp2_with fail
  refine (G2.out _).mono ?_
  rintro e w2 ⟨rfl, hq⟩
  have e2 := e1.next hq
  clear hq e1 p0 p1 p2 p3
  obtain ⟨⟨p0, p1, p2, p3⟩, _⟩ := id e2
  go_wp2_with fail
  refine (G3.out _).mono ?_
  rintro e w3 ⟨rfl, hq⟩
  have e3 := e2.next hq
  clear hq e2 p0 p1 p2 p3
  obtain ⟨⟨p0, p1, p2, p3⟩, _⟩ := id e3
  go_wp2_with fail
  refine (G4.out _).mono ?_
  rintro e w4 ⟨rfl, hq⟩
  have e4 := e3.next hq
  clear hq e3 p0 p1 p2 p3
  have hB := e4.below
  clear e4
  go_wp2_with fail
  go_ret2
  exact ⟨rfl, hB⟩
theorem rbuild_any (A L : Nat) (I F : Int) (hA : A < 18446744073709551616) (hL : L < 4294967296) (w : World) :
    Calls Tryz.prog 34 #[.agg #[.int .u64 (A : Int), .int .u32 (L : Int), .int .i64 I, .int .i64 F]] w fun e w' => e = .returned (.tuple #[.string (buS A L I F), .int .i64 (buE I F)]) ∧ Below w.heap.size w w' := by
  by_cases h1 : 0 ≤ I ∧ I ≤ 65535
  · by_cases h2 : 0 ≤ F ∧ F ≤ 65535
    · rw [buS, buE, if_pos ⟨h1, h2⟩, if_pos ⟨h1, h2⟩]
      obtain ⟨i, rfl⟩ := Int.eq_ofNat_of_zero_le h1.1
      obtain ⟨f, rfl⟩ := Int.eq_ofNat_of_zero_le h2.1
      exact rbuild_walk A L i f (pb A 8) (pb L 4) (pb i 2) (pb f 2) (pb_size _ _) (pb_size _ _) (pb_size _ _) (pb_size _ _) (by omega) (by omega) hL
        (fun W => putr_pb A 8 (by decide) (by decide) (by omega) W) (fun W => putr_pb L 4 (by decide) (by decide) (by omega) W)
        (fun W => putr_pb i 2 (by decide) (by decide) (by omega) W) (fun W => putr_pb f 2 (by decide) (by decide) (by omega) W) w
    · rw [buS, buE, if_neg (fun h => h2 h.2), if_neg (fun h => h2 h.2)]
      by_cases h3 : F < 0
      · exact rbuild_2 A L I F w (by omega) (by omega) h3
      · exact rbuild_3 A L I F w (by omega) (by omega) h3 (by omega)
  · rw [buS, buE, if_neg (fun h => h1 h.1), if_neg (fun h => h1 h.1)]
    by_cases h3 : I < 0
    · exact rbuild_0 A L I F w h3
    · exact rbuild_1 A L I F w h3 (by omega)
end Go.Proofs.YtbpgblmhacpjlaaGreat

/-
  The small functions of desc: numbers got and put, two bytes' numbers, the two bits; the document's Avail, Used and Mark; for flags from 0 to 65535.
-/
import Derived.Test.YtbpgblmhacpjlaaPut
import Derived.Test.YtbpgblmhacpjlaaBit
import Derived.Lib.Hide
namespace Go.Proofs.Ytbpgblmhacpjlaa
open Go.RowKit

theorem dget_any (s : ByteArray) (a n : Int) (w : World) (hs : s.size ≤ maxLen) :
    Calls Try.prog 84 #[.string s, .int .i64 a, .int .i64 n] w fun e w' => e = .returned (.int .u64 (getV s a n false)) ∧ Below w.heap.size w w' := by
  have HG := Lib.hid (fun W => get_any s a n false W hs)
  clear hs
  go_enter Try.func84, Try.ntmps84
  go_wp2_with fail
  refine (HG.out _).mono ?_
  rintro e w1 ⟨rfl, hq⟩
  go_wp2_with fail
  go_ret
  exact ⟨rfl, hq⟩
theorem dput_any (v n : Int) (w : World) (h0 : 0 ≤ v) :
    Calls Try.prog 83 #[.int .u64 v, .int .i64 n] w fun e w' => e = .returned (.string (putS v n false)) ∧ Below w.heap.size w w' := by
  have HG := Lib.hid (fun W => put_any v n false W h0)
  clear h0
  go_enter Try.func83, Try.ntmps83
  go_wp2_with fail
  refine (HG.out _).mono ?_
  rintro e w1 ⟨rfl, hq⟩
  go_wp2_with fail
  go_ret
  exact ⟨rfl, hq⟩
theorem isWord_any (v : Int) (b : Bool) (hb : b = decide (0 ≤ v ∧ v ≤ 65535)) (w : World) :
    Calls Try.prog 82 #[.int .i64 v] w fun e w' => e = .returned (.bool b) ∧ w = w' := by
  subst hb
  by_cases h1 : 0 ≤ v
  · have h2 : decide (0 ≤ v ∧ v ≤ 65535) = decide (v ≤ 65535) := by simp [h1]
    rw [h2]
    go_enter Try.func82, Try.ntmps82
    go_wp2
    go_ret
    exact ⟨rfl, rfl⟩
  · have h2 : decide (0 ≤ v ∧ v ≤ 65535) = false := decide_eq_false (fun h => h1 h.1)
    rw [h2]
    go_enter Try.func82, Try.ntmps82
    go_wp2
    go_ret
    exact ⟨rfl, rfl⟩
/-- the two bits, as an int -/
def mkI (a u : Bool) : Int := (mk a u : Nat)
theorem stating_any (wrap used : Bool) (w : World) :
    Calls Try.prog 69 #[.bool wrap, .bool used] w fun e w' => e = .returned (.int .i64 (mkI wrap (wrap == used))) ∧ w = w' := by
  cases wrap <;> cases used
  · go_enter Try.func69, Try.ntmps69
    go_wp2
    go_ret
    exact ⟨rfl, rfl⟩
  · go_enter Try.func69, Try.ntmps69
    go_wp2
    go_ret
    exact ⟨rfl, rfl⟩
  · go_enter Try.func69, Try.ntmps69
    go_wp2
    go_ret
    exact ⟨rfl, rfl⟩
  · go_enter Try.func69, Try.ntmps69
    go_wp2
    go_ret
    exact ⟨rfl, rfl⟩
theorem avail_walk (X M K : Int) (wrap : Bool) (hX : bits .and .i64 X 32896 = M) (HS : ∀ w, Calls Try.prog 69 #[.bool wrap, .bool false] w fun e w' => e = .returned (.int .i64 K) ∧ w = w') (w : World) :
    Calls Try.prog 64 #[.int .i64 X, .bool wrap] w fun e w' => e = .returned (.bool (M == K)) ∧ w = w' := by
  go_enter Try.func64, Try.ntmps64
  go_wp2_with fail
  refine (HS _).mono ?_
  rintro e w1 ⟨rfl, rfl⟩
  go_wp2_with fail
  go_ret
  exact ⟨rfl, rfl⟩
theorem mark_walk (X R K Y : Int) (wrap used : Bool) (hX : bits .andNot .i64 X 32896 = R) (hY : bits .or .i64 R K = Y) (HS : ∀ w, Calls Try.prog 69 #[.bool wrap, .bool used] w fun e w' => e = .returned (.int .i64 K) ∧ w = w') (w : World) :
    Calls Try.prog 66 #[.int .i64 X, .bool wrap, .bool used] w fun e w' => e = .returned (.int .i64 Y) ∧ w = w' := by
  go_enter Try.func66, Try.ntmps66
  go_wp2_with fail
  refine (HS _).mono ?_
  rintro e w1 ⟨rfl, rfl⟩
  go_wp2_with fail
  go_ret
  exact ⟨rfl, rfl⟩
def rmV (R : Int) : Bool → Bool → Int
  | false, false => wrap64 (R + 32768)
  | false, true => R
  | true, false => wrap64 (R + 128)
  | true, true => wrap64 (wrap64 (R + 128) + 32768)
theorem rmark_walk (X : Nat) (P Q A U R : Int) (wrap used : Bool) (h1 : wrap64 ((X : Int) / 128) = P) (h2 : wrap64 ((X : Int) / 32768) = Q) (h3 : P.tmod 2 = A) (h4 : Q.tmod 2 = U)
    (h5 : wrap64 (wrap64 ((X : Int) - wrap64 (A * 128)) - wrap64 (U * 32768)) = R) (w : World) :
    Calls Try.prog 53 #[.int .i64 (X : Int), .bool wrap, .bool used] w fun e w' => e = .returned (.int .i64 (rmV R wrap used)) ∧ w = w' := by
  cases wrap <;> cases used
  all_goals
    subst h5
    go_enter Try.func53, Try.ntmps53
    go_wp2
    go_ret
    exact ⟨rfl, rfl⟩

theorem avail_any (R : Nat) (h : Rest R) (a u wrap : Bool) (w : World) :
    Calls Try.prog 64 #[.int .i64 ((R + mk a u : Nat) : Int), .bool wrap] w fun e w' => e = .returned (.bool (a == wrap && u != wrap)) ∧ w = w' := by
  have e : (mkI a u == mkI wrap (wrap == false)) = (a == wrap && u != wrap) := by cases a <;> cases u <;> cases wrap <;> decide
  rw [← e]
  exact avail_walk _ _ _ wrap (mk_and R h a u) (fun w => stating_any wrap false w) w
theorem mark_any (R : Nat) (h : Rest R) (a u wrap used : Bool) (w : World) :
    Calls Try.prog 66 #[.int .i64 ((R + mk a u : Nat) : Int), .bool wrap, .bool used] w fun e w' => e = .returned (.int .i64 ((R + mk wrap (wrap == used) : Nat) : Int)) ∧ w = w' :=
  mark_walk _ _ _ _ wrap used (mk_not R h a u) (mk_or R h wrap (wrap == used)) (fun w => stating_any wrap used w) w
theorem wrap64_of {x : Int} (h1 : -9223372036854775808 ≤ x) (h2 : x ≤ 9223372036854775807) : wrap64 x = x := by unfold wrap64; omega
theorem parts_of (R : Nat) (h : Rest R) (a u : Bool) (X : Nat) (hX : X = R + mk a u) :
    wrap64 ((X : Int) / 128) = ((X / 128 : Nat) : Int) ∧ wrap64 ((X : Int) / 32768) = ((X / 32768 : Nat) : Int) ∧ ((X / 128 : Nat) : Int).tmod 2 = (one a : Int) ∧ ((X / 32768 : Nat) : Int).tmod 2 = (one u : Int) := by
  have hl := mk_lt R h a u
  have ha := one_lt a; have hu := one_lt u
  rw [← hX] at hl
  unfold mk at hX
  obtain ⟨h1, h2, h3⟩ := h
  refine ⟨?_, ?_, ?_, ?_⟩
  · rw [wrap64_of] <;> omega
  · rw [wrap64_of] <;> omega
  · rw [Int.tmod_eq_emod_of_nonneg (by omega)]; omega
  · rw [Int.tmod_eq_emod_of_nonneg (by omega)]; omega
theorem one_is (a : Bool) : (((one a : Nat) : Int) == 1) = a := by cases a <;> decide
theorem rm_rest (R A U X : Nat) (hX : X = R + (128 * A + 32768 * U)) (hA : A < 2) (hU : U < 2) (hR : R < 65536) :
    wrap64 (wrap64 ((X : Int) - wrap64 ((A : Int) * 128)) - wrap64 ((U : Int) * 32768)) = (R : Int) := by
  have e1 : wrap64 ((A : Int) * 128) = (A : Int) * 128 := wrap64_of (by omega) (by omega)
  have e2 : wrap64 ((U : Int) * 32768) = (U : Int) * 32768 := wrap64_of (by omega) (by omega)
  have e3 : wrap64 ((X : Int) - (A : Int) * 128) = (X : Int) - (A : Int) * 128 := wrap64_of (by omega) (by omega)
  rw [e1, e2, e3, wrap64_of (by omega) (by omega)]
  omega
theorem mk_ff : mk false false = 0 := rfl
theorem mk_ft : mk false true = 32768 := rfl
theorem mk_tf : mk true false = 128 := rfl
theorem mk_tt : mk true true = 32896 := rfl
theorem rm_marked (R : Nat) (h : R < 65536) (wrap used : Bool) : rmV (R : Int) wrap used = ((R + mk wrap (wrap == used) : Nat) : Int) := by
  have e1 : wrap64 ((R : Int) + 32768) = ((R + 32768 : Nat) : Int) := by rw [wrap64_of (by omega) (by omega)]; omega
  have e2 : wrap64 ((R : Int) + 128) = ((R + 128 : Nat) : Int) := by rw [wrap64_of (by omega) (by omega)]; omega
  have e3 : wrap64 (((R + 128 : Nat) : Int) + 32768) = ((R + 32896 : Nat) : Int) := by rw [wrap64_of (by omega) (by omega)]; omega
  cases wrap <;> cases used
  · show wrap64 ((R : Int) + 32768) = ((R + mk false true : Nat) : Int)
    rw [mk_ft, e1]
  · show (R : Int) = ((R + mk false false : Nat) : Int)
    rw [mk_ff, Nat.add_zero]
  · show wrap64 ((R : Int) + 128) = ((R + mk true false : Nat) : Int)
    rw [mk_tf, e2]
  · show wrap64 (wrap64 ((R : Int) + 128) + 32768) = ((R + mk true true : Nat) : Int)
    rw [mk_tt, e2, e3]
theorem rmark_any (R : Nat) (h : Rest R) (a u wrap used : Bool) (w : World) :
    Calls Try.prog 53 #[.int .i64 ((R + mk a u : Nat) : Int), .bool wrap, .bool used] w fun e w' => e = .returned (.int .i64 ((R + mk wrap (wrap == used) : Nat) : Int)) ∧ w = w' := by
  obtain ⟨p1, p2, p3, p4⟩ := parts_of R h a u _ rfl
  have e3 := rm_rest R (one a) (one u) (R + mk a u) rfl (one_lt a) (one_lt u) h.1
  rw [← rm_marked R h.1]
  exact rmark_walk _ _ _ _ _ _ wrap used p1 p2 p3 p4 e3 w
end Go.Proofs.Ytbpgblmhacpjlaa

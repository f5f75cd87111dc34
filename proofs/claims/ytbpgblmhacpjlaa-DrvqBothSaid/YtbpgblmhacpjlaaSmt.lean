/-
  The number of steps from one position to another one: what a step adds, that it tells the position; whether steps are to be told.
-/
import Derived.Test.YtbpgblmhacpjlaaSnx
namespace Go.Proofs.Ytbpgblmhacpjlaa.Sp
open Go.RowKit

/-- how many steps -/
def gp (a c n : Int) (b d : Bool) : Int := if b = d then (if a ≤ c then c - a else c - a + 2 * n) else c - a + n
theorem gpV_bad {a c n : Int} (b d : Bool) (h : gpE a c n ≠ 0) : gpV a c n b d = 0 := if_pos h
theorem gpV_ok {a c n : Int} (b d : Bool) (h : gpE a c n = 0) : gpV a c n b d = gp a c n b d := by rw [gpV, if_neg (by omega)]; rfl
theorem gpE_zero {a c n : Int} (h : gpE a c n = 0) : 1 ≤ n ∧ n ≤ 32768 ∧ 0 ≤ a ∧ a < n ∧ 0 ≤ c ∧ c < n := by
  by_cases h0 : chkE a n = 0
  · have e : gpE a c n = chkE c n := by rw [gpE, if_neg (by omega)]
    have := chk_zero h0
    have := chk_zero (e.symm.trans h)
    omega
  · rw [gpE, if_pos h0] at h; exact absurd h h0
theorem chk_in {a n : Int} (h1 : 1 ≤ n) (h2 : n ≤ 32768) (h3 : 0 ≤ a) (h4 : a < n) : chkE a n = 0 := chk_ok (by omega) (by omega)
theorem gpE_in {a c n : Int} (h1 : 1 ≤ n) (h2 : n ≤ 32768) (h3 : 0 ≤ a) (h4 : a < n) (h5 : 0 ≤ c) (h6 : c < n) : gpE a c n = 0 := by
  rw [gpE, chk_in h1 h2 h3 h4, if_neg (by decide), chk_in h1 h2 h5 h6]
theorem gp_same (a n : Int) (b : Bool) : gp a a n b b = 0 := by rw [gp, if_pos rfl, if_pos (Int.le_refl _)]; omega
section
variable {a c n x : Int} {b d y : Bool}
theorem gp_low (h3 : 0 ≤ a) (h4 : a < n) (h5 : 0 ≤ c) (h6 : c < n) : 0 ≤ gp a c n b d := by have _ := h6; unfold gp; split <;> (try split) <;> omega
theorem gp_high (h3 : 0 ≤ a) (h4 : a < n) (h5 : 0 ≤ c) (h6 : c < n) : gp a c n b d < 2 * n := by have _ := h5; unfold gp; split <;> (try split) <;> omega
theorem gp_inj (h4 : a < n) (h3 : 0 ≤ a) (h5 : 0 ≤ c) (h6 : c < n) (h7 : 0 ≤ x) (h8 : x < n) (h : gp a x n b y = gp a c n b d) : x = c ∧ y = d := by
  have _ := h4; have _ := h3
  unfold gp at h
  cases b <;> cases d <;> cases y <;> simp at h ⊢ <;> (repeat' split at h) <;> omega
theorem gp_step (h3 : 0 ≤ a) (h4 : a < n) (h7 : 0 ≤ x) (h8 : x < n - 1) (h : gp a x n b y + 1 < 2 * n) : gp a (x + 1) n b y = gp a x n b y + 1 := by
  have _ := h3; have _ := h4; have _ := h7; have _ := h8
  unfold gp at h ⊢
  cases b <;> cases y <;> simp at h ⊢ <;> (repeat' split at h) <;> (repeat' split) <;> omega
theorem gp_turn (h3 : 0 ≤ a) (h4 : a < n) (h : gp a (n - 1) n b y + 1 < 2 * n) : gp a 0 n b (!y) = gp a (n - 1) n b y + 1 := by
  unfold gp at h ⊢
  cases b <;> cases y <;> simp at h ⊢ <;> (repeat' split at h) <;> (repeat' split) <;> omega
end
theorem nxE_zero {a n k : Int} (h : nxE a n k = 0) : 1 ≤ n ∧ n ≤ 32768 ∧ 0 ≤ a ∧ a < n ∧ 0 ≤ k ∧ k ≤ n := by
  by_cases h0 : chkE a n = 0
  · have := chk_zero h0
    rw [nxE, if_neg (by omega)] at h
    by_cases h1 : k < 0 ∨ n < k
    · rw [if_pos h1] at h; cases h
    · omega
  · rw [nxE, if_pos h0] at h; exact absurd h h0
theorem nxE_in {a n k : Int} (h1 : 1 ≤ n) (h2 : n ≤ 32768) (h3 : 0 ≤ a) (h4 : a < n) (h5 : 0 ≤ k) (h6 : k ≤ n) : nxE a n k = 0 := by
  rw [nxE, chk_in h1 h2 h3 h4, if_neg (by decide), if_neg (by omega)]
theorem nx_low {a n k : Int} (b : Bool) (h : nxE a n k = 0) (h7 : a + k < n) : nxA a n k = a + k ∧ nxB a n k b = b := by
  rw [nxA, nxB, if_neg (by omega), if_pos h7, if_neg (by omega), if_pos h7]; exact ⟨rfl, rfl⟩
theorem nx_high {a n k : Int} (b : Bool) (h : nxE a n k = 0) (h7 : ¬ a + k < n) : nxA a n k = a + k - n ∧ nxB a n k b = !b := by
  rw [nxA, nxB, if_neg (by omega), if_neg h7, if_neg (by omega), if_neg h7]; exact ⟨rfl, rfl⟩
theorem gp_next {a n k : Int} (b : Bool) (h : nxE a n k = 0) : gp a (nxA a n k) n b (nxB a n k b) = k ∧ 0 ≤ nxA a n k ∧ nxA a n k < n := by
  obtain ⟨h1, h2, h3, h4, h5, h6⟩ := nxE_zero h
  by_cases h7 : a + k < n
  · obtain ⟨e, f⟩ := nx_low b h h7
    rw [e, f, gp, if_pos rfl, if_pos (by omega)]; omega
  · obtain ⟨e, f⟩ := nx_high b h h7
    rw [e, f, gp, if_neg (by cases b <;> decide)]; omega
/-- is it told? o, v, f: the event; a, b to c, d: the steps -/
def needV (o : Int) (v : Bool) (f a : Int) (b : Bool) (c : Int) (d : Bool) (n : Int) : Bool :=
  if gpE a c n ≠ 0 ∨ n < gp a c n b d then false
  else if f = 0 then decide (0 < gp a c n b d)
  else if f = 2 then decide (gpE a o n = 0 ∧ gp a o n b v < gp a c n b d)
  else false
end Go.Proofs.Ytbpgblmhacpjlaa.Sp

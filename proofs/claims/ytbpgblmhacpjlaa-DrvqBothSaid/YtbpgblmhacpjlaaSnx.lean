/-
  What Next and Gap answer, for all positions, numbers of steps and sizes.
-/
import Derived.Test.YtbpgblmhacpjlaaSck
namespace Go.Proofs.Ytbpgblmhacpjlaa.Sp
open Go.RowKit

/-- two positions' blocks, and all else as it was -/
structure Two (w : World) (a b c d : Value) (w' : World) : Prop where
  l : Blk w' w.heap.size 69 #[a, b]
  r : Blk w' (w.heap.size + 1) 69 #[c, d]
  below : Below w.heap.size w w'
theorem Two.new (w : World) (a b c d : Value) : Two w a b c d ((w.alloc (.cells #[a, b] 69)).alloc (.cells #[c, d] 69)) :=
  ⟨(Blk.new w 69 _).alloc _, Blk.new2 _ _ _ _, ba (ba (Below.refl _ _) _) _⟩
theorem Two.next {w w1 w' : World} {a b c d : Value} (h : Two w a b c d w1) (hq : Below w1.heap.size w1 w') : Two w a b c d w' :=
  ⟨h.l.same (hq.block _ h.l.lt), h.r.same (hq.block _ h.r.lt), b0 h.below hq⟩
theorem Two.alloc {w w1 : World} {a b c d : Value} (h : Two w a b c d w1) (o : Obj) : Two w a b c d (w1.alloc o) :=
  ⟨h.l.alloc o, h.r.alloc o, ba h.below o⟩
theorem Two.drew {w w1 : World} {a b c d : Value} (h : Two w a b c d w1) : Two w a b c d w1.drew := ⟨h.l, h.r, h.below.drew⟩
theorem Two.put0 {w w1 : World} {a b c d : Value} (h : Two w a b c d w1) (u : Value) : Two w u b c d (w1.setCell ⟨w.heap.size, 0, none⟩ u) :=
  ⟨h.l.put 0 u, h.r.other (by omega) 0 u, h.below.setCell (Nat.le_refl _) _⟩
theorem Two.put1 {w w1 : World} {a b c d : Value} (h : Two w a b c d w1) (u : Value) : Two w a u c d (w1.setCell ⟨w.heap.size, 1, none⟩ u) :=
  ⟨h.l.put 1 u, h.r.other (by omega) 1 u, h.below.setCell (Nat.le_refl _) _⟩
theorem Two.put2 {w w1 : World} {a b c d : Value} (h : Two w a b c d w1) (u : Value) : Two w a b u d (w1.setCell ⟨w.heap.size + 1, 0, none⟩ u) :=
  ⟨h.l.other (by omega) 0 u, h.r.put 0 u, h.below.setCell (Nat.le_add_right _ 1) _⟩
theorem Two.put3 {w w1 : World} {a b c d : Value} (h : Two w a b c d w1) (u : Value) : Two w a b c u (w1.setCell ⟨w.heap.size + 1, 1, none⟩ u) :=
  ⟨h.l.other (by omega) 1 u, h.r.put 1 u, h.below.setCell (Nat.le_add_right _ 1) _⟩
theorem Two.facts {w w1 : World} {a b c d : Value} (h : Two w a b c d w1) :
    w1.cell? ⟨w.heap.size, 0, none⟩ = some a ∧ w1.cell? ⟨w.heap.size, 1, none⟩ = some b ∧ w1.cell? ⟨w.heap.size + 1, 0, none⟩ = some c ∧ w1.cell? ⟨w.heap.size + 1, 1, none⟩ = some d ∧
    w1.frozen? ⟨w.heap.size, 0, none⟩ = false ∧ w1.frozen? ⟨w.heap.size, 1, none⟩ = false ∧ w1.frozen? ⟨w.heap.size + 1, 0, none⟩ = false ∧ w1.frozen? ⟨w.heap.size + 1, 1, none⟩ = false :=
  ⟨h.l.cell 0, h.l.cell 1, h.r.cell 0, h.r.cell 1, h.l.frozen 0, h.l.frozen 1, h.r.frozen 0, h.r.frozen 1⟩
/-- Next's error -/
def nxE (a n k : Int) : Int := if chkE a n ≠ 0 then chkE a n else if k < 0 ∨ n < k then 1 else 0
def nxA (a n k : Int) : Int := if nxE a n k ≠ 0 then 0 else if a + k < n then a + k else a + k - n
def nxB (a n k : Int) (b : Bool) : Bool := if nxE a n k ≠ 0 then false else if a + k < n then b else !b
def R2 (w : World) (A : Int) (B : Bool) (E : Int) (e : Ending) (w' : World) : Prop := e = .returned (.tuple #[.agg #[.int .i64 A, .bool B], .int .i64 E]) ∧ Below w.heap.size w w'
theorem next_chk (a n k E : Int) (b : Bool) (w : World) (HC : ∀ W, Calls Try.prog 78 #[.agg #[.int .i64 a, .bool b], .int .i64 n] W fun e w' => e = .returned (.int .i64 E) ∧ Below W.heap.size W w') (hE : (E != 0) = true) :
    Calls Try.prog 59 #[.agg #[.int .i64 a, .bool b], .int .i64 k, .int .i64 n] w (R2 w 0 false E) := by
  have H := Lib.hid HC
  clear HC
  go_enter Try.func59, Try.ntmps59
  go_wp2_with fail
  refine (H.out _).mono ?_
  rintro e w1 ⟨rfl, hq⟩
  have h1 := (Two.new w (.int .i64 a) (.bool b) (.int .i64 0) (.bool false)).next hq
  clear hq
  obtain ⟨p0, p1, p2, p3, z0, z1, z2, z3⟩ := h1.facts
  go_wp2_with fail
  have h2 := (h1.put2 (.int .i64 0)).put3 (.bool false)
  exact bodyPost_ret (v := .tuple #[.agg #[.int .i64 0, .bool false], .int .i64 E]) (res2 _ _ _ (w.heap.size + 1) rfl rfl rfl _ _ h2.r) rfl ⟨rfl, h2.below⟩
theorem next_neg (a n k : Int) (b : Bool) (w : World) (HC : ∀ W, Calls Try.prog 78 #[.agg #[.int .i64 a, .bool b], .int .i64 n] W fun e w' => e = .returned (.int .i64 0) ∧ Below W.heap.size W w') (hk : k < 0) :
    Calls Try.prog 59 #[.agg #[.int .i64 a, .bool b], .int .i64 k, .int .i64 n] w (R2 w 0 false 1) := by
  have H := Lib.hid HC
  clear HC
  go_enter Try.func59, Try.ntmps59
  go_wp2_with fail
  refine (H.out _).mono ?_
  rintro e w1 ⟨rfl, hq⟩
  have h1 := (Two.new w (.int .i64 a) (.bool b) (.int .i64 0) (.bool false)).next hq
  clear hq
  obtain ⟨p0, p1, p2, p3, z0, z1, z2, z3⟩ := h1.facts
  go_wp2_with fail
  have h2 := (h1.put2 (.int .i64 0)).put3 (.bool false)
  exact bodyPost_ret (v := .tuple #[.agg #[.int .i64 0, .bool false], .int .i64 1]) (res2 _ _ _ (w.heap.size + 1) rfl rfl rfl _ _ h2.r) rfl ⟨rfl, h2.below⟩
theorem next_great (a n k : Int) (b : Bool) (w : World) (HC : ∀ W, Calls Try.prog 78 #[.agg #[.int .i64 a, .bool b], .int .i64 n] W fun e w' => e = .returned (.int .i64 0) ∧ Below W.heap.size W w') (hk : ¬ k < 0) (hn : n < k) :
    Calls Try.prog 59 #[.agg #[.int .i64 a, .bool b], .int .i64 k, .int .i64 n] w (R2 w 0 false 1) := by
  have H := Lib.hid HC
  clear HC
  go_enter Try.func59, Try.ntmps59
  go_wp2_with fail
  refine (H.out _).mono ?_
  rintro e w1 ⟨rfl, hq⟩
  have h1 := (Two.new w (.int .i64 a) (.bool b) (.int .i64 0) (.bool false)).next hq
  clear hq
  obtain ⟨p0, p1, p2, p3, z0, z1, z2, z3⟩ := h1.facts
  go_wp2_with fail
  have h2 := (h1.put2 (.int .i64 0)).put3 (.bool false)
  exact bodyPost_ret (v := .tuple #[.agg #[.int .i64 0, .bool false], .int .i64 1]) (res2 _ _ _ (w.heap.size + 1) rfl rfl rfl _ _ h2.r) rfl ⟨rfl, h2.below⟩
theorem next_low (a n k : Int) (b : Bool) (w : World) (HC : ∀ W, Calls Try.prog 78 #[.agg #[.int .i64 a, .bool b], .int .i64 n] W fun e w' => e = .returned (.int .i64 0) ∧ Below W.heap.size W w') (h1 : 1 ≤ n) (h2 : n ≤ 32768) (h3 : 0 ≤ a) (h5 : 0 ≤ k) (h6 : k ≤ n) (h7 : a + k < n) :
    Calls Try.prog 59 #[.agg #[.int .i64 a, .bool b], .int .i64 k, .int .i64 n] w (R2 w (a + k) b 0) := by
  have H := Lib.hid HC
  clear HC
  go_enter Try.func59, Try.ntmps59
  go_wp2_with fail
  refine (H.out _).mono ?_
  rintro e w1 ⟨rfl, hq⟩
  have h1 := (Two.new w (.int .i64 a) (.bool b) (.int .i64 0) (.bool false)).next hq
  clear hq
  obtain ⟨p0, p1, p2, p3, z0, z1, z2, z3⟩ := h1.facts
  go_wp2_with fail
  have h2 := ((h1.put0 (.int .i64 (a + k))).put2 (.int .i64 (a + k))).put3 (.bool b)
  exact bodyPost_ret (v := .tuple #[.agg #[.int .i64 (a + k), .bool b], .int .i64 0]) (res2 _ _ _ (w.heap.size + 1) rfl rfl rfl _ _ h2.r) rfl ⟨rfl, h2.below⟩
theorem next_high (a n k : Int) (b : Bool) (w : World) (HC : ∀ W, Calls Try.prog 78 #[.agg #[.int .i64 a, .bool b], .int .i64 n] W fun e w' => e = .returned (.int .i64 0) ∧ Below W.heap.size W w') (h1 : 1 ≤ n) (h2 : n ≤ 32768) (h3 : 0 ≤ a) (h4 : a < n) (h5 : 0 ≤ k) (h6 : k ≤ n) (h7 : n ≤ a + k) :
    Calls Try.prog 59 #[.agg #[.int .i64 a, .bool b], .int .i64 k, .int .i64 n] w (R2 w (a + k - n) (!b) 0) := by
  have H := Lib.hid HC
  clear HC
  go_enter Try.func59, Try.ntmps59
  go_wp2_with fail
  refine (H.out _).mono ?_
  rintro e w1 ⟨rfl, hq⟩
  have h1 := (Two.new w (.int .i64 a) (.bool b) (.int .i64 0) (.bool false)).next hq
  clear hq
  obtain ⟨p0, p1, p2, p3, z0, z1, z2, z3⟩ := h1.facts
  go_wp2_with fail
  have h2 := ((((h1.put0 (.int .i64 (a + k))).put0 (.int .i64 (a + k - n))).put1 (.bool (!b))).put2 (.int .i64 (a + k - n))).put3 (.bool (!b))
  exact bodyPost_ret (v := .tuple #[.agg #[.int .i64 (a + k - n), .bool (!b)], .int .i64 0]) (res2 _ _ _ (w.heap.size + 1) rfl rfl rfl _ _ h2.r) rfl ⟨rfl, h2.below⟩
theorem next_any (a n k : Int) (b : Bool) (w : World) :
    Calls Try.prog 59 #[.agg #[.int .i64 a, .bool b], .int .i64 k, .int .i64 n] w (R2 w (nxA a n k) (nxB a n k b) (nxE a n k)) := by
  have HC := fun W => chk_any a n b W
  by_cases h0 : chkE a n = 0
  · rw [h0] at HC
    obtain ⟨h1, h2, h3, h4⟩ := chk_zero h0
    by_cases h5 : k < 0
    · have e : nxE a n k = 1 := by rw [nxE, if_neg (by omega), if_pos (Or.inl h5)]
      rw [nxA, nxB, e, if_pos (by decide), if_pos (by decide)]
      exact next_neg a n k b w HC h5
    by_cases h6 : n < k
    · have e : nxE a n k = 1 := by rw [nxE, if_neg (by omega), if_pos (Or.inr h6)]
      rw [nxA, nxB, e, if_pos (by decide), if_pos (by decide)]
      exact next_great a n k b w HC h5 h6
    have e : nxE a n k = 0 := by rw [nxE, if_neg (by omega), if_neg (by omega)]
    by_cases h7 : a + k < n
    · have eA : nxA a n k = a + k := by rw [nxA, if_neg (by omega), if_pos h7]
      have eB : nxB a n k b = b := by rw [nxB, if_neg (by omega), if_pos h7]
      rw [eA, eB, e]
      exact next_low a n k b w HC h1 h2 h3 (by omega) (by omega) h7
    · have eA : nxA a n k = a + k - n := by rw [nxA, if_neg (by omega), if_neg h7]
      have eB : nxB a n k b = !b := by rw [nxB, if_neg (by omega), if_neg h7]
      rw [eA, eB, e]
      exact next_high a n k b w HC h1 h2 h3 h4 (by omega) (by omega) (by omega)
  · have e : nxE a n k = chkE a n := by rw [nxE, if_pos h0]
    rw [nxA, nxB, e, if_pos h0, if_pos h0]
    exact next_chk a n k (chkE a n) b w HC (by simpa using h0)
/-- Gap's error -/
def gpE (a c n : Int) : Int := if chkE a n ≠ 0 then chkE a n else chkE c n
def gpV (a c n : Int) (b d : Bool) : Int := if gpE a c n ≠ 0 then 0 else if b = d then (if a ≤ c then c - a else c - a + 2 * n) else c - a + n
def RG (w : World) (V E : Int) (e : Ending) (w' : World) : Prop := e = .returned (.tuple #[.int .i64 V, .int .i64 E]) ∧ Below w.heap.size w w'
end Go.Proofs.Ytbpgblmhacpjlaa.Sp

/-
  Positions of a ring.
-/
import Derived.Test.YtbpgblmhacpjlaaGreatZb
import Derived.Lib.Hide
namespace Go.Proofs.YtbpgblmhacpjlaaGreat.Sp
open Go.RowKit

theorem wrap64_of {x : Int} (h1 : -9223372036854775808 ≤ x) (h2 : x ≤ 9223372036854775807) : wrap64 x = x := by unfold wrap64; omega
/-- what Check answers -/
def chkE (a n : Int) : Int := if n < 1 ∨ 32768 < n then 130 else if a < 0 ∨ n ≤ a then 1 else 0
theorem chk_size {a n : Int} (h : n < 1 ∨ 32768 < n) : chkE a n = 130 := if_pos h
theorem chk_arg {a n : Int} (h : ¬ (n < 1 ∨ 32768 < n)) (k : a < 0 ∨ n ≤ a) : chkE a n = 1 := by rw [chkE, if_neg h, if_pos k]
theorem chk_ok {a n : Int} (h : ¬ (n < 1 ∨ 32768 < n)) (k : ¬ (a < 0 ∨ n ≤ a)) : chkE a n = 0 := by rw [chkE, if_neg h, if_neg k]
theorem chk_cases (a n : Int) : (chkE a n = 0 ∧ 1 ≤ n ∧ n ≤ 32768 ∧ 0 ≤ a ∧ a < n) ∨ (chkE a n = 1) ∨ (chkE a n = 130) := by
  unfold chkE
  by_cases h : n < 1 ∨ 32768 < n
  · simp [h]
  · by_cases k : a < 0 ∨ n ≤ a
    · simp [h, k]
    · left; rw [if_neg h, if_neg k]; omega
theorem chk_zero {a n : Int} (h : chkE a n = 0) : 1 ≤ n ∧ n ≤ 32768 ∧ 0 ≤ a ∧ a < n := by
  rcases chk_cases a n with k | k | k
  · exact k.2
  · rw [h] at k; cases k
  · rw [h] at k; cases k
theorem chk_0 (a n : Int) (b : Bool) (w : World) (h0 : n < 1) :
    Calls Tryz.prog 85 #[.agg #[.int .i64 a, .bool b], .int .i64 n] w fun e w' => e = .returned (.int .i64 130) ∧ Below w.heap.size w w' := by
  go_enter Tryz.func85, Tryz.ntmps85
  go_wp2
  go_ret
  exact ⟨rfl, ba (Below.refl _ _) _⟩
theorem chk_1 (a n : Int) (b : Bool) (w : World) (h0 : ¬ n < 1) (h1 : 32768 < n) :
    Calls Tryz.prog 85 #[.agg #[.int .i64 a, .bool b], .int .i64 n] w fun e w' => e = .returned (.int .i64 130) ∧ Below w.heap.size w w' := by
  go_enter Tryz.func85, Tryz.ntmps85
  go_wp2
  go_ret
  exact ⟨rfl, ba (Below.refl _ _) _⟩
theorem chk_2 (a n : Int) (b : Bool) (w : World) (h0 : ¬ n < 1) (h1 : ¬ 32768 < n) (h2 : a < 0) :
    Calls Tryz.prog 85 #[.agg #[.int .i64 a, .bool b], .int .i64 n] w fun e w' => e = .returned (.int .i64 1) ∧ Below w.heap.size w w' := by
  go_enter Tryz.func85, Tryz.ntmps85
  go_wp2
  go_ret
  exact ⟨rfl, ba (Below.refl _ _) _⟩
theorem chk_3 (a n : Int) (b : Bool) (w : World) (h0 : ¬ n < 1) (h1 : ¬ 32768 < n) (h2 : ¬ a < 0) (h3 : n ≤ a) :
    Calls Tryz.prog 85 #[.agg #[.int .i64 a, .bool b], .int .i64 n] w fun e w' => e = .returned (.int .i64 1) ∧ Below w.heap.size w w' := by
  go_enter Tryz.func85, Tryz.ntmps85
  go_wp2
  go_ret
  exact ⟨rfl, ba (Below.refl _ _) _⟩
theorem chk_4 (a n : Int) (b : Bool) (w : World) (h0 : ¬ n < 1) (h1 : ¬ 32768 < n) (h2 : ¬ a < 0) (h3 : ¬ n ≤ a) :
    Calls Tryz.prog 85 #[.agg #[.int .i64 a, .bool b], .int .i64 n] w fun e w' => e = .returned (.int .i64 0) ∧ Below w.heap.size w w' := by
  go_enter Tryz.func85, Tryz.ntmps85
  go_wp2
  go_ret
  exact ⟨rfl, ba (Below.refl _ _) _⟩
theorem chk_any (a n : Int) (b : Bool) (w : World) :
    Calls Tryz.prog 85 #[.agg #[.int .i64 a, .bool b], .int .i64 n] w fun e w' => e = .returned (.int .i64 (chkE a n)) ∧ Below w.heap.size w w' := by
  by_cases h0 : n < 1
  · rw [chk_size (Or.inl h0)]; exact chk_0 a n b w h0
  by_cases h1 : 32768 < n
  · rw [chk_size (Or.inr h1)]; exact chk_1 a n b w h0 h1
  by_cases h2 : a < 0
  · rw [chk_arg (by omega) (Or.inl h2)]; exact chk_2 a n b w h0 h1 h2
  by_cases h3 : n ≤ a
  · rw [chk_arg (by omega) (Or.inr h3)]; exact chk_3 a n b w h0 h1 h2 (by omega)
  · rw [chk_ok (by omega) (by omega)]; exact chk_4 a n b w h0 h1 h2 (by omega)
theorem rchk_0 (a n : Int) (b : Bool) (w : World) (h0 : n < 1) :
    Calls Tryz.prog 65 #[.agg #[.int .i64 a, .bool b], .int .i64 n] w fun e w' => e = .returned (.int .i64 130) ∧ Below w.heap.size w w' := by
  go_enter Tryz.func65, Tryz.ntmps65
  go_wp2
  go_ret
  exact ⟨rfl, ba (Below.refl _ _) _⟩
theorem rchk_1 (a n : Int) (b : Bool) (w : World) (h0 : ¬ n < 1) (h1 : 32768 < n) :
    Calls Tryz.prog 65 #[.agg #[.int .i64 a, .bool b], .int .i64 n] w fun e w' => e = .returned (.int .i64 130) ∧ Below w.heap.size w w' := by
  go_enter Tryz.func65, Tryz.ntmps65
  go_wp2
  go_ret
  exact ⟨rfl, ba (Below.refl _ _) _⟩
theorem rchk_2 (a n : Int) (b : Bool) (w : World) (h0 : ¬ n < 1) (h1 : ¬ 32768 < n) (h2 : a < 0) :
    Calls Tryz.prog 65 #[.agg #[.int .i64 a, .bool b], .int .i64 n] w fun e w' => e = .returned (.int .i64 1) ∧ Below w.heap.size w w' := by
  go_enter Tryz.func65, Tryz.ntmps65
  go_wp2
  go_ret
  exact ⟨rfl, ba (Below.refl _ _) _⟩
theorem rchk_3 (a n : Int) (b : Bool) (w : World) (h0 : ¬ n < 1) (h1 : ¬ 32768 < n) (h2 : ¬ a < 0) (h3 : n - 1 < a) :
    Calls Tryz.prog 65 #[.agg #[.int .i64 a, .bool b], .int .i64 n] w fun e w' => e = .returned (.int .i64 1) ∧ Below w.heap.size w w' := by
  go_enter Tryz.func65, Tryz.ntmps65
  go_wp2
  go_ret
  exact ⟨rfl, ba (Below.refl _ _) _⟩
theorem rchk_4 (a n : Int) (b : Bool) (w : World) (h0 : ¬ n < 1) (h1 : ¬ 32768 < n) (h2 : ¬ a < 0) (h3 : ¬ n - 1 < a) :
    Calls Tryz.prog 65 #[.agg #[.int .i64 a, .bool b], .int .i64 n] w fun e w' => e = .returned (.int .i64 0) ∧ Below w.heap.size w w' := by
  go_enter Tryz.func65, Tryz.ntmps65
  go_wp2
  go_ret
  exact ⟨rfl, ba (Below.refl _ _) _⟩
theorem rchk_any (a n : Int) (b : Bool) (w : World) :
    Calls Tryz.prog 65 #[.agg #[.int .i64 a, .bool b], .int .i64 n] w fun e w' => e = .returned (.int .i64 (chkE a n)) ∧ Below w.heap.size w w' := by
  by_cases h0 : n < 1
  · rw [chk_size (Or.inl h0)]; exact rchk_0 a n b w h0
  by_cases h1 : 32768 < n
  · rw [chk_size (Or.inr h1)]; exact rchk_1 a n b w h0 h1
  by_cases h2 : a < 0
  · rw [chk_arg (by omega) (Or.inl h2)]; exact rchk_2 a n b w h0 h1 h2
  by_cases h3 : n ≤ a
  · rw [chk_arg (by omega) (Or.inr h3)]; exact rchk_3 a n b w h0 h1 h2 (by omega)
  · rw [chk_ok (by omega) (by omega)]; exact rchk_4 a n b w h0 h1 h2 (by omega)
theorem res1 (f : Func) (w : World) (tmps : Array Value) (gf : Nat) (hf : f.results = Tryz.f66.results) (h : tmps[4]?.getD undef = .pointer (some ⟨gf, 0, none⟩)) (a b : Value)
    (hF : Blk w gf 44 #[a, b]) : (results f tmps).run Tryz.prog w = .ok (.agg #[a, b]) w := by
  have c0 := hF.cell 0
  have c1 := hF.cell 1
  simp only [List.getElem?_toArray, List.getElem?_cons_zero, List.getElem?_cons_succ] at c0 c1
  simp [results, hf, Tryz.results66, go_sem, h, c0, c1]
theorem res2 (f : Func) (w : World) (tmps : Array Value) (gf : Nat) {n : Int} (hf : f.results = Tryz.f64.results) (h : tmps[6]?.getD undef = .pointer (some ⟨gf, 0, none⟩)) (h3 : tmps[7]?.getD undef = .int .i64 n) (a b : Value)
    (hF : Blk w gf 44 #[a, b]) : (results f tmps).run Tryz.prog w = .ok (.tuple #[.agg #[a, b], .int .i64 n]) w := by
  have c0 := hF.cell 0
  have c1 := hF.cell 1
  simp only [List.getElem?_toArray, List.getElem?_cons_zero, List.getElem?_cons_succ] at c0 c1
  simp [results, hf, Tryz.results64, go_sem, h, h3, c0, c1]
theorem Blk.new2 (w : World) (o : Obj) (t : TypeId) (cs : Array Value) : Blk ((w.alloc o).alloc (.cells cs t)) (w.heap.size + 1) t cs := by
  have h := Blk.new (w.alloc o) t cs
  have e : (w.alloc o).heap.size = w.heap.size + 1 := by simp
  rwa [e] at h
theorem one_top (n : Int) (c : Bool) (w : World) (h1 : 1 ≤ n) (h2 : n ≤ 32768) :
    Calls Tryz.prog 66 #[.agg #[.int .i64 (n - 1), .bool c], .int .i64 n] w fun e w' => e = .returned (.agg #[.int .i64 0, .bool (!c)]) ∧ Below w.heap.size w w' := by
  go_enter Tryz.func66, Tryz.ntmps66
  go_wp2
  exact bodyPost_ret (v := .agg #[.int .i64 0, .bool (!c)]) (res1 _ _ _ (w.heap.size + 1) rfl rfl _ _ (Blk.new2 _ _ _ _)) rfl ⟨rfl, ba (ba (Below.refl _ _) _) _⟩
theorem one_low (x n : Int) (c : Bool) (w : World) (h1 : 1 ≤ n) (h2 : n ≤ 32768) (h3 : 0 ≤ x) (h4 : x < n - 1) :
    Calls Tryz.prog 66 #[.agg #[.int .i64 x, .bool c], .int .i64 n] w fun e w' => e = .returned (.agg #[.int .i64 (x + 1), .bool c]) ∧ Below w.heap.size w w' := by
  have e1 : ((x : Int) == n - 1) = false := beq_eq_false_iff_ne.2 (by omega)
  go_enter Tryz.func66, Tryz.ntmps66
  go_wp2
  exact bodyPost_ret (v := .agg #[.int .i64 (x + 1), .bool c]) (res1 _ _ _ (w.heap.size + 1) rfl rfl _ _ (Blk.new2 _ _ _ _)) rfl ⟨rfl, ba (ba (Below.refl _ _) _) _⟩
end Go.Proofs.YtbpgblmhacpjlaaGreat.Sp
namespace Go.Proofs.YtbpgblmhacpjlaaGreat.Sp
open Go.RowKit

/-- two positions' blocks, and all else as it was -/
structure Two (w : World) (a b c d : Value) (w' : World) : Prop where
  l : Blk w' w.heap.size 44 #[a, b]
  r : Blk w' (w.heap.size + 1) 44 #[c, d]
  below : Below w.heap.size w w'
theorem Two.new (w : World) (a b c d : Value) : Two w a b c d ((w.alloc (.cells #[a, b] 44)).alloc (.cells #[c, d] 44)) :=
  ⟨(Blk.new w 44 _).alloc _, Blk.new2 _ _ _ _, ba (ba (Below.refl _ _) _) _⟩
theorem Two.next {w w1 w' : World} {a b c d : Value} (h : Two w a b c d w1) (hq : Below w1.heap.size w1 w') : Two w a b c d w' :=
  ⟨h.l.same (hq.block _ h.l.lt), h.r.same (hq.block _ h.r.lt), b0 h.below hq⟩
theorem Two.alloc {w w1 : World} {a b c d : Value} (h : Two w a b c d w1) (o : Obj) : Two w a b c d (w1.alloc o) :=
  ⟨h.l.alloc o, h.r.alloc o, ba h.below o⟩
theorem Two.drew {w w1 : World} {a b c d : Value} (h : Two w a b c d w1) : Two w a b c d w1.drew := ⟨h.l, h.r, h.below.drew⟩
theorem Two.put0 {w w1 : World} {a b c d : Value} (h : Two w a b c d w1) (u : Value) : Two w u b c d (w1.setCell ⟨w.heap.size, 0, none⟩ u) :=
  ⟨h.l.put 0 u, h.r.other (by omega) 0 u, h.below.setCell (Nat.le_refl _) _⟩
theorem Two.put1 {w w1 : World} {a b c d : Value} (h : Two w a b c d w1) (u : Value) : Two w a u c d (w1.setCell ⟨w.heap.size, 1, none⟩ u) :=
  ⟨h.l.put 1 u, h.r.other (by omega) 1 u, h.below.setCell (Nat.le_refl _) _⟩
theorem Two.put2 {w w1 : World} {a b c d : Value} (h : Two w a b c d w1) (u : Value) : Two w a b u d (w1.setCell ⟨w.heap.size + 1, 0, none⟩ u) :=
  ⟨h.l.other (by omega) 0 u, h.r.put 0 u, h.below.setCell (Nat.le_add_right _ 1) _⟩
theorem Two.put3 {w w1 : World} {a b c d : Value} (h : Two w a b c d w1) (u : Value) : Two w a b c u (w1.setCell ⟨w.heap.size + 1, 1, none⟩ u) :=
  ⟨h.l.other (by omega) 1 u, h.r.put 1 u, h.below.setCell (Nat.le_add_right _ 1) _⟩
theorem Two.facts {w w1 : World} {a b c d : Value} (h : Two w a b c d w1) :
    w1.cell? ⟨w.heap.size, 0, none⟩ = some a ∧ w1.cell? ⟨w.heap.size, 1, none⟩ = some b ∧ w1.cell? ⟨w.heap.size + 1, 0, none⟩ = some c ∧ w1.cell? ⟨w.heap.size + 1, 1, none⟩ = some d ∧
    w1.frozen? ⟨w.heap.size, 0, none⟩ = false ∧ w1.frozen? ⟨w.heap.size, 1, none⟩ = false ∧ w1.frozen? ⟨w.heap.size + 1, 0, none⟩ = false ∧ w1.frozen? ⟨w.heap.size + 1, 1, none⟩ = false :=
  ⟨h.l.cell 0, h.l.cell 1, h.r.cell 0, h.r.cell 1, h.l.frozen 0, h.l.frozen 1, h.r.frozen 0, h.r.frozen 1⟩
/-- Next's error -/
def nxE (a n k : Int) : Int := if chkE a n ≠ 0 then chkE a n else if k < 0 ∨ n < k then 1 else 0
def nxA (a n k : Int) : Int := if nxE a n k ≠ 0 then 0 else if a + k < n then a + k else a + k - n
def nxB (a n k : Int) (b : Bool) : Bool := if nxE a n k ≠ 0 then false else if a + k < n then b else !b
def R2 (w : World) (A : Int) (B : Bool) (E : Int) (e : Ending) (w' : World) : Prop := e = .returned (.tuple #[.agg #[.int .i64 A, .bool B], .int .i64 E]) ∧ Below w.heap.size w w'
theorem next_chk (a n k E : Int) (b : Bool) (w : World) (HC : ∀ W, Calls Tryz.prog 85 #[.agg #[.int .i64 a, .bool b], .int .i64 n] W fun e w' => e = .returned (.int .i64 E) ∧ Below W.heap.size W w') (hE : (E != 0) = true) :
    Calls Tryz.prog 64 #[.agg #[.int .i64 a, .bool b], .int .i64 k, .int .i64 n] w (R2 w 0 false E) := by
  have H := Lib.hid HC
  clear HC
  go_enter Tryz.func64, Tryz.ntmps64
  go_wp2_with fail
  refine (H.out _).mono ?_
  rintro e w1 ⟨rfl, hq⟩
  have h1 := (Two.new w (.int .i64 a) (.bool b) (.int .i64 0) (.bool false)).next hq
  clear hq
  obtain ⟨p0, p1, p2, p3, z0, z1, z2, z3⟩ := h1.facts
  go_wp2_with fail
  have h2 := (h1.put2 (.int .i64 0)).put3 (.bool false)
  exact bodyPost_ret (v := .tuple #[.agg #[.int .i64 0, .bool false], .int .i64 E]) (res2 _ _ _ (w.heap.size + 1) rfl rfl rfl _ _ h2.r) rfl ⟨rfl, h2.below⟩
theorem next_neg (a n k : Int) (b : Bool) (w : World) (HC : ∀ W, Calls Tryz.prog 85 #[.agg #[.int .i64 a, .bool b], .int .i64 n] W fun e w' => e = .returned (.int .i64 0) ∧ Below W.heap.size W w') (hk : k < 0) :
    Calls Tryz.prog 64 #[.agg #[.int .i64 a, .bool b], .int .i64 k, .int .i64 n] w (R2 w 0 false 1) := by
  have H := Lib.hid HC
  clear HC
  go_enter Tryz.func64, Tryz.ntmps64
  go_wp2_with fail
  refine (H.out _).mono ?_
  rintro e w1 ⟨rfl, hq⟩
  have h1 := (Two.new w (.int .i64 a) (.bool b) (.int .i64 0) (.bool false)).next hq
  clear hq
  obtain ⟨p0, p1, p2, p3, z0, z1, z2, z3⟩ := h1.facts
  go_wp2_with fail
  have h2 := (h1.put2 (.int .i64 0)).put3 (.bool false)
  exact bodyPost_ret (v := .tuple #[.agg #[.int .i64 0, .bool false], .int .i64 1]) (res2 _ _ _ (w.heap.size + 1) rfl rfl rfl _ _ h2.r) rfl ⟨rfl, h2.below⟩
theorem next_great (a n k : Int) (b : Bool) (w : World) (HC : ∀ W, Calls Tryz.prog 85 #[.agg #[.int .i64 a, .bool b], .int .i64 n] W fun e w' => e = .returned (.int .i64 0) ∧ Below W.heap.size W w') (hk : ¬ k < 0) (hn : n < k) :
    Calls Tryz.prog 64 #[.agg #[.int .i64 a, .bool b], .int .i64 k, .int .i64 n] w (R2 w 0 false 1) := by
  have H := Lib.hid HC
  clear HC
  go_enter Tryz.func64, Tryz.ntmps64
  go_wp2_with fail
  refine (H.out _).mono ?_
  rintro e w1 ⟨rfl, hq⟩
  have h1 := (Two.new w (.int .i64 a) (.bool b) (.int .i64 0) (.bool false)).next hq
  clear hq
  obtain ⟨p0, p1, p2, p3, z0, z1, z2, z3⟩ := h1.facts
  go_wp2_with fail
  have h2 := (h1.put2 (.int .i64 0)).put3 (.bool false)
  exact bodyPost_ret (v := .tuple #[.agg #[.int .i64 0, .bool false], .int .i64 1]) (res2 _ _ _ (w.heap.size + 1) rfl rfl rfl _ _ h2.r) rfl ⟨rfl, h2.below⟩
theorem next_low (a n k : Int) (b : Bool) (w : World) (HC : ∀ W, Calls Tryz.prog 85 #[.agg #[.int .i64 a, .bool b], .int .i64 n] W fun e w' => e = .returned (.int .i64 0) ∧ Below W.heap.size W w') (h1 : 1 ≤ n) (h2 : n ≤ 32768) (h3 : 0 ≤ a) (h5 : 0 ≤ k) (h6 : k ≤ n) (h7 : a + k < n) :
    Calls Tryz.prog 64 #[.agg #[.int .i64 a, .bool b], .int .i64 k, .int .i64 n] w (R2 w (a + k) b 0) := by
  have H := Lib.hid HC
  clear HC
  go_enter Tryz.func64, Tryz.ntmps64
  go_wp2_with fail
  refine (H.out _).mono ?_
  rintro e w1 ⟨rfl, hq⟩
  have h1 := (Two.new w (.int .i64 a) (.bool b) (.int .i64 0) (.bool false)).next hq
  clear hq
  obtain ⟨p0, p1, p2, p3, z0, z1, z2, z3⟩ := h1.facts
  go_wp2_with fail
  have h2 := ((h1.put0 (.int .i64 (a + k))).put2 (.int .i64 (a + k))).put3 (.bool b)
  exact bodyPost_ret (v := .tuple #[.agg #[.int .i64 (a + k), .bool b], .int .i64 0]) (res2 _ _ _ (w.heap.size + 1) rfl rfl rfl _ _ h2.r) rfl ⟨rfl, h2.below⟩
theorem next_high (a n k : Int) (b : Bool) (w : World) (HC : ∀ W, Calls Tryz.prog 85 #[.agg #[.int .i64 a, .bool b], .int .i64 n] W fun e w' => e = .returned (.int .i64 0) ∧ Below W.heap.size W w') (h1 : 1 ≤ n) (h2 : n ≤ 32768) (h3 : 0 ≤ a) (h4 : a < n) (h5 : 0 ≤ k) (h6 : k ≤ n) (h7 : n ≤ a + k) :
    Calls Tryz.prog 64 #[.agg #[.int .i64 a, .bool b], .int .i64 k, .int .i64 n] w (R2 w (a + k - n) (!b) 0) := by
  have H := Lib.hid HC
  clear HC
  go_enter Tryz.func64, Tryz.ntmps64
  go_wp2_with fail
  refine (H.out _).mono ?_
  rintro e w1 ⟨rfl, hq⟩
  have h1 := (Two.new w (.int .i64 a) (.bool b) (.int .i64 0) (.bool false)).next hq
  clear hq
  obtain ⟨p0, p1, p2, p3, z0, z1, z2, z3⟩ := h1.facts
  go_wp2_with fail
  have h2 := ((((h1.put0 (.int .i64 (a + k))).put0 (.int .i64 (a + k - n))).put1 (.bool (!b))).put2 (.int .i64 (a + k - n))).put3 (.bool (!b))
  exact bodyPost_ret (v := .tuple #[.agg #[.int .i64 (a + k - n), .bool (!b)], .int .i64 0]) (res2 _ _ _ (w.heap.size + 1) rfl rfl rfl _ _ h2.r) rfl ⟨rfl, h2.below⟩
theorem next_any (a n k : Int) (b : Bool) (w : World) :
    Calls Tryz.prog 64 #[.agg #[.int .i64 a, .bool b], .int .i64 k, .int .i64 n] w (R2 w (nxA a n k) (nxB a n k b) (nxE a n k)) := by
  have HC := fun W => chk_any a n b W
  by_cases h0 : chkE a n = 0
  · rw [h0] at HC
    obtain ⟨h1, h2, h3, h4⟩ := chk_zero h0
    by_cases h5 : k < 0
    · have e : nxE a n k = 1 := by rw [nxE, if_neg (by omega), if_pos (Or.inl h5)]
      rw [nxA, nxB, e, if_pos (by decide), if_pos (by decide)]
      exact next_neg a n k b w HC h5
    by_cases h6 : n < k
    · have e : nxE a n k = 1 := by rw [nxE, if_neg (by omega), if_pos (Or.inr h6)]
      rw [nxA, nxB, e, if_pos (by decide), if_pos (by decide)]
      exact next_great a n k b w HC h5 h6
    have e : nxE a n k = 0 := by rw [nxE, if_neg (by omega), if_neg (by omega)]
    by_cases h7 : a + k < n
    · have eA : nxA a n k = a + k := by rw [nxA, if_neg (by omega), if_pos h7]
      have eB : nxB a n k b = b := by rw [nxB, if_neg (by omega), if_pos h7]
      rw [eA, eB, e]
      exact next_low a n k b w HC h1 h2 h3 (by omega) (by omega) h7
    · have eA : nxA a n k = a + k - n := by rw [nxA, if_neg (by omega), if_neg h7]
      have eB : nxB a n k b = !b := by rw [nxB, if_neg (by omega), if_neg h7]
      rw [eA, eB, e]
      exact next_high a n k b w HC h1 h2 h3 h4 (by omega) (by omega) (by omega)
  · have e : nxE a n k = chkE a n := by rw [nxE, if_pos h0]
    rw [nxA, nxB, e, if_pos h0, if_pos h0]
    exact next_chk a n k (chkE a n) b w HC (by simpa using h0)
/-- Gap's error -/
def gpE (a c n : Int) : Int := if chkE a n ≠ 0 then chkE a n else chkE c n
def gpV (a c n : Int) (b d : Bool) : Int := if gpE a c n ≠ 0 then 0 else if b = d then (if a ≤ c then c - a else c - a + 2 * n) else c - a + n
def RG (w : World) (V E : Int) (e : Ending) (w' : World) : Prop := e = .returned (.tuple #[.int .i64 V, .int .i64 E]) ∧ Below w.heap.size w w'
theorem gap_one (a c n E : Int) (b d : Bool) (w : World) (HA : ∀ W, Calls Tryz.prog 85 #[.agg #[.int .i64 a, .bool b], .int .i64 n] W fun e w' => e = .returned (.int .i64 E) ∧ Below W.heap.size W w') (hE : (E != 0) = true) :
    Calls Tryz.prog 72 #[.agg #[.int .i64 a, .bool b], .agg #[.int .i64 c, .bool d], .int .i64 n] w (RG w 0 E) := by
  have H1 := Lib.hid HA
  clear HA
  go_enter Tryz.func72, Tryz.ntmps72
  go_wp2_with fail
  refine (H1.out _).mono ?_
  rintro e w1 ⟨rfl, hq⟩
  have h1 := (Two.new w (.int .i64 a) (.bool b) (.int .i64 c) (.bool d)).next hq
  clear hq
  obtain ⟨p0, p1, p2, p3, z0, z1, z2, z3⟩ := h1.facts
  go_wp2_with fail
  go_ret2
  exact ⟨rfl, h1.below⟩
theorem gap_two (a c n E : Int) (b d : Bool) (w : World) (HA : ∀ W, Calls Tryz.prog 85 #[.agg #[.int .i64 a, .bool b], .int .i64 n] W fun e w' => e = .returned (.int .i64 0) ∧ Below W.heap.size W w')
    (HB : ∀ W, Calls Tryz.prog 85 #[.agg #[.int .i64 c, .bool d], .int .i64 n] W fun e w' => e = .returned (.int .i64 E) ∧ Below W.heap.size W w') (hE : (E != 0) = true) :
    Calls Tryz.prog 72 #[.agg #[.int .i64 a, .bool b], .agg #[.int .i64 c, .bool d], .int .i64 n] w (RG w 0 E) := by
  have H1 := Lib.hid HA
  clear HA
  have H2 := Lib.hid HB
  clear HB
  go_enter Tryz.func72, Tryz.ntmps72
  go_wp2_with fail
  refine (H1.out _).mono ?_
  rintro e w1 ⟨rfl, hq⟩
  have h1 := (Two.new w (.int .i64 a) (.bool b) (.int .i64 c) (.bool d)).next hq
  clear hq
  obtain ⟨p0, p1, p2, p3, z0, z1, z2, z3⟩ := h1.facts
  go_wp2_with fail
  refine (H2.out _).mono ?_
  rintro e w2 ⟨rfl, hq⟩
  clear p0 p1 p2 p3 z0 z1 z2 z3
  have h2 := h1.next hq
  clear hq h1
  obtain ⟨p0, p1, p2, p3, z0, z1, z2, z3⟩ := h2.facts
  go_wp2_with fail
  go_ret2
  exact ⟨rfl, h2.below⟩
theorem gap_fore (a c n : Int) (b : Bool) (w : World) (HA : ∀ W, Calls Tryz.prog 85 #[.agg #[.int .i64 a, .bool b], .int .i64 n] W fun e w' => e = .returned (.int .i64 0) ∧ Below W.heap.size W w')
    (HB : ∀ W, Calls Tryz.prog 85 #[.agg #[.int .i64 c, .bool b], .int .i64 n] W fun e w' => e = .returned (.int .i64 0) ∧ Below W.heap.size W w') (h1 : 1 ≤ n) (h2 : n ≤ 32768) (h3 : 0 ≤ a) (h6 : c < n) (h7 : a ≤ c) :
    Calls Tryz.prog 72 #[.agg #[.int .i64 a, .bool b], .agg #[.int .i64 c, .bool b], .int .i64 n] w (RG w (c - a) 0) := by
  have H1 := Lib.hid HA
  clear HA
  have H2 := Lib.hid HB
  clear HB
  go_enter Tryz.func72, Tryz.ntmps72
  go_wp2_with fail
  refine (H1.out _).mono ?_
  rintro e w1 ⟨rfl, hq⟩
  have h1 := (Two.new w (.int .i64 a) (.bool b) (.int .i64 c) (.bool b)).next hq
  clear hq
  obtain ⟨p0, p1, p2, p3, z0, z1, z2, z3⟩ := h1.facts
  go_wp2_with fail
  refine (H2.out _).mono ?_
  rintro e w2 ⟨rfl, hq⟩
  clear p0 p1 p2 p3 z0 z1 z2 z3
  have h2 := h1.next hq
  clear hq h1
  obtain ⟨p0, p1, p2, p3, z0, z1, z2, z3⟩ := h2.facts
  go_wp2_with fail
  go_ret2
  exact ⟨rfl, h2.below⟩
theorem gap_back (a c n : Int) (b : Bool) (w : World) (HA : ∀ W, Calls Tryz.prog 85 #[.agg #[.int .i64 a, .bool b], .int .i64 n] W fun e w' => e = .returned (.int .i64 0) ∧ Below W.heap.size W w')
    (HB : ∀ W, Calls Tryz.prog 85 #[.agg #[.int .i64 c, .bool b], .int .i64 n] W fun e w' => e = .returned (.int .i64 0) ∧ Below W.heap.size W w') (h1 : 1 ≤ n) (h2 : n ≤ 32768) (h4 : a < n) (h5 : 0 ≤ c) (h7 : c < a) :
    Calls Tryz.prog 72 #[.agg #[.int .i64 a, .bool b], .agg #[.int .i64 c, .bool b], .int .i64 n] w (RG w (c - a + 2 * n) 0) := by
  have H1 := Lib.hid HA
  clear HA
  have H2 := Lib.hid HB
  clear HB
  go_enter Tryz.func72, Tryz.ntmps72
  go_wp2_with fail
  refine (H1.out _).mono ?_
  rintro e w1 ⟨rfl, hq⟩
  have h1 := (Two.new w (.int .i64 a) (.bool b) (.int .i64 c) (.bool b)).next hq
  clear hq
  obtain ⟨p0, p1, p2, p3, z0, z1, z2, z3⟩ := h1.facts
  go_wp2_with fail
  refine (H2.out _).mono ?_
  rintro e w2 ⟨rfl, hq⟩
  clear p0 p1 p2 p3 z0 z1 z2 z3
  have h2 := h1.next hq
  clear hq h1
  obtain ⟨p0, p1, p2, p3, z0, z1, z2, z3⟩ := h2.facts
  go_wp2_with fail
  go_ret2
  exact ⟨rfl, h2.below⟩
theorem gap_turn (a c n : Int) (b : Bool) (w : World) (HA : ∀ W, Calls Tryz.prog 85 #[.agg #[.int .i64 a, .bool b], .int .i64 n] W fun e w' => e = .returned (.int .i64 0) ∧ Below W.heap.size W w')
    (HB : ∀ W, Calls Tryz.prog 85 #[.agg #[.int .i64 c, .bool (!b)], .int .i64 n] W fun e w' => e = .returned (.int .i64 0) ∧ Below W.heap.size W w') (h1 : 1 ≤ n) (h2 : n ≤ 32768) (h3 : 0 ≤ a) (h4 : a < n) (h5 : 0 ≤ c) (h6 : c < n) :
    Calls Tryz.prog 72 #[.agg #[.int .i64 a, .bool b], .agg #[.int .i64 c, .bool (!b)], .int .i64 n] w (RG w (c - a + n) 0) := by
  have H1 := Lib.hid HA
  clear HA
  have H2 := Lib.hid HB
  clear HB
  go_enter Tryz.func72, Tryz.ntmps72
  go_wp2_with fail
  refine (H1.out _).mono ?_
  rintro e w1 ⟨rfl, hq⟩
  have h1 := (Two.new w (.int .i64 a) (.bool b) (.int .i64 c) (.bool (!b))).next hq
  clear hq
  obtain ⟨p0, p1, p2, p3, z0, z1, z2, z3⟩ := h1.facts
  go_wp2_with fail
  refine (H2.out _).mono ?_
  rintro e w2 ⟨rfl, hq⟩
  clear p0 p1 p2 p3 z0 z1 z2 z3
  have h2 := h1.next hq
  clear hq h1
  obtain ⟨p0, p1, p2, p3, z0, z1, z2, z3⟩ := h2.facts
  go_wp2_with fail
  go_ret2
  exact ⟨rfl, h2.below⟩
theorem gap_any (a c n : Int) (b d : Bool) (w : World) :
    Calls Tryz.prog 72 #[.agg #[.int .i64 a, .bool b], .agg #[.int .i64 c, .bool d], .int .i64 n] w (RG w (gpV a c n b d) (gpE a c n)) := by
  have HA := fun W => chk_any a n b W
  have HB := fun W => chk_any c n d W
  by_cases h0 : chkE a n = 0
  · rw [h0] at HA
    have e : gpE a c n = chkE c n := by rw [gpE, if_neg (by omega)]
    by_cases k0 : chkE c n = 0
    · rw [k0] at HB
      obtain ⟨h1, h2, h3, h4⟩ := chk_zero h0
      obtain ⟨_, _, h5, h6⟩ := chk_zero k0
      rw [gpV, e, k0, if_neg (by decide)]
      by_cases hd : b = d
      · subst hd
        rw [if_pos rfl]
        by_cases h7 : a ≤ c
        · rw [if_pos h7]
          exact gap_fore a c n b w HA HB h1 h2 h3 h6 h7
        · rw [if_neg h7]
          exact gap_back a c n b w HA HB h1 h2 h4 h5 (by omega)
      · obtain rfl : d = !b := by revert hd; cases b <;> cases d <;> simp
        rw [if_neg hd]
        exact gap_turn a c n b w HA HB h1 h2 h3 h4 h5 h6
    · rw [gpV, e, if_pos k0]
      exact gap_two a c n _ b d w HA HB (by simpa using k0)
  · have e : gpE a c n = chkE a n := by rw [gpE, if_pos h0]
    rw [gpV, e, if_pos h0]
    exact gap_one a c n _ b d w HA (by simpa using h0)
end Go.Proofs.YtbpgblmhacpjlaaGreat.Sp
namespace Go.Proofs.YtbpgblmhacpjlaaGreat.Sp
open Go.RowKit

/-- how many steps -/
def gp (a c n : Int) (b d : Bool) : Int := if b = d then (if a ≤ c then c - a else c - a + 2 * n) else c - a + n
theorem gpV_bad {a c n : Int} (b d : Bool) (h : gpE a c n ≠ 0) : gpV a c n b d = 0 := if_pos h
theorem gpV_ok {a c n : Int} (b d : Bool) (h : gpE a c n = 0) : gpV a c n b d = gp a c n b d := by rw [gpV, if_neg (by omega)]; rfl
theorem gpE_zero {a c n : Int} (h : gpE a c n = 0) : 1 ≤ n ∧ n ≤ 32768 ∧ 0 ≤ a ∧ a < n ∧ 0 ≤ c ∧ c < n := by
  by_cases h0 : chkE a n = 0
  · have e : gpE a c n = chkE c n := by rw [gpE, if_neg (by omega)]
    have := chk_zero h0
    have := chk_zero (e.symm.trans h)
    omega
  · rw [gpE, if_pos h0] at h; exact absurd h h0
theorem chk_in {a n : Int} (h1 : 1 ≤ n) (h2 : n ≤ 32768) (h3 : 0 ≤ a) (h4 : a < n) : chkE a n = 0 := chk_ok (by omega) (by omega)
theorem gpE_in {a c n : Int} (h1 : 1 ≤ n) (h2 : n ≤ 32768) (h3 : 0 ≤ a) (h4 : a < n) (h5 : 0 ≤ c) (h6 : c < n) : gpE a c n = 0 := by
  rw [gpE, chk_in h1 h2 h3 h4, if_neg (by decide), chk_in h1 h2 h5 h6]
theorem gp_same (a n : Int) (b : Bool) : gp a a n b b = 0 := by rw [gp, if_pos rfl, if_pos (Int.le_refl _)]; omega
section
variable {a c n x : Int} {b d y : Bool}
theorem gp_low (h3 : 0 ≤ a) (h4 : a < n) (h5 : 0 ≤ c) (h6 : c < n) : 0 ≤ gp a c n b d := by have _ := h6; unfold gp; split <;> (try split) <;> omega
theorem gp_high (h3 : 0 ≤ a) (h4 : a < n) (h5 : 0 ≤ c) (h6 : c < n) : gp a c n b d < 2 * n := by have _ := h5; unfold gp; split <;> (try split) <;> omega
theorem gp_inj (h4 : a < n) (h3 : 0 ≤ a) (h5 : 0 ≤ c) (h6 : c < n) (h7 : 0 ≤ x) (h8 : x < n) (h : gp a x n b y = gp a c n b d) : x = c ∧ y = d := by
  have _ := h4; have _ := h3
  unfold gp at h
  cases b <;> cases d <;> cases y <;> simp at h ⊢ <;> (repeat' split at h) <;> omega
theorem gp_step (h3 : 0 ≤ a) (h4 : a < n) (h7 : 0 ≤ x) (h8 : x < n - 1) (h : gp a x n b y + 1 < 2 * n) : gp a (x + 1) n b y = gp a x n b y + 1 := by
  have _ := h3; have _ := h4; have _ := h7; have _ := h8
  unfold gp at h ⊢
  cases b <;> cases y <;> simp at h ⊢ <;> (repeat' split at h) <;> (repeat' split) <;> omega
theorem gp_turn (h3 : 0 ≤ a) (h4 : a < n) (h : gp a (n - 1) n b y + 1 < 2 * n) : gp a 0 n b (!y) = gp a (n - 1) n b y + 1 := by
  unfold gp at h ⊢
  cases b <;> cases y <;> simp at h ⊢ <;> (repeat' split at h) <;> (repeat' split) <;> omega
end
theorem nxE_zero {a n k : Int} (h : nxE a n k = 0) : 1 ≤ n ∧ n ≤ 32768 ∧ 0 ≤ a ∧ a < n ∧ 0 ≤ k ∧ k ≤ n := by
  by_cases h0 : chkE a n = 0
  · have := chk_zero h0
    rw [nxE, if_neg (by omega)] at h
    by_cases h1 : k < 0 ∨ n < k
    · rw [if_pos h1] at h; cases h
    · omega
  · rw [nxE, if_pos h0] at h; exact absurd h h0
theorem nxE_in {a n k : Int} (h1 : 1 ≤ n) (h2 : n ≤ 32768) (h3 : 0 ≤ a) (h4 : a < n) (h5 : 0 ≤ k) (h6 : k ≤ n) : nxE a n k = 0 := by
  rw [nxE, chk_in h1 h2 h3 h4, if_neg (by decide), if_neg (by omega)]
theorem nx_low {a n k : Int} (b : Bool) (h : nxE a n k = 0) (h7 : a + k < n) : nxA a n k = a + k ∧ nxB a n k b = b := by
  rw [nxA, nxB, if_neg (by omega), if_pos h7, if_neg (by omega), if_pos h7]; exact ⟨rfl, rfl⟩
theorem nx_high {a n k : Int} (b : Bool) (h : nxE a n k = 0) (h7 : ¬ a + k < n) : nxA a n k = a + k - n ∧ nxB a n k b = !b := by
  rw [nxA, nxB, if_neg (by omega), if_neg h7, if_neg (by omega), if_neg h7]; exact ⟨rfl, rfl⟩
theorem gp_next {a n k : Int} (b : Bool) (h : nxE a n k = 0) : gp a (nxA a n k) n b (nxB a n k b) = k ∧ 0 ≤ nxA a n k ∧ nxA a n k < n := by
  obtain ⟨h1, h2, h3, h4, h5, h6⟩ := nxE_zero h
  by_cases h7 : a + k < n
  · obtain ⟨e, f⟩ := nx_low b h h7
    rw [e, f, gp, if_pos rfl, if_pos (by omega)]; omega
  · obtain ⟨e, f⟩ := nx_high b h h7
    rw [e, f, gp, if_neg (by cases b <;> decide)]; omega
/-- is it told? o, v, f: the event; a, b to c, d: the steps -/
def needV (o : Int) (v : Bool) (f a : Int) (b : Bool) (c : Int) (d : Bool) (n : Int) : Bool :=
  if gpE a c n ≠ 0 ∨ n < gp a c n b d then false
  else if f = 0 then decide (0 < gp a c n b d)
  else if f = 2 then decide (gpE a o n = 0 ∧ gp a o n b v < gp a c n b d)
  else false
end Go.Proofs.YtbpgblmhacpjlaaGreat.Sp

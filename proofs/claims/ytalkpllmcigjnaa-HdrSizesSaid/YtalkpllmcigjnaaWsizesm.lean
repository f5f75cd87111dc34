/-
  For every input the law HdrSizes returns true, and its arguments read afterwards as before; no condition beyond the form's own reach.
-/
import Derived.Test.YtalkpllmcigjnaaMk
import Derived.Test.YtalkpllmcigjnaaMv
namespace Go.Proofs.Ytalkpllmcigjnaa
open Go.Joins Go.ChangeShapes Go.WideShapes Go.ChangeAt Go.RowKit Go.Deep
open Go.ChangeMaps (open_string)

theorem low3 (n : Int) : ∃ K : Nat, K < 8 ∧ bits .and .i64 n 7 = (K : Int) := by
  have e : (BitVec.ofInt 64 7).toNat = 2 ^ 3 - 1 := by decide
  have k : (BitVec.ofInt 64 n &&& BitVec.ofInt 64 7).toNat = (n % ((2 ^ 64 : Nat) : Int)).toNat % 2 ^ 3 := by
    rw [BitVec.toNat_and, BitVec.toNat_ofInt, e, Nat.and_two_pow_sub_one_eq_mod]
  refine ⟨(n % ((2 ^ 64 : Nat) : Int)).toNat % 2 ^ 3, by omega, ?_⟩
  show IntKind.i64.wrap ((BitVec.ofInt 64 n &&& BitVec.ofInt 64 7).toNat : Nat) = _
  rw [k, IntKind.wrap_i64]
  omega
set_option maxRecDepth 100000 in
set_option maxHeartbeats 3200000 in
theorem hdrSizes_short_fit0 (s : ByteArray) (cut : Int) (K : Nat) (E : Int) (w : World) (h : s.size ≤ 1600) (hK : bits .and .i64 cut 7 = (K : Int)) (hk : K < (s).size) (hE : (E != 0) = true) (A10b : ∀ W, Calls Try.prog 10 #[.string ((s).extract 0 K)] W fun e w' => e = .returned (.tuple #[.agg #[.int .i64 0, .int .i64 0, .int .i64 0, .int .i64 0, .int .i64 0, .int .i64 0, .int .i64 0], .string ⟨#[]⟩, .int .i64 100]) ∧ Below W.heap.size W w') 
    (A10 : ∀ W, Calls Try.prog 10 #[.string s] W fun e w' => e = .returned (.tuple #[.agg #[.int .i64 0, .int .i64 0, .int .i64 0, .int .i64 0, .int .i64 0, .int .i64 0, .int .i64 0], .string ⟨#[]⟩, .int .i64 E]) ∧ Below W.heap.size W w')
    (A14 : ∀ W, Calls Try.prog 14 #[] W fun e w' => e = .returned (.bool true) ∧ Below W.heap.size W w') :
    Calls Try.prog 8 #[.string s, .int .i64 cut] w fun e w' => e = .returned (.bool true) ∧ Below w.heap.size w w' := by
  have H10 := Lib.hid A10
  have H14 := Lib.hid A14
  have H10b := Lib.hid A10b
  clear A10 A14 A10b
  have i1 : (K : Int) ≤ s.size := by omega
  have i3 : (K : Int) < s.size := by omega
  have i4 : ¬ (s.size : Int) ≤ K := by omega
  go_enter Try.func8, Try.ntmps8
  go_wp2_with fail
  refine (H10.out _).mono ?_
  rintro e w1 ⟨rfl, hq⟩
  have hB1 := hq
  clear hq
  go_wp2_with fail
  refine (H10b.out _).mono ?_
  rintro e w2 ⟨rfl, hq⟩
  have hb0_2 : Blk w2 w1.heap.size 23 #[.int .i64 0, .int .i64 0, .int .i64 0, .int .i64 0, .int .i64 0, .int .i64 0, .int .i64 0] := (Blk.new w1 23 _).same (hq.block _ (by simp))
  have hB2 := (hB1.alloc (hB1.size) _).trans (hq.mono (by have := hB1.size; simp; omega))
  clear hq hB1
  have c0_0 : w2.cell? ⟨w1.heap.size, 0, none⟩ = some (.int .i64 0) := hb0_2.cell 0
  have c0_1 : w2.cell? ⟨w1.heap.size, 1, none⟩ = some (.int .i64 0) := hb0_2.cell 1
  have c0_2 : w2.cell? ⟨w1.heap.size, 2, none⟩ = some (.int .i64 0) := hb0_2.cell 2
  have c0_3 : w2.cell? ⟨w1.heap.size, 3, none⟩ = some (.int .i64 0) := hb0_2.cell 3
  have c0_4 : w2.cell? ⟨w1.heap.size, 4, none⟩ = some (.int .i64 0) := hb0_2.cell 4
  have c0_5 : w2.cell? ⟨w1.heap.size, 5, none⟩ = some (.int .i64 0) := hb0_2.cell 5
  have c0_6 : w2.cell? ⟨w1.heap.size, 6, none⟩ = some (.int .i64 0) := hb0_2.cell 6
  have z0 : w1.heap.size < w2.heap.size := hb0_2.lt
  have n0 : w1.heap.size ≠ w2.heap.size := by omega
  go_wp2_with fail
  refine (H14.out _).mono ?_
  rintro e w3 ⟨rfl, hq⟩
  have hb0_3 : Blk w3 w1.heap.size 23 #[.int .i64 0, .int .i64 0, .int .i64 0, .int .i64 0, .int .i64 0, .int .i64 0, .int .i64 0] := (hb0_2.alloc _).same (hq.block _ (by have := hb0_2.lt; simp; omega))
  have hb1_3 : Blk w3 w2.heap.size 23 #[.int .i64 0, .int .i64 0, .int .i64 0, .int .i64 0, .int .i64 0, .int .i64 0, .int .i64 0] := (Blk.new w2 23 _).same (hq.block _ (by simp))
  have hB3 := (hB2.alloc (hB2.size) _).trans (hq.mono (by have := hB2.size; simp; omega))
  clear hq hb0_2 hB2 c0_0 c0_1 c0_2 c0_3 c0_4 c0_5 c0_6 n0 z0
  have c0_0 : w3.cell? ⟨w1.heap.size, 0, none⟩ = some (.int .i64 0) := hb0_3.cell 0
  have c0_1 : w3.cell? ⟨w1.heap.size, 1, none⟩ = some (.int .i64 0) := hb0_3.cell 1
  have c0_2 : w3.cell? ⟨w1.heap.size, 2, none⟩ = some (.int .i64 0) := hb0_3.cell 2
  have c0_3 : w3.cell? ⟨w1.heap.size, 3, none⟩ = some (.int .i64 0) := hb0_3.cell 3
  have c0_4 : w3.cell? ⟨w1.heap.size, 4, none⟩ = some (.int .i64 0) := hb0_3.cell 4
  have c0_5 : w3.cell? ⟨w1.heap.size, 5, none⟩ = some (.int .i64 0) := hb0_3.cell 5
  have c0_6 : w3.cell? ⟨w1.heap.size, 6, none⟩ = some (.int .i64 0) := hb0_3.cell 6
  have z0 : w1.heap.size < w3.heap.size := hb0_3.lt
  have n0 : w1.heap.size ≠ w3.heap.size := by omega
  have c1_0 : w3.cell? ⟨w2.heap.size, 0, none⟩ = some (.int .i64 0) := hb1_3.cell 0
  have c1_1 : w3.cell? ⟨w2.heap.size, 1, none⟩ = some (.int .i64 0) := hb1_3.cell 1
  have c1_2 : w3.cell? ⟨w2.heap.size, 2, none⟩ = some (.int .i64 0) := hb1_3.cell 2
  have c1_3 : w3.cell? ⟨w2.heap.size, 3, none⟩ = some (.int .i64 0) := hb1_3.cell 3
  have c1_4 : w3.cell? ⟨w2.heap.size, 4, none⟩ = some (.int .i64 0) := hb1_3.cell 4
  have c1_5 : w3.cell? ⟨w2.heap.size, 5, none⟩ = some (.int .i64 0) := hb1_3.cell 5
  have c1_6 : w3.cell? ⟨w2.heap.size, 6, none⟩ = some (.int .i64 0) := hb1_3.cell 6
  have z1 : w2.heap.size < w3.heap.size := hb1_3.lt
  have n1 : w2.heap.size ≠ w3.heap.size := by omega
  go_wp2_with fail
  go_ret
  exact ⟨rfl, hB3⟩
set_option maxRecDepth 100000 in
set_option maxHeartbeats 3200000 in
theorem hdrSizes_short_fit1 (s : ByteArray) (cut : Int) (K : Nat) (R : ByteArray) (a0 a1 a2 a3 a4 a5 a6 : Int) (w : World) (h : s.size ≤ 1600) (hK : bits .and .i64 cut 7 = (K : Int)) (hk : K < (s).size) (h12 : 12 ≤ (s).size) (ha : a0 ≤ 3) (hR : (s).extract 12 (s).size = R) (A10b : ∀ W, Calls Try.prog 10 #[.string ((s).extract 0 K)] W fun e w' => e = .returned (.tuple #[.agg #[.int .i64 0, .int .i64 0, .int .i64 0, .int .i64 0, .int .i64 0, .int .i64 0, .int .i64 0], .string ⟨#[]⟩, .int .i64 100]) ∧ Below W.heap.size W w') 
    (A10 : ∀ W, Calls Try.prog 10 #[.string s] W fun e w' => e = .returned (.tuple #[.agg #[.int .i64 a0, .int .i64 a1, .int .i64 a2, .int .i64 a3, .int .i64 a4, .int .i64 a5, .int .i64 a6], .string R, .int .i64 0]) ∧ Below W.heap.size W w')
    (A14 : ∀ W, Calls Try.prog 14 #[] W fun e w' => e = .returned (.bool true) ∧ Below W.heap.size W w') :
    Calls Try.prog 8 #[.string s, .int .i64 cut] w fun e w' => e = .returned (.bool true) ∧ Below w.heap.size w w' := by
  have H10 := Lib.hid A10
  have H14 := Lib.hid A14
  have H10b := Lib.hid A10b
  clear A10 A14 A10b
  have i1 : (K : Int) ≤ s.size := by omega
  have i3 : (K : Int) < s.size := by omega
  have i4 : ¬ (s.size : Int) ≤ K := by omega
  have j1 : (12 : Int) ≤ s.size := by omega
  have hRz : R.size = s.size - 12 := by rw [← hR, ByteArray.size_extract]; omega
  have j2 : ((R.size : Int) == (s.size : Int) - 12) = true := by
    have : (R.size : Int) = (s.size : Int) - 12 := by omega
    simpa using this
  have j3 : decide (a0 ≤ 3) = true := decide_eq_true ha
  go_enter Try.func8, Try.ntmps8
  go_wp2_with fail
  refine (H10.out _).mono ?_
  rintro e w1 ⟨rfl, hq⟩
  have hB1 := hq
  clear hq
  go_wp2_with fail
  refine (H10b.out _).mono ?_
  rintro e w2 ⟨rfl, hq⟩
  have hb0_2 : Blk w2 w1.heap.size 23 #[.int .i64 a0, .int .i64 a1, .int .i64 a2, .int .i64 a3, .int .i64 a4, .int .i64 a5, .int .i64 a6] := (Blk.new w1 23 _).same (hq.block _ (by simp))
  have hB2 := (hB1.alloc (hB1.size) _).trans (hq.mono (by have := hB1.size; simp; omega))
  clear hq hB1
  have c0_0 : w2.cell? ⟨w1.heap.size, 0, none⟩ = some (.int .i64 a0) := hb0_2.cell 0
  have c0_1 : w2.cell? ⟨w1.heap.size, 1, none⟩ = some (.int .i64 a1) := hb0_2.cell 1
  have c0_2 : w2.cell? ⟨w1.heap.size, 2, none⟩ = some (.int .i64 a2) := hb0_2.cell 2
  have c0_3 : w2.cell? ⟨w1.heap.size, 3, none⟩ = some (.int .i64 a3) := hb0_2.cell 3
  have c0_4 : w2.cell? ⟨w1.heap.size, 4, none⟩ = some (.int .i64 a4) := hb0_2.cell 4
  have c0_5 : w2.cell? ⟨w1.heap.size, 5, none⟩ = some (.int .i64 a5) := hb0_2.cell 5
  have c0_6 : w2.cell? ⟨w1.heap.size, 6, none⟩ = some (.int .i64 a6) := hb0_2.cell 6
  have z0 : w1.heap.size < w2.heap.size := hb0_2.lt
  have n0 : w1.heap.size ≠ w2.heap.size := by omega
  go_wp2_with fail
  refine (H14.out _).mono ?_
  rintro e w3 ⟨rfl, hq⟩
  have hb0_3 : Blk w3 w1.heap.size 23 #[.int .i64 a0, .int .i64 a1, .int .i64 a2, .int .i64 a3, .int .i64 a4, .int .i64 a5, .int .i64 a6] := (hb0_2.alloc _).same (hq.block _ (by have := hb0_2.lt; simp; omega))
  have hb1_3 : Blk w3 w2.heap.size 23 #[.int .i64 0, .int .i64 0, .int .i64 0, .int .i64 0, .int .i64 0, .int .i64 0, .int .i64 0] := (Blk.new w2 23 _).same (hq.block _ (by simp))
  have hB3 := (hB2.alloc (hB2.size) _).trans (hq.mono (by have := hB2.size; simp; omega))
  clear hq hb0_2 hB2 c0_0 c0_1 c0_2 c0_3 c0_4 c0_5 c0_6 n0 z0
  have c0_0 : w3.cell? ⟨w1.heap.size, 0, none⟩ = some (.int .i64 a0) := hb0_3.cell 0
  have c0_1 : w3.cell? ⟨w1.heap.size, 1, none⟩ = some (.int .i64 a1) := hb0_3.cell 1
  have c0_2 : w3.cell? ⟨w1.heap.size, 2, none⟩ = some (.int .i64 a2) := hb0_3.cell 2
  have c0_3 : w3.cell? ⟨w1.heap.size, 3, none⟩ = some (.int .i64 a3) := hb0_3.cell 3
  have c0_4 : w3.cell? ⟨w1.heap.size, 4, none⟩ = some (.int .i64 a4) := hb0_3.cell 4
  have c0_5 : w3.cell? ⟨w1.heap.size, 5, none⟩ = some (.int .i64 a5) := hb0_3.cell 5
  have c0_6 : w3.cell? ⟨w1.heap.size, 6, none⟩ = some (.int .i64 a6) := hb0_3.cell 6
  have z0 : w1.heap.size < w3.heap.size := hb0_3.lt
  have n0 : w1.heap.size ≠ w3.heap.size := by omega
  have c1_0 : w3.cell? ⟨w2.heap.size, 0, none⟩ = some (.int .i64 0) := hb1_3.cell 0
  have c1_1 : w3.cell? ⟨w2.heap.size, 1, none⟩ = some (.int .i64 0) := hb1_3.cell 1
  have c1_2 : w3.cell? ⟨w2.heap.size, 2, none⟩ = some (.int .i64 0) := hb1_3.cell 2
  have c1_3 : w3.cell? ⟨w2.heap.size, 3, none⟩ = some (.int .i64 0) := hb1_3.cell 3
  have c1_4 : w3.cell? ⟨w2.heap.size, 4, none⟩ = some (.int .i64 0) := hb1_3.cell 4
  have c1_5 : w3.cell? ⟨w2.heap.size, 5, none⟩ = some (.int .i64 0) := hb1_3.cell 5
  have c1_6 : w3.cell? ⟨w2.heap.size, 6, none⟩ = some (.int .i64 0) := hb1_3.cell 6
  have z1 : w2.heap.size < w3.heap.size := hb1_3.lt
  have n1 : w2.heap.size ≠ w3.heap.size := by omega
  go_wp2_with fail
  go_ret
  exact ⟨rfl, hB3⟩
set_option maxRecDepth 100000 in
set_option maxHeartbeats 3200000 in
theorem hdrSizes_short_less0 (s : ByteArray) (cut : Int) (K : Nat) (w : World) (h : s.size ≤ 1600) (hK : bits .and .i64 cut 7 = (K : Int)) (hk : s.size ≤ K) 
    (A10 : ∀ W, Calls Try.prog 10 #[.string s] W fun e w' => e = .returned (.tuple #[.agg #[.int .i64 0, .int .i64 0, .int .i64 0, .int .i64 0, .int .i64 0, .int .i64 0, .int .i64 0], .string ⟨#[]⟩, .int .i64 100]) ∧ Below W.heap.size W w')
    (A14 : ∀ W, Calls Try.prog 14 #[] W fun e w' => e = .returned (.bool true) ∧ Below W.heap.size W w') :
    Calls Try.prog 8 #[.string s, .int .i64 cut] w fun e w' => e = .returned (.bool true) ∧ Below w.heap.size w w' := by
  have H10 := Lib.hid A10
  have H14 := Lib.hid A14
  clear A10 A14
  have i2 : (s.size : Int) ≤ K := by omega
  go_enter Try.func8, Try.ntmps8
  go_wp2_with fail
  refine (H10.out _).mono ?_
  rintro e w1 ⟨rfl, hq⟩
  have hB1 := hq
  clear hq
  go_wp2_with fail
  refine (H10.out _).mono ?_
  rintro e w2 ⟨rfl, hq⟩
  have hb0_2 : Blk w2 w1.heap.size 23 #[.int .i64 0, .int .i64 0, .int .i64 0, .int .i64 0, .int .i64 0, .int .i64 0, .int .i64 0] := (Blk.new w1 23 _).same (hq.block _ (by simp))
  have hB2 := (hB1.alloc (hB1.size) _).trans (hq.mono (by have := hB1.size; simp; omega))
  clear hq hB1
  have c0_0 : w2.cell? ⟨w1.heap.size, 0, none⟩ = some (.int .i64 0) := hb0_2.cell 0
  have c0_1 : w2.cell? ⟨w1.heap.size, 1, none⟩ = some (.int .i64 0) := hb0_2.cell 1
  have c0_2 : w2.cell? ⟨w1.heap.size, 2, none⟩ = some (.int .i64 0) := hb0_2.cell 2
  have c0_3 : w2.cell? ⟨w1.heap.size, 3, none⟩ = some (.int .i64 0) := hb0_2.cell 3
  have c0_4 : w2.cell? ⟨w1.heap.size, 4, none⟩ = some (.int .i64 0) := hb0_2.cell 4
  have c0_5 : w2.cell? ⟨w1.heap.size, 5, none⟩ = some (.int .i64 0) := hb0_2.cell 5
  have c0_6 : w2.cell? ⟨w1.heap.size, 6, none⟩ = some (.int .i64 0) := hb0_2.cell 6
  have z0 : w1.heap.size < w2.heap.size := hb0_2.lt
  have n0 : w1.heap.size ≠ w2.heap.size := by omega
  go_wp2_with fail
  refine (H14.out _).mono ?_
  rintro e w3 ⟨rfl, hq⟩
  have hb0_3 : Blk w3 w1.heap.size 23 #[.int .i64 0, .int .i64 0, .int .i64 0, .int .i64 0, .int .i64 0, .int .i64 0, .int .i64 0] := (hb0_2.alloc _).same (hq.block _ (by have := hb0_2.lt; simp; omega))
  have hb1_3 : Blk w3 w2.heap.size 23 #[.int .i64 0, .int .i64 0, .int .i64 0, .int .i64 0, .int .i64 0, .int .i64 0, .int .i64 0] := (Blk.new w2 23 _).same (hq.block _ (by simp))
  have hB3 := (hB2.alloc (hB2.size) _).trans (hq.mono (by have := hB2.size; simp; omega))
  clear hq hb0_2 hB2 c0_0 c0_1 c0_2 c0_3 c0_4 c0_5 c0_6 n0 z0
  have c0_0 : w3.cell? ⟨w1.heap.size, 0, none⟩ = some (.int .i64 0) := hb0_3.cell 0
  have c0_1 : w3.cell? ⟨w1.heap.size, 1, none⟩ = some (.int .i64 0) := hb0_3.cell 1
  have c0_2 : w3.cell? ⟨w1.heap.size, 2, none⟩ = some (.int .i64 0) := hb0_3.cell 2
  have c0_3 : w3.cell? ⟨w1.heap.size, 3, none⟩ = some (.int .i64 0) := hb0_3.cell 3
  have c0_4 : w3.cell? ⟨w1.heap.size, 4, none⟩ = some (.int .i64 0) := hb0_3.cell 4
  have c0_5 : w3.cell? ⟨w1.heap.size, 5, none⟩ = some (.int .i64 0) := hb0_3.cell 5
  have c0_6 : w3.cell? ⟨w1.heap.size, 6, none⟩ = some (.int .i64 0) := hb0_3.cell 6
  have z0 : w1.heap.size < w3.heap.size := hb0_3.lt
  have n0 : w1.heap.size ≠ w3.heap.size := by omega
  have c1_0 : w3.cell? ⟨w2.heap.size, 0, none⟩ = some (.int .i64 0) := hb1_3.cell 0
  have c1_1 : w3.cell? ⟨w2.heap.size, 1, none⟩ = some (.int .i64 0) := hb1_3.cell 1
  have c1_2 : w3.cell? ⟨w2.heap.size, 2, none⟩ = some (.int .i64 0) := hb1_3.cell 2
  have c1_3 : w3.cell? ⟨w2.heap.size, 3, none⟩ = some (.int .i64 0) := hb1_3.cell 3
  have c1_4 : w3.cell? ⟨w2.heap.size, 4, none⟩ = some (.int .i64 0) := hb1_3.cell 4
  have c1_5 : w3.cell? ⟨w2.heap.size, 5, none⟩ = some (.int .i64 0) := hb1_3.cell 5
  have c1_6 : w3.cell? ⟨w2.heap.size, 6, none⟩ = some (.int .i64 0) := hb1_3.cell 6
  have z1 : w2.heap.size < w3.heap.size := hb1_3.lt
  have n1 : w2.heap.size ≠ w3.heap.size := by omega
  go_wp2_with fail
  go_ret
  exact ⟨rfl, hB3⟩
set_option maxRecDepth 100000 in
set_option maxHeartbeats 3200000 in
theorem hdrSizes_long_fit0 (s : ByteArray) (cut : Int) (K : Nat) (E : Int) (w : World) (h : 1600 < s.size) (hK : bits .and .i64 cut 7 = (K : Int)) (hk : K < ((s.extract 0 1600)).size) (hE : (E != 0) = true) (A10b : ∀ W, Calls Try.prog 10 #[.string (((s.extract 0 1600)).extract 0 K)] W fun e w' => e = .returned (.tuple #[.agg #[.int .i64 0, .int .i64 0, .int .i64 0, .int .i64 0, .int .i64 0, .int .i64 0, .int .i64 0], .string ⟨#[]⟩, .int .i64 100]) ∧ Below W.heap.size W w') 
    (A10 : ∀ W, Calls Try.prog 10 #[.string (s.extract 0 1600)] W fun e w' => e = .returned (.tuple #[.agg #[.int .i64 0, .int .i64 0, .int .i64 0, .int .i64 0, .int .i64 0, .int .i64 0, .int .i64 0], .string ⟨#[]⟩, .int .i64 E]) ∧ Below W.heap.size W w')
    (A14 : ∀ W, Calls Try.prog 14 #[] W fun e w' => e = .returned (.bool true) ∧ Below W.heap.size W w') :
    Calls Try.prog 8 #[.string s, .int .i64 cut] w fun e w' => e = .returned (.bool true) ∧ Below w.heap.size w w' := by
  have H10 := Lib.hid A10
  have H14 := Lib.hid A14
  have H10b := Lib.hid A10b
  clear A10 A14 A10b
  have hzs : (s.extract 0 1600).size = 1600 := by rw [ByteArray.size_extract]; omega
  obtain ⟨S, hS⟩ : ∃ S, s.extract 0 1600 = S := ⟨_, rfl⟩
  rw [hS] at H10 H10b hzs hk
  have i1 : (K : Int) ≤ S.size := by omega
  have i3 : (K : Int) < S.size := by omega
  have i4 : ¬ (S.size : Int) ≤ K := by omega
  have hzb : S.size ≤ 1600 := by omega
  clear hzs
  go_enter Try.func8, Try.ntmps8
  go_wp2_with fail
  refine (H10.out _).mono ?_
  rintro e w1 ⟨rfl, hq⟩
  have hB1 := hq
  clear hq
  go_wp2_with fail
  refine (H10b.out _).mono ?_
  rintro e w2 ⟨rfl, hq⟩
  have hb0_2 : Blk w2 w1.heap.size 23 #[.int .i64 0, .int .i64 0, .int .i64 0, .int .i64 0, .int .i64 0, .int .i64 0, .int .i64 0] := (Blk.new w1 23 _).same (hq.block _ (by simp))
  have hB2 := (hB1.alloc (hB1.size) _).trans (hq.mono (by have := hB1.size; simp; omega))
  clear hq hB1
  have c0_0 : w2.cell? ⟨w1.heap.size, 0, none⟩ = some (.int .i64 0) := hb0_2.cell 0
  have c0_1 : w2.cell? ⟨w1.heap.size, 1, none⟩ = some (.int .i64 0) := hb0_2.cell 1
  have c0_2 : w2.cell? ⟨w1.heap.size, 2, none⟩ = some (.int .i64 0) := hb0_2.cell 2
  have c0_3 : w2.cell? ⟨w1.heap.size, 3, none⟩ = some (.int .i64 0) := hb0_2.cell 3
  have c0_4 : w2.cell? ⟨w1.heap.size, 4, none⟩ = some (.int .i64 0) := hb0_2.cell 4
  have c0_5 : w2.cell? ⟨w1.heap.size, 5, none⟩ = some (.int .i64 0) := hb0_2.cell 5
  have c0_6 : w2.cell? ⟨w1.heap.size, 6, none⟩ = some (.int .i64 0) := hb0_2.cell 6
  have z0 : w1.heap.size < w2.heap.size := hb0_2.lt
  have n0 : w1.heap.size ≠ w2.heap.size := by omega
  go_wp2_with fail
  refine (H14.out _).mono ?_
  rintro e w3 ⟨rfl, hq⟩
  have hb0_3 : Blk w3 w1.heap.size 23 #[.int .i64 0, .int .i64 0, .int .i64 0, .int .i64 0, .int .i64 0, .int .i64 0, .int .i64 0] := (hb0_2.alloc _).same (hq.block _ (by have := hb0_2.lt; simp; omega))
  have hb1_3 : Blk w3 w2.heap.size 23 #[.int .i64 0, .int .i64 0, .int .i64 0, .int .i64 0, .int .i64 0, .int .i64 0, .int .i64 0] := (Blk.new w2 23 _).same (hq.block _ (by simp))
  have hB3 := (hB2.alloc (hB2.size) _).trans (hq.mono (by have := hB2.size; simp; omega))
  clear hq hb0_2 hB2 c0_0 c0_1 c0_2 c0_3 c0_4 c0_5 c0_6 n0 z0
  have c0_0 : w3.cell? ⟨w1.heap.size, 0, none⟩ = some (.int .i64 0) := hb0_3.cell 0
  have c0_1 : w3.cell? ⟨w1.heap.size, 1, none⟩ = some (.int .i64 0) := hb0_3.cell 1
  have c0_2 : w3.cell? ⟨w1.heap.size, 2, none⟩ = some (.int .i64 0) := hb0_3.cell 2
  have c0_3 : w3.cell? ⟨w1.heap.size, 3, none⟩ = some (.int .i64 0) := hb0_3.cell 3
  have c0_4 : w3.cell? ⟨w1.heap.size, 4, none⟩ = some (.int .i64 0) := hb0_3.cell 4
  have c0_5 : w3.cell? ⟨w1.heap.size, 5, none⟩ = some (.int .i64 0) := hb0_3.cell 5
  have c0_6 : w3.cell? ⟨w1.heap.size, 6, none⟩ = some (.int .i64 0) := hb0_3.cell 6
  have z0 : w1.heap.size < w3.heap.size := hb0_3.lt
  have n0 : w1.heap.size ≠ w3.heap.size := by omega
  have c1_0 : w3.cell? ⟨w2.heap.size, 0, none⟩ = some (.int .i64 0) := hb1_3.cell 0
  have c1_1 : w3.cell? ⟨w2.heap.size, 1, none⟩ = some (.int .i64 0) := hb1_3.cell 1
  have c1_2 : w3.cell? ⟨w2.heap.size, 2, none⟩ = some (.int .i64 0) := hb1_3.cell 2
  have c1_3 : w3.cell? ⟨w2.heap.size, 3, none⟩ = some (.int .i64 0) := hb1_3.cell 3
  have c1_4 : w3.cell? ⟨w2.heap.size, 4, none⟩ = some (.int .i64 0) := hb1_3.cell 4
  have c1_5 : w3.cell? ⟨w2.heap.size, 5, none⟩ = some (.int .i64 0) := hb1_3.cell 5
  have c1_6 : w3.cell? ⟨w2.heap.size, 6, none⟩ = some (.int .i64 0) := hb1_3.cell 6
  have z1 : w2.heap.size < w3.heap.size := hb1_3.lt
  have n1 : w2.heap.size ≠ w3.heap.size := by omega
  go_wp2_with fail
  go_ret
  exact ⟨rfl, hB3⟩
set_option maxRecDepth 100000 in
set_option maxHeartbeats 3200000 in
theorem hdrSizes_long_fit1 (s : ByteArray) (cut : Int) (K : Nat) (R : ByteArray) (a0 a1 a2 a3 a4 a5 a6 : Int) (w : World) (h : 1600 < s.size) (hK : bits .and .i64 cut 7 = (K : Int)) (hk : K < ((s.extract 0 1600)).size) (h12 : 12 ≤ ((s.extract 0 1600)).size) (ha : a0 ≤ 3) (hR : ((s.extract 0 1600)).extract 12 ((s.extract 0 1600)).size = R) (A10b : ∀ W, Calls Try.prog 10 #[.string (((s.extract 0 1600)).extract 0 K)] W fun e w' => e = .returned (.tuple #[.agg #[.int .i64 0, .int .i64 0, .int .i64 0, .int .i64 0, .int .i64 0, .int .i64 0, .int .i64 0], .string ⟨#[]⟩, .int .i64 100]) ∧ Below W.heap.size W w') 
    (A10 : ∀ W, Calls Try.prog 10 #[.string (s.extract 0 1600)] W fun e w' => e = .returned (.tuple #[.agg #[.int .i64 a0, .int .i64 a1, .int .i64 a2, .int .i64 a3, .int .i64 a4, .int .i64 a5, .int .i64 a6], .string R, .int .i64 0]) ∧ Below W.heap.size W w')
    (A14 : ∀ W, Calls Try.prog 14 #[] W fun e w' => e = .returned (.bool true) ∧ Below W.heap.size W w') :
    Calls Try.prog 8 #[.string s, .int .i64 cut] w fun e w' => e = .returned (.bool true) ∧ Below w.heap.size w w' := by
  have H10 := Lib.hid A10
  have H14 := Lib.hid A14
  have H10b := Lib.hid A10b
  clear A10 A14 A10b
  have hzs : (s.extract 0 1600).size = 1600 := by rw [ByteArray.size_extract]; omega
  obtain ⟨S, hS⟩ : ∃ S, s.extract 0 1600 = S := ⟨_, rfl⟩
  rw [hS] at H10 H10b hzs hk h12 hR
  have i1 : (K : Int) ≤ S.size := by omega
  have i3 : (K : Int) < S.size := by omega
  have i4 : ¬ (S.size : Int) ≤ K := by omega
  have j1 : (12 : Int) ≤ S.size := by omega
  have hRz : R.size = S.size - 12 := by rw [← hR, ByteArray.size_extract]; omega
  have j2 : ((R.size : Int) == (S.size : Int) - 12) = true := by
    have : (R.size : Int) = (S.size : Int) - 12 := by omega
    simpa using this
  have j3 : decide (a0 ≤ 3) = true := decide_eq_true ha
  have hzb : S.size ≤ 1600 := by omega
  clear hzs
  go_enter Try.func8, Try.ntmps8
  go_wp2_with fail
  refine (H10.out _).mono ?_
  rintro e w1 ⟨rfl, hq⟩
  have hB1 := hq
  clear hq
  go_wp2_with fail
  refine (H10b.out _).mono ?_
  rintro e w2 ⟨rfl, hq⟩
  have hb0_2 : Blk w2 w1.heap.size 23 #[.int .i64 a0, .int .i64 a1, .int .i64 a2, .int .i64 a3, .int .i64 a4, .int .i64 a5, .int .i64 a6] := (Blk.new w1 23 _).same (hq.block _ (by simp))
  have hB2 := (hB1.alloc (hB1.size) _).trans (hq.mono (by have := hB1.size; simp; omega))
  clear hq hB1
  have c0_0 : w2.cell? ⟨w1.heap.size, 0, none⟩ = some (.int .i64 a0) := hb0_2.cell 0
  have c0_1 : w2.cell? ⟨w1.heap.size, 1, none⟩ = some (.int .i64 a1) := hb0_2.cell 1
  have c0_2 : w2.cell? ⟨w1.heap.size, 2, none⟩ = some (.int .i64 a2) := hb0_2.cell 2
  have c0_3 : w2.cell? ⟨w1.heap.size, 3, none⟩ = some (.int .i64 a3) := hb0_2.cell 3
  have c0_4 : w2.cell? ⟨w1.heap.size, 4, none⟩ = some (.int .i64 a4) := hb0_2.cell 4
  have c0_5 : w2.cell? ⟨w1.heap.size, 5, none⟩ = some (.int .i64 a5) := hb0_2.cell 5
  have c0_6 : w2.cell? ⟨w1.heap.size, 6, none⟩ = some (.int .i64 a6) := hb0_2.cell 6
  have z0 : w1.heap.size < w2.heap.size := hb0_2.lt
  have n0 : w1.heap.size ≠ w2.heap.size := by omega
  go_wp2_with fail
  refine (H14.out _).mono ?_
  rintro e w3 ⟨rfl, hq⟩
  have hb0_3 : Blk w3 w1.heap.size 23 #[.int .i64 a0, .int .i64 a1, .int .i64 a2, .int .i64 a3, .int .i64 a4, .int .i64 a5, .int .i64 a6] := (hb0_2.alloc _).same (hq.block _ (by have := hb0_2.lt; simp; omega))
  have hb1_3 : Blk w3 w2.heap.size 23 #[.int .i64 0, .int .i64 0, .int .i64 0, .int .i64 0, .int .i64 0, .int .i64 0, .int .i64 0] := (Blk.new w2 23 _).same (hq.block _ (by simp))
  have hB3 := (hB2.alloc (hB2.size) _).trans (hq.mono (by have := hB2.size; simp; omega))
  clear hq hb0_2 hB2 c0_0 c0_1 c0_2 c0_3 c0_4 c0_5 c0_6 n0 z0
  have c0_0 : w3.cell? ⟨w1.heap.size, 0, none⟩ = some (.int .i64 a0) := hb0_3.cell 0
  have c0_1 : w3.cell? ⟨w1.heap.size, 1, none⟩ = some (.int .i64 a1) := hb0_3.cell 1
  have c0_2 : w3.cell? ⟨w1.heap.size, 2, none⟩ = some (.int .i64 a2) := hb0_3.cell 2
  have c0_3 : w3.cell? ⟨w1.heap.size, 3, none⟩ = some (.int .i64 a3) := hb0_3.cell 3
  have c0_4 : w3.cell? ⟨w1.heap.size, 4, none⟩ = some (.int .i64 a4) := hb0_3.cell 4
  have c0_5 : w3.cell? ⟨w1.heap.size, 5, none⟩ = some (.int .i64 a5) := hb0_3.cell 5
  have c0_6 : w3.cell? ⟨w1.heap.size, 6, none⟩ = some (.int .i64 a6) := hb0_3.cell 6
  have z0 : w1.heap.size < w3.heap.size := hb0_3.lt
  have n0 : w1.heap.size ≠ w3.heap.size := by omega
  have c1_0 : w3.cell? ⟨w2.heap.size, 0, none⟩ = some (.int .i64 0) := hb1_3.cell 0
  have c1_1 : w3.cell? ⟨w2.heap.size, 1, none⟩ = some (.int .i64 0) := hb1_3.cell 1
  have c1_2 : w3.cell? ⟨w2.heap.size, 2, none⟩ = some (.int .i64 0) := hb1_3.cell 2
  have c1_3 : w3.cell? ⟨w2.heap.size, 3, none⟩ = some (.int .i64 0) := hb1_3.cell 3
  have c1_4 : w3.cell? ⟨w2.heap.size, 4, none⟩ = some (.int .i64 0) := hb1_3.cell 4
  have c1_5 : w3.cell? ⟨w2.heap.size, 5, none⟩ = some (.int .i64 0) := hb1_3.cell 5
  have c1_6 : w3.cell? ⟨w2.heap.size, 6, none⟩ = some (.int .i64 0) := hb1_3.cell 6
  have z1 : w2.heap.size < w3.heap.size := hb1_3.lt
  have n1 : w2.heap.size ≠ w3.heap.size := by omega
  go_wp2_with fail
  go_ret
  exact ⟨rfl, hB3⟩
theorem hp_few (s : ByteArray) (W : World) (h : s.size < 12) : Calls Try.prog 10 #[.string s] W fun e w' => e = .returned (.tuple #[.agg (hdL .zero), .string ⟨#[]⟩, .int .i64 100]) ∧ Below W.heap.size W w' := hparse_short s W h
theorem hdrSizes_any (s : ByteArray) (cut : Int) (w : World) :
    Calls Try.prog 8 #[.string s, .int .i64 cut] w fun e w' => e = .returned (.bool true) ∧ Below w.heap.size w w' := by
  obtain ⟨K, hK8, hK⟩ := low3 cut
  have key : ∀ S : ByteArray, hdE S = 0 → 12 ≤ S.size ∧ (hdV S).flags ≤ 3 ∧ hdR S = S.extract 12 S.size := fun S h => by
    have h0 := h
    unfold hdE at h
    split at h
    · cases h
    · split at h
      · cases h
      · exact ⟨by omega, by rw [hdV, if_pos h0]; show ((low S 0 1 : Nat) : Int) ≤ 3; omega, by rw [hdR, if_pos h0]⟩
  by_cases hl : s.size ≤ 1600
  · have A := fun W => hparse_any s W (by unfold maxLen; omega)
    by_cases hk : K < s.size
    · have A2 := fun W => hp_few (s.extract 0 K) W (by rw [ByteArray.size_extract]; omega)
      by_cases e : hdE s = 0
      · obtain ⟨k1, k2, k3⟩ := key s e
        rw [e] at A
        exact hdrSizes_short_fit1 s cut K _ _ _ _ _ _ _ _ w hl hK hk k1 k2 k3.symm A2 A (fun W => fixed_any W)
      · rw [hdV, hdR, if_neg e, if_neg e] at A
        exact hdrSizes_short_fit0 s cut K _ w hl hK hk (by simpa using e) A2 A (fun W => fixed_any W)
    · exact hdrSizes_short_less0 s cut K w hl hK (by omega) (fun W => hp_few s W (by omega)) (fun W => fixed_any W)
  · have hz : (s.extract 0 1600).size = 1600 := by rw [ByteArray.size_extract]; omega
    have A := fun W => hparse_any (s.extract 0 1600) W (by rw [hz]; decide)
    have A2 := fun W => hp_few ((s.extract 0 1600).extract 0 K) W (by rw [ByteArray.size_extract, hz]; omega)
    by_cases e : hdE (s.extract 0 1600) = 0
    · obtain ⟨k1, k2, k3⟩ := key (s.extract 0 1600) e
      rw [e] at A
      exact hdrSizes_long_fit1 s cut K _ _ _ _ _ _ _ _ w (by omega) hK (by omega) k1 k2 k3.symm A2 A (fun W => fixed_any W)
    · rw [hdV, hdR, if_neg e, if_neg e] at A
      exact hdrSizes_long_fit0 s cut K _ w (by omega) hK (by omega) (by simpa using e) A2 A (fun W => fixed_any W)

set_option maxRecDepth 100000 in
theorem hdrSizes_lifted (os : Os) (started : os.Started) (H : Type) (enc : TypeId × Value → H) :
    ReturnsInHanded {} Try.checked os 8 .any (Rows.hdrSizesSpec.pre6 enc Try.prog Try.f8 Rows.hdrSizesRow.domain false) (Rows.hdrSizesSpec.post enc Try.prog Try.f8 false true false false) := by
  have e : Try.f8.params.toList = [9, 3] := by rw [Try.params8]
  refine law_of_walk (C := Try.checked) (tb := 4) H enc Try.own started (by kernel_rfl) Try.func8 Try.laidOut rfl rfl Try.underlying4 ?_ ?_
    (ChangeSpec.witness6 (enc := enc) (C := Try.checked) false ⟨#[], #[.string ByteArray.empty, .int .i64 0], []⟩ 8 (by kernel_rfl) (by kernel_rfl) (by kernel_rfl) (by kernel_rfl)) ?_
  · rw [e]
    intro t ht
    simp only [List.mem_cons, List.not_mem_nil, or_false] at ht
    rcases ht with rfl | rfl <;> exact ⟨by kernel_rfl, of_decide_eq_true (by kernel_rfl)⟩
  · intro ds hds
    rw [e] at hds
    match ds, hds with
    | [d0, d1], _ => rfl
  · intro W base args ds p hval0 hA0 hsz0
    have hval : ∀ (j : Nat) t v, Try.f8.params[j]? = some t → args[j]? = some v → Value.okWide Try.prog W .any base t v := hval0
    have hA : DataW.TrodAll enc Try.prog W 0 (fun _ => true) true Try.f8.params.toList args.toList ds p := hA0
    have hsz : (DataW.weightsEach Try.prog Try.f8.params.toList ds).all (· ≤ reachBytes) = true := hsz0
    rw [Try.params8] at hA hval hsz
    obtain ⟨v0, v1, d0, d1, p0, p1, rfl, rfl, rfl, h0, h1⟩ := trodAll_two hA
    obtain ⟨x0, rfl, rfl, rfl, _⟩ := open_string Try.underlying9 (hval 0 9 v0 rfl rfl) h0
    have s0 := sized_string hsz (j := 0) (t := 9) rfl rfl
    simp only [reachBytes] at s0
    obtain ⟨x1, rfl, rfl, rfl, k1⟩ := open_int Try.underlying3 (hval 1 3 v1 rfl rfl) h1
    have b1 := bounds_i64 k1
    exact hdrSizes_any x0 x1 W

theorem hdrSizes_holds : Rows.HdrSizesSaid :=
  OpenClaim.holds_of_wide 8 Try.f8 rfl rfl rfl rfl rfl rfl rfl ⟨rfl, rfl, rfl, rfl, rfl⟩ rfl rfl rfl rfl rfl (by kernel_rfl) Try.func8 (by kernel_rfl)
    (of_decide_eq_true (by kernel_rfl)) (by unfold Func.isWrapper; first | (rw [if_pos (by decide +kernel)]; kernel_rfl) | (rw [if_neg (by decide +kernel)]; exact ⟨rfl, rfl⟩))
    (fun os started H enc _ => hdrSizes_lifted os started H enc)
end Go.Proofs.Ytalkpllmcigjnaa

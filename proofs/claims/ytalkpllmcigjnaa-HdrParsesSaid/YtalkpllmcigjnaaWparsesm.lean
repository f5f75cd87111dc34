/-
  For every input the law HdrParses returns true, and its arguments read afterwards as before; no condition beyond the form's own reach.
-/
import Derived.Test.YtalkpllmcigjnaaMk
import Derived.Test.YtalkpllmcigjnaaMv
import Derived.Test.YtalkpllmcigjnaaMt
namespace Go.Proofs.Ytalkpllmcigjnaa
open Go.Joins Go.ChangeShapes Go.WideShapes Go.ChangeAt Go.RowKit Go.Deep
open Go.ChangeMaps (open_string)

set_option maxRecDepth 100000 in
set_option maxHeartbeats 3200000 in
theorem hdrParses_walk (s R B : ByteArray) (E G : Int) (a0 a1 a2 a3 a4 a5 a6 : Int) (h0 h1 h2 h3 h4 h5 h6 : Int) (w : World)
    (A10 : ∀ W, Calls Try.prog 10 #[.string s] W fun e w' => e = .returned (.tuple #[.agg #[.int .i64 a0, .int .i64 a1, .int .i64 a2, .int .i64 a3, .int .i64 a4, .int .i64 a5, .int .i64 a6], .string R, .int .i64 E]) ∧ Below W.heap.size W w')
    (A11 : ∀ W, Calls Try.prog 11 #[.string s] W fun e w' => e = .returned (.tuple #[.agg #[.int .i64 a0, .int .i64 a1, .int .i64 a2, .int .i64 a3, .int .i64 a4, .int .i64 a5, .int .i64 a6], .string R, .int .i64 E]) ∧ Below W.heap.size W w')
    (A12 : ∀ W, Calls Try.prog 12 #[.agg #[.int .i64 h0, .int .i64 h1, .int .i64 h2, .int .i64 h3, .int .i64 h4, .int .i64 h5, .int .i64 h6]] W fun e w' => e = .returned (.tuple #[.string B, .int .i64 G]) ∧ Below W.heap.size W w')
    (A13 : ∀ W, Calls Try.prog 13 #[.agg #[.int .i64 h0, .int .i64 h1, .int .i64 h2, .int .i64 h3, .int .i64 h4, .int .i64 h5, .int .i64 h6]] W fun e w' => e = .returned (.tuple #[.string B, .int .i64 G]) ∧ Below W.heap.size W w')
    (A14 : ∀ W, Calls Try.prog 14 #[] W fun e w' => e = .returned (.bool true) ∧ Below W.heap.size W w') :
    Calls Try.prog 3 #[.string s, .agg #[.int .i64 h0, .int .i64 h1, .int .i64 h2, .int .i64 h3, .int .i64 h4, .int .i64 h5, .int .i64 h6]] w fun e w' => e = .returned (.bool true) ∧ Below w.heap.size w w' := by
  have H10 := Lib.hid A10
  have H11 := Lib.hid A11
  have H12 := Lib.hid A12
  have H13 := Lib.hid A13
  have H14 := Lib.hid A14
  clear A10 A11 A12 A13 A14
  go_enter Try.func3, Try.ntmps3
  go_wp2_with fail
  refine (H10.out _).mono ?_
  rintro e w1 ⟨rfl, hq⟩
  have hb0_1 : Blk w1 w.heap.size 23 #[.int .i64 h0, .int .i64 h1, .int .i64 h2, .int .i64 h3, .int .i64 h4, .int .i64 h5, .int .i64 h6] := (Blk.new w 23 _).same (hq.block _ (by simp))
  have hB1 := ((Below.refl w.heap.size w).alloc (Nat.le_refl _) _).trans (hq.mono (by simp))
  clear hq
  have c0_0 : w1.cell? ⟨w.heap.size, 0, none⟩ = some (.int .i64 h0) := hb0_1.cell 0
  have c0_1 : w1.cell? ⟨w.heap.size, 1, none⟩ = some (.int .i64 h1) := hb0_1.cell 1
  have c0_2 : w1.cell? ⟨w.heap.size, 2, none⟩ = some (.int .i64 h2) := hb0_1.cell 2
  have c0_3 : w1.cell? ⟨w.heap.size, 3, none⟩ = some (.int .i64 h3) := hb0_1.cell 3
  have c0_4 : w1.cell? ⟨w.heap.size, 4, none⟩ = some (.int .i64 h4) := hb0_1.cell 4
  have c0_5 : w1.cell? ⟨w.heap.size, 5, none⟩ = some (.int .i64 h5) := hb0_1.cell 5
  have c0_6 : w1.cell? ⟨w.heap.size, 6, none⟩ = some (.int .i64 h6) := hb0_1.cell 6
  have z0 : w.heap.size < w1.heap.size := hb0_1.lt
  have n0 : w.heap.size ≠ w1.heap.size := by omega
  go_wp2_with fail
  refine (H11.out _).mono ?_
  rintro e w2 ⟨rfl, hq⟩
  have hb0_2 : Blk w2 w.heap.size 23 #[.int .i64 h0, .int .i64 h1, .int .i64 h2, .int .i64 h3, .int .i64 h4, .int .i64 h5, .int .i64 h6] := (hb0_1.alloc _).same (hq.block _ (by have := hb0_1.lt; simp; omega))
  have hb1_2 : Blk w2 w1.heap.size 23 #[.int .i64 a0, .int .i64 a1, .int .i64 a2, .int .i64 a3, .int .i64 a4, .int .i64 a5, .int .i64 a6] := (Blk.new w1 23 _).same (hq.block _ (by simp))
  have hB2 := (hB1.alloc (hB1.size) _).trans (hq.mono (by have := hB1.size; simp; omega))
  clear hq hb0_1 hB1 c0_0 c0_1 c0_2 c0_3 c0_4 c0_5 c0_6 n0 z0
  have c0_0 : w2.cell? ⟨w.heap.size, 0, none⟩ = some (.int .i64 h0) := hb0_2.cell 0
  have c0_1 : w2.cell? ⟨w.heap.size, 1, none⟩ = some (.int .i64 h1) := hb0_2.cell 1
  have c0_2 : w2.cell? ⟨w.heap.size, 2, none⟩ = some (.int .i64 h2) := hb0_2.cell 2
  have c0_3 : w2.cell? ⟨w.heap.size, 3, none⟩ = some (.int .i64 h3) := hb0_2.cell 3
  have c0_4 : w2.cell? ⟨w.heap.size, 4, none⟩ = some (.int .i64 h4) := hb0_2.cell 4
  have c0_5 : w2.cell? ⟨w.heap.size, 5, none⟩ = some (.int .i64 h5) := hb0_2.cell 5
  have c0_6 : w2.cell? ⟨w.heap.size, 6, none⟩ = some (.int .i64 h6) := hb0_2.cell 6
  have z0 : w.heap.size < w2.heap.size := hb0_2.lt
  have n0 : w.heap.size ≠ w2.heap.size := by omega
  have c1_0 : w2.cell? ⟨w1.heap.size, 0, none⟩ = some (.int .i64 a0) := hb1_2.cell 0
  have c1_1 : w2.cell? ⟨w1.heap.size, 1, none⟩ = some (.int .i64 a1) := hb1_2.cell 1
  have c1_2 : w2.cell? ⟨w1.heap.size, 2, none⟩ = some (.int .i64 a2) := hb1_2.cell 2
  have c1_3 : w2.cell? ⟨w1.heap.size, 3, none⟩ = some (.int .i64 a3) := hb1_2.cell 3
  have c1_4 : w2.cell? ⟨w1.heap.size, 4, none⟩ = some (.int .i64 a4) := hb1_2.cell 4
  have c1_5 : w2.cell? ⟨w1.heap.size, 5, none⟩ = some (.int .i64 a5) := hb1_2.cell 5
  have c1_6 : w2.cell? ⟨w1.heap.size, 6, none⟩ = some (.int .i64 a6) := hb1_2.cell 6
  have z1 : w1.heap.size < w2.heap.size := hb1_2.lt
  have n1 : w1.heap.size ≠ w2.heap.size := by omega
  go_wp2_with fail
  refine (H12.out _).mono ?_
  rintro e w3 ⟨rfl, hq⟩
  have hb0_3 : Blk w3 w.heap.size 23 #[.int .i64 h0, .int .i64 h1, .int .i64 h2, .int .i64 h3, .int .i64 h4, .int .i64 h5, .int .i64 h6] := (hb0_2.alloc _).same (hq.block _ (by have := hb0_2.lt; simp; omega))
  have hb1_3 : Blk w3 w1.heap.size 23 #[.int .i64 a0, .int .i64 a1, .int .i64 a2, .int .i64 a3, .int .i64 a4, .int .i64 a5, .int .i64 a6] := (hb1_2.alloc _).same (hq.block _ (by have := hb1_2.lt; simp; omega))
  have hb2_3 : Blk w3 w2.heap.size 23 #[.int .i64 a0, .int .i64 a1, .int .i64 a2, .int .i64 a3, .int .i64 a4, .int .i64 a5, .int .i64 a6] := (Blk.new w2 23 _).same (hq.block _ (by simp))
  have hB3 := (hB2.alloc (hB2.size) _).trans (hq.mono (by have := hB2.size; simp; omega))
  clear hq hb0_2 hb1_2 hB2 c0_0 c0_1 c0_2 c0_3 c0_4 c0_5 c0_6 n0 c1_0 c1_1 c1_2 c1_3 c1_4 c1_5 c1_6 n1 z0 z1
  have c0_0 : w3.cell? ⟨w.heap.size, 0, none⟩ = some (.int .i64 h0) := hb0_3.cell 0
  have c0_1 : w3.cell? ⟨w.heap.size, 1, none⟩ = some (.int .i64 h1) := hb0_3.cell 1
  have c0_2 : w3.cell? ⟨w.heap.size, 2, none⟩ = some (.int .i64 h2) := hb0_3.cell 2
  have c0_3 : w3.cell? ⟨w.heap.size, 3, none⟩ = some (.int .i64 h3) := hb0_3.cell 3
  have c0_4 : w3.cell? ⟨w.heap.size, 4, none⟩ = some (.int .i64 h4) := hb0_3.cell 4
  have c0_5 : w3.cell? ⟨w.heap.size, 5, none⟩ = some (.int .i64 h5) := hb0_3.cell 5
  have c0_6 : w3.cell? ⟨w.heap.size, 6, none⟩ = some (.int .i64 h6) := hb0_3.cell 6
  have z0 : w.heap.size < w3.heap.size := hb0_3.lt
  have n0 : w.heap.size ≠ w3.heap.size := by omega
  have c1_0 : w3.cell? ⟨w1.heap.size, 0, none⟩ = some (.int .i64 a0) := hb1_3.cell 0
  have c1_1 : w3.cell? ⟨w1.heap.size, 1, none⟩ = some (.int .i64 a1) := hb1_3.cell 1
  have c1_2 : w3.cell? ⟨w1.heap.size, 2, none⟩ = some (.int .i64 a2) := hb1_3.cell 2
  have c1_3 : w3.cell? ⟨w1.heap.size, 3, none⟩ = some (.int .i64 a3) := hb1_3.cell 3
  have c1_4 : w3.cell? ⟨w1.heap.size, 4, none⟩ = some (.int .i64 a4) := hb1_3.cell 4
  have c1_5 : w3.cell? ⟨w1.heap.size, 5, none⟩ = some (.int .i64 a5) := hb1_3.cell 5
  have c1_6 : w3.cell? ⟨w1.heap.size, 6, none⟩ = some (.int .i64 a6) := hb1_3.cell 6
  have z1 : w1.heap.size < w3.heap.size := hb1_3.lt
  have n1 : w1.heap.size ≠ w3.heap.size := by omega
  have c2_0 : w3.cell? ⟨w2.heap.size, 0, none⟩ = some (.int .i64 a0) := hb2_3.cell 0
  have c2_1 : w3.cell? ⟨w2.heap.size, 1, none⟩ = some (.int .i64 a1) := hb2_3.cell 1
  have c2_2 : w3.cell? ⟨w2.heap.size, 2, none⟩ = some (.int .i64 a2) := hb2_3.cell 2
  have c2_3 : w3.cell? ⟨w2.heap.size, 3, none⟩ = some (.int .i64 a3) := hb2_3.cell 3
  have c2_4 : w3.cell? ⟨w2.heap.size, 4, none⟩ = some (.int .i64 a4) := hb2_3.cell 4
  have c2_5 : w3.cell? ⟨w2.heap.size, 5, none⟩ = some (.int .i64 a5) := hb2_3.cell 5
  have c2_6 : w3.cell? ⟨w2.heap.size, 6, none⟩ = some (.int .i64 a6) := hb2_3.cell 6
  have z2 : w2.heap.size < w3.heap.size := hb2_3.lt
  have n2 : w2.heap.size ≠ w3.heap.size := by omega
  go_wp2_with fail
  refine (H13.out _).mono ?_
  rintro e w4 ⟨rfl, hq⟩
  have hb0_4 : Blk w4 w.heap.size 23 #[.int .i64 h0, .int .i64 h1, .int .i64 h2, .int .i64 h3, .int .i64 h4, .int .i64 h5, .int .i64 h6] := hb0_3.same (hq.block _ hb0_3.lt)
  have hb1_4 : Blk w4 w1.heap.size 23 #[.int .i64 a0, .int .i64 a1, .int .i64 a2, .int .i64 a3, .int .i64 a4, .int .i64 a5, .int .i64 a6] := hb1_3.same (hq.block _ hb1_3.lt)
  have hb2_4 : Blk w4 w2.heap.size 23 #[.int .i64 a0, .int .i64 a1, .int .i64 a2, .int .i64 a3, .int .i64 a4, .int .i64 a5, .int .i64 a6] := hb2_3.same (hq.block _ hb2_3.lt)
  have hB4 := hB3.trans (hq.mono hB3.size)
  clear hq hb0_3 hb1_3 hb2_3 hB3 c0_0 c0_1 c0_2 c0_3 c0_4 c0_5 c0_6 n0 c1_0 c1_1 c1_2 c1_3 c1_4 c1_5 c1_6 n1 c2_0 c2_1 c2_2 c2_3 c2_4 c2_5 c2_6 n2 z0 z1 z2
  have c0_0 : w4.cell? ⟨w.heap.size, 0, none⟩ = some (.int .i64 h0) := hb0_4.cell 0
  have c0_1 : w4.cell? ⟨w.heap.size, 1, none⟩ = some (.int .i64 h1) := hb0_4.cell 1
  have c0_2 : w4.cell? ⟨w.heap.size, 2, none⟩ = some (.int .i64 h2) := hb0_4.cell 2
  have c0_3 : w4.cell? ⟨w.heap.size, 3, none⟩ = some (.int .i64 h3) := hb0_4.cell 3
  have c0_4 : w4.cell? ⟨w.heap.size, 4, none⟩ = some (.int .i64 h4) := hb0_4.cell 4
  have c0_5 : w4.cell? ⟨w.heap.size, 5, none⟩ = some (.int .i64 h5) := hb0_4.cell 5
  have c0_6 : w4.cell? ⟨w.heap.size, 6, none⟩ = some (.int .i64 h6) := hb0_4.cell 6
  have z0 : w.heap.size < w4.heap.size := hb0_4.lt
  have n0 : w.heap.size ≠ w4.heap.size := by omega
  have c1_0 : w4.cell? ⟨w1.heap.size, 0, none⟩ = some (.int .i64 a0) := hb1_4.cell 0
  have c1_1 : w4.cell? ⟨w1.heap.size, 1, none⟩ = some (.int .i64 a1) := hb1_4.cell 1
  have c1_2 : w4.cell? ⟨w1.heap.size, 2, none⟩ = some (.int .i64 a2) := hb1_4.cell 2
  have c1_3 : w4.cell? ⟨w1.heap.size, 3, none⟩ = some (.int .i64 a3) := hb1_4.cell 3
  have c1_4 : w4.cell? ⟨w1.heap.size, 4, none⟩ = some (.int .i64 a4) := hb1_4.cell 4
  have c1_5 : w4.cell? ⟨w1.heap.size, 5, none⟩ = some (.int .i64 a5) := hb1_4.cell 5
  have c1_6 : w4.cell? ⟨w1.heap.size, 6, none⟩ = some (.int .i64 a6) := hb1_4.cell 6
  have z1 : w1.heap.size < w4.heap.size := hb1_4.lt
  have n1 : w1.heap.size ≠ w4.heap.size := by omega
  have c2_0 : w4.cell? ⟨w2.heap.size, 0, none⟩ = some (.int .i64 a0) := hb2_4.cell 0
  have c2_1 : w4.cell? ⟨w2.heap.size, 1, none⟩ = some (.int .i64 a1) := hb2_4.cell 1
  have c2_2 : w4.cell? ⟨w2.heap.size, 2, none⟩ = some (.int .i64 a2) := hb2_4.cell 2
  have c2_3 : w4.cell? ⟨w2.heap.size, 3, none⟩ = some (.int .i64 a3) := hb2_4.cell 3
  have c2_4 : w4.cell? ⟨w2.heap.size, 4, none⟩ = some (.int .i64 a4) := hb2_4.cell 4
  have c2_5 : w4.cell? ⟨w2.heap.size, 5, none⟩ = some (.int .i64 a5) := hb2_4.cell 5
  have c2_6 : w4.cell? ⟨w2.heap.size, 6, none⟩ = some (.int .i64 a6) := hb2_4.cell 6
  have z2 : w2.heap.size < w4.heap.size := hb2_4.lt
  have n2 : w2.heap.size ≠ w4.heap.size := by omega
  go_wp2_with fail
  refine (H14.out _).mono ?_
  rintro e w5 ⟨rfl, hq⟩
  have hb0_5 : Blk w5 w.heap.size 23 #[.int .i64 h0, .int .i64 h1, .int .i64 h2, .int .i64 h3, .int .i64 h4, .int .i64 h5, .int .i64 h6] := hb0_4.same (hq.block _ hb0_4.lt)
  have hb1_5 : Blk w5 w1.heap.size 23 #[.int .i64 a0, .int .i64 a1, .int .i64 a2, .int .i64 a3, .int .i64 a4, .int .i64 a5, .int .i64 a6] := hb1_4.same (hq.block _ hb1_4.lt)
  have hb2_5 : Blk w5 w2.heap.size 23 #[.int .i64 a0, .int .i64 a1, .int .i64 a2, .int .i64 a3, .int .i64 a4, .int .i64 a5, .int .i64 a6] := hb2_4.same (hq.block _ hb2_4.lt)
  have hB5 := hB4.trans (hq.mono hB4.size)
  clear hq hb0_4 hb1_4 hb2_4 hB4 c0_0 c0_1 c0_2 c0_3 c0_4 c0_5 c0_6 n0 c1_0 c1_1 c1_2 c1_3 c1_4 c1_5 c1_6 n1 c2_0 c2_1 c2_2 c2_3 c2_4 c2_5 c2_6 n2 z0 z1 z2
  have c0_0 : w5.cell? ⟨w.heap.size, 0, none⟩ = some (.int .i64 h0) := hb0_5.cell 0
  have c0_1 : w5.cell? ⟨w.heap.size, 1, none⟩ = some (.int .i64 h1) := hb0_5.cell 1
  have c0_2 : w5.cell? ⟨w.heap.size, 2, none⟩ = some (.int .i64 h2) := hb0_5.cell 2
  have c0_3 : w5.cell? ⟨w.heap.size, 3, none⟩ = some (.int .i64 h3) := hb0_5.cell 3
  have c0_4 : w5.cell? ⟨w.heap.size, 4, none⟩ = some (.int .i64 h4) := hb0_5.cell 4
  have c0_5 : w5.cell? ⟨w.heap.size, 5, none⟩ = some (.int .i64 h5) := hb0_5.cell 5
  have c0_6 : w5.cell? ⟨w.heap.size, 6, none⟩ = some (.int .i64 h6) := hb0_5.cell 6
  have z0 : w.heap.size < w5.heap.size := hb0_5.lt
  have n0 : w.heap.size ≠ w5.heap.size := by omega
  have c1_0 : w5.cell? ⟨w1.heap.size, 0, none⟩ = some (.int .i64 a0) := hb1_5.cell 0
  have c1_1 : w5.cell? ⟨w1.heap.size, 1, none⟩ = some (.int .i64 a1) := hb1_5.cell 1
  have c1_2 : w5.cell? ⟨w1.heap.size, 2, none⟩ = some (.int .i64 a2) := hb1_5.cell 2
  have c1_3 : w5.cell? ⟨w1.heap.size, 3, none⟩ = some (.int .i64 a3) := hb1_5.cell 3
  have c1_4 : w5.cell? ⟨w1.heap.size, 4, none⟩ = some (.int .i64 a4) := hb1_5.cell 4
  have c1_5 : w5.cell? ⟨w1.heap.size, 5, none⟩ = some (.int .i64 a5) := hb1_5.cell 5
  have c1_6 : w5.cell? ⟨w1.heap.size, 6, none⟩ = some (.int .i64 a6) := hb1_5.cell 6
  have z1 : w1.heap.size < w5.heap.size := hb1_5.lt
  have n1 : w1.heap.size ≠ w5.heap.size := by omega
  have c2_0 : w5.cell? ⟨w2.heap.size, 0, none⟩ = some (.int .i64 a0) := hb2_5.cell 0
  have c2_1 : w5.cell? ⟨w2.heap.size, 1, none⟩ = some (.int .i64 a1) := hb2_5.cell 1
  have c2_2 : w5.cell? ⟨w2.heap.size, 2, none⟩ = some (.int .i64 a2) := hb2_5.cell 2
  have c2_3 : w5.cell? ⟨w2.heap.size, 3, none⟩ = some (.int .i64 a3) := hb2_5.cell 3
  have c2_4 : w5.cell? ⟨w2.heap.size, 4, none⟩ = some (.int .i64 a4) := hb2_5.cell 4
  have c2_5 : w5.cell? ⟨w2.heap.size, 5, none⟩ = some (.int .i64 a5) := hb2_5.cell 5
  have c2_6 : w5.cell? ⟨w2.heap.size, 6, none⟩ = some (.int .i64 a6) := hb2_5.cell 6
  have z2 : w2.heap.size < w5.heap.size := hb2_5.lt
  have n2 : w2.heap.size ≠ w5.heap.size := by omega
  go_wp2_with fail
  go_ret
  exact ⟨rfl, hB5⟩
theorem hdrParses_any (s : ByteArray) (h : Hd) (w : World) (hs : s.size ≤ 140737488351232) :
    Calls Try.prog 3 #[.string s, .agg (hdL h)] w fun e w' => e = .returned (.bool true) ∧ Below w.heap.size w w' :=
  hdrParses_walk s _ _ _ _ _ _ _ _ _ _ _ _ _ _ _ _ _ _ w (fun W => hparse_any s W (by unfold maxLen; omega)) (fun W => rparse_any s W (by unfold maxLen; omega)) (fun W => hbuild_any h W) (fun W => rhb_any h W) (fun W => fixed_any W)

set_option maxRecDepth 100000 in
theorem hdrParses_lifted (os : Os) (started : os.Started) (H : Type) (enc : TypeId × Value → H) :
    ReturnsInHanded {} Try.checked os 3 .any (Rows.hdrParsesSpec.pre6 enc Try.prog Try.f3 Rows.hdrParsesRow.domain false) (Rows.hdrParsesSpec.post enc Try.prog Try.f3 false true false false) := by
  have e : Try.f3.params.toList = [9, 23] := by rw [Try.params3]
  refine law_of_walk (C := Try.checked) (tb := 4) H enc Try.own started (by kernel_rfl) Try.func3 Try.laidOut rfl rfl Try.underlying4 ?_ ?_
    (ChangeSpec.witness6 (enc := enc) (C := Try.checked) false ⟨#[], #[.string ByteArray.empty, .agg #[.int .i64 0, .int .i64 0, .int .i64 0, .int .i64 0, .int .i64 0, .int .i64 0, .int .i64 0]], []⟩ 8 (by kernel_rfl) (by kernel_rfl) (by kernel_rfl) (by kernel_rfl)) ?_
  · rw [e]
    intro t ht
    simp only [List.mem_cons, List.not_mem_nil, or_false] at ht
    rcases ht with rfl | rfl <;> exact ⟨by kernel_rfl, of_decide_eq_true (by kernel_rfl)⟩
  · intro ds hds
    rw [e] at hds
    match ds, hds with
    | [d0, d1], _ => rfl
  · intro W base args ds p hval0 hA0 hsz0
    have hval : ∀ (j : Nat) t v, Try.f3.params[j]? = some t → args[j]? = some v → Value.okWide Try.prog W .any base t v := hval0
    have hA : DataW.TrodAll enc Try.prog W 0 (fun _ => true) true Try.f3.params.toList args.toList ds p := hA0
    have hsz : (DataW.weightsEach Try.prog Try.f3.params.toList ds).all (· ≤ reachBytes) = true := hsz0
    rw [Try.params3] at hA hval hsz
    obtain ⟨v0, v1, d0, d1, p0, p1, rfl, rfl, rfl, h0, h1⟩ := trodAll_two hA
    obtain ⟨x0, rfl, rfl, rfl, _⟩ := open_string Try.underlying9 (hval 0 9 v0 rfl rfl) h0
    have s0 := sized_string hsz (j := 0) (t := 9) rfl rfl
    simp only [reachBytes] at s0
    obtain ⟨x1, rfl, rfl, k1⟩ := open_hdr (hval 1 23 v1 rfl rfl) h1
    exact hdrParses_any x0 x1 W s0

theorem hdrParses_holds : Rows.HdrParsesSaid :=
  OpenClaim.holds_of_wide 3 Try.f3 rfl rfl rfl rfl rfl rfl rfl ⟨rfl, rfl, rfl, rfl, rfl⟩ rfl rfl rfl rfl rfl (by kernel_rfl) Try.func3 (by kernel_rfl)
    (of_decide_eq_true (by kernel_rfl)) (by unfold Func.isWrapper; first | (rw [if_pos (by decide +kernel)]; kernel_rfl) | (rw [if_neg (by decide +kernel)]; exact ⟨rfl, rfl⟩))
    (fun os started H enc _ => hdrParses_lifted os started H enc)
end Go.Proofs.Ytalkpllmcigjnaa

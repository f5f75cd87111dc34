/-
  For every input the law HdrBack returns true, and its arguments read afterwards as before; no condition beyond the form's own reach.
-/
import Derived.Test.YtalkpllmcigjnaaMk
import Derived.Test.YtalkpllmcigjnaaMv
import Derived.Test.YtalkpllmcigjnaaMu
namespace Go.Proofs.Ytalkpllmcigjnaa
open Go.Joins Go.ChangeShapes Go.WideShapes Go.ChangeAt Go.RowKit Go.Deep
open Go.ChangeMaps (open_string)

set_option maxRecDepth 100000 in
set_option maxHeartbeats 3200000 in
theorem hdrBack_short0 (s T : ByteArray) (a0 a1 a2 a3 a4 a5 a6 : Int) (h0 h1 h2 h3 h4 h5 h6 : Int) (w : World) (h : s.size ≤ 1600) (hz : ((T.size : Int) != ((s).size : Int)) = false)
    (A17 : ∀ W, Calls Try.prog 17 #[.string s] W fun e w' => e = .returned (.tuple #[.agg #[.int .i64 a0, .int .i64 a1, .int .i64 a2, .int .i64 a3, .int .i64 a4, .int .i64 a5, .int .i64 a6], .string T]) ∧ Below W.heap.size W w')
    (A15 : ∀ W, Calls Try.prog 15 #[.agg #[.int .i64 a0, .int .i64 a1, .int .i64 a2, .int .i64 a3, .int .i64 a4, .int .i64 a5, .int .i64 a6], .string T] W fun e w' => e = .returned (.tuple #[.string s, .int .i64 0]) ∧ Below W.heap.size W w')
    (A12 : ∀ W, Calls Try.prog 12 #[.agg #[.int .i64 h0, .int .i64 h1, .int .i64 h2, .int .i64 h3, .int .i64 h4, .int .i64 h5, .int .i64 h6]] W fun e w' => e = .returned (.tuple #[.string ⟨#[]⟩, .int .i64 101]) ∧ Below W.heap.size W w')
    (A14 : ∀ W, Calls Try.prog 14 #[] W fun e w' => e = .returned (.bool true) ∧ Below W.heap.size W w') :
    Calls Try.prog 5 #[.agg #[.int .i64 h0, .int .i64 h1, .int .i64 h2, .int .i64 h3, .int .i64 h4, .int .i64 h5, .int .i64 h6], .string s] w fun e w' => e = .returned (.bool true) ∧ Below w.heap.size w w' := by
  have H12 := Lib.hid A12
  have H14 := Lib.hid A14
  have H15 := Lib.hid A15
  have H17 := Lib.hid A17
  clear A12 A14 A15 A17
  go_enter Try.func5, Try.ntmps5
  go_wp2_with fail
  refine (H17.out _).mono ?_
  rintro e w1 ⟨rfl, hq⟩
  have hb0_1 : Blk w1 w.heap.size 23 #[.int .i64 h0, .int .i64 h1, .int .i64 h2, .int .i64 h3, .int .i64 h4, .int .i64 h5, .int .i64 h6] := (Blk.new w 23 _).same (hq.block _ (by simp))
  have hB1 := ((Below.refl w.heap.size w).alloc (Nat.le_refl _) _).trans (hq.mono (by simp))
  clear hq
  have c0_0 : w1.cell? ⟨w.heap.size, 0, none⟩ = some (.int .i64 h0) := hb0_1.cell 0
  have c0_1 : w1.cell? ⟨w.heap.size, 1, none⟩ = some (.int .i64 h1) := hb0_1.cell 1
  have c0_2 : w1.cell? ⟨w.heap.size, 2, none⟩ = some (.int .i64 h2) := hb0_1.cell 2
  have c0_3 : w1.cell? ⟨w.heap.size, 3, none⟩ = some (.int .i64 h3) := hb0_1.cell 3
  have c0_4 : w1.cell? ⟨w.heap.size, 4, none⟩ = some (.int .i64 h4) := hb0_1.cell 4
  have c0_5 : w1.cell? ⟨w.heap.size, 5, none⟩ = some (.int .i64 h5) := hb0_1.cell 5
  have c0_6 : w1.cell? ⟨w.heap.size, 6, none⟩ = some (.int .i64 h6) := hb0_1.cell 6
  have z0 : w.heap.size < w1.heap.size := hb0_1.lt
  have n0 : w.heap.size ≠ w1.heap.size := by omega
  go_wp2_with fail
  refine (H15.out _).mono ?_
  rintro e w2 ⟨rfl, hq⟩
  have hb0_2 : Blk w2 w.heap.size 23 #[.int .i64 h0, .int .i64 h1, .int .i64 h2, .int .i64 h3, .int .i64 h4, .int .i64 h5, .int .i64 h6] := (hb0_1.alloc _).same (hq.block _ (by have := hb0_1.lt; simp; omega))
  have hb1_2 : Blk w2 w1.heap.size 23 #[.int .i64 a0, .int .i64 a1, .int .i64 a2, .int .i64 a3, .int .i64 a4, .int .i64 a5, .int .i64 a6] := (Blk.new w1 23 _).same (hq.block _ (by simp))
  have hB2 := (hB1.alloc (hB1.size) _).trans (hq.mono (by have := hB1.size; simp; omega))
  clear hq hb0_1 hB1 c0_0 c0_1 c0_2 c0_3 c0_4 c0_5 c0_6 n0 z0
  have c0_0 : w2.cell? ⟨w.heap.size, 0, none⟩ = some (.int .i64 h0) := hb0_2.cell 0
  have c0_1 : w2.cell? ⟨w.heap.size, 1, none⟩ = some (.int .i64 h1) := hb0_2.cell 1
  have c0_2 : w2.cell? ⟨w.heap.size, 2, none⟩ = some (.int .i64 h2) := hb0_2.cell 2
  have c0_3 : w2.cell? ⟨w.heap.size, 3, none⟩ = some (.int .i64 h3) := hb0_2.cell 3
  have c0_4 : w2.cell? ⟨w.heap.size, 4, none⟩ = some (.int .i64 h4) := hb0_2.cell 4
  have c0_5 : w2.cell? ⟨w.heap.size, 5, none⟩ = some (.int .i64 h5) := hb0_2.cell 5
  have c0_6 : w2.cell? ⟨w.heap.size, 6, none⟩ = some (.int .i64 h6) := hb0_2.cell 6
  have z0 : w.heap.size < w2.heap.size := hb0_2.lt
  have n0 : w.heap.size ≠ w2.heap.size := by omega
  have c1_0 : w2.cell? ⟨w1.heap.size, 0, none⟩ = some (.int .i64 a0) := hb1_2.cell 0
  have c1_1 : w2.cell? ⟨w1.heap.size, 1, none⟩ = some (.int .i64 a1) := hb1_2.cell 1
  have c1_2 : w2.cell? ⟨w1.heap.size, 2, none⟩ = some (.int .i64 a2) := hb1_2.cell 2
  have c1_3 : w2.cell? ⟨w1.heap.size, 3, none⟩ = some (.int .i64 a3) := hb1_2.cell 3
  have c1_4 : w2.cell? ⟨w1.heap.size, 4, none⟩ = some (.int .i64 a4) := hb1_2.cell 4
  have c1_5 : w2.cell? ⟨w1.heap.size, 5, none⟩ = some (.int .i64 a5) := hb1_2.cell 5
  have c1_6 : w2.cell? ⟨w1.heap.size, 6, none⟩ = some (.int .i64 a6) := hb1_2.cell 6
  have z1 : w1.heap.size < w2.heap.size := hb1_2.lt
  have n1 : w1.heap.size ≠ w2.heap.size := by omega
  go_wp2_with fail
  refine (H12.out _).mono ?_
  rintro e w3 ⟨rfl, hq⟩
  have hb0_3 : Blk w3 w.heap.size 23 #[.int .i64 h0, .int .i64 h1, .int .i64 h2, .int .i64 h3, .int .i64 h4, .int .i64 h5, .int .i64 h6] := hb0_2.same (hq.block _ hb0_2.lt)
  have hb1_3 : Blk w3 w1.heap.size 23 #[.int .i64 a0, .int .i64 a1, .int .i64 a2, .int .i64 a3, .int .i64 a4, .int .i64 a5, .int .i64 a6] := hb1_2.same (hq.block _ hb1_2.lt)
  have hB3 := hB2.trans (hq.mono hB2.size)
  clear hq hb0_2 hb1_2 hB2 c0_0 c0_1 c0_2 c0_3 c0_4 c0_5 c0_6 n0 c1_0 c1_1 c1_2 c1_3 c1_4 c1_5 c1_6 n1 z0 z1
  have c0_0 : w3.cell? ⟨w.heap.size, 0, none⟩ = some (.int .i64 h0) := hb0_3.cell 0
  have c0_1 : w3.cell? ⟨w.heap.size, 1, none⟩ = some (.int .i64 h1) := hb0_3.cell 1
  have c0_2 : w3.cell? ⟨w.heap.size, 2, none⟩ = some (.int .i64 h2) := hb0_3.cell 2
  have c0_3 : w3.cell? ⟨w.heap.size, 3, none⟩ = some (.int .i64 h3) := hb0_3.cell 3
  have c0_4 : w3.cell? ⟨w.heap.size, 4, none⟩ = some (.int .i64 h4) := hb0_3.cell 4
  have c0_5 : w3.cell? ⟨w.heap.size, 5, none⟩ = some (.int .i64 h5) := hb0_3.cell 5
  have c0_6 : w3.cell? ⟨w.heap.size, 6, none⟩ = some (.int .i64 h6) := hb0_3.cell 6
  have z0 : w.heap.size < w3.heap.size := hb0_3.lt
  have n0 : w.heap.size ≠ w3.heap.size := by omega
  have c1_0 : w3.cell? ⟨w1.heap.size, 0, none⟩ = some (.int .i64 a0) := hb1_3.cell 0
  have c1_1 : w3.cell? ⟨w1.heap.size, 1, none⟩ = some (.int .i64 a1) := hb1_3.cell 1
  have c1_2 : w3.cell? ⟨w1.heap.size, 2, none⟩ = some (.int .i64 a2) := hb1_3.cell 2
  have c1_3 : w3.cell? ⟨w1.heap.size, 3, none⟩ = some (.int .i64 a3) := hb1_3.cell 3
  have c1_4 : w3.cell? ⟨w1.heap.size, 4, none⟩ = some (.int .i64 a4) := hb1_3.cell 4
  have c1_5 : w3.cell? ⟨w1.heap.size, 5, none⟩ = some (.int .i64 a5) := hb1_3.cell 5
  have c1_6 : w3.cell? ⟨w1.heap.size, 6, none⟩ = some (.int .i64 a6) := hb1_3.cell 6
  have z1 : w1.heap.size < w3.heap.size := hb1_3.lt
  have n1 : w1.heap.size ≠ w3.heap.size := by omega
  go_wp2_with fail
  refine (H14.out _).mono ?_
  rintro e w4 ⟨rfl, hq⟩
  have hb0_4 : Blk w4 w.heap.size 23 #[.int .i64 h0, .int .i64 h1, .int .i64 h2, .int .i64 h3, .int .i64 h4, .int .i64 h5, .int .i64 h6] := hb0_3.same (hq.block _ hb0_3.lt)
  have hb1_4 : Blk w4 w1.heap.size 23 #[.int .i64 a0, .int .i64 a1, .int .i64 a2, .int .i64 a3, .int .i64 a4, .int .i64 a5, .int .i64 a6] := hb1_3.same (hq.block _ hb1_3.lt)
  have hB4 := hB3.trans (hq.mono hB3.size)
  clear hq hb0_3 hb1_3 hB3 c0_0 c0_1 c0_2 c0_3 c0_4 c0_5 c0_6 n0 c1_0 c1_1 c1_2 c1_3 c1_4 c1_5 c1_6 n1 z0 z1
  have c0_0 : w4.cell? ⟨w.heap.size, 0, none⟩ = some (.int .i64 h0) := hb0_4.cell 0
  have c0_1 : w4.cell? ⟨w.heap.size, 1, none⟩ = some (.int .i64 h1) := hb0_4.cell 1
  have c0_2 : w4.cell? ⟨w.heap.size, 2, none⟩ = some (.int .i64 h2) := hb0_4.cell 2
  have c0_3 : w4.cell? ⟨w.heap.size, 3, none⟩ = some (.int .i64 h3) := hb0_4.cell 3
  have c0_4 : w4.cell? ⟨w.heap.size, 4, none⟩ = some (.int .i64 h4) := hb0_4.cell 4
  have c0_5 : w4.cell? ⟨w.heap.size, 5, none⟩ = some (.int .i64 h5) := hb0_4.cell 5
  have c0_6 : w4.cell? ⟨w.heap.size, 6, none⟩ = some (.int .i64 h6) := hb0_4.cell 6
  have z0 : w.heap.size < w4.heap.size := hb0_4.lt
  have n0 : w.heap.size ≠ w4.heap.size := by omega
  have c1_0 : w4.cell? ⟨w1.heap.size, 0, none⟩ = some (.int .i64 a0) := hb1_4.cell 0
  have c1_1 : w4.cell? ⟨w1.heap.size, 1, none⟩ = some (.int .i64 a1) := hb1_4.cell 1
  have c1_2 : w4.cell? ⟨w1.heap.size, 2, none⟩ = some (.int .i64 a2) := hb1_4.cell 2
  have c1_3 : w4.cell? ⟨w1.heap.size, 3, none⟩ = some (.int .i64 a3) := hb1_4.cell 3
  have c1_4 : w4.cell? ⟨w1.heap.size, 4, none⟩ = some (.int .i64 a4) := hb1_4.cell 4
  have c1_5 : w4.cell? ⟨w1.heap.size, 5, none⟩ = some (.int .i64 a5) := hb1_4.cell 5
  have c1_6 : w4.cell? ⟨w1.heap.size, 6, none⟩ = some (.int .i64 a6) := hb1_4.cell 6
  have z1 : w1.heap.size < w4.heap.size := hb1_4.lt
  have n1 : w1.heap.size ≠ w4.heap.size := by omega
  go_wp2_with fail
  go_ret
  exact ⟨rfl, hB4⟩
set_option maxRecDepth 100000 in
set_option maxHeartbeats 3200000 in
theorem hdrBack_short1 (s T B : ByteArray) (a0 a1 a2 a3 a4 a5 a6 : Int) (h0 h1 h2 h3 h4 h5 h6 : Int) (w : World) (h : s.size ≤ 1600) (hz : ((T.size : Int) != ((s).size : Int)) = false)
    (A17 : ∀ W, Calls Try.prog 17 #[.string s] W fun e w' => e = .returned (.tuple #[.agg #[.int .i64 a0, .int .i64 a1, .int .i64 a2, .int .i64 a3, .int .i64 a4, .int .i64 a5, .int .i64 a6], .string T]) ∧ Below W.heap.size W w')
    (A15 : ∀ W, Calls Try.prog 15 #[.agg #[.int .i64 a0, .int .i64 a1, .int .i64 a2, .int .i64 a3, .int .i64 a4, .int .i64 a5, .int .i64 a6], .string T] W fun e w' => e = .returned (.tuple #[.string s, .int .i64 0]) ∧ Below W.heap.size W w')
    (A12 : ∀ W, Calls Try.prog 12 #[.agg #[.int .i64 h0, .int .i64 h1, .int .i64 h2, .int .i64 h3, .int .i64 h4, .int .i64 h5, .int .i64 h6]] W fun e w' => e = .returned (.tuple #[.string B, .int .i64 0]) ∧ Below W.heap.size W w')
    (hB : B.size = 12) (A10 : ∀ W, Calls Try.prog 10 #[.string (B ++ s)] W fun e w' => e = .returned (.tuple #[.agg #[.int .i64 h0, .int .i64 h1, .int .i64 h2, .int .i64 h3, .int .i64 h4, .int .i64 h5, .int .i64 h6], .string s, .int .i64 0]) ∧ Below W.heap.size W w')
    (A14 : ∀ W, Calls Try.prog 14 #[] W fun e w' => e = .returned (.bool true) ∧ Below W.heap.size W w') :
    Calls Try.prog 5 #[.agg #[.int .i64 h0, .int .i64 h1, .int .i64 h2, .int .i64 h3, .int .i64 h4, .int .i64 h5, .int .i64 h6], .string s] w fun e w' => e = .returned (.bool true) ∧ Below w.heap.size w w' := by
  have H12 := Lib.hid A12
  have H14 := Lib.hid A14
  have H15 := Lib.hid A15
  have H17 := Lib.hid A17
  have H10 := Lib.hid A10
  clear A12 A14 A15 A17 A10
  have hBz : (B.size : Int) = 12 := by omega
  have q1 : ¬ 9223372036854775807 < B.size + (s).size := by rw [hB]; omega
  go_enter Try.func5, Try.ntmps5
  go_wp2_with fail
  refine (H17.out _).mono ?_
  rintro e w1 ⟨rfl, hq⟩
  have hb0_1 : Blk w1 w.heap.size 23 #[.int .i64 h0, .int .i64 h1, .int .i64 h2, .int .i64 h3, .int .i64 h4, .int .i64 h5, .int .i64 h6] := (Blk.new w 23 _).same (hq.block _ (by simp))
  have hB1 := ((Below.refl w.heap.size w).alloc (Nat.le_refl _) _).trans (hq.mono (by simp))
  clear hq
  have c0_0 : w1.cell? ⟨w.heap.size, 0, none⟩ = some (.int .i64 h0) := hb0_1.cell 0
  have c0_1 : w1.cell? ⟨w.heap.size, 1, none⟩ = some (.int .i64 h1) := hb0_1.cell 1
  have c0_2 : w1.cell? ⟨w.heap.size, 2, none⟩ = some (.int .i64 h2) := hb0_1.cell 2
  have c0_3 : w1.cell? ⟨w.heap.size, 3, none⟩ = some (.int .i64 h3) := hb0_1.cell 3
  have c0_4 : w1.cell? ⟨w.heap.size, 4, none⟩ = some (.int .i64 h4) := hb0_1.cell 4
  have c0_5 : w1.cell? ⟨w.heap.size, 5, none⟩ = some (.int .i64 h5) := hb0_1.cell 5
  have c0_6 : w1.cell? ⟨w.heap.size, 6, none⟩ = some (.int .i64 h6) := hb0_1.cell 6
  have z0 : w.heap.size < w1.heap.size := hb0_1.lt
  have n0 : w.heap.size ≠ w1.heap.size := by omega
  go_wp2_with fail
  refine (H15.out _).mono ?_
  rintro e w2 ⟨rfl, hq⟩
  have hb0_2 : Blk w2 w.heap.size 23 #[.int .i64 h0, .int .i64 h1, .int .i64 h2, .int .i64 h3, .int .i64 h4, .int .i64 h5, .int .i64 h6] := (hb0_1.alloc _).same (hq.block _ (by have := hb0_1.lt; simp; omega))
  have hb1_2 : Blk w2 w1.heap.size 23 #[.int .i64 a0, .int .i64 a1, .int .i64 a2, .int .i64 a3, .int .i64 a4, .int .i64 a5, .int .i64 a6] := (Blk.new w1 23 _).same (hq.block _ (by simp))
  have hB2 := (hB1.alloc (hB1.size) _).trans (hq.mono (by have := hB1.size; simp; omega))
  clear hq hb0_1 hB1 c0_0 c0_1 c0_2 c0_3 c0_4 c0_5 c0_6 n0 z0
  have c0_0 : w2.cell? ⟨w.heap.size, 0, none⟩ = some (.int .i64 h0) := hb0_2.cell 0
  have c0_1 : w2.cell? ⟨w.heap.size, 1, none⟩ = some (.int .i64 h1) := hb0_2.cell 1
  have c0_2 : w2.cell? ⟨w.heap.size, 2, none⟩ = some (.int .i64 h2) := hb0_2.cell 2
  have c0_3 : w2.cell? ⟨w.heap.size, 3, none⟩ = some (.int .i64 h3) := hb0_2.cell 3
  have c0_4 : w2.cell? ⟨w.heap.size, 4, none⟩ = some (.int .i64 h4) := hb0_2.cell 4
  have c0_5 : w2.cell? ⟨w.heap.size, 5, none⟩ = some (.int .i64 h5) := hb0_2.cell 5
  have c0_6 : w2.cell? ⟨w.heap.size, 6, none⟩ = some (.int .i64 h6) := hb0_2.cell 6
  have z0 : w.heap.size < w2.heap.size := hb0_2.lt
  have n0 : w.heap.size ≠ w2.heap.size := by omega
  have c1_0 : w2.cell? ⟨w1.heap.size, 0, none⟩ = some (.int .i64 a0) := hb1_2.cell 0
  have c1_1 : w2.cell? ⟨w1.heap.size, 1, none⟩ = some (.int .i64 a1) := hb1_2.cell 1
  have c1_2 : w2.cell? ⟨w1.heap.size, 2, none⟩ = some (.int .i64 a2) := hb1_2.cell 2
  have c1_3 : w2.cell? ⟨w1.heap.size, 3, none⟩ = some (.int .i64 a3) := hb1_2.cell 3
  have c1_4 : w2.cell? ⟨w1.heap.size, 4, none⟩ = some (.int .i64 a4) := hb1_2.cell 4
  have c1_5 : w2.cell? ⟨w1.heap.size, 5, none⟩ = some (.int .i64 a5) := hb1_2.cell 5
  have c1_6 : w2.cell? ⟨w1.heap.size, 6, none⟩ = some (.int .i64 a6) := hb1_2.cell 6
  have z1 : w1.heap.size < w2.heap.size := hb1_2.lt
  have n1 : w1.heap.size ≠ w2.heap.size := by omega
  go_wp2_with fail
  refine (H12.out _).mono ?_
  rintro e w3 ⟨rfl, hq⟩
  have hb0_3 : Blk w3 w.heap.size 23 #[.int .i64 h0, .int .i64 h1, .int .i64 h2, .int .i64 h3, .int .i64 h4, .int .i64 h5, .int .i64 h6] := hb0_2.same (hq.block _ hb0_2.lt)
  have hb1_3 : Blk w3 w1.heap.size 23 #[.int .i64 a0, .int .i64 a1, .int .i64 a2, .int .i64 a3, .int .i64 a4, .int .i64 a5, .int .i64 a6] := hb1_2.same (hq.block _ hb1_2.lt)
  have hB3 := hB2.trans (hq.mono hB2.size)
  clear hq hb0_2 hb1_2 hB2 c0_0 c0_1 c0_2 c0_3 c0_4 c0_5 c0_6 n0 c1_0 c1_1 c1_2 c1_3 c1_4 c1_5 c1_6 n1 z0 z1
  have c0_0 : w3.cell? ⟨w.heap.size, 0, none⟩ = some (.int .i64 h0) := hb0_3.cell 0
  have c0_1 : w3.cell? ⟨w.heap.size, 1, none⟩ = some (.int .i64 h1) := hb0_3.cell 1
  have c0_2 : w3.cell? ⟨w.heap.size, 2, none⟩ = some (.int .i64 h2) := hb0_3.cell 2
  have c0_3 : w3.cell? ⟨w.heap.size, 3, none⟩ = some (.int .i64 h3) := hb0_3.cell 3
  have c0_4 : w3.cell? ⟨w.heap.size, 4, none⟩ = some (.int .i64 h4) := hb0_3.cell 4
  have c0_5 : w3.cell? ⟨w.heap.size, 5, none⟩ = some (.int .i64 h5) := hb0_3.cell 5
  have c0_6 : w3.cell? ⟨w.heap.size, 6, none⟩ = some (.int .i64 h6) := hb0_3.cell 6
  have z0 : w.heap.size < w3.heap.size := hb0_3.lt
  have n0 : w.heap.size ≠ w3.heap.size := by omega
  have c1_0 : w3.cell? ⟨w1.heap.size, 0, none⟩ = some (.int .i64 a0) := hb1_3.cell 0
  have c1_1 : w3.cell? ⟨w1.heap.size, 1, none⟩ = some (.int .i64 a1) := hb1_3.cell 1
  have c1_2 : w3.cell? ⟨w1.heap.size, 2, none⟩ = some (.int .i64 a2) := hb1_3.cell 2
  have c1_3 : w3.cell? ⟨w1.heap.size, 3, none⟩ = some (.int .i64 a3) := hb1_3.cell 3
  have c1_4 : w3.cell? ⟨w1.heap.size, 4, none⟩ = some (.int .i64 a4) := hb1_3.cell 4
  have c1_5 : w3.cell? ⟨w1.heap.size, 5, none⟩ = some (.int .i64 a5) := hb1_3.cell 5
  have c1_6 : w3.cell? ⟨w1.heap.size, 6, none⟩ = some (.int .i64 a6) := hb1_3.cell 6
  have z1 : w1.heap.size < w3.heap.size := hb1_3.lt
  have n1 : w1.heap.size ≠ w3.heap.size := by omega
  go_wp2_with fail
  refine (H10.out _).mono ?_
  rintro e w4 ⟨rfl, hq⟩
  have hb0_4 : Blk w4 w.heap.size 23 #[.int .i64 h0, .int .i64 h1, .int .i64 h2, .int .i64 h3, .int .i64 h4, .int .i64 h5, .int .i64 h6] := hb0_3.same (hq.block _ hb0_3.lt)
  have hb1_4 : Blk w4 w1.heap.size 23 #[.int .i64 a0, .int .i64 a1, .int .i64 a2, .int .i64 a3, .int .i64 a4, .int .i64 a5, .int .i64 a6] := hb1_3.same (hq.block _ hb1_3.lt)
  have hB4 := hB3.trans (hq.mono hB3.size)
  clear hq hb0_3 hb1_3 hB3 c0_0 c0_1 c0_2 c0_3 c0_4 c0_5 c0_6 n0 c1_0 c1_1 c1_2 c1_3 c1_4 c1_5 c1_6 n1 z0 z1
  have c0_0 : w4.cell? ⟨w.heap.size, 0, none⟩ = some (.int .i64 h0) := hb0_4.cell 0
  have c0_1 : w4.cell? ⟨w.heap.size, 1, none⟩ = some (.int .i64 h1) := hb0_4.cell 1
  have c0_2 : w4.cell? ⟨w.heap.size, 2, none⟩ = some (.int .i64 h2) := hb0_4.cell 2
  have c0_3 : w4.cell? ⟨w.heap.size, 3, none⟩ = some (.int .i64 h3) := hb0_4.cell 3
  have c0_4 : w4.cell? ⟨w.heap.size, 4, none⟩ = some (.int .i64 h4) := hb0_4.cell 4
  have c0_5 : w4.cell? ⟨w.heap.size, 5, none⟩ = some (.int .i64 h5) := hb0_4.cell 5
  have c0_6 : w4.cell? ⟨w.heap.size, 6, none⟩ = some (.int .i64 h6) := hb0_4.cell 6
  have z0 : w.heap.size < w4.heap.size := hb0_4.lt
  have n0 : w.heap.size ≠ w4.heap.size := by omega
  have c1_0 : w4.cell? ⟨w1.heap.size, 0, none⟩ = some (.int .i64 a0) := hb1_4.cell 0
  have c1_1 : w4.cell? ⟨w1.heap.size, 1, none⟩ = some (.int .i64 a1) := hb1_4.cell 1
  have c1_2 : w4.cell? ⟨w1.heap.size, 2, none⟩ = some (.int .i64 a2) := hb1_4.cell 2
  have c1_3 : w4.cell? ⟨w1.heap.size, 3, none⟩ = some (.int .i64 a3) := hb1_4.cell 3
  have c1_4 : w4.cell? ⟨w1.heap.size, 4, none⟩ = some (.int .i64 a4) := hb1_4.cell 4
  have c1_5 : w4.cell? ⟨w1.heap.size, 5, none⟩ = some (.int .i64 a5) := hb1_4.cell 5
  have c1_6 : w4.cell? ⟨w1.heap.size, 6, none⟩ = some (.int .i64 a6) := hb1_4.cell 6
  have z1 : w1.heap.size < w4.heap.size := hb1_4.lt
  have n1 : w1.heap.size ≠ w4.heap.size := by omega
  go_wp2_with fail
  refine (H14.out _).mono ?_
  rintro e w5 ⟨rfl, hq⟩
  have hb0_5 : Blk w5 w.heap.size 23 #[.int .i64 h0, .int .i64 h1, .int .i64 h2, .int .i64 h3, .int .i64 h4, .int .i64 h5, .int .i64 h6] := (hb0_4.alloc _).same (hq.block _ (by have := hb0_4.lt; simp; omega))
  have hb1_5 : Blk w5 w1.heap.size 23 #[.int .i64 a0, .int .i64 a1, .int .i64 a2, .int .i64 a3, .int .i64 a4, .int .i64 a5, .int .i64 a6] := (hb1_4.alloc _).same (hq.block _ (by have := hb1_4.lt; simp; omega))
  have hb2_5 : Blk w5 w4.heap.size 23 #[.int .i64 h0, .int .i64 h1, .int .i64 h2, .int .i64 h3, .int .i64 h4, .int .i64 h5, .int .i64 h6] := (Blk.new w4 23 _).same (hq.block _ (by simp))
  have hB5 := (hB4.alloc (hB4.size) _).trans (hq.mono (by have := hB4.size; simp; omega))
  clear hq hb0_4 hb1_4 hB4 c0_0 c0_1 c0_2 c0_3 c0_4 c0_5 c0_6 n0 c1_0 c1_1 c1_2 c1_3 c1_4 c1_5 c1_6 n1 z0 z1
  have c0_0 : w5.cell? ⟨w.heap.size, 0, none⟩ = some (.int .i64 h0) := hb0_5.cell 0
  have c0_1 : w5.cell? ⟨w.heap.size, 1, none⟩ = some (.int .i64 h1) := hb0_5.cell 1
  have c0_2 : w5.cell? ⟨w.heap.size, 2, none⟩ = some (.int .i64 h2) := hb0_5.cell 2
  have c0_3 : w5.cell? ⟨w.heap.size, 3, none⟩ = some (.int .i64 h3) := hb0_5.cell 3
  have c0_4 : w5.cell? ⟨w.heap.size, 4, none⟩ = some (.int .i64 h4) := hb0_5.cell 4
  have c0_5 : w5.cell? ⟨w.heap.size, 5, none⟩ = some (.int .i64 h5) := hb0_5.cell 5
  have c0_6 : w5.cell? ⟨w.heap.size, 6, none⟩ = some (.int .i64 h6) := hb0_5.cell 6
  have z0 : w.heap.size < w5.heap.size := hb0_5.lt
  have n0 : w.heap.size ≠ w5.heap.size := by omega
  have c1_0 : w5.cell? ⟨w1.heap.size, 0, none⟩ = some (.int .i64 a0) := hb1_5.cell 0
  have c1_1 : w5.cell? ⟨w1.heap.size, 1, none⟩ = some (.int .i64 a1) := hb1_5.cell 1
  have c1_2 : w5.cell? ⟨w1.heap.size, 2, none⟩ = some (.int .i64 a2) := hb1_5.cell 2
  have c1_3 : w5.cell? ⟨w1.heap.size, 3, none⟩ = some (.int .i64 a3) := hb1_5.cell 3
  have c1_4 : w5.cell? ⟨w1.heap.size, 4, none⟩ = some (.int .i64 a4) := hb1_5.cell 4
  have c1_5 : w5.cell? ⟨w1.heap.size, 5, none⟩ = some (.int .i64 a5) := hb1_5.cell 5
  have c1_6 : w5.cell? ⟨w1.heap.size, 6, none⟩ = some (.int .i64 a6) := hb1_5.cell 6
  have z1 : w1.heap.size < w5.heap.size := hb1_5.lt
  have n1 : w1.heap.size ≠ w5.heap.size := by omega
  have c2_0 : w5.cell? ⟨w4.heap.size, 0, none⟩ = some (.int .i64 h0) := hb2_5.cell 0
  have c2_1 : w5.cell? ⟨w4.heap.size, 1, none⟩ = some (.int .i64 h1) := hb2_5.cell 1
  have c2_2 : w5.cell? ⟨w4.heap.size, 2, none⟩ = some (.int .i64 h2) := hb2_5.cell 2
  have c2_3 : w5.cell? ⟨w4.heap.size, 3, none⟩ = some (.int .i64 h3) := hb2_5.cell 3
  have c2_4 : w5.cell? ⟨w4.heap.size, 4, none⟩ = some (.int .i64 h4) := hb2_5.cell 4
  have c2_5 : w5.cell? ⟨w4.heap.size, 5, none⟩ = some (.int .i64 h5) := hb2_5.cell 5
  have c2_6 : w5.cell? ⟨w4.heap.size, 6, none⟩ = some (.int .i64 h6) := hb2_5.cell 6
  have z2 : w4.heap.size < w5.heap.size := hb2_5.lt
  have n2 : w4.heap.size ≠ w5.heap.size := by omega
  go_wp2_with fail
  go_ret
  exact ⟨rfl, hB5⟩
set_option maxRecDepth 100000 in
set_option maxHeartbeats 3200000 in
theorem hdrBack_long0 (s T : ByteArray) (a0 a1 a2 a3 a4 a5 a6 : Int) (h0 h1 h2 h3 h4 h5 h6 : Int) (w : World) (h : 1600 < s.size) (hz : ((T.size : Int) != (((s.extract 0 1600)).size : Int)) = false)
    (A17 : ∀ W, Calls Try.prog 17 #[.string (s.extract 0 1600)] W fun e w' => e = .returned (.tuple #[.agg #[.int .i64 a0, .int .i64 a1, .int .i64 a2, .int .i64 a3, .int .i64 a4, .int .i64 a5, .int .i64 a6], .string T]) ∧ Below W.heap.size W w')
    (A15 : ∀ W, Calls Try.prog 15 #[.agg #[.int .i64 a0, .int .i64 a1, .int .i64 a2, .int .i64 a3, .int .i64 a4, .int .i64 a5, .int .i64 a6], .string T] W fun e w' => e = .returned (.tuple #[.string (s.extract 0 1600), .int .i64 0]) ∧ Below W.heap.size W w')
    (A12 : ∀ W, Calls Try.prog 12 #[.agg #[.int .i64 h0, .int .i64 h1, .int .i64 h2, .int .i64 h3, .int .i64 h4, .int .i64 h5, .int .i64 h6]] W fun e w' => e = .returned (.tuple #[.string ⟨#[]⟩, .int .i64 101]) ∧ Below W.heap.size W w')
    (A14 : ∀ W, Calls Try.prog 14 #[] W fun e w' => e = .returned (.bool true) ∧ Below W.heap.size W w') :
    Calls Try.prog 5 #[.agg #[.int .i64 h0, .int .i64 h1, .int .i64 h2, .int .i64 h3, .int .i64 h4, .int .i64 h5, .int .i64 h6], .string s] w fun e w' => e = .returned (.bool true) ∧ Below w.heap.size w w' := by
  have H12 := Lib.hid A12
  have H14 := Lib.hid A14
  have H15 := Lib.hid A15
  have H17 := Lib.hid A17
  clear A12 A14 A15 A17
  have hzs : (s.extract 0 1600).size = 1600 := by rw [ByteArray.size_extract]; omega
  obtain ⟨S, hS⟩ : ∃ S, s.extract 0 1600 = S := ⟨_, rfl⟩
  rw [hS] at H15 H17 hz hzs
  go_enter Try.func5, Try.ntmps5
  go_wp2_with fail
  refine (H17.out _).mono ?_
  rintro e w1 ⟨rfl, hq⟩
  have hb0_1 : Blk w1 w.heap.size 23 #[.int .i64 h0, .int .i64 h1, .int .i64 h2, .int .i64 h3, .int .i64 h4, .int .i64 h5, .int .i64 h6] := (Blk.new w 23 _).same (hq.block _ (by simp))
  have hB1 := ((Below.refl w.heap.size w).alloc (Nat.le_refl _) _).trans (hq.mono (by simp))
  clear hq
  have c0_0 : w1.cell? ⟨w.heap.size, 0, none⟩ = some (.int .i64 h0) := hb0_1.cell 0
  have c0_1 : w1.cell? ⟨w.heap.size, 1, none⟩ = some (.int .i64 h1) := hb0_1.cell 1
  have c0_2 : w1.cell? ⟨w.heap.size, 2, none⟩ = some (.int .i64 h2) := hb0_1.cell 2
  have c0_3 : w1.cell? ⟨w.heap.size, 3, none⟩ = some (.int .i64 h3) := hb0_1.cell 3
  have c0_4 : w1.cell? ⟨w.heap.size, 4, none⟩ = some (.int .i64 h4) := hb0_1.cell 4
  have c0_5 : w1.cell? ⟨w.heap.size, 5, none⟩ = some (.int .i64 h5) := hb0_1.cell 5
  have c0_6 : w1.cell? ⟨w.heap.size, 6, none⟩ = some (.int .i64 h6) := hb0_1.cell 6
  have z0 : w.heap.size < w1.heap.size := hb0_1.lt
  have n0 : w.heap.size ≠ w1.heap.size := by omega
  go_wp2_with fail
  refine (H15.out _).mono ?_
  rintro e w2 ⟨rfl, hq⟩
  have hb0_2 : Blk w2 w.heap.size 23 #[.int .i64 h0, .int .i64 h1, .int .i64 h2, .int .i64 h3, .int .i64 h4, .int .i64 h5, .int .i64 h6] := (hb0_1.alloc _).same (hq.block _ (by have := hb0_1.lt; simp; omega))
  have hb1_2 : Blk w2 w1.heap.size 23 #[.int .i64 a0, .int .i64 a1, .int .i64 a2, .int .i64 a3, .int .i64 a4, .int .i64 a5, .int .i64 a6] := (Blk.new w1 23 _).same (hq.block _ (by simp))
  have hB2 := (hB1.alloc (hB1.size) _).trans (hq.mono (by have := hB1.size; simp; omega))
  clear hq hb0_1 hB1 c0_0 c0_1 c0_2 c0_3 c0_4 c0_5 c0_6 n0 z0
  have c0_0 : w2.cell? ⟨w.heap.size, 0, none⟩ = some (.int .i64 h0) := hb0_2.cell 0
  have c0_1 : w2.cell? ⟨w.heap.size, 1, none⟩ = some (.int .i64 h1) := hb0_2.cell 1
  have c0_2 : w2.cell? ⟨w.heap.size, 2, none⟩ = some (.int .i64 h2) := hb0_2.cell 2
  have c0_3 : w2.cell? ⟨w.heap.size, 3, none⟩ = some (.int .i64 h3) := hb0_2.cell 3
  have c0_4 : w2.cell? ⟨w.heap.size, 4, none⟩ = some (.int .i64 h4) := hb0_2.cell 4
  have c0_5 : w2.cell? ⟨w.heap.size, 5, none⟩ = some (.int .i64 h5) := hb0_2.cell 5
  have c0_6 : w2.cell? ⟨w.heap.size, 6, none⟩ = some (.int .i64 h6) := hb0_2.cell 6
  have z0 : w.heap.size < w2.heap.size := hb0_2.lt
  have n0 : w.heap.size ≠ w2.heap.size := by omega
  have c1_0 : w2.cell? ⟨w1.heap.size, 0, none⟩ = some (.int .i64 a0) := hb1_2.cell 0
  have c1_1 : w2.cell? ⟨w1.heap.size, 1, none⟩ = some (.int .i64 a1) := hb1_2.cell 1
  have c1_2 : w2.cell? ⟨w1.heap.size, 2, none⟩ = some (.int .i64 a2) := hb1_2.cell 2
  have c1_3 : w2.cell? ⟨w1.heap.size, 3, none⟩ = some (.int .i64 a3) := hb1_2.cell 3
  have c1_4 : w2.cell? ⟨w1.heap.size, 4, none⟩ = some (.int .i64 a4) := hb1_2.cell 4
  have c1_5 : w2.cell? ⟨w1.heap.size, 5, none⟩ = some (.int .i64 a5) := hb1_2.cell 5
  have c1_6 : w2.cell? ⟨w1.heap.size, 6, none⟩ = some (.int .i64 a6) := hb1_2.cell 6
  have z1 : w1.heap.size < w2.heap.size := hb1_2.lt
  have n1 : w1.heap.size ≠ w2.heap.size := by omega
  go_wp2_with fail
  refine (H12.out _).mono ?_
  rintro e w3 ⟨rfl, hq⟩
  have hb0_3 : Blk w3 w.heap.size 23 #[.int .i64 h0, .int .i64 h1, .int .i64 h2, .int .i64 h3, .int .i64 h4, .int .i64 h5, .int .i64 h6] := hb0_2.same (hq.block _ hb0_2.lt)
  have hb1_3 : Blk w3 w1.heap.size 23 #[.int .i64 a0, .int .i64 a1, .int .i64 a2, .int .i64 a3, .int .i64 a4, .int .i64 a5, .int .i64 a6] := hb1_2.same (hq.block _ hb1_2.lt)
  have hB3 := hB2.trans (hq.mono hB2.size)
  clear hq hb0_2 hb1_2 hB2 c0_0 c0_1 c0_2 c0_3 c0_4 c0_5 c0_6 n0 c1_0 c1_1 c1_2 c1_3 c1_4 c1_5 c1_6 n1 z0 z1
  have c0_0 : w3.cell? ⟨w.heap.size, 0, none⟩ = some (.int .i64 h0) := hb0_3.cell 0
  have c0_1 : w3.cell? ⟨w.heap.size, 1, none⟩ = some (.int .i64 h1) := hb0_3.cell 1
  have c0_2 : w3.cell? ⟨w.heap.size, 2, none⟩ = some (.int .i64 h2) := hb0_3.cell 2
  have c0_3 : w3.cell? ⟨w.heap.size, 3, none⟩ = some (.int .i64 h3) := hb0_3.cell 3
  have c0_4 : w3.cell? ⟨w.heap.size, 4, none⟩ = some (.int .i64 h4) := hb0_3.cell 4
  have c0_5 : w3.cell? ⟨w.heap.size, 5, none⟩ = some (.int .i64 h5) := hb0_3.cell 5
  have c0_6 : w3.cell? ⟨w.heap.size, 6, none⟩ = some (.int .i64 h6) := hb0_3.cell 6
  have z0 : w.heap.size < w3.heap.size := hb0_3.lt
  have n0 : w.heap.size ≠ w3.heap.size := by omega
  have c1_0 : w3.cell? ⟨w1.heap.size, 0, none⟩ = some (.int .i64 a0) := hb1_3.cell 0
  have c1_1 : w3.cell? ⟨w1.heap.size, 1, none⟩ = some (.int .i64 a1) := hb1_3.cell 1
  have c1_2 : w3.cell? ⟨w1.heap.size, 2, none⟩ = some (.int .i64 a2) := hb1_3.cell 2
  have c1_3 : w3.cell? ⟨w1.heap.size, 3, none⟩ = some (.int .i64 a3) := hb1_3.cell 3
  have c1_4 : w3.cell? ⟨w1.heap.size, 4, none⟩ = some (.int .i64 a4) := hb1_3.cell 4
  have c1_5 : w3.cell? ⟨w1.heap.size, 5, none⟩ = some (.int .i64 a5) := hb1_3.cell 5
  have c1_6 : w3.cell? ⟨w1.heap.size, 6, none⟩ = some (.int .i64 a6) := hb1_3.cell 6
  have z1 : w1.heap.size < w3.heap.size := hb1_3.lt
  have n1 : w1.heap.size ≠ w3.heap.size := by omega
  go_wp2_with fail
  refine (H14.out _).mono ?_
  rintro e w4 ⟨rfl, hq⟩
  have hb0_4 : Blk w4 w.heap.size 23 #[.int .i64 h0, .int .i64 h1, .int .i64 h2, .int .i64 h3, .int .i64 h4, .int .i64 h5, .int .i64 h6] := hb0_3.same (hq.block _ hb0_3.lt)
  have hb1_4 : Blk w4 w1.heap.size 23 #[.int .i64 a0, .int .i64 a1, .int .i64 a2, .int .i64 a3, .int .i64 a4, .int .i64 a5, .int .i64 a6] := hb1_3.same (hq.block _ hb1_3.lt)
  have hB4 := hB3.trans (hq.mono hB3.size)
  clear hq hb0_3 hb1_3 hB3 c0_0 c0_1 c0_2 c0_3 c0_4 c0_5 c0_6 n0 c1_0 c1_1 c1_2 c1_3 c1_4 c1_5 c1_6 n1 z0 z1
  have c0_0 : w4.cell? ⟨w.heap.size, 0, none⟩ = some (.int .i64 h0) := hb0_4.cell 0
  have c0_1 : w4.cell? ⟨w.heap.size, 1, none⟩ = some (.int .i64 h1) := hb0_4.cell 1
  have c0_2 : w4.cell? ⟨w.heap.size, 2, none⟩ = some (.int .i64 h2) := hb0_4.cell 2
  have c0_3 : w4.cell? ⟨w.heap.size, 3, none⟩ = some (.int .i64 h3) := hb0_4.cell 3
  have c0_4 : w4.cell? ⟨w.heap.size, 4, none⟩ = some (.int .i64 h4) := hb0_4.cell 4
  have c0_5 : w4.cell? ⟨w.heap.size, 5, none⟩ = some (.int .i64 h5) := hb0_4.cell 5
  have c0_6 : w4.cell? ⟨w.heap.size, 6, none⟩ = some (.int .i64 h6) := hb0_4.cell 6
  have z0 : w.heap.size < w4.heap.size := hb0_4.lt
  have n0 : w.heap.size ≠ w4.heap.size := by omega
  have c1_0 : w4.cell? ⟨w1.heap.size, 0, none⟩ = some (.int .i64 a0) := hb1_4.cell 0
  have c1_1 : w4.cell? ⟨w1.heap.size, 1, none⟩ = some (.int .i64 a1) := hb1_4.cell 1
  have c1_2 : w4.cell? ⟨w1.heap.size, 2, none⟩ = some (.int .i64 a2) := hb1_4.cell 2
  have c1_3 : w4.cell? ⟨w1.heap.size, 3, none⟩ = some (.int .i64 a3) := hb1_4.cell 3
  have c1_4 : w4.cell? ⟨w1.heap.size, 4, none⟩ = some (.int .i64 a4) := hb1_4.cell 4
  have c1_5 : w4.cell? ⟨w1.heap.size, 5, none⟩ = some (.int .i64 a5) := hb1_4.cell 5
  have c1_6 : w4.cell? ⟨w1.heap.size, 6, none⟩ = some (.int .i64 a6) := hb1_4.cell 6
  have z1 : w1.heap.size < w4.heap.size := hb1_4.lt
  have n1 : w1.heap.size ≠ w4.heap.size := by omega
  go_wp2_with fail
  go_ret
  exact ⟨rfl, hB4⟩
set_option maxRecDepth 100000 in
set_option maxHeartbeats 3200000 in
theorem hdrBack_long1 (s T B : ByteArray) (a0 a1 a2 a3 a4 a5 a6 : Int) (h0 h1 h2 h3 h4 h5 h6 : Int) (w : World) (h : 1600 < s.size) (hz : ((T.size : Int) != (((s.extract 0 1600)).size : Int)) = false)
    (A17 : ∀ W, Calls Try.prog 17 #[.string (s.extract 0 1600)] W fun e w' => e = .returned (.tuple #[.agg #[.int .i64 a0, .int .i64 a1, .int .i64 a2, .int .i64 a3, .int .i64 a4, .int .i64 a5, .int .i64 a6], .string T]) ∧ Below W.heap.size W w')
    (A15 : ∀ W, Calls Try.prog 15 #[.agg #[.int .i64 a0, .int .i64 a1, .int .i64 a2, .int .i64 a3, .int .i64 a4, .int .i64 a5, .int .i64 a6], .string T] W fun e w' => e = .returned (.tuple #[.string (s.extract 0 1600), .int .i64 0]) ∧ Below W.heap.size W w')
    (A12 : ∀ W, Calls Try.prog 12 #[.agg #[.int .i64 h0, .int .i64 h1, .int .i64 h2, .int .i64 h3, .int .i64 h4, .int .i64 h5, .int .i64 h6]] W fun e w' => e = .returned (.tuple #[.string B, .int .i64 0]) ∧ Below W.heap.size W w')
    (hB : B.size = 12) (A10 : ∀ W, Calls Try.prog 10 #[.string (B ++ (s.extract 0 1600))] W fun e w' => e = .returned (.tuple #[.agg #[.int .i64 h0, .int .i64 h1, .int .i64 h2, .int .i64 h3, .int .i64 h4, .int .i64 h5, .int .i64 h6], .string (s.extract 0 1600), .int .i64 0]) ∧ Below W.heap.size W w')
    (A14 : ∀ W, Calls Try.prog 14 #[] W fun e w' => e = .returned (.bool true) ∧ Below W.heap.size W w') :
    Calls Try.prog 5 #[.agg #[.int .i64 h0, .int .i64 h1, .int .i64 h2, .int .i64 h3, .int .i64 h4, .int .i64 h5, .int .i64 h6], .string s] w fun e w' => e = .returned (.bool true) ∧ Below w.heap.size w w' := by
  have H12 := Lib.hid A12
  have H14 := Lib.hid A14
  have H15 := Lib.hid A15
  have H17 := Lib.hid A17
  have H10 := Lib.hid A10
  clear A12 A14 A15 A17 A10
  have hzs : (s.extract 0 1600).size = 1600 := by rw [ByteArray.size_extract]; omega
  have hBz : (B.size : Int) = 12 := by omega
  have q1 : ¬ 9223372036854775807 < B.size + ((s.extract 0 1600)).size := by rw [hB]; rw [hzs]; omega
  obtain ⟨S, hS⟩ : ∃ S, s.extract 0 1600 = S := ⟨_, rfl⟩
  rw [hS] at H15 H17 hz hzs H10 q1
  go_enter Try.func5, Try.ntmps5
  go_wp2_with fail
  refine (H17.out _).mono ?_
  rintro e w1 ⟨rfl, hq⟩
  have hb0_1 : Blk w1 w.heap.size 23 #[.int .i64 h0, .int .i64 h1, .int .i64 h2, .int .i64 h3, .int .i64 h4, .int .i64 h5, .int .i64 h6] := (Blk.new w 23 _).same (hq.block _ (by simp))
  have hB1 := ((Below.refl w.heap.size w).alloc (Nat.le_refl _) _).trans (hq.mono (by simp))
  clear hq
  have c0_0 : w1.cell? ⟨w.heap.size, 0, none⟩ = some (.int .i64 h0) := hb0_1.cell 0
  have c0_1 : w1.cell? ⟨w.heap.size, 1, none⟩ = some (.int .i64 h1) := hb0_1.cell 1
  have c0_2 : w1.cell? ⟨w.heap.size, 2, none⟩ = some (.int .i64 h2) := hb0_1.cell 2
  have c0_3 : w1.cell? ⟨w.heap.size, 3, none⟩ = some (.int .i64 h3) := hb0_1.cell 3
  have c0_4 : w1.cell? ⟨w.heap.size, 4, none⟩ = some (.int .i64 h4) := hb0_1.cell 4
  have c0_5 : w1.cell? ⟨w.heap.size, 5, none⟩ = some (.int .i64 h5) := hb0_1.cell 5
  have c0_6 : w1.cell? ⟨w.heap.size, 6, none⟩ = some (.int .i64 h6) := hb0_1.cell 6
  have z0 : w.heap.size < w1.heap.size := hb0_1.lt
  have n0 : w.heap.size ≠ w1.heap.size := by omega
  go_wp2_with fail
  refine (H15.out _).mono ?_
  rintro e w2 ⟨rfl, hq⟩
  have hb0_2 : Blk w2 w.heap.size 23 #[.int .i64 h0, .int .i64 h1, .int .i64 h2, .int .i64 h3, .int .i64 h4, .int .i64 h5, .int .i64 h6] := (hb0_1.alloc _).same (hq.block _ (by have := hb0_1.lt; simp; omega))
  have hb1_2 : Blk w2 w1.heap.size 23 #[.int .i64 a0, .int .i64 a1, .int .i64 a2, .int .i64 a3, .int .i64 a4, .int .i64 a5, .int .i64 a6] := (Blk.new w1 23 _).same (hq.block _ (by simp))
  have hB2 := (hB1.alloc (hB1.size) _).trans (hq.mono (by have := hB1.size; simp; omega))
  clear hq hb0_1 hB1 c0_0 c0_1 c0_2 c0_3 c0_4 c0_5 c0_6 n0 z0
  have c0_0 : w2.cell? ⟨w.heap.size, 0, none⟩ = some (.int .i64 h0) := hb0_2.cell 0
  have c0_1 : w2.cell? ⟨w.heap.size, 1, none⟩ = some (.int .i64 h1) := hb0_2.cell 1
  have c0_2 : w2.cell? ⟨w.heap.size, 2, none⟩ = some (.int .i64 h2) := hb0_2.cell 2
  have c0_3 : w2.cell? ⟨w.heap.size, 3, none⟩ = some (.int .i64 h3) := hb0_2.cell 3
  have c0_4 : w2.cell? ⟨w.heap.size, 4, none⟩ = some (.int .i64 h4) := hb0_2.cell 4
  have c0_5 : w2.cell? ⟨w.heap.size, 5, none⟩ = some (.int .i64 h5) := hb0_2.cell 5
  have c0_6 : w2.cell? ⟨w.heap.size, 6, none⟩ = some (.int .i64 h6) := hb0_2.cell 6
  have z0 : w.heap.size < w2.heap.size := hb0_2.lt
  have n0 : w.heap.size ≠ w2.heap.size := by omega
  have c1_0 : w2.cell? ⟨w1.heap.size, 0, none⟩ = some (.int .i64 a0) := hb1_2.cell 0
  have c1_1 : w2.cell? ⟨w1.heap.size, 1, none⟩ = some (.int .i64 a1) := hb1_2.cell 1
  have c1_2 : w2.cell? ⟨w1.heap.size, 2, none⟩ = some (.int .i64 a2) := hb1_2.cell 2
  have c1_3 : w2.cell? ⟨w1.heap.size, 3, none⟩ = some (.int .i64 a3) := hb1_2.cell 3
  have c1_4 : w2.cell? ⟨w1.heap.size, 4, none⟩ = some (.int .i64 a4) := hb1_2.cell 4
  have c1_5 : w2.cell? ⟨w1.heap.size, 5, none⟩ = some (.int .i64 a5) := hb1_2.cell 5
  have c1_6 : w2.cell? ⟨w1.heap.size, 6, none⟩ = some (.int .i64 a6) := hb1_2.cell 6
  have z1 : w1.heap.size < w2.heap.size := hb1_2.lt
  have n1 : w1.heap.size ≠ w2.heap.size := by omega
  go_wp2_with fail
  refine (H12.out _).mono ?_
  rintro e w3 ⟨rfl, hq⟩
  have hb0_3 : Blk w3 w.heap.size 23 #[.int .i64 h0, .int .i64 h1, .int .i64 h2, .int .i64 h3, .int .i64 h4, .int .i64 h5, .int .i64 h6] := hb0_2.same (hq.block _ hb0_2.lt)
  have hb1_3 : Blk w3 w1.heap.size 23 #[.int .i64 a0, .int .i64 a1, .int .i64 a2, .int .i64 a3, .int .i64 a4, .int .i64 a5, .int .i64 a6] := hb1_2.same (hq.block _ hb1_2.lt)
  have hB3 := hB2.trans (hq.mono hB2.size)
  clear hq hb0_2 hb1_2 hB2 c0_0 c0_1 c0_2 c0_3 c0_4 c0_5 c0_6 n0 c1_0 c1_1 c1_2 c1_3 c1_4 c1_5 c1_6 n1 z0 z1
  have c0_0 : w3.cell? ⟨w.heap.size, 0, none⟩ = some (.int .i64 h0) := hb0_3.cell 0
  have c0_1 : w3.cell? ⟨w.heap.size, 1, none⟩ = some (.int .i64 h1) := hb0_3.cell 1
  have c0_2 : w3.cell? ⟨w.heap.size, 2, none⟩ = some (.int .i64 h2) := hb0_3.cell 2
  have c0_3 : w3.cell? ⟨w.heap.size, 3, none⟩ = some (.int .i64 h3) := hb0_3.cell 3
  have c0_4 : w3.cell? ⟨w.heap.size, 4, none⟩ = some (.int .i64 h4) := hb0_3.cell 4
  have c0_5 : w3.cell? ⟨w.heap.size, 5, none⟩ = some (.int .i64 h5) := hb0_3.cell 5
  have c0_6 : w3.cell? ⟨w.heap.size, 6, none⟩ = some (.int .i64 h6) := hb0_3.cell 6
  have z0 : w.heap.size < w3.heap.size := hb0_3.lt
  have n0 : w.heap.size ≠ w3.heap.size := by omega
  have c1_0 : w3.cell? ⟨w1.heap.size, 0, none⟩ = some (.int .i64 a0) := hb1_3.cell 0
  have c1_1 : w3.cell? ⟨w1.heap.size, 1, none⟩ = some (.int .i64 a1) := hb1_3.cell 1
  have c1_2 : w3.cell? ⟨w1.heap.size, 2, none⟩ = some (.int .i64 a2) := hb1_3.cell 2
  have c1_3 : w3.cell? ⟨w1.heap.size, 3, none⟩ = some (.int .i64 a3) := hb1_3.cell 3
  have c1_4 : w3.cell? ⟨w1.heap.size, 4, none⟩ = some (.int .i64 a4) := hb1_3.cell 4
  have c1_5 : w3.cell? ⟨w1.heap.size, 5, none⟩ = some (.int .i64 a5) := hb1_3.cell 5
  have c1_6 : w3.cell? ⟨w1.heap.size, 6, none⟩ = some (.int .i64 a6) := hb1_3.cell 6
  have z1 : w1.heap.size < w3.heap.size := hb1_3.lt
  have n1 : w1.heap.size ≠ w3.heap.size := by omega
  go_wp2_with fail
  refine (H10.out _).mono ?_
  rintro e w4 ⟨rfl, hq⟩
  have hb0_4 : Blk w4 w.heap.size 23 #[.int .i64 h0, .int .i64 h1, .int .i64 h2, .int .i64 h3, .int .i64 h4, .int .i64 h5, .int .i64 h6] := hb0_3.same (hq.block _ hb0_3.lt)
  have hb1_4 : Blk w4 w1.heap.size 23 #[.int .i64 a0, .int .i64 a1, .int .i64 a2, .int .i64 a3, .int .i64 a4, .int .i64 a5, .int .i64 a6] := hb1_3.same (hq.block _ hb1_3.lt)
  have hB4 := hB3.trans (hq.mono hB3.size)
  clear hq hb0_3 hb1_3 hB3 c0_0 c0_1 c0_2 c0_3 c0_4 c0_5 c0_6 n0 c1_0 c1_1 c1_2 c1_3 c1_4 c1_5 c1_6 n1 z0 z1
  have c0_0 : w4.cell? ⟨w.heap.size, 0, none⟩ = some (.int .i64 h0) := hb0_4.cell 0
  have c0_1 : w4.cell? ⟨w.heap.size, 1, none⟩ = some (.int .i64 h1) := hb0_4.cell 1
  have c0_2 : w4.cell? ⟨w.heap.size, 2, none⟩ = some (.int .i64 h2) := hb0_4.cell 2
  have c0_3 : w4.cell? ⟨w.heap.size, 3, none⟩ = some (.int .i64 h3) := hb0_4.cell 3
  have c0_4 : w4.cell? ⟨w.heap.size, 4, none⟩ = some (.int .i64 h4) := hb0_4.cell 4
  have c0_5 : w4.cell? ⟨w.heap.size, 5, none⟩ = some (.int .i64 h5) := hb0_4.cell 5
  have c0_6 : w4.cell? ⟨w.heap.size, 6, none⟩ = some (.int .i64 h6) := hb0_4.cell 6
  have z0 : w.heap.size < w4.heap.size := hb0_4.lt
  have n0 : w.heap.size ≠ w4.heap.size := by omega
  have c1_0 : w4.cell? ⟨w1.heap.size, 0, none⟩ = some (.int .i64 a0) := hb1_4.cell 0
  have c1_1 : w4.cell? ⟨w1.heap.size, 1, none⟩ = some (.int .i64 a1) := hb1_4.cell 1
  have c1_2 : w4.cell? ⟨w1.heap.size, 2, none⟩ = some (.int .i64 a2) := hb1_4.cell 2
  have c1_3 : w4.cell? ⟨w1.heap.size, 3, none⟩ = some (.int .i64 a3) := hb1_4.cell 3
  have c1_4 : w4.cell? ⟨w1.heap.size, 4, none⟩ = some (.int .i64 a4) := hb1_4.cell 4
  have c1_5 : w4.cell? ⟨w1.heap.size, 5, none⟩ = some (.int .i64 a5) := hb1_4.cell 5
  have c1_6 : w4.cell? ⟨w1.heap.size, 6, none⟩ = some (.int .i64 a6) := hb1_4.cell 6
  have z1 : w1.heap.size < w4.heap.size := hb1_4.lt
  have n1 : w1.heap.size ≠ w4.heap.size := by omega
  go_wp2_with fail
  refine (H14.out _).mono ?_
  rintro e w5 ⟨rfl, hq⟩
  have hb0_5 : Blk w5 w.heap.size 23 #[.int .i64 h0, .int .i64 h1, .int .i64 h2, .int .i64 h3, .int .i64 h4, .int .i64 h5, .int .i64 h6] := (hb0_4.alloc _).same (hq.block _ (by have := hb0_4.lt; simp; omega))
  have hb1_5 : Blk w5 w1.heap.size 23 #[.int .i64 a0, .int .i64 a1, .int .i64 a2, .int .i64 a3, .int .i64 a4, .int .i64 a5, .int .i64 a6] := (hb1_4.alloc _).same (hq.block _ (by have := hb1_4.lt; simp; omega))
  have hb2_5 : Blk w5 w4.heap.size 23 #[.int .i64 h0, .int .i64 h1, .int .i64 h2, .int .i64 h3, .int .i64 h4, .int .i64 h5, .int .i64 h6] := (Blk.new w4 23 _).same (hq.block _ (by simp))
  have hB5 := (hB4.alloc (hB4.size) _).trans (hq.mono (by have := hB4.size; simp; omega))
  clear hq hb0_4 hb1_4 hB4 c0_0 c0_1 c0_2 c0_3 c0_4 c0_5 c0_6 n0 c1_0 c1_1 c1_2 c1_3 c1_4 c1_5 c1_6 n1 z0 z1
  have c0_0 : w5.cell? ⟨w.heap.size, 0, none⟩ = some (.int .i64 h0) := hb0_5.cell 0
  have c0_1 : w5.cell? ⟨w.heap.size, 1, none⟩ = some (.int .i64 h1) := hb0_5.cell 1
  have c0_2 : w5.cell? ⟨w.heap.size, 2, none⟩ = some (.int .i64 h2) := hb0_5.cell 2
  have c0_3 : w5.cell? ⟨w.heap.size, 3, none⟩ = some (.int .i64 h3) := hb0_5.cell 3
  have c0_4 : w5.cell? ⟨w.heap.size, 4, none⟩ = some (.int .i64 h4) := hb0_5.cell 4
  have c0_5 : w5.cell? ⟨w.heap.size, 5, none⟩ = some (.int .i64 h5) := hb0_5.cell 5
  have c0_6 : w5.cell? ⟨w.heap.size, 6, none⟩ = some (.int .i64 h6) := hb0_5.cell 6
  have z0 : w.heap.size < w5.heap.size := hb0_5.lt
  have n0 : w.heap.size ≠ w5.heap.size := by omega
  have c1_0 : w5.cell? ⟨w1.heap.size, 0, none⟩ = some (.int .i64 a0) := hb1_5.cell 0
  have c1_1 : w5.cell? ⟨w1.heap.size, 1, none⟩ = some (.int .i64 a1) := hb1_5.cell 1
  have c1_2 : w5.cell? ⟨w1.heap.size, 2, none⟩ = some (.int .i64 a2) := hb1_5.cell 2
  have c1_3 : w5.cell? ⟨w1.heap.size, 3, none⟩ = some (.int .i64 a3) := hb1_5.cell 3
  have c1_4 : w5.cell? ⟨w1.heap.size, 4, none⟩ = some (.int .i64 a4) := hb1_5.cell 4
  have c1_5 : w5.cell? ⟨w1.heap.size, 5, none⟩ = some (.int .i64 a5) := hb1_5.cell 5
  have c1_6 : w5.cell? ⟨w1.heap.size, 6, none⟩ = some (.int .i64 a6) := hb1_5.cell 6
  have z1 : w1.heap.size < w5.heap.size := hb1_5.lt
  have n1 : w1.heap.size ≠ w5.heap.size := by omega
  have c2_0 : w5.cell? ⟨w4.heap.size, 0, none⟩ = some (.int .i64 h0) := hb2_5.cell 0
  have c2_1 : w5.cell? ⟨w4.heap.size, 1, none⟩ = some (.int .i64 h1) := hb2_5.cell 1
  have c2_2 : w5.cell? ⟨w4.heap.size, 2, none⟩ = some (.int .i64 h2) := hb2_5.cell 2
  have c2_3 : w5.cell? ⟨w4.heap.size, 3, none⟩ = some (.int .i64 h3) := hb2_5.cell 3
  have c2_4 : w5.cell? ⟨w4.heap.size, 4, none⟩ = some (.int .i64 h4) := hb2_5.cell 4
  have c2_5 : w5.cell? ⟨w4.heap.size, 5, none⟩ = some (.int .i64 h5) := hb2_5.cell 5
  have c2_6 : w5.cell? ⟨w4.heap.size, 6, none⟩ = some (.int .i64 h6) := hb2_5.cell 6
  have z2 : w4.heap.size < w5.heap.size := hb2_5.lt
  have n2 : w4.heap.size ≠ w5.heap.size := by omega
  go_wp2_with fail
  go_ret
  exact ⟨rfl, hB5⟩
theorem hdrBack_any (h : Hd) (s : ByteArray) (w : World) :
    Calls Try.prog 5 #[.agg (hdL h), .string s] w fun e w' => e = .returned (.bool true) ∧ Below w.heap.size w w' := by
  have A12 := fun W => hbuild_any h W
  by_cases hl : s.size ≤ 1600
  · have hz : (((offS s).size : Int) != (s.size : Int)) = false := by rw [(fin_off s).2.2]; simp
    by_cases ok : okH h = true
    · obtain ⟨e1, e2, e3, e4, e5⟩ := hd_back h s ok
      have A10 := fun W => hparse_any (hdS h ++ s) W (by rw [ByteArray.size_append, e4]; unfold maxLen; omega)
      rw [e1, e2, e3] at A10
      rw [e5] at A12
      exact hdrBack_short1 s _ _ _ _ _ _ _ _ _ _ _ _ _ _ _ _ w hl hz (fun W => offload_any s W (by omega)) (fun W => fin_back s W (by omega)) A12 e4 A10 (fun W => fixed_any W)
    · rw [hdS, hdF, if_neg ok, if_neg ok] at A12
      exact hdrBack_short0 s _ _ _ _ _ _ _ _ _ _ _ _ _ _ _ w hl hz (fun W => offload_any s W (by omega)) (fun W => fin_back s W (by omega)) A12 (fun W => fixed_any W)
  · have hs : (s.extract 0 1600).size ≤ 281474976710656 := by rw [ByteArray.size_extract]; omega
    have hz : (((offS (s.extract 0 1600)).size : Int) != ((s.extract 0 1600).size : Int)) = false := by rw [(fin_off (s.extract 0 1600)).2.2]; simp
    by_cases ok : okH h = true
    · obtain ⟨e1, e2, e3, e4, e5⟩ := hd_back h (s.extract 0 1600) ok
      have A10 := fun W => hparse_any (hdS h ++ s.extract 0 1600) W (by rw [ByteArray.size_append, e4]; unfold maxLen; omega)
      rw [e1, e2, e3] at A10
      rw [e5] at A12
      exact hdrBack_long1 s _ _ _ _ _ _ _ _ _ _ _ _ _ _ _ _ w (by omega) hz (fun W => offload_any (s.extract 0 1600) W hs) (fun W => fin_back (s.extract 0 1600) W hs) A12 e4 A10 (fun W => fixed_any W)
    · rw [hdS, hdF, if_neg ok, if_neg ok] at A12
      exact hdrBack_long0 s _ _ _ _ _ _ _ _ _ _ _ _ _ _ _ w (by omega) hz (fun W => offload_any (s.extract 0 1600) W hs) (fun W => fin_back (s.extract 0 1600) W hs) A12 (fun W => fixed_any W)

set_option maxRecDepth 100000 in
theorem hdrBack_lifted (os : Os) (started : os.Started) (H : Type) (enc : TypeId × Value → H) :
    ReturnsInHanded {} Try.checked os 5 .any (Rows.hdrBackSpec.pre6 enc Try.prog Try.f5 Rows.hdrBackRow.domain false) (Rows.hdrBackSpec.post enc Try.prog Try.f5 false true false false) := by
  have e : Try.f5.params.toList = [23, 9] := by rw [Try.params5]
  refine law_of_walk (C := Try.checked) (tb := 4) H enc Try.own started (by kernel_rfl) Try.func5 Try.laidOut rfl rfl Try.underlying4 ?_ ?_
    (ChangeSpec.witness6 (enc := enc) (C := Try.checked) false ⟨#[], #[.agg #[.int .i64 0, .int .i64 0, .int .i64 0, .int .i64 0, .int .i64 0, .int .i64 0, .int .i64 0], .string ByteArray.empty], []⟩ 8 (by kernel_rfl) (by kernel_rfl) (by kernel_rfl) (by kernel_rfl)) ?_
  · rw [e]
    intro t ht
    simp only [List.mem_cons, List.not_mem_nil, or_false] at ht
    rcases ht with rfl | rfl <;> exact ⟨by kernel_rfl, of_decide_eq_true (by kernel_rfl)⟩
  · intro ds hds
    rw [e] at hds
    match ds, hds with
    | [d0, d1], _ => rfl
  · intro W base args ds p hval0 hA0 hsz0
    have hval : ∀ (j : Nat) t v, Try.f5.params[j]? = some t → args[j]? = some v → Value.okWide Try.prog W .any base t v := hval0
    have hA : DataW.TrodAll enc Try.prog W 0 (fun _ => true) true Try.f5.params.toList args.toList ds p := hA0
    have hsz : (DataW.weightsEach Try.prog Try.f5.params.toList ds).all (· ≤ reachBytes) = true := hsz0
    rw [Try.params5] at hA hval hsz
    obtain ⟨v0, v1, d0, d1, p0, p1, rfl, rfl, rfl, h0, h1⟩ := trodAll_two hA
    obtain ⟨x0, rfl, rfl, k0⟩ := open_hdr (hval 0 23 v0 rfl rfl) h0
    obtain ⟨x1, rfl, rfl, rfl, _⟩ := open_string Try.underlying9 (hval 1 9 v1 rfl rfl) h1
    have s1 := sized_string hsz (j := 1) (t := 9) rfl rfl
    simp only [reachBytes] at s1
    exact hdrBack_any x0 x1 W

theorem hdrBack_holds : Rows.HdrBackSaid :=
  OpenClaim.holds_of_wide 5 Try.f5 rfl rfl rfl rfl rfl rfl rfl ⟨rfl, rfl, rfl, rfl, rfl⟩ rfl rfl rfl rfl rfl (by kernel_rfl) Try.func5 (by kernel_rfl)
    (of_decide_eq_true (by kernel_rfl)) (by unfold Func.isWrapper; first | (rw [if_pos (by decide +kernel)]; kernel_rfl) | (rw [if_neg (by decide +kernel)]; exact ⟨rfl, rfl⟩))
    (fun os started H enc _ => hdrBack_lifted os started H enc)
end Go.Proofs.Ytalkpllmcigjnaa

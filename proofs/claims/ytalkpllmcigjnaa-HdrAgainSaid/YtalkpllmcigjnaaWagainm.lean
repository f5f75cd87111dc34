/-
  For every input the law HdrAgain returns true, and its arguments read afterwards as before; no condition beyond the form's own reach.
-/
import Derived.Test.YtalkpllmcigjnaaMk
import Derived.Test.YtalkpllmcigjnaaMv
import Derived.Test.YtalkpllmcigjnaaMu
namespace Go.Proofs.Ytalkpllmcigjnaa
open Go.Joins Go.ChangeShapes Go.WideShapes Go.ChangeAt Go.RowKit Go.Deep
open Go.ChangeMaps (open_string)

set_option maxRecDepth 100000 in
set_option maxHeartbeats 3200000 in
theorem hdrAgain_short (s T : ByteArray) (a0 a1 a2 a3 a4 a5 a6 : Int) (w : World) (h : s.size ≤ 1600)
    (A17 : ∀ W, Calls Try.prog 17 #[.string s] W fun e w' => e = .returned (.tuple #[.agg #[.int .i64 a0, .int .i64 a1, .int .i64 a2, .int .i64 a3, .int .i64 a4, .int .i64 a5, .int .i64 a6], .string T]) ∧ Below W.heap.size W w')
    (A15 : ∀ W, Calls Try.prog 15 #[.agg #[.int .i64 a0, .int .i64 a1, .int .i64 a2, .int .i64 a3, .int .i64 a4, .int .i64 a5, .int .i64 a6], .string T] W fun e w' => e = .returned (.tuple #[.string s, .int .i64 0]) ∧ Below W.heap.size W w')
    (A14 : ∀ W, Calls Try.prog 14 #[] W fun e w' => e = .returned (.bool true) ∧ Below W.heap.size W w') :
    Calls Try.prog 9 #[.string s] w fun e w' => e = .returned (.bool true) ∧ Below w.heap.size w w' := by
  have H14 := Lib.hid A14
  have H15 := Lib.hid A15
  have H17 := Lib.hid A17
  clear A14 A15 A17
  go_enter Try.func9, Try.ntmps9
  go_wp2_with fail
  refine (H17.out _).mono ?_
  rintro e w1 ⟨rfl, hq⟩
  have hB1 := hq
  clear hq
  go_wp2_with fail
  refine (H15.out _).mono ?_
  rintro e w2 ⟨rfl, hq⟩
  have hb0_2 : Blk w2 w1.heap.size 23 #[.int .i64 a0, .int .i64 a1, .int .i64 a2, .int .i64 a3, .int .i64 a4, .int .i64 a5, .int .i64 a6] := (Blk.new w1 23 _).same (hq.block _ (by simp))
  have hB2 := (hB1.alloc (hB1.size) _).trans (hq.mono (by have := hB1.size; simp; omega))
  clear hq hB1
  have c0_0 : w2.cell? ⟨w1.heap.size, 0, none⟩ = some (.int .i64 a0) := hb0_2.cell 0
  have c0_1 : w2.cell? ⟨w1.heap.size, 1, none⟩ = some (.int .i64 a1) := hb0_2.cell 1
  have c0_2 : w2.cell? ⟨w1.heap.size, 2, none⟩ = some (.int .i64 a2) := hb0_2.cell 2
  have c0_3 : w2.cell? ⟨w1.heap.size, 3, none⟩ = some (.int .i64 a3) := hb0_2.cell 3
  have c0_4 : w2.cell? ⟨w1.heap.size, 4, none⟩ = some (.int .i64 a4) := hb0_2.cell 4
  have c0_5 : w2.cell? ⟨w1.heap.size, 5, none⟩ = some (.int .i64 a5) := hb0_2.cell 5
  have c0_6 : w2.cell? ⟨w1.heap.size, 6, none⟩ = some (.int .i64 a6) := hb0_2.cell 6
  have z0 : w1.heap.size < w2.heap.size := hb0_2.lt
  have n0 : w1.heap.size ≠ w2.heap.size := by omega
  go_wp2_with fail
  refine (H17.out _).mono ?_
  rintro e w3 ⟨rfl, hq⟩
  have hb0_3 : Blk w3 w1.heap.size 23 #[.int .i64 a0, .int .i64 a1, .int .i64 a2, .int .i64 a3, .int .i64 a4, .int .i64 a5, .int .i64 a6] := hb0_2.same (hq.block _ hb0_2.lt)
  have hB3 := hB2.trans (hq.mono hB2.size)
  clear hq hb0_2 hB2 c0_0 c0_1 c0_2 c0_3 c0_4 c0_5 c0_6 n0 z0
  have c0_0 : w3.cell? ⟨w1.heap.size, 0, none⟩ = some (.int .i64 a0) := hb0_3.cell 0
  have c0_1 : w3.cell? ⟨w1.heap.size, 1, none⟩ = some (.int .i64 a1) := hb0_3.cell 1
  have c0_2 : w3.cell? ⟨w1.heap.size, 2, none⟩ = some (.int .i64 a2) := hb0_3.cell 2
  have c0_3 : w3.cell? ⟨w1.heap.size, 3, none⟩ = some (.int .i64 a3) := hb0_3.cell 3
  have c0_4 : w3.cell? ⟨w1.heap.size, 4, none⟩ = some (.int .i64 a4) := hb0_3.cell 4
  have c0_5 : w3.cell? ⟨w1.heap.size, 5, none⟩ = some (.int .i64 a5) := hb0_3.cell 5
  have c0_6 : w3.cell? ⟨w1.heap.size, 6, none⟩ = some (.int .i64 a6) := hb0_3.cell 6
  have z0 : w1.heap.size < w3.heap.size := hb0_3.lt
  have n0 : w1.heap.size ≠ w3.heap.size := by omega
  go_wp2_with fail
  refine (H15.out _).mono ?_
  rintro e w4 ⟨rfl, hq⟩
  have hb0_4 : Blk w4 w1.heap.size 23 #[.int .i64 a0, .int .i64 a1, .int .i64 a2, .int .i64 a3, .int .i64 a4, .int .i64 a5, .int .i64 a6] := (hb0_3.alloc _).same (hq.block _ (by have := hb0_3.lt; simp; omega))
  have hb1_4 : Blk w4 w3.heap.size 23 #[.int .i64 a0, .int .i64 a1, .int .i64 a2, .int .i64 a3, .int .i64 a4, .int .i64 a5, .int .i64 a6] := (Blk.new w3 23 _).same (hq.block _ (by simp))
  have hB4 := (hB3.alloc (hB3.size) _).trans (hq.mono (by have := hB3.size; simp; omega))
  clear hq hb0_3 hB3 c0_0 c0_1 c0_2 c0_3 c0_4 c0_5 c0_6 n0 z0
  have c0_0 : w4.cell? ⟨w1.heap.size, 0, none⟩ = some (.int .i64 a0) := hb0_4.cell 0
  have c0_1 : w4.cell? ⟨w1.heap.size, 1, none⟩ = some (.int .i64 a1) := hb0_4.cell 1
  have c0_2 : w4.cell? ⟨w1.heap.size, 2, none⟩ = some (.int .i64 a2) := hb0_4.cell 2
  have c0_3 : w4.cell? ⟨w1.heap.size, 3, none⟩ = some (.int .i64 a3) := hb0_4.cell 3
  have c0_4 : w4.cell? ⟨w1.heap.size, 4, none⟩ = some (.int .i64 a4) := hb0_4.cell 4
  have c0_5 : w4.cell? ⟨w1.heap.size, 5, none⟩ = some (.int .i64 a5) := hb0_4.cell 5
  have c0_6 : w4.cell? ⟨w1.heap.size, 6, none⟩ = some (.int .i64 a6) := hb0_4.cell 6
  have z0 : w1.heap.size < w4.heap.size := hb0_4.lt
  have n0 : w1.heap.size ≠ w4.heap.size := by omega
  have c1_0 : w4.cell? ⟨w3.heap.size, 0, none⟩ = some (.int .i64 a0) := hb1_4.cell 0
  have c1_1 : w4.cell? ⟨w3.heap.size, 1, none⟩ = some (.int .i64 a1) := hb1_4.cell 1
  have c1_2 : w4.cell? ⟨w3.heap.size, 2, none⟩ = some (.int .i64 a2) := hb1_4.cell 2
  have c1_3 : w4.cell? ⟨w3.heap.size, 3, none⟩ = some (.int .i64 a3) := hb1_4.cell 3
  have c1_4 : w4.cell? ⟨w3.heap.size, 4, none⟩ = some (.int .i64 a4) := hb1_4.cell 4
  have c1_5 : w4.cell? ⟨w3.heap.size, 5, none⟩ = some (.int .i64 a5) := hb1_4.cell 5
  have c1_6 : w4.cell? ⟨w3.heap.size, 6, none⟩ = some (.int .i64 a6) := hb1_4.cell 6
  have z1 : w3.heap.size < w4.heap.size := hb1_4.lt
  have n1 : w3.heap.size ≠ w4.heap.size := by omega
  go_wp2_with fail
  refine (H14.out _).mono ?_
  rintro e w5 ⟨rfl, hq⟩
  have hb0_5 : Blk w5 w1.heap.size 23 #[.int .i64 a0, .int .i64 a1, .int .i64 a2, .int .i64 a3, .int .i64 a4, .int .i64 a5, .int .i64 a6] := hb0_4.same (hq.block _ hb0_4.lt)
  have hb1_5 : Blk w5 w3.heap.size 23 #[.int .i64 a0, .int .i64 a1, .int .i64 a2, .int .i64 a3, .int .i64 a4, .int .i64 a5, .int .i64 a6] := hb1_4.same (hq.block _ hb1_4.lt)
  have hB5 := hB4.trans (hq.mono hB4.size)
  clear hq hb0_4 hb1_4 hB4 c0_0 c0_1 c0_2 c0_3 c0_4 c0_5 c0_6 n0 c1_0 c1_1 c1_2 c1_3 c1_4 c1_5 c1_6 n1 z0 z1
  have c0_0 : w5.cell? ⟨w1.heap.size, 0, none⟩ = some (.int .i64 a0) := hb0_5.cell 0
  have c0_1 : w5.cell? ⟨w1.heap.size, 1, none⟩ = some (.int .i64 a1) := hb0_5.cell 1
  have c0_2 : w5.cell? ⟨w1.heap.size, 2, none⟩ = some (.int .i64 a2) := hb0_5.cell 2
  have c0_3 : w5.cell? ⟨w1.heap.size, 3, none⟩ = some (.int .i64 a3) := hb0_5.cell 3
  have c0_4 : w5.cell? ⟨w1.heap.size, 4, none⟩ = some (.int .i64 a4) := hb0_5.cell 4
  have c0_5 : w5.cell? ⟨w1.heap.size, 5, none⟩ = some (.int .i64 a5) := hb0_5.cell 5
  have c0_6 : w5.cell? ⟨w1.heap.size, 6, none⟩ = some (.int .i64 a6) := hb0_5.cell 6
  have z0 : w1.heap.size < w5.heap.size := hb0_5.lt
  have n0 : w1.heap.size ≠ w5.heap.size := by omega
  have c1_0 : w5.cell? ⟨w3.heap.size, 0, none⟩ = some (.int .i64 a0) := hb1_5.cell 0
  have c1_1 : w5.cell? ⟨w3.heap.size, 1, none⟩ = some (.int .i64 a1) := hb1_5.cell 1
  have c1_2 : w5.cell? ⟨w3.heap.size, 2, none⟩ = some (.int .i64 a2) := hb1_5.cell 2
  have c1_3 : w5.cell? ⟨w3.heap.size, 3, none⟩ = some (.int .i64 a3) := hb1_5.cell 3
  have c1_4 : w5.cell? ⟨w3.heap.size, 4, none⟩ = some (.int .i64 a4) := hb1_5.cell 4
  have c1_5 : w5.cell? ⟨w3.heap.size, 5, none⟩ = some (.int .i64 a5) := hb1_5.cell 5
  have c1_6 : w5.cell? ⟨w3.heap.size, 6, none⟩ = some (.int .i64 a6) := hb1_5.cell 6
  have z1 : w3.heap.size < w5.heap.size := hb1_5.lt
  have n1 : w3.heap.size ≠ w5.heap.size := by omega
  go_wp2_with fail
  go_ret
  exact ⟨rfl, hB5⟩
set_option maxRecDepth 100000 in
set_option maxHeartbeats 3200000 in
theorem hdrAgain_long (s T : ByteArray) (a0 a1 a2 a3 a4 a5 a6 : Int) (w : World) (h : 1600 < s.size)
    (A17 : ∀ W, Calls Try.prog 17 #[.string (s.extract 0 1600)] W fun e w' => e = .returned (.tuple #[.agg #[.int .i64 a0, .int .i64 a1, .int .i64 a2, .int .i64 a3, .int .i64 a4, .int .i64 a5, .int .i64 a6], .string T]) ∧ Below W.heap.size W w')
    (A15 : ∀ W, Calls Try.prog 15 #[.agg #[.int .i64 a0, .int .i64 a1, .int .i64 a2, .int .i64 a3, .int .i64 a4, .int .i64 a5, .int .i64 a6], .string T] W fun e w' => e = .returned (.tuple #[.string (s.extract 0 1600), .int .i64 0]) ∧ Below W.heap.size W w')
    (A14 : ∀ W, Calls Try.prog 14 #[] W fun e w' => e = .returned (.bool true) ∧ Below W.heap.size W w') :
    Calls Try.prog 9 #[.string s] w fun e w' => e = .returned (.bool true) ∧ Below w.heap.size w w' := by
  have H14 := Lib.hid A14
  have H15 := Lib.hid A15
  have H17 := Lib.hid A17
  clear A14 A15 A17
  go_enter Try.func9, Try.ntmps9
  go_wp2_with fail
  refine (H17.out _).mono ?_
  rintro e w1 ⟨rfl, hq⟩
  have hB1 := hq
  clear hq
  go_wp2_with fail
  refine (H15.out _).mono ?_
  rintro e w2 ⟨rfl, hq⟩
  have hb0_2 : Blk w2 w1.heap.size 23 #[.int .i64 a0, .int .i64 a1, .int .i64 a2, .int .i64 a3, .int .i64 a4, .int .i64 a5, .int .i64 a6] := (Blk.new w1 23 _).same (hq.block _ (by simp))
  have hB2 := (hB1.alloc (hB1.size) _).trans (hq.mono (by have := hB1.size; simp; omega))
  clear hq hB1
  have c0_0 : w2.cell? ⟨w1.heap.size, 0, none⟩ = some (.int .i64 a0) := hb0_2.cell 0
  have c0_1 : w2.cell? ⟨w1.heap.size, 1, none⟩ = some (.int .i64 a1) := hb0_2.cell 1
  have c0_2 : w2.cell? ⟨w1.heap.size, 2, none⟩ = some (.int .i64 a2) := hb0_2.cell 2
  have c0_3 : w2.cell? ⟨w1.heap.size, 3, none⟩ = some (.int .i64 a3) := hb0_2.cell 3
  have c0_4 : w2.cell? ⟨w1.heap.size, 4, none⟩ = some (.int .i64 a4) := hb0_2.cell 4
  have c0_5 : w2.cell? ⟨w1.heap.size, 5, none⟩ = some (.int .i64 a5) := hb0_2.cell 5
  have c0_6 : w2.cell? ⟨w1.heap.size, 6, none⟩ = some (.int .i64 a6) := hb0_2.cell 6
  have z0 : w1.heap.size < w2.heap.size := hb0_2.lt
  have n0 : w1.heap.size ≠ w2.heap.size := by omega
  go_wp2_with fail
  refine (H17.out _).mono ?_
  rintro e w3 ⟨rfl, hq⟩
  have hb0_3 : Blk w3 w1.heap.size 23 #[.int .i64 a0, .int .i64 a1, .int .i64 a2, .int .i64 a3, .int .i64 a4, .int .i64 a5, .int .i64 a6] := hb0_2.same (hq.block _ hb0_2.lt)
  have hB3 := hB2.trans (hq.mono hB2.size)
  clear hq hb0_2 hB2 c0_0 c0_1 c0_2 c0_3 c0_4 c0_5 c0_6 n0 z0
  have c0_0 : w3.cell? ⟨w1.heap.size, 0, none⟩ = some (.int .i64 a0) := hb0_3.cell 0
  have c0_1 : w3.cell? ⟨w1.heap.size, 1, none⟩ = some (.int .i64 a1) := hb0_3.cell 1
  have c0_2 : w3.cell? ⟨w1.heap.size, 2, none⟩ = some (.int .i64 a2) := hb0_3.cell 2
  have c0_3 : w3.cell? ⟨w1.heap.size, 3, none⟩ = some (.int .i64 a3) := hb0_3.cell 3
  have c0_4 : w3.cell? ⟨w1.heap.size, 4, none⟩ = some (.int .i64 a4) := hb0_3.cell 4
  have c0_5 : w3.cell? ⟨w1.heap.size, 5, none⟩ = some (.int .i64 a5) := hb0_3.cell 5
  have c0_6 : w3.cell? ⟨w1.heap.size, 6, none⟩ = some (.int .i64 a6) := hb0_3.cell 6
  have z0 : w1.heap.size < w3.heap.size := hb0_3.lt
  have n0 : w1.heap.size ≠ w3.heap.size := by omega
  go_wp2_with fail
  refine (H15.out _).mono ?_
  rintro e w4 ⟨rfl, hq⟩
  have hb0_4 : Blk w4 w1.heap.size 23 #[.int .i64 a0, .int .i64 a1, .int .i64 a2, .int .i64 a3, .int .i64 a4, .int .i64 a5, .int .i64 a6] := (hb0_3.alloc _).same (hq.block _ (by have := hb0_3.lt; simp; omega))
  have hb1_4 : Blk w4 w3.heap.size 23 #[.int .i64 a0, .int .i64 a1, .int .i64 a2, .int .i64 a3, .int .i64 a4, .int .i64 a5, .int .i64 a6] := (Blk.new w3 23 _).same (hq.block _ (by simp))
  have hB4 := (hB3.alloc (hB3.size) _).trans (hq.mono (by have := hB3.size; simp; omega))
  clear hq hb0_3 hB3 c0_0 c0_1 c0_2 c0_3 c0_4 c0_5 c0_6 n0 z0
  have c0_0 : w4.cell? ⟨w1.heap.size, 0, none⟩ = some (.int .i64 a0) := hb0_4.cell 0
  have c0_1 : w4.cell? ⟨w1.heap.size, 1, none⟩ = some (.int .i64 a1) := hb0_4.cell 1
  have c0_2 : w4.cell? ⟨w1.heap.size, 2, none⟩ = some (.int .i64 a2) := hb0_4.cell 2
  have c0_3 : w4.cell? ⟨w1.heap.size, 3, none⟩ = some (.int .i64 a3) := hb0_4.cell 3
  have c0_4 : w4.cell? ⟨w1.heap.size, 4, none⟩ = some (.int .i64 a4) := hb0_4.cell 4
  have c0_5 : w4.cell? ⟨w1.heap.size, 5, none⟩ = some (.int .i64 a5) := hb0_4.cell 5
  have c0_6 : w4.cell? ⟨w1.heap.size, 6, none⟩ = some (.int .i64 a6) := hb0_4.cell 6
  have z0 : w1.heap.size < w4.heap.size := hb0_4.lt
  have n0 : w1.heap.size ≠ w4.heap.size := by omega
  have c1_0 : w4.cell? ⟨w3.heap.size, 0, none⟩ = some (.int .i64 a0) := hb1_4.cell 0
  have c1_1 : w4.cell? ⟨w3.heap.size, 1, none⟩ = some (.int .i64 a1) := hb1_4.cell 1
  have c1_2 : w4.cell? ⟨w3.heap.size, 2, none⟩ = some (.int .i64 a2) := hb1_4.cell 2
  have c1_3 : w4.cell? ⟨w3.heap.size, 3, none⟩ = some (.int .i64 a3) := hb1_4.cell 3
  have c1_4 : w4.cell? ⟨w3.heap.size, 4, none⟩ = some (.int .i64 a4) := hb1_4.cell 4
  have c1_5 : w4.cell? ⟨w3.heap.size, 5, none⟩ = some (.int .i64 a5) := hb1_4.cell 5
  have c1_6 : w4.cell? ⟨w3.heap.size, 6, none⟩ = some (.int .i64 a6) := hb1_4.cell 6
  have z1 : w3.heap.size < w4.heap.size := hb1_4.lt
  have n1 : w3.heap.size ≠ w4.heap.size := by omega
  go_wp2_with fail
  refine (H14.out _).mono ?_
  rintro e w5 ⟨rfl, hq⟩
  have hb0_5 : Blk w5 w1.heap.size 23 #[.int .i64 a0, .int .i64 a1, .int .i64 a2, .int .i64 a3, .int .i64 a4, .int .i64 a5, .int .i64 a6] := hb0_4.same (hq.block _ hb0_4.lt)
  have hb1_5 : Blk w5 w3.heap.size 23 #[.int .i64 a0, .int .i64 a1, .int .i64 a2, .int .i64 a3, .int .i64 a4, .int .i64 a5, .int .i64 a6] := hb1_4.same (hq.block _ hb1_4.lt)
  have hB5 := hB4.trans (hq.mono hB4.size)
  clear hq hb0_4 hb1_4 hB4 c0_0 c0_1 c0_2 c0_3 c0_4 c0_5 c0_6 n0 c1_0 c1_1 c1_2 c1_3 c1_4 c1_5 c1_6 n1 z0 z1
  have c0_0 : w5.cell? ⟨w1.heap.size, 0, none⟩ = some (.int .i64 a0) := hb0_5.cell 0
  have c0_1 : w5.cell? ⟨w1.heap.size, 1, none⟩ = some (.int .i64 a1) := hb0_5.cell 1
  have c0_2 : w5.cell? ⟨w1.heap.size, 2, none⟩ = some (.int .i64 a2) := hb0_5.cell 2
  have c0_3 : w5.cell? ⟨w1.heap.size, 3, none⟩ = some (.int .i64 a3) := hb0_5.cell 3
  have c0_4 : w5.cell? ⟨w1.heap.size, 4, none⟩ = some (.int .i64 a4) := hb0_5.cell 4
  have c0_5 : w5.cell? ⟨w1.heap.size, 5, none⟩ = some (.int .i64 a5) := hb0_5.cell 5
  have c0_6 : w5.cell? ⟨w1.heap.size, 6, none⟩ = some (.int .i64 a6) := hb0_5.cell 6
  have z0 : w1.heap.size < w5.heap.size := hb0_5.lt
  have n0 : w1.heap.size ≠ w5.heap.size := by omega
  have c1_0 : w5.cell? ⟨w3.heap.size, 0, none⟩ = some (.int .i64 a0) := hb1_5.cell 0
  have c1_1 : w5.cell? ⟨w3.heap.size, 1, none⟩ = some (.int .i64 a1) := hb1_5.cell 1
  have c1_2 : w5.cell? ⟨w3.heap.size, 2, none⟩ = some (.int .i64 a2) := hb1_5.cell 2
  have c1_3 : w5.cell? ⟨w3.heap.size, 3, none⟩ = some (.int .i64 a3) := hb1_5.cell 3
  have c1_4 : w5.cell? ⟨w3.heap.size, 4, none⟩ = some (.int .i64 a4) := hb1_5.cell 4
  have c1_5 : w5.cell? ⟨w3.heap.size, 5, none⟩ = some (.int .i64 a5) := hb1_5.cell 5
  have c1_6 : w5.cell? ⟨w3.heap.size, 6, none⟩ = some (.int .i64 a6) := hb1_5.cell 6
  have z1 : w3.heap.size < w5.heap.size := hb1_5.lt
  have n1 : w3.heap.size ≠ w5.heap.size := by omega
  go_wp2_with fail
  go_ret
  exact ⟨rfl, hB5⟩
theorem hdrAgain_any (s : ByteArray) (w : World) :
    Calls Try.prog 9 #[.string s] w fun e w' => e = .returned (.bool true) ∧ Below w.heap.size w w' := by
  by_cases hl : s.size ≤ 1600
  · exact hdrAgain_short s _ _ _ _ _ _ _ _ w hl (fun W => offload_any s W (by omega)) (fun W => fin_back s W (by omega)) (fun W => fixed_any W)
  · have hz : (s.extract 0 1600).size ≤ 281474976710656 := by rw [ByteArray.size_extract]; omega
    exact hdrAgain_long s _ _ _ _ _ _ _ _ w (by omega) (fun W => offload_any (s.extract 0 1600) W hz) (fun W => fin_back (s.extract 0 1600) W hz) (fun W => fixed_any W)

set_option maxRecDepth 100000 in
theorem hdrAgain_lifted (os : Os) (started : os.Started) (H : Type) (enc : TypeId × Value → H) :
    ReturnsInHanded {} Try.checked os 9 .any (Rows.hdrAgainSpec.pre6 enc Try.prog Try.f9 Rows.hdrAgainRow.domain false) (Rows.hdrAgainSpec.post enc Try.prog Try.f9 false true false false) := by
  have e : Try.f9.params.toList = [9] := by rw [Try.params9]
  refine law_of_walk (C := Try.checked) (tb := 4) H enc Try.own started (by kernel_rfl) Try.func9 Try.laidOut rfl rfl Try.underlying4 ?_ ?_
    (ChangeSpec.witness6 (enc := enc) (C := Try.checked) false ⟨#[], #[.string ByteArray.empty], []⟩ 8 (by kernel_rfl) (by kernel_rfl) (by kernel_rfl) (by kernel_rfl)) ?_
  · rw [e]
    intro t ht
    simp only [List.mem_cons, List.not_mem_nil, or_false] at ht
    rcases ht with rfl <;> exact ⟨by kernel_rfl, of_decide_eq_true (by kernel_rfl)⟩
  · intro ds hds
    rw [e] at hds
    match ds, hds with
    | [d0], _ => rfl
  · intro W base args ds p hval0 hA0 hsz0
    have hval : ∀ (j : Nat) t v, Try.f9.params[j]? = some t → args[j]? = some v → Value.okWide Try.prog W .any base t v := hval0
    have hA : DataW.TrodAll enc Try.prog W 0 (fun _ => true) true Try.f9.params.toList args.toList ds p := hA0
    have hsz : (DataW.weightsEach Try.prog Try.f9.params.toList ds).all (· ≤ reachBytes) = true := hsz0
    rw [Try.params9] at hA hval hsz
    obtain ⟨v0, d0, rfl, rfl, h0⟩ := trodAll_one hA
    obtain ⟨x0, rfl, rfl, rfl, _⟩ := open_string Try.underlying9 (hval 0 9 v0 rfl rfl) h0
    have s0 := sized_string hsz (j := 0) (t := 9) rfl rfl
    simp only [reachBytes] at s0
    exact hdrAgain_any x0 W

theorem hdrAgain_holds : Rows.HdrAgainSaid :=
  OpenClaim.holds_of_wide 9 Try.f9 rfl rfl rfl rfl rfl rfl rfl ⟨rfl, rfl, rfl, rfl, rfl⟩ rfl rfl rfl rfl rfl (by kernel_rfl) Try.func9 (by kernel_rfl)
    (of_decide_eq_true (by kernel_rfl)) (by unfold Func.isWrapper; first | (rw [if_pos (by decide +kernel)]; kernel_rfl) | (rw [if_neg (by decide +kernel)]; exact ⟨rfl, rfl⟩))
    (fun os started H enc _ => hdrAgain_lifted os started H enc)
end Go.Proofs.Ytalkpllmcigjnaa

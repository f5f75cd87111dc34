/-
  For every input the law SpotSteps returns true, and its arguments read afterwards as before; no condition beyond the form's own reach.
-/
import Derived.Test.YtcofbaioflfehaaWfr
import Derived.Test.YtcofbaioflfehaaSfx
namespace Go.Proofs.Ytcofbaioflfehaa
open Go.Joins Go.ChangeShapes Go.WideShapes Go.ChangeAt Go.RowKit Go.Deep
open Go.ChangeMaps (open_string)

set_option maxRecDepth 100000 in
set_option maxHeartbeats 3200000 in
theorem spotSteps_walk (o : Int) (u : Bool) (f a : Int) (b : Bool) (c : Int) (d : Bool) (k n : Int) (X E G D Z : Int) (Y : Bool) (w : World)
    (A1 : ∀ W, Calls Try.prog 10 #[.agg #[.int .i64 a, .bool b], .int .i64 k, .int .i64 n] W fun e w' => e = .returned (.tuple #[.agg #[.int .i64 X, .bool Y], .int .i64 E]) ∧ Below W.heap.size W w')
    (A2 : ∀ W, Calls Try.prog 11 #[.agg #[.int .i64 a, .bool b], .int .i64 k, .int .i64 n] W fun e w' => e = .returned (.tuple #[.agg #[.int .i64 X, .bool Y], .int .i64 E]) ∧ Below W.heap.size W w')
    (A3 : ∀ W, Calls Try.prog 12 #[.agg #[.int .i64 a, .bool b], .agg #[.int .i64 c, .bool d], .int .i64 n] W fun e w' => e = .returned (.tuple #[.int .i64 G, .int .i64 D]) ∧ Below W.heap.size W w')
    (A4 : ∀ W, Calls Try.prog 13 #[.agg #[.int .i64 a, .bool b], .agg #[.int .i64 c, .bool d], .int .i64 n] W fun e w' => e = .returned (.tuple #[.int .i64 G, .int .i64 D]) ∧ Below W.heap.size W w')
    (A5 : ∀ W, Calls Try.prog 15 #[.agg #[.int .i64 a, .bool b], .int .i64 n] W fun e w' => e = .returned (.int .i64 Z) ∧ Below W.heap.size W w')
    (A7 : ∀ W, Calls Try.prog 16 #[.agg #[.int .i64 a, .bool b], .int .i64 n] W fun e w' => e = .returned (.int .i64 Z) ∧ Below W.heap.size W w')
    (AF : ∀ W, Calls Try.prog 14 #[] W fun e w' => e = .returned (.bool true) ∧ Below W.heap.size W w') :
    Calls Try.prog 3 #[.agg #[.int .i64 o, .bool u, .int .i64 f, .int .i64 a, .bool b, .int .i64 c, .bool d, .int .i64 k, .int .i64 n]] w fun e w' => e = .returned (.bool true) ∧ Below w.heap.size w w' := by
  have H1 := Lib.hid A1
  have H2 := Lib.hid A2
  have H3 := Lib.hid A3
  have H4 := Lib.hid A4
  have H5 := Lib.hid A5
  have H7 := Lib.hid A7
  have HF := Lib.hid AF
  clear A1 A2 A3 A4 A5 A7 AF
  go_enter Try.func3, Try.ntmps3
  go_wp2_with fail
  have q0 := (H9.new w 27 (.int .i64 o) (.bool u) (.int .i64 f) (.int .i64 a) (.bool b) (.int .i64 c) (.bool d) (.int .i64 k) (.int .i64 n)).drew
  have q1 := ((H9.new w 27 (.int .i64 o) (.bool u) (.int .i64 f) (.int .i64 a) (.bool b) (.int .i64 c) (.bool d) (.int .i64 k) (.int .i64 n)).alloc (.cells #[.int .i64 0, .bool false] 25)).drew
  have q2 := (((H9.new w 27 (.int .i64 o) (.bool u) (.int .i64 f) (.int .i64 a) (.bool b) (.int .i64 c) (.bool d) (.int .i64 k) (.int .i64 n)).alloc (.cells #[.int .i64 0, .bool false] 25)).alloc (.cells #[.int .i64 0, .bool false] 25)).drew
  have q3 := (((H9.new w 27 (.int .i64 o) (.bool u) (.int .i64 f) (.int .i64 a) (.bool b) (.int .i64 c) (.bool d) (.int .i64 k) (.int .i64 n)).alloc (.cells #[.int .i64 a, .bool b] 25)).alloc (.cells #[.int .i64 0, .bool false] 25)).drew
  have q4 := (((H9.new w 27 (.int .i64 o) (.bool u) (.int .i64 f) (.int .i64 a) (.bool b) (.int .i64 c) (.bool d) (.int .i64 k) (.int .i64 n)).alloc (.cells #[.int .i64 0, .bool false] 25)).alloc (.cells #[.int .i64 a, .bool b] 25)).drew
  have q5 := (((H9.new w 27 (.int .i64 o) (.bool u) (.int .i64 f) (.int .i64 a) (.bool b) (.int .i64 c) (.bool d) (.int .i64 k) (.int .i64 n)).alloc (.cells #[.int .i64 a, .bool b] 25)).alloc (.cells #[.int .i64 c, .bool d] 25)).drew
  have q6 := (((H9.new w 27 (.int .i64 o) (.bool u) (.int .i64 f) (.int .i64 a) (.bool b) (.int .i64 c) (.bool d) (.int .i64 k) (.int .i64 n)).alloc (.cells #[.int .i64 c, .bool d] 25)).alloc (.cells #[.int .i64 a, .bool b] 25)).drew
  unfold H9 at q0 q1 q2 q3 q4 q5 q6
  go_region_held3 (fun w' => (w'.cell? ⟨w.heap.size, 0, none⟩ = some (.int .i64 o) ∧ w'.cell? ⟨w.heap.size, 1, none⟩ = some (.bool u) ∧ w'.cell? ⟨w.heap.size, 2, none⟩ = some (.int .i64 f) ∧ w'.cell? ⟨w.heap.size, 3, none⟩ = some (.int .i64 a) ∧ w'.cell? ⟨w.heap.size, 4, none⟩ = some (.bool b) ∧ w'.cell? ⟨w.heap.size, 5, none⟩ = some (.int .i64 c) ∧ w'.cell? ⟨w.heap.size, 6, none⟩ = some (.bool d) ∧ w'.cell? ⟨w.heap.size, 7, none⟩ = some (.int .i64 k) ∧ w'.cell? ⟨w.heap.size, 8, none⟩ = some (.int .i64 n)) ∧ Held w 27 #[.int .i64 o, .bool u, .int .i64 f, .int .i64 a, .bool b, .int .i64 c, .bool d, .int .i64 k, .int .i64 n] w')
    (first | exact q0 | exact q1 | exact q2 | exact q3 | exact q4 | exact q5 | exact q6)
    (fail)
  · obtain ⟨w1, hw⟩ : ∃ x, (((w.alloc (.cells #[.int .i64 o, .bool u, .int .i64 f, .int .i64 a, .bool b, .int .i64 c, .bool d, .int .i64 k, .int .i64 n] 27)).alloc (.cells #[.int .i64 a, .bool b] 25)).alloc (.cells #[.int .i64 c, .bool d] 25)).drew = x := ⟨_, rfl⟩
    rw [hw]
    have hq : Below (((w.alloc (.cells #[.int .i64 o, .bool u, .int .i64 f, .int .i64 a, .bool b, .int .i64 c, .bool d, .int .i64 k, .int .i64 n] 27)).alloc (.cells #[.int .i64 a, .bool b] 25)).alloc (.cells #[.int .i64 c, .bool d] 25)).heap.size (((w.alloc (.cells #[.int .i64 o, .bool u, .int .i64 f, .int .i64 a, .bool b, .int .i64 c, .bool d, .int .i64 k, .int .i64 n] 27)).alloc (.cells #[.int .i64 a, .bool b] 25)).alloc (.cells #[.int .i64 c, .bool d] 25)) w1 := by rw [← hw]; exact (Below.refl _ _).drew
    have hb0_1 : Blk w1 w.heap.size 27 #[.int .i64 o, .bool u, .int .i64 f, .int .i64 a, .bool b, .int .i64 c, .bool d, .int .i64 k, .int .i64 n] := Blk.same (((Blk.at w 27 #[.int .i64 o, .bool u, .int .i64 f, .int .i64 a, .bool b, .int .i64 c, .bool d, .int .i64 k, .int .i64 n] (g := w.heap.size) (by simp)).alloc (.cells #[.int .i64 a, .bool b] 25)).alloc (.cells #[.int .i64 c, .bool d] 25)) (hq.block _ ((((Blk.at w 27 #[.int .i64 o, .bool u, .int .i64 f, .int .i64 a, .bool b, .int .i64 c, .bool d, .int .i64 k, .int .i64 n] (g := w.heap.size) (by simp)).alloc (.cells #[.int .i64 a, .bool b] 25)).alloc (.cells #[.int .i64 c, .bool d] 25))).lt)
    have hb1_1 : Blk w1 (w.heap.size + 1) 25 #[.int .i64 a, .bool b] := Blk.same ((Blk.at (w.alloc (.cells #[.int .i64 o, .bool u, .int .i64 f, .int .i64 a, .bool b, .int .i64 c, .bool d, .int .i64 k, .int .i64 n] 27)) 25 #[.int .i64 a, .bool b] (g := (w.heap.size + 1)) (by simp)).alloc (.cells #[.int .i64 c, .bool d] 25)) (hq.block _ (((Blk.at (w.alloc (.cells #[.int .i64 o, .bool u, .int .i64 f, .int .i64 a, .bool b, .int .i64 c, .bool d, .int .i64 k, .int .i64 n] 27)) 25 #[.int .i64 a, .bool b] (g := (w.heap.size + 1)) (by simp)).alloc (.cells #[.int .i64 c, .bool d] 25))).lt)
    have hb2_1 : Blk w1 (w.heap.size + 1 + 1) 25 #[.int .i64 c, .bool d] := Blk.same (Blk.at ((w.alloc (.cells #[.int .i64 o, .bool u, .int .i64 f, .int .i64 a, .bool b, .int .i64 c, .bool d, .int .i64 k, .int .i64 n] 27)).alloc (.cells #[.int .i64 a, .bool b] 25)) 25 #[.int .i64 c, .bool d] (g := (w.heap.size + 1 + 1)) (by simp)) (hq.block _ ((Blk.at ((w.alloc (.cells #[.int .i64 o, .bool u, .int .i64 f, .int .i64 a, .bool b, .int .i64 c, .bool d, .int .i64 k, .int .i64 n] 27)).alloc (.cells #[.int .i64 a, .bool b] 25)) 25 #[.int .i64 c, .bool d] (g := (w.heap.size + 1 + 1)) (by simp))).lt)
    have hB1 := b0 (ba (ba (ba (Below.refl w.heap.size w) _) _) _) hq
    have c0_0 : w1.cell? ⟨w.heap.size, 0, none⟩ = some (.int .i64 o) := hb0_1.cell 0
    have c0_1 : w1.cell? ⟨w.heap.size, 1, none⟩ = some (.bool u) := hb0_1.cell 1
    have c0_2 : w1.cell? ⟨w.heap.size, 2, none⟩ = some (.int .i64 f) := hb0_1.cell 2
    have c0_3 : w1.cell? ⟨w.heap.size, 3, none⟩ = some (.int .i64 a) := hb0_1.cell 3
    have c0_4 : w1.cell? ⟨w.heap.size, 4, none⟩ = some (.bool b) := hb0_1.cell 4
    have c0_5 : w1.cell? ⟨w.heap.size, 5, none⟩ = some (.int .i64 c) := hb0_1.cell 5
    have c0_6 : w1.cell? ⟨w.heap.size, 6, none⟩ = some (.bool d) := hb0_1.cell 6
    have c0_7 : w1.cell? ⟨w.heap.size, 7, none⟩ = some (.int .i64 k) := hb0_1.cell 7
    have c0_8 : w1.cell? ⟨w.heap.size, 8, none⟩ = some (.int .i64 n) := hb0_1.cell 8
    have z0 : w.heap.size < w1.heap.size := hb0_1.lt
    have n0 : w.heap.size ≠ w1.heap.size := by omega
    have c1_0 : w1.cell? ⟨(w.heap.size + 1), 0, none⟩ = some (.int .i64 a) := hb1_1.cell 0
    have c1_1 : w1.cell? ⟨(w.heap.size + 1), 1, none⟩ = some (.bool b) := hb1_1.cell 1
    have z1 : (w.heap.size + 1) < w1.heap.size := hb1_1.lt
    have n1 : (w.heap.size + 1) ≠ w1.heap.size := by omega
    have c2_0 : w1.cell? ⟨(w.heap.size + 1 + 1), 0, none⟩ = some (.int .i64 c) := hb2_1.cell 0
    have c2_1 : w1.cell? ⟨(w.heap.size + 1 + 1), 1, none⟩ = some (.bool d) := hb2_1.cell 1
    have z2 : (w.heap.size + 1 + 1) < w1.heap.size := hb2_1.lt
    have n2 : (w.heap.size + 1 + 1) ≠ w1.heap.size := by omega
    clear hq hw
    clear q0 q1 q2 q3 q4 q5 q6
    go_wp2_with fail
    refine (H1.out _).mono ?_
    rintro e w2 ⟨rfl, hq⟩
    have hb0_2 : Blk w2 w.heap.size 27 #[.int .i64 o, .bool u, .int .i64 f, .int .i64 a, .bool b, .int .i64 c, .bool d, .int .i64 k, .int .i64 n] := Blk.same hb0_1 (hq.block _ (hb0_1).lt)
    have hb1_2 : Blk w2 (w.heap.size + 1) 25 #[.int .i64 a, .bool b] := Blk.same hb1_1 (hq.block _ (hb1_1).lt)
    have hb2_2 : Blk w2 (w.heap.size + 1 + 1) 25 #[.int .i64 c, .bool d] := Blk.same hb2_1 (hq.block _ (hb2_1).lt)
    have hB2 := b0 hB1 hq
    clear hb0_1 hb1_1 hb2_1 hB1 c0_0 c0_1 c0_2 c0_3 c0_4 c0_5 c0_6 c0_7 c0_8 n0 z0 c1_0 c1_1 n1 z1 c2_0 c2_1 n2 z2
    have c0_0 : w2.cell? ⟨w.heap.size, 0, none⟩ = some (.int .i64 o) := hb0_2.cell 0
    have c0_1 : w2.cell? ⟨w.heap.size, 1, none⟩ = some (.bool u) := hb0_2.cell 1
    have c0_2 : w2.cell? ⟨w.heap.size, 2, none⟩ = some (.int .i64 f) := hb0_2.cell 2
    have c0_3 : w2.cell? ⟨w.heap.size, 3, none⟩ = some (.int .i64 a) := hb0_2.cell 3
    have c0_4 : w2.cell? ⟨w.heap.size, 4, none⟩ = some (.bool b) := hb0_2.cell 4
    have c0_5 : w2.cell? ⟨w.heap.size, 5, none⟩ = some (.int .i64 c) := hb0_2.cell 5
    have c0_6 : w2.cell? ⟨w.heap.size, 6, none⟩ = some (.bool d) := hb0_2.cell 6
    have c0_7 : w2.cell? ⟨w.heap.size, 7, none⟩ = some (.int .i64 k) := hb0_2.cell 7
    have c0_8 : w2.cell? ⟨w.heap.size, 8, none⟩ = some (.int .i64 n) := hb0_2.cell 8
    have z0 : w.heap.size < w2.heap.size := hb0_2.lt
    have n0 : w.heap.size ≠ w2.heap.size := by omega
    have c1_0 : w2.cell? ⟨(w.heap.size + 1), 0, none⟩ = some (.int .i64 a) := hb1_2.cell 0
    have c1_1 : w2.cell? ⟨(w.heap.size + 1), 1, none⟩ = some (.bool b) := hb1_2.cell 1
    have z1 : (w.heap.size + 1) < w2.heap.size := hb1_2.lt
    have n1 : (w.heap.size + 1) ≠ w2.heap.size := by omega
    have c2_0 : w2.cell? ⟨(w.heap.size + 1 + 1), 0, none⟩ = some (.int .i64 c) := hb2_2.cell 0
    have c2_1 : w2.cell? ⟨(w.heap.size + 1 + 1), 1, none⟩ = some (.bool d) := hb2_2.cell 1
    have z2 : (w.heap.size + 1 + 1) < w2.heap.size := hb2_2.lt
    have n2 : (w.heap.size + 1 + 1) ≠ w2.heap.size := by omega
    clear hq
    go_wp2_with fail
    refine (H2.out _).mono ?_
    rintro e w3 ⟨rfl, hq⟩
    have hb0_3 : Blk w3 w.heap.size 27 #[.int .i64 o, .bool u, .int .i64 f, .int .i64 a, .bool b, .int .i64 c, .bool d, .int .i64 k, .int .i64 n] := Blk.same (hb0_2.alloc (.cells #[.int .i64 X, .bool Y] 25)) (hq.block _ ((hb0_2.alloc (.cells #[.int .i64 X, .bool Y] 25))).lt)
    have hb1_3 : Blk w3 (w.heap.size + 1) 25 #[.int .i64 a, .bool b] := Blk.same (hb1_2.alloc (.cells #[.int .i64 X, .bool Y] 25)) (hq.block _ ((hb1_2.alloc (.cells #[.int .i64 X, .bool Y] 25))).lt)
    have hb2_3 : Blk w3 (w.heap.size + 1 + 1) 25 #[.int .i64 c, .bool d] := Blk.same (hb2_2.alloc (.cells #[.int .i64 X, .bool Y] 25)) (hq.block _ ((hb2_2.alloc (.cells #[.int .i64 X, .bool Y] 25))).lt)
    have hb3_3 : Blk w3 w2.heap.size 25 #[.int .i64 X, .bool Y] := Blk.same (Blk.at w2 25 #[.int .i64 X, .bool Y] (g := w2.heap.size) (by simp)) (hq.block _ ((Blk.at w2 25 #[.int .i64 X, .bool Y] (g := w2.heap.size) (by simp))).lt)
    have hB3 := b0 (ba hB2 _) hq
    clear hb0_2 hb1_2 hb2_2 hB2 c0_0 c0_1 c0_2 c0_3 c0_4 c0_5 c0_6 c0_7 c0_8 n0 z0 c1_0 c1_1 n1 z1 c2_0 c2_1 n2 z2
    have c0_0 : w3.cell? ⟨w.heap.size, 0, none⟩ = some (.int .i64 o) := hb0_3.cell 0
    have c0_1 : w3.cell? ⟨w.heap.size, 1, none⟩ = some (.bool u) := hb0_3.cell 1
    have c0_2 : w3.cell? ⟨w.heap.size, 2, none⟩ = some (.int .i64 f) := hb0_3.cell 2
    have c0_3 : w3.cell? ⟨w.heap.size, 3, none⟩ = some (.int .i64 a) := hb0_3.cell 3
    have c0_4 : w3.cell? ⟨w.heap.size, 4, none⟩ = some (.bool b) := hb0_3.cell 4
    have c0_5 : w3.cell? ⟨w.heap.size, 5, none⟩ = some (.int .i64 c) := hb0_3.cell 5
    have c0_6 : w3.cell? ⟨w.heap.size, 6, none⟩ = some (.bool d) := hb0_3.cell 6
    have c0_7 : w3.cell? ⟨w.heap.size, 7, none⟩ = some (.int .i64 k) := hb0_3.cell 7
    have c0_8 : w3.cell? ⟨w.heap.size, 8, none⟩ = some (.int .i64 n) := hb0_3.cell 8
    have z0 : w.heap.size < w3.heap.size := hb0_3.lt
    have n0 : w.heap.size ≠ w3.heap.size := by omega
    have c1_0 : w3.cell? ⟨(w.heap.size + 1), 0, none⟩ = some (.int .i64 a) := hb1_3.cell 0
    have c1_1 : w3.cell? ⟨(w.heap.size + 1), 1, none⟩ = some (.bool b) := hb1_3.cell 1
    have z1 : (w.heap.size + 1) < w3.heap.size := hb1_3.lt
    have n1 : (w.heap.size + 1) ≠ w3.heap.size := by omega
    have c2_0 : w3.cell? ⟨(w.heap.size + 1 + 1), 0, none⟩ = some (.int .i64 c) := hb2_3.cell 0
    have c2_1 : w3.cell? ⟨(w.heap.size + 1 + 1), 1, none⟩ = some (.bool d) := hb2_3.cell 1
    have z2 : (w.heap.size + 1 + 1) < w3.heap.size := hb2_3.lt
    have n2 : (w.heap.size + 1 + 1) ≠ w3.heap.size := by omega
    have c3_0 : w3.cell? ⟨w2.heap.size, 0, none⟩ = some (.int .i64 X) := hb3_3.cell 0
    have c3_1 : w3.cell? ⟨w2.heap.size, 1, none⟩ = some (.bool Y) := hb3_3.cell 1
    have z3 : w2.heap.size < w3.heap.size := hb3_3.lt
    have n3 : w2.heap.size ≠ w3.heap.size := by omega
    clear hq
    go_wp2_with fail
    refine (H3.out _).mono ?_
    rintro e w4 ⟨rfl, hq⟩
    have hb0_4 : Blk w4 w.heap.size 27 #[.int .i64 o, .bool u, .int .i64 f, .int .i64 a, .bool b, .int .i64 c, .bool d, .int .i64 k, .int .i64 n] := Blk.same (hb0_3.alloc (.cells #[.int .i64 X, .bool Y] 25)) (hq.block _ ((hb0_3.alloc (.cells #[.int .i64 X, .bool Y] 25))).lt)
    have hb1_4 : Blk w4 (w.heap.size + 1) 25 #[.int .i64 a, .bool b] := Blk.same (hb1_3.alloc (.cells #[.int .i64 X, .bool Y] 25)) (hq.block _ ((hb1_3.alloc (.cells #[.int .i64 X, .bool Y] 25))).lt)
    have hb2_4 : Blk w4 (w.heap.size + 1 + 1) 25 #[.int .i64 c, .bool d] := Blk.same (hb2_3.alloc (.cells #[.int .i64 X, .bool Y] 25)) (hq.block _ ((hb2_3.alloc (.cells #[.int .i64 X, .bool Y] 25))).lt)
    have hb3_4 : Blk w4 w2.heap.size 25 #[.int .i64 X, .bool Y] := Blk.same (hb3_3.alloc (.cells #[.int .i64 X, .bool Y] 25)) (hq.block _ ((hb3_3.alloc (.cells #[.int .i64 X, .bool Y] 25))).lt)
    have hb4_4 : Blk w4 w3.heap.size 25 #[.int .i64 X, .bool Y] := Blk.same (Blk.at w3 25 #[.int .i64 X, .bool Y] (g := w3.heap.size) (by simp)) (hq.block _ ((Blk.at w3 25 #[.int .i64 X, .bool Y] (g := w3.heap.size) (by simp))).lt)
    have hB4 := b0 (ba hB3 _) hq
    clear hb0_3 hb1_3 hb2_3 hb3_3 hB3 c0_0 c0_1 c0_2 c0_3 c0_4 c0_5 c0_6 c0_7 c0_8 n0 z0 c1_0 c1_1 n1 z1 c2_0 c2_1 n2 z2 c3_0 c3_1 n3 z3
    have c0_0 : w4.cell? ⟨w.heap.size, 0, none⟩ = some (.int .i64 o) := hb0_4.cell 0
    have c0_1 : w4.cell? ⟨w.heap.size, 1, none⟩ = some (.bool u) := hb0_4.cell 1
    have c0_2 : w4.cell? ⟨w.heap.size, 2, none⟩ = some (.int .i64 f) := hb0_4.cell 2
    have c0_3 : w4.cell? ⟨w.heap.size, 3, none⟩ = some (.int .i64 a) := hb0_4.cell 3
    have c0_4 : w4.cell? ⟨w.heap.size, 4, none⟩ = some (.bool b) := hb0_4.cell 4
    have c0_5 : w4.cell? ⟨w.heap.size, 5, none⟩ = some (.int .i64 c) := hb0_4.cell 5
    have c0_6 : w4.cell? ⟨w.heap.size, 6, none⟩ = some (.bool d) := hb0_4.cell 6
    have c0_7 : w4.cell? ⟨w.heap.size, 7, none⟩ = some (.int .i64 k) := hb0_4.cell 7
    have c0_8 : w4.cell? ⟨w.heap.size, 8, none⟩ = some (.int .i64 n) := hb0_4.cell 8
    have z0 : w.heap.size < w4.heap.size := hb0_4.lt
    have n0 : w.heap.size ≠ w4.heap.size := by omega
    have c1_0 : w4.cell? ⟨(w.heap.size + 1), 0, none⟩ = some (.int .i64 a) := hb1_4.cell 0
    have c1_1 : w4.cell? ⟨(w.heap.size + 1), 1, none⟩ = some (.bool b) := hb1_4.cell 1
    have z1 : (w.heap.size + 1) < w4.heap.size := hb1_4.lt
    have n1 : (w.heap.size + 1) ≠ w4.heap.size := by omega
    have c2_0 : w4.cell? ⟨(w.heap.size + 1 + 1), 0, none⟩ = some (.int .i64 c) := hb2_4.cell 0
    have c2_1 : w4.cell? ⟨(w.heap.size + 1 + 1), 1, none⟩ = some (.bool d) := hb2_4.cell 1
    have z2 : (w.heap.size + 1 + 1) < w4.heap.size := hb2_4.lt
    have n2 : (w.heap.size + 1 + 1) ≠ w4.heap.size := by omega
    have c3_0 : w4.cell? ⟨w2.heap.size, 0, none⟩ = some (.int .i64 X) := hb3_4.cell 0
    have c3_1 : w4.cell? ⟨w2.heap.size, 1, none⟩ = some (.bool Y) := hb3_4.cell 1
    have z3 : w2.heap.size < w4.heap.size := hb3_4.lt
    have n3 : w2.heap.size ≠ w4.heap.size := by omega
    have c4_0 : w4.cell? ⟨w3.heap.size, 0, none⟩ = some (.int .i64 X) := hb4_4.cell 0
    have c4_1 : w4.cell? ⟨w3.heap.size, 1, none⟩ = some (.bool Y) := hb4_4.cell 1
    have z4 : w3.heap.size < w4.heap.size := hb4_4.lt
    have n4 : w3.heap.size ≠ w4.heap.size := by omega
    clear hq
    go_wp2_with fail
    refine (H4.out _).mono ?_
    rintro e w5 ⟨rfl, hq⟩
    have hb0_5 : Blk w5 w.heap.size 27 #[.int .i64 o, .bool u, .int .i64 f, .int .i64 a, .bool b, .int .i64 c, .bool d, .int .i64 k, .int .i64 n] := Blk.same hb0_4 (hq.block _ (hb0_4).lt)
    have hb1_5 : Blk w5 (w.heap.size + 1) 25 #[.int .i64 a, .bool b] := Blk.same hb1_4 (hq.block _ (hb1_4).lt)
    have hb2_5 : Blk w5 (w.heap.size + 1 + 1) 25 #[.int .i64 c, .bool d] := Blk.same hb2_4 (hq.block _ (hb2_4).lt)
    have hb3_5 : Blk w5 w2.heap.size 25 #[.int .i64 X, .bool Y] := Blk.same hb3_4 (hq.block _ (hb3_4).lt)
    have hb4_5 : Blk w5 w3.heap.size 25 #[.int .i64 X, .bool Y] := Blk.same hb4_4 (hq.block _ (hb4_4).lt)
    have hB5 := b0 hB4 hq
    clear hb0_4 hb1_4 hb2_4 hb3_4 hb4_4 hB4 c0_0 c0_1 c0_2 c0_3 c0_4 c0_5 c0_6 c0_7 c0_8 n0 z0 c1_0 c1_1 n1 z1 c2_0 c2_1 n2 z2 c3_0 c3_1 n3 z3 c4_0 c4_1 n4 z4
    have c0_0 : w5.cell? ⟨w.heap.size, 0, none⟩ = some (.int .i64 o) := hb0_5.cell 0
    have c0_1 : w5.cell? ⟨w.heap.size, 1, none⟩ = some (.bool u) := hb0_5.cell 1
    have c0_2 : w5.cell? ⟨w.heap.size, 2, none⟩ = some (.int .i64 f) := hb0_5.cell 2
    have c0_3 : w5.cell? ⟨w.heap.size, 3, none⟩ = some (.int .i64 a) := hb0_5.cell 3
    have c0_4 : w5.cell? ⟨w.heap.size, 4, none⟩ = some (.bool b) := hb0_5.cell 4
    have c0_5 : w5.cell? ⟨w.heap.size, 5, none⟩ = some (.int .i64 c) := hb0_5.cell 5
    have c0_6 : w5.cell? ⟨w.heap.size, 6, none⟩ = some (.bool d) := hb0_5.cell 6
    have c0_7 : w5.cell? ⟨w.heap.size, 7, none⟩ = some (.int .i64 k) := hb0_5.cell 7
    have c0_8 : w5.cell? ⟨w.heap.size, 8, none⟩ = some (.int .i64 n) := hb0_5.cell 8
    have z0 : w.heap.size < w5.heap.size := hb0_5.lt
    have n0 : w.heap.size ≠ w5.heap.size := by omega
    have c1_0 : w5.cell? ⟨(w.heap.size + 1), 0, none⟩ = some (.int .i64 a) := hb1_5.cell 0
    have c1_1 : w5.cell? ⟨(w.heap.size + 1), 1, none⟩ = some (.bool b) := hb1_5.cell 1
    have z1 : (w.heap.size + 1) < w5.heap.size := hb1_5.lt
    have n1 : (w.heap.size + 1) ≠ w5.heap.size := by omega
    have c2_0 : w5.cell? ⟨(w.heap.size + 1 + 1), 0, none⟩ = some (.int .i64 c) := hb2_5.cell 0
    have c2_1 : w5.cell? ⟨(w.heap.size + 1 + 1), 1, none⟩ = some (.bool d) := hb2_5.cell 1
    have z2 : (w.heap.size + 1 + 1) < w5.heap.size := hb2_5.lt
    have n2 : (w.heap.size + 1 + 1) ≠ w5.heap.size := by omega
    have c3_0 : w5.cell? ⟨w2.heap.size, 0, none⟩ = some (.int .i64 X) := hb3_5.cell 0
    have c3_1 : w5.cell? ⟨w2.heap.size, 1, none⟩ = some (.bool Y) := hb3_5.cell 1
    have z3 : w2.heap.size < w5.heap.size := hb3_5.lt
    have n3 : w2.heap.size ≠ w5.heap.size := by omega
    have c4_0 : w5.cell? ⟨w3.heap.size, 0, none⟩ = some (.int .i64 X) := hb4_5.cell 0
    have c4_1 : w5.cell? ⟨w3.heap.size, 1, none⟩ = some (.bool Y) := hb4_5.cell 1
    have z4 : w3.heap.size < w5.heap.size := hb4_5.lt
    have n4 : w3.heap.size ≠ w5.heap.size := by omega
    clear hq
    go_wp2_with fail
    have h6 := (H6.of (w := w) hb1_5 hb3_5 hb4_5 hB5).drew
    clear hb0_5 hb1_5 hb2_5 hb3_5 hb4_5 hB5 c0_0 c0_1 c0_2 c0_3 c0_4 c0_5 c0_6 c0_7 c0_8 n0 z0 c1_0 c1_1 n1 z1 c2_0 c2_1 n2 z2 c3_0 c3_1 n3 z3 c4_0 c4_1 n4 z4
    unfold H6 at h6
    go_region_held3 (fun w' => (w'.cell? ⟨(w.heap.size + 1), 0, none⟩ = some (.int .i64 a) ∧ w'.cell? ⟨(w.heap.size + 1), 1, none⟩ = some (.bool b) ∧ w'.cell? ⟨w2.heap.size, 0, none⟩ = some (.int .i64 X) ∧ w'.cell? ⟨w2.heap.size, 1, none⟩ = some (.bool Y) ∧ w'.cell? ⟨w3.heap.size, 0, none⟩ = some (.int .i64 X) ∧ w'.cell? ⟨w3.heap.size, 1, none⟩ = some (.bool Y)) ∧ (Blk w' (w.heap.size + 1) 25 #[.int .i64 a, .bool b] ∧ Blk w' w2.heap.size 25 #[.int .i64 X, .bool Y] ∧ Blk w' w3.heap.size 25 #[.int .i64 X, .bool Y] ∧ Below w.heap.size w w'))
      (first | exact h6 | assumption | exact H6.next (by assumption) hq)
      (first
        | (go_at_call 14; ((with_reducible refine (HF.out _).mono ?_); rintro e w' ⟨rfl, hq⟩))
        | (go_at_call 15; ((with_reducible refine (H5.out _).mono ?_); rintro e w' ⟨rfl, hq⟩))
        | (go_at_call 16; ((with_reducible refine (H7.out _).mono ?_); rintro e w' ⟨rfl, hq⟩)))
    all_goals
      rename_i hH
      go_wp2
      go_ret
      exact ⟨rfl, hH.2.2.2.2⟩
  · obtain ⟨w1, hw⟩ : ∃ x, (((w.alloc (.cells #[.int .i64 o, .bool u, .int .i64 f, .int .i64 a, .bool b, .int .i64 c, .bool d, .int .i64 k, .int .i64 n] 27)).alloc (.cells #[.int .i64 c, .bool d] 25)).alloc (.cells #[.int .i64 a, .bool b] 25)).drew = x := ⟨_, rfl⟩
    rw [hw]
    have hq : Below (((w.alloc (.cells #[.int .i64 o, .bool u, .int .i64 f, .int .i64 a, .bool b, .int .i64 c, .bool d, .int .i64 k, .int .i64 n] 27)).alloc (.cells #[.int .i64 c, .bool d] 25)).alloc (.cells #[.int .i64 a, .bool b] 25)).heap.size (((w.alloc (.cells #[.int .i64 o, .bool u, .int .i64 f, .int .i64 a, .bool b, .int .i64 c, .bool d, .int .i64 k, .int .i64 n] 27)).alloc (.cells #[.int .i64 c, .bool d] 25)).alloc (.cells #[.int .i64 a, .bool b] 25)) w1 := by rw [← hw]; exact (Below.refl _ _).drew
    have hb0_1 : Blk w1 w.heap.size 27 #[.int .i64 o, .bool u, .int .i64 f, .int .i64 a, .bool b, .int .i64 c, .bool d, .int .i64 k, .int .i64 n] := Blk.same (((Blk.at w 27 #[.int .i64 o, .bool u, .int .i64 f, .int .i64 a, .bool b, .int .i64 c, .bool d, .int .i64 k, .int .i64 n] (g := w.heap.size) (by simp)).alloc (.cells #[.int .i64 c, .bool d] 25)).alloc (.cells #[.int .i64 a, .bool b] 25)) (hq.block _ ((((Blk.at w 27 #[.int .i64 o, .bool u, .int .i64 f, .int .i64 a, .bool b, .int .i64 c, .bool d, .int .i64 k, .int .i64 n] (g := w.heap.size) (by simp)).alloc (.cells #[.int .i64 c, .bool d] 25)).alloc (.cells #[.int .i64 a, .bool b] 25))).lt)
    have hb1_1 : Blk w1 (w.heap.size + 1) 25 #[.int .i64 c, .bool d] := Blk.same ((Blk.at (w.alloc (.cells #[.int .i64 o, .bool u, .int .i64 f, .int .i64 a, .bool b, .int .i64 c, .bool d, .int .i64 k, .int .i64 n] 27)) 25 #[.int .i64 c, .bool d] (g := (w.heap.size + 1)) (by simp)).alloc (.cells #[.int .i64 a, .bool b] 25)) (hq.block _ (((Blk.at (w.alloc (.cells #[.int .i64 o, .bool u, .int .i64 f, .int .i64 a, .bool b, .int .i64 c, .bool d, .int .i64 k, .int .i64 n] 27)) 25 #[.int .i64 c, .bool d] (g := (w.heap.size + 1)) (by simp)).alloc (.cells #[.int .i64 a, .bool b] 25))).lt)
    have hb2_1 : Blk w1 (w.heap.size + 1 + 1) 25 #[.int .i64 a, .bool b] := Blk.same (Blk.at ((w.alloc (.cells #[.int .i64 o, .bool u, .int .i64 f, .int .i64 a, .bool b, .int .i64 c, .bool d, .int .i64 k, .int .i64 n] 27)).alloc (.cells #[.int .i64 c, .bool d] 25)) 25 #[.int .i64 a, .bool b] (g := (w.heap.size + 1 + 1)) (by simp)) (hq.block _ ((Blk.at ((w.alloc (.cells #[.int .i64 o, .bool u, .int .i64 f, .int .i64 a, .bool b, .int .i64 c, .bool d, .int .i64 k, .int .i64 n] 27)).alloc (.cells #[.int .i64 c, .bool d] 25)) 25 #[.int .i64 a, .bool b] (g := (w.heap.size + 1 + 1)) (by simp))).lt)
    have hB1 := b0 (ba (ba (ba (Below.refl w.heap.size w) _) _) _) hq
    have c0_0 : w1.cell? ⟨w.heap.size, 0, none⟩ = some (.int .i64 o) := hb0_1.cell 0
    have c0_1 : w1.cell? ⟨w.heap.size, 1, none⟩ = some (.bool u) := hb0_1.cell 1
    have c0_2 : w1.cell? ⟨w.heap.size, 2, none⟩ = some (.int .i64 f) := hb0_1.cell 2
    have c0_3 : w1.cell? ⟨w.heap.size, 3, none⟩ = some (.int .i64 a) := hb0_1.cell 3
    have c0_4 : w1.cell? ⟨w.heap.size, 4, none⟩ = some (.bool b) := hb0_1.cell 4
    have c0_5 : w1.cell? ⟨w.heap.size, 5, none⟩ = some (.int .i64 c) := hb0_1.cell 5
    have c0_6 : w1.cell? ⟨w.heap.size, 6, none⟩ = some (.bool d) := hb0_1.cell 6
    have c0_7 : w1.cell? ⟨w.heap.size, 7, none⟩ = some (.int .i64 k) := hb0_1.cell 7
    have c0_8 : w1.cell? ⟨w.heap.size, 8, none⟩ = some (.int .i64 n) := hb0_1.cell 8
    have z0 : w.heap.size < w1.heap.size := hb0_1.lt
    have n0 : w.heap.size ≠ w1.heap.size := by omega
    have c1_0 : w1.cell? ⟨(w.heap.size + 1), 0, none⟩ = some (.int .i64 c) := hb1_1.cell 0
    have c1_1 : w1.cell? ⟨(w.heap.size + 1), 1, none⟩ = some (.bool d) := hb1_1.cell 1
    have z1 : (w.heap.size + 1) < w1.heap.size := hb1_1.lt
    have n1 : (w.heap.size + 1) ≠ w1.heap.size := by omega
    have c2_0 : w1.cell? ⟨(w.heap.size + 1 + 1), 0, none⟩ = some (.int .i64 a) := hb2_1.cell 0
    have c2_1 : w1.cell? ⟨(w.heap.size + 1 + 1), 1, none⟩ = some (.bool b) := hb2_1.cell 1
    have z2 : (w.heap.size + 1 + 1) < w1.heap.size := hb2_1.lt
    have n2 : (w.heap.size + 1 + 1) ≠ w1.heap.size := by omega
    clear hq hw
    clear q0 q1 q2 q3 q4 q5 q6
    go_wp2_with fail
    refine (H1.out _).mono ?_
    rintro e w2 ⟨rfl, hq⟩
    have hb0_2 : Blk w2 w.heap.size 27 #[.int .i64 o, .bool u, .int .i64 f, .int .i64 a, .bool b, .int .i64 c, .bool d, .int .i64 k, .int .i64 n] := Blk.same hb0_1 (hq.block _ (hb0_1).lt)
    have hb1_2 : Blk w2 (w.heap.size + 1) 25 #[.int .i64 c, .bool d] := Blk.same hb1_1 (hq.block _ (hb1_1).lt)
    have hb2_2 : Blk w2 (w.heap.size + 1 + 1) 25 #[.int .i64 a, .bool b] := Blk.same hb2_1 (hq.block _ (hb2_1).lt)
    have hB2 := b0 hB1 hq
    clear hb0_1 hb1_1 hb2_1 hB1 c0_0 c0_1 c0_2 c0_3 c0_4 c0_5 c0_6 c0_7 c0_8 n0 z0 c1_0 c1_1 n1 z1 c2_0 c2_1 n2 z2
    have c0_0 : w2.cell? ⟨w.heap.size, 0, none⟩ = some (.int .i64 o) := hb0_2.cell 0
    have c0_1 : w2.cell? ⟨w.heap.size, 1, none⟩ = some (.bool u) := hb0_2.cell 1
    have c0_2 : w2.cell? ⟨w.heap.size, 2, none⟩ = some (.int .i64 f) := hb0_2.cell 2
    have c0_3 : w2.cell? ⟨w.heap.size, 3, none⟩ = some (.int .i64 a) := hb0_2.cell 3
    have c0_4 : w2.cell? ⟨w.heap.size, 4, none⟩ = some (.bool b) := hb0_2.cell 4
    have c0_5 : w2.cell? ⟨w.heap.size, 5, none⟩ = some (.int .i64 c) := hb0_2.cell 5
    have c0_6 : w2.cell? ⟨w.heap.size, 6, none⟩ = some (.bool d) := hb0_2.cell 6
    have c0_7 : w2.cell? ⟨w.heap.size, 7, none⟩ = some (.int .i64 k) := hb0_2.cell 7
    have c0_8 : w2.cell? ⟨w.heap.size, 8, none⟩ = some (.int .i64 n) := hb0_2.cell 8
    have z0 : w.heap.size < w2.heap.size := hb0_2.lt
    have n0 : w.heap.size ≠ w2.heap.size := by omega
    have c1_0 : w2.cell? ⟨(w.heap.size + 1), 0, none⟩ = some (.int .i64 c) := hb1_2.cell 0
    have c1_1 : w2.cell? ⟨(w.heap.size + 1), 1, none⟩ = some (.bool d) := hb1_2.cell 1
    have z1 : (w.heap.size + 1) < w2.heap.size := hb1_2.lt
    have n1 : (w.heap.size + 1) ≠ w2.heap.size := by omega
    have c2_0 : w2.cell? ⟨(w.heap.size + 1 + 1), 0, none⟩ = some (.int .i64 a) := hb2_2.cell 0
    have c2_1 : w2.cell? ⟨(w.heap.size + 1 + 1), 1, none⟩ = some (.bool b) := hb2_2.cell 1
    have z2 : (w.heap.size + 1 + 1) < w2.heap.size := hb2_2.lt
    have n2 : (w.heap.size + 1 + 1) ≠ w2.heap.size := by omega
    clear hq
    go_wp2_with fail
    refine (H2.out _).mono ?_
    rintro e w3 ⟨rfl, hq⟩
    have hb0_3 : Blk w3 w.heap.size 27 #[.int .i64 o, .bool u, .int .i64 f, .int .i64 a, .bool b, .int .i64 c, .bool d, .int .i64 k, .int .i64 n] := Blk.same (hb0_2.alloc (.cells #[.int .i64 X, .bool Y] 25)) (hq.block _ ((hb0_2.alloc (.cells #[.int .i64 X, .bool Y] 25))).lt)
    have hb1_3 : Blk w3 (w.heap.size + 1) 25 #[.int .i64 c, .bool d] := Blk.same (hb1_2.alloc (.cells #[.int .i64 X, .bool Y] 25)) (hq.block _ ((hb1_2.alloc (.cells #[.int .i64 X, .bool Y] 25))).lt)
    have hb2_3 : Blk w3 (w.heap.size + 1 + 1) 25 #[.int .i64 a, .bool b] := Blk.same (hb2_2.alloc (.cells #[.int .i64 X, .bool Y] 25)) (hq.block _ ((hb2_2.alloc (.cells #[.int .i64 X, .bool Y] 25))).lt)
    have hb3_3 : Blk w3 w2.heap.size 25 #[.int .i64 X, .bool Y] := Blk.same (Blk.at w2 25 #[.int .i64 X, .bool Y] (g := w2.heap.size) (by simp)) (hq.block _ ((Blk.at w2 25 #[.int .i64 X, .bool Y] (g := w2.heap.size) (by simp))).lt)
    have hB3 := b0 (ba hB2 _) hq
    clear hb0_2 hb1_2 hb2_2 hB2 c0_0 c0_1 c0_2 c0_3 c0_4 c0_5 c0_6 c0_7 c0_8 n0 z0 c1_0 c1_1 n1 z1 c2_0 c2_1 n2 z2
    have c0_0 : w3.cell? ⟨w.heap.size, 0, none⟩ = some (.int .i64 o) := hb0_3.cell 0
    have c0_1 : w3.cell? ⟨w.heap.size, 1, none⟩ = some (.bool u) := hb0_3.cell 1
    have c0_2 : w3.cell? ⟨w.heap.size, 2, none⟩ = some (.int .i64 f) := hb0_3.cell 2
    have c0_3 : w3.cell? ⟨w.heap.size, 3, none⟩ = some (.int .i64 a) := hb0_3.cell 3
    have c0_4 : w3.cell? ⟨w.heap.size, 4, none⟩ = some (.bool b) := hb0_3.cell 4
    have c0_5 : w3.cell? ⟨w.heap.size, 5, none⟩ = some (.int .i64 c) := hb0_3.cell 5
    have c0_6 : w3.cell? ⟨w.heap.size, 6, none⟩ = some (.bool d) := hb0_3.cell 6
    have c0_7 : w3.cell? ⟨w.heap.size, 7, none⟩ = some (.int .i64 k) := hb0_3.cell 7
    have c0_8 : w3.cell? ⟨w.heap.size, 8, none⟩ = some (.int .i64 n) := hb0_3.cell 8
    have z0 : w.heap.size < w3.heap.size := hb0_3.lt
    have n0 : w.heap.size ≠ w3.heap.size := by omega
    have c1_0 : w3.cell? ⟨(w.heap.size + 1), 0, none⟩ = some (.int .i64 c) := hb1_3.cell 0
    have c1_1 : w3.cell? ⟨(w.heap.size + 1), 1, none⟩ = some (.bool d) := hb1_3.cell 1
    have z1 : (w.heap.size + 1) < w3.heap.size := hb1_3.lt
    have n1 : (w.heap.size + 1) ≠ w3.heap.size := by omega
    have c2_0 : w3.cell? ⟨(w.heap.size + 1 + 1), 0, none⟩ = some (.int .i64 a) := hb2_3.cell 0
    have c2_1 : w3.cell? ⟨(w.heap.size + 1 + 1), 1, none⟩ = some (.bool b) := hb2_3.cell 1
    have z2 : (w.heap.size + 1 + 1) < w3.heap.size := hb2_3.lt
    have n2 : (w.heap.size + 1 + 1) ≠ w3.heap.size := by omega
    have c3_0 : w3.cell? ⟨w2.heap.size, 0, none⟩ = some (.int .i64 X) := hb3_3.cell 0
    have c3_1 : w3.cell? ⟨w2.heap.size, 1, none⟩ = some (.bool Y) := hb3_3.cell 1
    have z3 : w2.heap.size < w3.heap.size := hb3_3.lt
    have n3 : w2.heap.size ≠ w3.heap.size := by omega
    clear hq
    go_wp2_with fail
    refine (H3.out _).mono ?_
    rintro e w4 ⟨rfl, hq⟩
    have hb0_4 : Blk w4 w.heap.size 27 #[.int .i64 o, .bool u, .int .i64 f, .int .i64 a, .bool b, .int .i64 c, .bool d, .int .i64 k, .int .i64 n] := Blk.same (hb0_3.alloc (.cells #[.int .i64 X, .bool Y] 25)) (hq.block _ ((hb0_3.alloc (.cells #[.int .i64 X, .bool Y] 25))).lt)
    have hb1_4 : Blk w4 (w.heap.size + 1) 25 #[.int .i64 c, .bool d] := Blk.same (hb1_3.alloc (.cells #[.int .i64 X, .bool Y] 25)) (hq.block _ ((hb1_3.alloc (.cells #[.int .i64 X, .bool Y] 25))).lt)
    have hb2_4 : Blk w4 (w.heap.size + 1 + 1) 25 #[.int .i64 a, .bool b] := Blk.same (hb2_3.alloc (.cells #[.int .i64 X, .bool Y] 25)) (hq.block _ ((hb2_3.alloc (.cells #[.int .i64 X, .bool Y] 25))).lt)
    have hb3_4 : Blk w4 w2.heap.size 25 #[.int .i64 X, .bool Y] := Blk.same (hb3_3.alloc (.cells #[.int .i64 X, .bool Y] 25)) (hq.block _ ((hb3_3.alloc (.cells #[.int .i64 X, .bool Y] 25))).lt)
    have hb4_4 : Blk w4 w3.heap.size 25 #[.int .i64 X, .bool Y] := Blk.same (Blk.at w3 25 #[.int .i64 X, .bool Y] (g := w3.heap.size) (by simp)) (hq.block _ ((Blk.at w3 25 #[.int .i64 X, .bool Y] (g := w3.heap.size) (by simp))).lt)
    have hB4 := b0 (ba hB3 _) hq
    clear hb0_3 hb1_3 hb2_3 hb3_3 hB3 c0_0 c0_1 c0_2 c0_3 c0_4 c0_5 c0_6 c0_7 c0_8 n0 z0 c1_0 c1_1 n1 z1 c2_0 c2_1 n2 z2 c3_0 c3_1 n3 z3
    have c0_0 : w4.cell? ⟨w.heap.size, 0, none⟩ = some (.int .i64 o) := hb0_4.cell 0
    have c0_1 : w4.cell? ⟨w.heap.size, 1, none⟩ = some (.bool u) := hb0_4.cell 1
    have c0_2 : w4.cell? ⟨w.heap.size, 2, none⟩ = some (.int .i64 f) := hb0_4.cell 2
    have c0_3 : w4.cell? ⟨w.heap.size, 3, none⟩ = some (.int .i64 a) := hb0_4.cell 3
    have c0_4 : w4.cell? ⟨w.heap.size, 4, none⟩ = some (.bool b) := hb0_4.cell 4
    have c0_5 : w4.cell? ⟨w.heap.size, 5, none⟩ = some (.int .i64 c) := hb0_4.cell 5
    have c0_6 : w4.cell? ⟨w.heap.size, 6, none⟩ = some (.bool d) := hb0_4.cell 6
    have c0_7 : w4.cell? ⟨w.heap.size, 7, none⟩ = some (.int .i64 k) := hb0_4.cell 7
    have c0_8 : w4.cell? ⟨w.heap.size, 8, none⟩ = some (.int .i64 n) := hb0_4.cell 8
    have z0 : w.heap.size < w4.heap.size := hb0_4.lt
    have n0 : w.heap.size ≠ w4.heap.size := by omega
    have c1_0 : w4.cell? ⟨(w.heap.size + 1), 0, none⟩ = some (.int .i64 c) := hb1_4.cell 0
    have c1_1 : w4.cell? ⟨(w.heap.size + 1), 1, none⟩ = some (.bool d) := hb1_4.cell 1
    have z1 : (w.heap.size + 1) < w4.heap.size := hb1_4.lt
    have n1 : (w.heap.size + 1) ≠ w4.heap.size := by omega
    have c2_0 : w4.cell? ⟨(w.heap.size + 1 + 1), 0, none⟩ = some (.int .i64 a) := hb2_4.cell 0
    have c2_1 : w4.cell? ⟨(w.heap.size + 1 + 1), 1, none⟩ = some (.bool b) := hb2_4.cell 1
    have z2 : (w.heap.size + 1 + 1) < w4.heap.size := hb2_4.lt
    have n2 : (w.heap.size + 1 + 1) ≠ w4.heap.size := by omega
    have c3_0 : w4.cell? ⟨w2.heap.size, 0, none⟩ = some (.int .i64 X) := hb3_4.cell 0
    have c3_1 : w4.cell? ⟨w2.heap.size, 1, none⟩ = some (.bool Y) := hb3_4.cell 1
    have z3 : w2.heap.size < w4.heap.size := hb3_4.lt
    have n3 : w2.heap.size ≠ w4.heap.size := by omega
    have c4_0 : w4.cell? ⟨w3.heap.size, 0, none⟩ = some (.int .i64 X) := hb4_4.cell 0
    have c4_1 : w4.cell? ⟨w3.heap.size, 1, none⟩ = some (.bool Y) := hb4_4.cell 1
    have z4 : w3.heap.size < w4.heap.size := hb4_4.lt
    have n4 : w3.heap.size ≠ w4.heap.size := by omega
    clear hq
    go_wp2_with fail
    refine (H4.out _).mono ?_
    rintro e w5 ⟨rfl, hq⟩
    have hb0_5 : Blk w5 w.heap.size 27 #[.int .i64 o, .bool u, .int .i64 f, .int .i64 a, .bool b, .int .i64 c, .bool d, .int .i64 k, .int .i64 n] := Blk.same hb0_4 (hq.block _ (hb0_4).lt)
    have hb1_5 : Blk w5 (w.heap.size + 1) 25 #[.int .i64 c, .bool d] := Blk.same hb1_4 (hq.block _ (hb1_4).lt)
    have hb2_5 : Blk w5 (w.heap.size + 1 + 1) 25 #[.int .i64 a, .bool b] := Blk.same hb2_4 (hq.block _ (hb2_4).lt)
    have hb3_5 : Blk w5 w2.heap.size 25 #[.int .i64 X, .bool Y] := Blk.same hb3_4 (hq.block _ (hb3_4).lt)
    have hb4_5 : Blk w5 w3.heap.size 25 #[.int .i64 X, .bool Y] := Blk.same hb4_4 (hq.block _ (hb4_4).lt)
    have hB5 := b0 hB4 hq
    clear hb0_4 hb1_4 hb2_4 hb3_4 hb4_4 hB4 c0_0 c0_1 c0_2 c0_3 c0_4 c0_5 c0_6 c0_7 c0_8 n0 z0 c1_0 c1_1 n1 z1 c2_0 c2_1 n2 z2 c3_0 c3_1 n3 z3 c4_0 c4_1 n4 z4
    have c0_0 : w5.cell? ⟨w.heap.size, 0, none⟩ = some (.int .i64 o) := hb0_5.cell 0
    have c0_1 : w5.cell? ⟨w.heap.size, 1, none⟩ = some (.bool u) := hb0_5.cell 1
    have c0_2 : w5.cell? ⟨w.heap.size, 2, none⟩ = some (.int .i64 f) := hb0_5.cell 2
    have c0_3 : w5.cell? ⟨w.heap.size, 3, none⟩ = some (.int .i64 a) := hb0_5.cell 3
    have c0_4 : w5.cell? ⟨w.heap.size, 4, none⟩ = some (.bool b) := hb0_5.cell 4
    have c0_5 : w5.cell? ⟨w.heap.size, 5, none⟩ = some (.int .i64 c) := hb0_5.cell 5
    have c0_6 : w5.cell? ⟨w.heap.size, 6, none⟩ = some (.bool d) := hb0_5.cell 6
    have c0_7 : w5.cell? ⟨w.heap.size, 7, none⟩ = some (.int .i64 k) := hb0_5.cell 7
    have c0_8 : w5.cell? ⟨w.heap.size, 8, none⟩ = some (.int .i64 n) := hb0_5.cell 8
    have z0 : w.heap.size < w5.heap.size := hb0_5.lt
    have n0 : w.heap.size ≠ w5.heap.size := by omega
    have c1_0 : w5.cell? ⟨(w.heap.size + 1), 0, none⟩ = some (.int .i64 c) := hb1_5.cell 0
    have c1_1 : w5.cell? ⟨(w.heap.size + 1), 1, none⟩ = some (.bool d) := hb1_5.cell 1
    have z1 : (w.heap.size + 1) < w5.heap.size := hb1_5.lt
    have n1 : (w.heap.size + 1) ≠ w5.heap.size := by omega
    have c2_0 : w5.cell? ⟨(w.heap.size + 1 + 1), 0, none⟩ = some (.int .i64 a) := hb2_5.cell 0
    have c2_1 : w5.cell? ⟨(w.heap.size + 1 + 1), 1, none⟩ = some (.bool b) := hb2_5.cell 1
    have z2 : (w.heap.size + 1 + 1) < w5.heap.size := hb2_5.lt
    have n2 : (w.heap.size + 1 + 1) ≠ w5.heap.size := by omega
    have c3_0 : w5.cell? ⟨w2.heap.size, 0, none⟩ = some (.int .i64 X) := hb3_5.cell 0
    have c3_1 : w5.cell? ⟨w2.heap.size, 1, none⟩ = some (.bool Y) := hb3_5.cell 1
    have z3 : w2.heap.size < w5.heap.size := hb3_5.lt
    have n3 : w2.heap.size ≠ w5.heap.size := by omega
    have c4_0 : w5.cell? ⟨w3.heap.size, 0, none⟩ = some (.int .i64 X) := hb4_5.cell 0
    have c4_1 : w5.cell? ⟨w3.heap.size, 1, none⟩ = some (.bool Y) := hb4_5.cell 1
    have z4 : w3.heap.size < w5.heap.size := hb4_5.lt
    have n4 : w3.heap.size ≠ w5.heap.size := by omega
    clear hq
    go_wp2_with fail
    have h6 := (H6.of (w := w) hb2_5 hb3_5 hb4_5 hB5).drew
    clear hb0_5 hb1_5 hb2_5 hb3_5 hb4_5 hB5 c0_0 c0_1 c0_2 c0_3 c0_4 c0_5 c0_6 c0_7 c0_8 n0 z0 c1_0 c1_1 n1 z1 c2_0 c2_1 n2 z2 c3_0 c3_1 n3 z3 c4_0 c4_1 n4 z4
    unfold H6 at h6
    go_region_held3 (fun w' => (w'.cell? ⟨(w.heap.size + 1 + 1), 0, none⟩ = some (.int .i64 a) ∧ w'.cell? ⟨(w.heap.size + 1 + 1), 1, none⟩ = some (.bool b) ∧ w'.cell? ⟨w2.heap.size, 0, none⟩ = some (.int .i64 X) ∧ w'.cell? ⟨w2.heap.size, 1, none⟩ = some (.bool Y) ∧ w'.cell? ⟨w3.heap.size, 0, none⟩ = some (.int .i64 X) ∧ w'.cell? ⟨w3.heap.size, 1, none⟩ = some (.bool Y)) ∧ (Blk w' (w.heap.size + 1 + 1) 25 #[.int .i64 a, .bool b] ∧ Blk w' w2.heap.size 25 #[.int .i64 X, .bool Y] ∧ Blk w' w3.heap.size 25 #[.int .i64 X, .bool Y] ∧ Below w.heap.size w w'))
      (first | exact h6 | assumption | exact H6.next (by assumption) hq)
      (first
        | (go_at_call 14; ((with_reducible refine (HF.out _).mono ?_); rintro e w' ⟨rfl, hq⟩))
        | (go_at_call 15; ((with_reducible refine (H5.out _).mono ?_); rintro e w' ⟨rfl, hq⟩))
        | (go_at_call 16; ((with_reducible refine (H7.out _).mono ?_); rintro e w' ⟨rfl, hq⟩)))
    all_goals
      rename_i hH
      go_wp2
      go_ret
      exact ⟨rfl, hH.2.2.2.2⟩
theorem spotSteps_any (o : Int) (u : Bool) (f a : Int) (b : Bool) (c : Int) (d : Bool) (k n : Int) (w : World) :
    Calls Try.prog 3 #[.agg #[.int .i64 o, .bool u, .int .i64 f, .int .i64 a, .bool b, .int .i64 c, .bool d, .int .i64 k, .int .i64 n]] w fun e w' => e = .returned (.bool true) ∧ Below w.heap.size w w' :=
  spotSteps_walk o u f a b c d k n _ _ _ _ _ _ w (fun W => next_any a n k b W) (fun W => rnext_any a n k b W) (fun W => gap_any a c n b d W) (fun W => rgap_any a c n b d W) (fun W => chk_any a n b W) (fun W => rchk_any a n b W) fixed_any

set_option maxRecDepth 100000 in
theorem spotSteps_lifted (os : Os) (started : os.Started) (H : Type) (enc : TypeId × Value → H) :
    ReturnsInHanded {} Try.checked os 3 .any (Rows.spotStepsSpec.pre6 enc Try.prog Try.f3 Rows.spotStepsRow.domain false) (Rows.spotStepsSpec.post enc Try.prog Try.f3 false true false false) := by
  have e : Try.f3.params.toList = [27] := by rw [Try.params3]
  refine law_of_walk (C := Try.checked) (tb := 4) H enc Try.own started (by kernel_rfl) Try.func3 Try.laidOut rfl rfl Try.underlying4 ?_ ?_
    (ChangeSpec.witness6 (enc := enc) (C := Try.checked) false ⟨#[], #[.agg #[.int .i64 0, .bool false, .int .i64 0, .int .i64 0, .bool false, .int .i64 0, .bool false, .int .i64 0, .int .i64 0]], []⟩ 8 (by kernel_rfl) (by kernel_rfl) (by kernel_rfl) (by kernel_rfl)) ?_
  · rw [e]
    intro t ht
    simp only [List.mem_cons, List.not_mem_nil, or_false] at ht
    rcases ht with rfl <;> exact ⟨by kernel_rfl, of_decide_eq_true (by kernel_rfl)⟩
  · intro ds hds
    rw [e] at hds
    match ds, hds with
    | [d0], _ => rfl
  · intro W base args ds p hval0 hA0 hsz0
    have hval : ∀ (j : Nat) t v, Try.f3.params[j]? = some t → args[j]? = some v → Value.okWide Try.prog W .any base t v := hval0
    have hA : DataW.TrodAll enc Try.prog W 0 (fun _ => true) true Try.f3.params.toList args.toList ds p := hA0
    have hsz : (DataW.weightsEach Try.prog Try.f3.params.toList ds).all (· ≤ reachBytes) = true := hsz0
    rw [Try.params3] at hA hval hsz
    obtain ⟨v0, d0, rfl, rfl, h0⟩ := trodAll_one hA
    obtain ⟨O0, U0, F0, A0, B0, C0, E0, K0, N0, rfl, bo0, bf0, ba0, bc0, bk0, bn0⟩ := open_walk (hval 0 27 v0 rfl rfl) h0
    exact spotSteps_any O0 U0 F0 A0 B0 C0 E0 K0 N0 W

theorem spotSteps_holds : Rows.SpotStepsSaid :=
  OpenClaim.holds_of_wide 3 Try.f3 rfl rfl rfl rfl rfl rfl rfl ⟨rfl, rfl, rfl, rfl, rfl⟩ rfl rfl rfl rfl rfl (by kernel_rfl) Try.func3 (by kernel_rfl)
    (of_decide_eq_true (by kernel_rfl)) (by unfold Func.isWrapper; first | (rw [if_pos (by decide +kernel)]; kernel_rfl) | (rw [if_neg (by decide +kernel)]; exact ⟨rfl, rfl⟩))
    (fun os started H enc _ => spotSteps_lifted os started H enc)
end Go.Proofs.Ytcofbaioflfehaa

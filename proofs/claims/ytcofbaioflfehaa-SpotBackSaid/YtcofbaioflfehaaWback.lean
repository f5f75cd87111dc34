/-
  For every input the law SpotBack returns true, and its arguments read afterwards as before; no condition beyond the form's own reach.
-/
import Derived.Test.YtcofbaioflfehaaWfr
import Derived.Test.YtcofbaioflfehaaSfx
namespace Go.Proofs.Ytcofbaioflfehaa
open Go.Joins Go.ChangeShapes Go.WideShapes Go.ChangeAt Go.RowKit Go.Deep
open Go.ChangeMaps (open_string)

set_option maxRecDepth 100000 in
set_option maxHeartbeats 3200000 in
theorem spotBack_walk (o : Int) (u : Bool) (f a : Int) (b : Bool) (c : Int) (d : Bool) (k n : Int) (M N P A K x y m : Int) (g : Bool) (w : World) (hm : bits .and .i64 n 32767 = M) (h0 : 0 ≤ M) (h1 : M ≤ 32767) (hn : 1 + M = N) (hz : ¬ N = 0) (hp : N + 1 = P) (hq : ¬ P = 0)
    (ha : bits .and .i64 a 32767 = A) (hk : bits .and .i64 k 65535 = K) (hx : A.tmod N = x) (hy : K.tmod P = m) (m0 : 0 ≤ m) (m1 : m ≤ N)
    (A1 : ∀ W, Calls Try.prog 10 #[.agg #[.int .i64 x, .bool b], .int .i64 m, .int .i64 N] W fun e w' => e = .returned (.tuple #[.agg #[.int .i64 y, .bool g], .int .i64 0]) ∧ Below W.heap.size W w')
    (A2 : ∀ W, Calls Try.prog 10 #[.agg #[.int .i64 y, .bool g], .int .i64 (N - m), .int .i64 N] W fun e w' => e = .returned (.tuple #[.agg #[.int .i64 x, .bool (!b)], .int .i64 0]) ∧ Below W.heap.size W w')
    (A3 : ∀ W, Calls Try.prog 10 #[.agg #[.int .i64 x, .bool b], .int .i64 N, .int .i64 N] W fun e w' => e = .returned (.tuple #[.agg #[.int .i64 x, .bool (!b)], .int .i64 0]) ∧ Below W.heap.size W w')
    (A4 : ∀ W, Calls Try.prog 10 #[.agg #[.int .i64 x, .bool (!b)], .int .i64 N, .int .i64 N] W fun e w' => e = .returned (.tuple #[.agg #[.int .i64 x, .bool b], .int .i64 0]) ∧ Below W.heap.size W w')
    (A5 : ∀ W, Calls Try.prog 12 #[.agg #[.int .i64 x, .bool b], .agg #[.int .i64 y, .bool g], .int .i64 N] W fun e w' => e = .returned (.tuple #[.int .i64 m, .int .i64 0]) ∧ Below W.heap.size W w')
    (AF : ∀ W, Calls Try.prog 14 #[] W fun e w' => e = .returned (.bool true) ∧ Below W.heap.size W w') :
    Calls Try.prog 6 #[.agg #[.int .i64 o, .bool u, .int .i64 f, .int .i64 a, .bool b, .int .i64 c, .bool d, .int .i64 k, .int .i64 n]] w fun e w' => e = .returned (.bool true) ∧ Below w.heap.size w w' := by
  have H1 := Lib.hid A1
  have H2 := Lib.hid A2
  have H3 := Lib.hid A3
  have H4 := Lib.hid A4
  have H5 := Lib.hid A5
  have HF := Lib.hid AF
  clear A1 A2 A3 A4 A5 AF
  go_enter Try.func6, Try.ntmps6
  go_wp2_with fail
  have q0 := (H9.new w 27 (.int .i64 o) (.bool u) (.int .i64 f) (.int .i64 a) (.bool b) (.int .i64 c) (.bool d) (.int .i64 k) (.int .i64 n)).drew
  have q1 := ((H9.new w 27 (.int .i64 o) (.bool u) (.int .i64 f) (.int .i64 a) (.bool b) (.int .i64 c) (.bool d) (.int .i64 k) (.int .i64 n)).alloc (.cells #[.int .i64 0, .bool false] 25)).drew
  have q2 := ((H9.new w 27 (.int .i64 o) (.bool u) (.int .i64 f) (.int .i64 a) (.bool b) (.int .i64 c) (.bool d) (.int .i64 k) (.int .i64 n)).alloc (.cells #[.int .i64 x, .bool b] 25)).drew
  unfold H9 at q0 q1 q2
  go_region_held3 (fun w' => (w'.cell? ⟨w.heap.size, 0, none⟩ = some (.int .i64 o) ∧ w'.cell? ⟨w.heap.size, 1, none⟩ = some (.bool u) ∧ w'.cell? ⟨w.heap.size, 2, none⟩ = some (.int .i64 f) ∧ w'.cell? ⟨w.heap.size, 3, none⟩ = some (.int .i64 a) ∧ w'.cell? ⟨w.heap.size, 4, none⟩ = some (.bool b) ∧ w'.cell? ⟨w.heap.size, 5, none⟩ = some (.int .i64 c) ∧ w'.cell? ⟨w.heap.size, 6, none⟩ = some (.bool d) ∧ w'.cell? ⟨w.heap.size, 7, none⟩ = some (.int .i64 k) ∧ w'.cell? ⟨w.heap.size, 8, none⟩ = some (.int .i64 n)) ∧ Held w 27 #[.int .i64 o, .bool u, .int .i64 f, .int .i64 a, .bool b, .int .i64 c, .bool d, .int .i64 k, .int .i64 n] w')
    (first | exact q0 | exact q1 | exact q2)
    (fail)
  rename_i hHeld
  clear hHeld q0 q1 q2
  obtain ⟨w1, hw⟩ : ∃ wX, ((w.alloc (.cells #[.int .i64 o, .bool u, .int .i64 f, .int .i64 a, .bool b, .int .i64 c, .bool d, .int .i64 k, .int .i64 n] 27)).alloc (.cells #[.int .i64 x, .bool b] 25)).drew = wX := ⟨_, rfl⟩
  rw [hw]
  have hq : Below ((w.alloc (.cells #[.int .i64 o, .bool u, .int .i64 f, .int .i64 a, .bool b, .int .i64 c, .bool d, .int .i64 k, .int .i64 n] 27)).alloc (.cells #[.int .i64 x, .bool b] 25)).heap.size ((w.alloc (.cells #[.int .i64 o, .bool u, .int .i64 f, .int .i64 a, .bool b, .int .i64 c, .bool d, .int .i64 k, .int .i64 n] 27)).alloc (.cells #[.int .i64 x, .bool b] 25)) w1 := by rw [← hw]; exact (Below.refl _ _).drew
  have hb0_1 : Blk w1 w.heap.size 27 #[.int .i64 o, .bool u, .int .i64 f, .int .i64 a, .bool b, .int .i64 c, .bool d, .int .i64 k, .int .i64 n] := Blk.same ((Blk.at w 27 #[.int .i64 o, .bool u, .int .i64 f, .int .i64 a, .bool b, .int .i64 c, .bool d, .int .i64 k, .int .i64 n] (g := w.heap.size) (by simp)).alloc (.cells #[.int .i64 x, .bool b] 25)) (hq.block _ (((Blk.at w 27 #[.int .i64 o, .bool u, .int .i64 f, .int .i64 a, .bool b, .int .i64 c, .bool d, .int .i64 k, .int .i64 n] (g := w.heap.size) (by simp)).alloc (.cells #[.int .i64 x, .bool b] 25))).lt)
  have hb1_1 : Blk w1 (w.heap.size + 1) 25 #[.int .i64 x, .bool b] := Blk.same (Blk.at (w.alloc (.cells #[.int .i64 o, .bool u, .int .i64 f, .int .i64 a, .bool b, .int .i64 c, .bool d, .int .i64 k, .int .i64 n] 27)) 25 #[.int .i64 x, .bool b] (g := (w.heap.size + 1)) (by simp)) (hq.block _ ((Blk.at (w.alloc (.cells #[.int .i64 o, .bool u, .int .i64 f, .int .i64 a, .bool b, .int .i64 c, .bool d, .int .i64 k, .int .i64 n] 27)) 25 #[.int .i64 x, .bool b] (g := (w.heap.size + 1)) (by simp))).lt)
  have hB1 := b0 (ba (ba (Below.refl w.heap.size w) _) _) hq
  have c0_0 : w1.cell? ⟨w.heap.size, 0, none⟩ = some (.int .i64 o) := hb0_1.cell 0
  have c0_1 : w1.cell? ⟨w.heap.size, 1, none⟩ = some (.bool u) := hb0_1.cell 1
  have c0_2 : w1.cell? ⟨w.heap.size, 2, none⟩ = some (.int .i64 f) := hb0_1.cell 2
  have c0_3 : w1.cell? ⟨w.heap.size, 3, none⟩ = some (.int .i64 a) := hb0_1.cell 3
  have c0_4 : w1.cell? ⟨w.heap.size, 4, none⟩ = some (.bool b) := hb0_1.cell 4
  have c0_5 : w1.cell? ⟨w.heap.size, 5, none⟩ = some (.int .i64 c) := hb0_1.cell 5
  have c0_6 : w1.cell? ⟨w.heap.size, 6, none⟩ = some (.bool d) := hb0_1.cell 6
  have c0_7 : w1.cell? ⟨w.heap.size, 7, none⟩ = some (.int .i64 k) := hb0_1.cell 7
  have c0_8 : w1.cell? ⟨w.heap.size, 8, none⟩ = some (.int .i64 n) := hb0_1.cell 8
  have z0 : w.heap.size < w1.heap.size := hb0_1.lt
  have n0 : w.heap.size ≠ w1.heap.size := by omega
  have c1_0 : w1.cell? ⟨(w.heap.size + 1), 0, none⟩ = some (.int .i64 x) := hb1_1.cell 0
  have c1_1 : w1.cell? ⟨(w.heap.size + 1), 1, none⟩ = some (.bool b) := hb1_1.cell 1
  have z1 : (w.heap.size + 1) < w1.heap.size := hb1_1.lt
  have n1 : (w.heap.size + 1) ≠ w1.heap.size := by omega
  clear hq hw
  go_wp2_with fail
  refine (H1.out _).mono ?_
  rintro e w2 ⟨rfl, hq⟩
  have hb0_2 : Blk w2 w.heap.size 27 #[.int .i64 o, .bool u, .int .i64 f, .int .i64 a, .bool b, .int .i64 c, .bool d, .int .i64 k, .int .i64 n] := Blk.same hb0_1 (hq.block _ (hb0_1).lt)
  have hb1_2 : Blk w2 (w.heap.size + 1) 25 #[.int .i64 x, .bool b] := Blk.same hb1_1 (hq.block _ (hb1_1).lt)
  have hB2 := b0 hB1 hq
  clear hb0_1 hb1_1 hB1 c0_0 c0_1 c0_2 c0_3 c0_4 c0_5 c0_6 c0_7 c0_8 n0 z0 c1_0 c1_1 n1 z1
  have c0_0 : w2.cell? ⟨w.heap.size, 0, none⟩ = some (.int .i64 o) := hb0_2.cell 0
  have c0_1 : w2.cell? ⟨w.heap.size, 1, none⟩ = some (.bool u) := hb0_2.cell 1
  have c0_2 : w2.cell? ⟨w.heap.size, 2, none⟩ = some (.int .i64 f) := hb0_2.cell 2
  have c0_3 : w2.cell? ⟨w.heap.size, 3, none⟩ = some (.int .i64 a) := hb0_2.cell 3
  have c0_4 : w2.cell? ⟨w.heap.size, 4, none⟩ = some (.bool b) := hb0_2.cell 4
  have c0_5 : w2.cell? ⟨w.heap.size, 5, none⟩ = some (.int .i64 c) := hb0_2.cell 5
  have c0_6 : w2.cell? ⟨w.heap.size, 6, none⟩ = some (.bool d) := hb0_2.cell 6
  have c0_7 : w2.cell? ⟨w.heap.size, 7, none⟩ = some (.int .i64 k) := hb0_2.cell 7
  have c0_8 : w2.cell? ⟨w.heap.size, 8, none⟩ = some (.int .i64 n) := hb0_2.cell 8
  have z0 : w.heap.size < w2.heap.size := hb0_2.lt
  have n0 : w.heap.size ≠ w2.heap.size := by omega
  have c1_0 : w2.cell? ⟨(w.heap.size + 1), 0, none⟩ = some (.int .i64 x) := hb1_2.cell 0
  have c1_1 : w2.cell? ⟨(w.heap.size + 1), 1, none⟩ = some (.bool b) := hb1_2.cell 1
  have z1 : (w.heap.size + 1) < w2.heap.size := hb1_2.lt
  have n1 : (w.heap.size + 1) ≠ w2.heap.size := by omega
  clear hq
  go_wp2_with fail
  refine (H2.out _).mono ?_
  rintro e w3 ⟨rfl, hq⟩
  have hb0_3 : Blk w3 w.heap.size 27 #[.int .i64 o, .bool u, .int .i64 f, .int .i64 a, .bool b, .int .i64 c, .bool d, .int .i64 k, .int .i64 n] := Blk.same (hb0_2.alloc (.cells #[.int .i64 y, .bool g] 25)) (hq.block _ ((hb0_2.alloc (.cells #[.int .i64 y, .bool g] 25))).lt)
  have hb1_3 : Blk w3 (w.heap.size + 1) 25 #[.int .i64 x, .bool b] := Blk.same (hb1_2.alloc (.cells #[.int .i64 y, .bool g] 25)) (hq.block _ ((hb1_2.alloc (.cells #[.int .i64 y, .bool g] 25))).lt)
  have hb2_3 : Blk w3 w2.heap.size 25 #[.int .i64 y, .bool g] := Blk.same (Blk.at w2 25 #[.int .i64 y, .bool g] (g := w2.heap.size) (by simp)) (hq.block _ ((Blk.at w2 25 #[.int .i64 y, .bool g] (g := w2.heap.size) (by simp))).lt)
  have hB3 := b0 (ba hB2 _) hq
  clear hb0_2 hb1_2 hB2 c0_0 c0_1 c0_2 c0_3 c0_4 c0_5 c0_6 c0_7 c0_8 n0 z0 c1_0 c1_1 n1 z1
  have c0_0 : w3.cell? ⟨w.heap.size, 0, none⟩ = some (.int .i64 o) := hb0_3.cell 0
  have c0_1 : w3.cell? ⟨w.heap.size, 1, none⟩ = some (.bool u) := hb0_3.cell 1
  have c0_2 : w3.cell? ⟨w.heap.size, 2, none⟩ = some (.int .i64 f) := hb0_3.cell 2
  have c0_3 : w3.cell? ⟨w.heap.size, 3, none⟩ = some (.int .i64 a) := hb0_3.cell 3
  have c0_4 : w3.cell? ⟨w.heap.size, 4, none⟩ = some (.bool b) := hb0_3.cell 4
  have c0_5 : w3.cell? ⟨w.heap.size, 5, none⟩ = some (.int .i64 c) := hb0_3.cell 5
  have c0_6 : w3.cell? ⟨w.heap.size, 6, none⟩ = some (.bool d) := hb0_3.cell 6
  have c0_7 : w3.cell? ⟨w.heap.size, 7, none⟩ = some (.int .i64 k) := hb0_3.cell 7
  have c0_8 : w3.cell? ⟨w.heap.size, 8, none⟩ = some (.int .i64 n) := hb0_3.cell 8
  have z0 : w.heap.size < w3.heap.size := hb0_3.lt
  have n0 : w.heap.size ≠ w3.heap.size := by omega
  have c1_0 : w3.cell? ⟨(w.heap.size + 1), 0, none⟩ = some (.int .i64 x) := hb1_3.cell 0
  have c1_1 : w3.cell? ⟨(w.heap.size + 1), 1, none⟩ = some (.bool b) := hb1_3.cell 1
  have z1 : (w.heap.size + 1) < w3.heap.size := hb1_3.lt
  have n1 : (w.heap.size + 1) ≠ w3.heap.size := by omega
  have c2_0 : w3.cell? ⟨w2.heap.size, 0, none⟩ = some (.int .i64 y) := hb2_3.cell 0
  have c2_1 : w3.cell? ⟨w2.heap.size, 1, none⟩ = some (.bool g) := hb2_3.cell 1
  have z2 : w2.heap.size < w3.heap.size := hb2_3.lt
  have n2 : w2.heap.size ≠ w3.heap.size := by omega
  clear hq
  go_wp2_with fail
  refine (H3.out _).mono ?_
  rintro e w4 ⟨rfl, hq⟩
  have hb0_4 : Blk w4 w.heap.size 27 #[.int .i64 o, .bool u, .int .i64 f, .int .i64 a, .bool b, .int .i64 c, .bool d, .int .i64 k, .int .i64 n] := Blk.same (hb0_3.alloc (.cells #[.int .i64 x, .bool (!b)] 25)) (hq.block _ ((hb0_3.alloc (.cells #[.int .i64 x, .bool (!b)] 25))).lt)
  have hb1_4 : Blk w4 (w.heap.size + 1) 25 #[.int .i64 x, .bool b] := Blk.same (hb1_3.alloc (.cells #[.int .i64 x, .bool (!b)] 25)) (hq.block _ ((hb1_3.alloc (.cells #[.int .i64 x, .bool (!b)] 25))).lt)
  have hb2_4 : Blk w4 w2.heap.size 25 #[.int .i64 y, .bool g] := Blk.same (hb2_3.alloc (.cells #[.int .i64 x, .bool (!b)] 25)) (hq.block _ ((hb2_3.alloc (.cells #[.int .i64 x, .bool (!b)] 25))).lt)
  have hb3_4 : Blk w4 w3.heap.size 25 #[.int .i64 x, .bool (!b)] := Blk.same (Blk.at w3 25 #[.int .i64 x, .bool (!b)] (g := w3.heap.size) (by simp)) (hq.block _ ((Blk.at w3 25 #[.int .i64 x, .bool (!b)] (g := w3.heap.size) (by simp))).lt)
  have hB4 := b0 (ba hB3 _) hq
  clear hb0_3 hb1_3 hb2_3 hB3 c0_0 c0_1 c0_2 c0_3 c0_4 c0_5 c0_6 c0_7 c0_8 n0 z0 c1_0 c1_1 n1 z1 c2_0 c2_1 n2 z2
  have c0_0 : w4.cell? ⟨w.heap.size, 0, none⟩ = some (.int .i64 o) := hb0_4.cell 0
  have c0_1 : w4.cell? ⟨w.heap.size, 1, none⟩ = some (.bool u) := hb0_4.cell 1
  have c0_2 : w4.cell? ⟨w.heap.size, 2, none⟩ = some (.int .i64 f) := hb0_4.cell 2
  have c0_3 : w4.cell? ⟨w.heap.size, 3, none⟩ = some (.int .i64 a) := hb0_4.cell 3
  have c0_4 : w4.cell? ⟨w.heap.size, 4, none⟩ = some (.bool b) := hb0_4.cell 4
  have c0_5 : w4.cell? ⟨w.heap.size, 5, none⟩ = some (.int .i64 c) := hb0_4.cell 5
  have c0_6 : w4.cell? ⟨w.heap.size, 6, none⟩ = some (.bool d) := hb0_4.cell 6
  have c0_7 : w4.cell? ⟨w.heap.size, 7, none⟩ = some (.int .i64 k) := hb0_4.cell 7
  have c0_8 : w4.cell? ⟨w.heap.size, 8, none⟩ = some (.int .i64 n) := hb0_4.cell 8
  have z0 : w.heap.size < w4.heap.size := hb0_4.lt
  have n0 : w.heap.size ≠ w4.heap.size := by omega
  have c1_0 : w4.cell? ⟨(w.heap.size + 1), 0, none⟩ = some (.int .i64 x) := hb1_4.cell 0
  have c1_1 : w4.cell? ⟨(w.heap.size + 1), 1, none⟩ = some (.bool b) := hb1_4.cell 1
  have z1 : (w.heap.size + 1) < w4.heap.size := hb1_4.lt
  have n1 : (w.heap.size + 1) ≠ w4.heap.size := by omega
  have c2_0 : w4.cell? ⟨w2.heap.size, 0, none⟩ = some (.int .i64 y) := hb2_4.cell 0
  have c2_1 : w4.cell? ⟨w2.heap.size, 1, none⟩ = some (.bool g) := hb2_4.cell 1
  have z2 : w2.heap.size < w4.heap.size := hb2_4.lt
  have n2 : w2.heap.size ≠ w4.heap.size := by omega
  have c3_0 : w4.cell? ⟨w3.heap.size, 0, none⟩ = some (.int .i64 x) := hb3_4.cell 0
  have c3_1 : w4.cell? ⟨w3.heap.size, 1, none⟩ = some (.bool (!b)) := hb3_4.cell 1
  have z3 : w3.heap.size < w4.heap.size := hb3_4.lt
  have n3 : w3.heap.size ≠ w4.heap.size := by omega
  clear hq
  go_wp2_with fail
  refine (H4.out _).mono ?_
  rintro e w5 ⟨rfl, hq⟩
  have hb0_5 : Blk w5 w.heap.size 27 #[.int .i64 o, .bool u, .int .i64 f, .int .i64 a, .bool b, .int .i64 c, .bool d, .int .i64 k, .int .i64 n] := Blk.same (hb0_4.alloc (.cells #[.int .i64 x, .bool (!b)] 25)) (hq.block _ ((hb0_4.alloc (.cells #[.int .i64 x, .bool (!b)] 25))).lt)
  have hb1_5 : Blk w5 (w.heap.size + 1) 25 #[.int .i64 x, .bool b] := Blk.same (hb1_4.alloc (.cells #[.int .i64 x, .bool (!b)] 25)) (hq.block _ ((hb1_4.alloc (.cells #[.int .i64 x, .bool (!b)] 25))).lt)
  have hb2_5 : Blk w5 w2.heap.size 25 #[.int .i64 y, .bool g] := Blk.same (hb2_4.alloc (.cells #[.int .i64 x, .bool (!b)] 25)) (hq.block _ ((hb2_4.alloc (.cells #[.int .i64 x, .bool (!b)] 25))).lt)
  have hb3_5 : Blk w5 w3.heap.size 25 #[.int .i64 x, .bool (!b)] := Blk.same (hb3_4.alloc (.cells #[.int .i64 x, .bool (!b)] 25)) (hq.block _ ((hb3_4.alloc (.cells #[.int .i64 x, .bool (!b)] 25))).lt)
  have hb4_5 : Blk w5 w4.heap.size 25 #[.int .i64 x, .bool (!b)] := Blk.same (Blk.at w4 25 #[.int .i64 x, .bool (!b)] (g := w4.heap.size) (by simp)) (hq.block _ ((Blk.at w4 25 #[.int .i64 x, .bool (!b)] (g := w4.heap.size) (by simp))).lt)
  have hB5 := b0 (ba hB4 _) hq
  clear hb0_4 hb1_4 hb2_4 hb3_4 hB4 c0_0 c0_1 c0_2 c0_3 c0_4 c0_5 c0_6 c0_7 c0_8 n0 z0 c1_0 c1_1 n1 z1 c2_0 c2_1 n2 z2 c3_0 c3_1 n3 z3
  have c0_0 : w5.cell? ⟨w.heap.size, 0, none⟩ = some (.int .i64 o) := hb0_5.cell 0
  have c0_1 : w5.cell? ⟨w.heap.size, 1, none⟩ = some (.bool u) := hb0_5.cell 1
  have c0_2 : w5.cell? ⟨w.heap.size, 2, none⟩ = some (.int .i64 f) := hb0_5.cell 2
  have c0_3 : w5.cell? ⟨w.heap.size, 3, none⟩ = some (.int .i64 a) := hb0_5.cell 3
  have c0_4 : w5.cell? ⟨w.heap.size, 4, none⟩ = some (.bool b) := hb0_5.cell 4
  have c0_5 : w5.cell? ⟨w.heap.size, 5, none⟩ = some (.int .i64 c) := hb0_5.cell 5
  have c0_6 : w5.cell? ⟨w.heap.size, 6, none⟩ = some (.bool d) := hb0_5.cell 6
  have c0_7 : w5.cell? ⟨w.heap.size, 7, none⟩ = some (.int .i64 k) := hb0_5.cell 7
  have c0_8 : w5.cell? ⟨w.heap.size, 8, none⟩ = some (.int .i64 n) := hb0_5.cell 8
  have z0 : w.heap.size < w5.heap.size := hb0_5.lt
  have n0 : w.heap.size ≠ w5.heap.size := by omega
  have c1_0 : w5.cell? ⟨(w.heap.size + 1), 0, none⟩ = some (.int .i64 x) := hb1_5.cell 0
  have c1_1 : w5.cell? ⟨(w.heap.size + 1), 1, none⟩ = some (.bool b) := hb1_5.cell 1
  have z1 : (w.heap.size + 1) < w5.heap.size := hb1_5.lt
  have n1 : (w.heap.size + 1) ≠ w5.heap.size := by omega
  have c2_0 : w5.cell? ⟨w2.heap.size, 0, none⟩ = some (.int .i64 y) := hb2_5.cell 0
  have c2_1 : w5.cell? ⟨w2.heap.size, 1, none⟩ = some (.bool g) := hb2_5.cell 1
  have z2 : w2.heap.size < w5.heap.size := hb2_5.lt
  have n2 : w2.heap.size ≠ w5.heap.size := by omega
  have c3_0 : w5.cell? ⟨w3.heap.size, 0, none⟩ = some (.int .i64 x) := hb3_5.cell 0
  have c3_1 : w5.cell? ⟨w3.heap.size, 1, none⟩ = some (.bool (!b)) := hb3_5.cell 1
  have z3 : w3.heap.size < w5.heap.size := hb3_5.lt
  have n3 : w3.heap.size ≠ w5.heap.size := by omega
  have c4_0 : w5.cell? ⟨w4.heap.size, 0, none⟩ = some (.int .i64 x) := hb4_5.cell 0
  have c4_1 : w5.cell? ⟨w4.heap.size, 1, none⟩ = some (.bool (!b)) := hb4_5.cell 1
  have z4 : w4.heap.size < w5.heap.size := hb4_5.lt
  have n4 : w4.heap.size ≠ w5.heap.size := by omega
  clear hq
  go_wp2_with fail
  refine (H5.out _).mono ?_
  rintro e w6 ⟨rfl, hq⟩
  have hb0_6 : Blk w6 w.heap.size 27 #[.int .i64 o, .bool u, .int .i64 f, .int .i64 a, .bool b, .int .i64 c, .bool d, .int .i64 k, .int .i64 n] := Blk.same (hb0_5.alloc (.cells #[.int .i64 x, .bool b] 25)) (hq.block _ ((hb0_5.alloc (.cells #[.int .i64 x, .bool b] 25))).lt)
  have hb1_6 : Blk w6 (w.heap.size + 1) 25 #[.int .i64 x, .bool b] := Blk.same (hb1_5.alloc (.cells #[.int .i64 x, .bool b] 25)) (hq.block _ ((hb1_5.alloc (.cells #[.int .i64 x, .bool b] 25))).lt)
  have hb2_6 : Blk w6 w2.heap.size 25 #[.int .i64 y, .bool g] := Blk.same (hb2_5.alloc (.cells #[.int .i64 x, .bool b] 25)) (hq.block _ ((hb2_5.alloc (.cells #[.int .i64 x, .bool b] 25))).lt)
  have hb3_6 : Blk w6 w3.heap.size 25 #[.int .i64 x, .bool (!b)] := Blk.same (hb3_5.alloc (.cells #[.int .i64 x, .bool b] 25)) (hq.block _ ((hb3_5.alloc (.cells #[.int .i64 x, .bool b] 25))).lt)
  have hb4_6 : Blk w6 w4.heap.size 25 #[.int .i64 x, .bool (!b)] := Blk.same (hb4_5.alloc (.cells #[.int .i64 x, .bool b] 25)) (hq.block _ ((hb4_5.alloc (.cells #[.int .i64 x, .bool b] 25))).lt)
  have hb5_6 : Blk w6 w5.heap.size 25 #[.int .i64 x, .bool b] := Blk.same (Blk.at w5 25 #[.int .i64 x, .bool b] (g := w5.heap.size) (by simp)) (hq.block _ ((Blk.at w5 25 #[.int .i64 x, .bool b] (g := w5.heap.size) (by simp))).lt)
  have hB6 := b0 (ba hB5 _) hq
  clear hb0_5 hb1_5 hb2_5 hb3_5 hb4_5 hB5 c0_0 c0_1 c0_2 c0_3 c0_4 c0_5 c0_6 c0_7 c0_8 n0 z0 c1_0 c1_1 n1 z1 c2_0 c2_1 n2 z2 c3_0 c3_1 n3 z3 c4_0 c4_1 n4 z4
  have c0_0 : w6.cell? ⟨w.heap.size, 0, none⟩ = some (.int .i64 o) := hb0_6.cell 0
  have c0_1 : w6.cell? ⟨w.heap.size, 1, none⟩ = some (.bool u) := hb0_6.cell 1
  have c0_2 : w6.cell? ⟨w.heap.size, 2, none⟩ = some (.int .i64 f) := hb0_6.cell 2
  have c0_3 : w6.cell? ⟨w.heap.size, 3, none⟩ = some (.int .i64 a) := hb0_6.cell 3
  have c0_4 : w6.cell? ⟨w.heap.size, 4, none⟩ = some (.bool b) := hb0_6.cell 4
  have c0_5 : w6.cell? ⟨w.heap.size, 5, none⟩ = some (.int .i64 c) := hb0_6.cell 5
  have c0_6 : w6.cell? ⟨w.heap.size, 6, none⟩ = some (.bool d) := hb0_6.cell 6
  have c0_7 : w6.cell? ⟨w.heap.size, 7, none⟩ = some (.int .i64 k) := hb0_6.cell 7
  have c0_8 : w6.cell? ⟨w.heap.size, 8, none⟩ = some (.int .i64 n) := hb0_6.cell 8
  have z0 : w.heap.size < w6.heap.size := hb0_6.lt
  have n0 : w.heap.size ≠ w6.heap.size := by omega
  have c1_0 : w6.cell? ⟨(w.heap.size + 1), 0, none⟩ = some (.int .i64 x) := hb1_6.cell 0
  have c1_1 : w6.cell? ⟨(w.heap.size + 1), 1, none⟩ = some (.bool b) := hb1_6.cell 1
  have z1 : (w.heap.size + 1) < w6.heap.size := hb1_6.lt
  have n1 : (w.heap.size + 1) ≠ w6.heap.size := by omega
  have c2_0 : w6.cell? ⟨w2.heap.size, 0, none⟩ = some (.int .i64 y) := hb2_6.cell 0
  have c2_1 : w6.cell? ⟨w2.heap.size, 1, none⟩ = some (.bool g) := hb2_6.cell 1
  have z2 : w2.heap.size < w6.heap.size := hb2_6.lt
  have n2 : w2.heap.size ≠ w6.heap.size := by omega
  have c3_0 : w6.cell? ⟨w3.heap.size, 0, none⟩ = some (.int .i64 x) := hb3_6.cell 0
  have c3_1 : w6.cell? ⟨w3.heap.size, 1, none⟩ = some (.bool (!b)) := hb3_6.cell 1
  have z3 : w3.heap.size < w6.heap.size := hb3_6.lt
  have n3 : w3.heap.size ≠ w6.heap.size := by omega
  have c4_0 : w6.cell? ⟨w4.heap.size, 0, none⟩ = some (.int .i64 x) := hb4_6.cell 0
  have c4_1 : w6.cell? ⟨w4.heap.size, 1, none⟩ = some (.bool (!b)) := hb4_6.cell 1
  have z4 : w4.heap.size < w6.heap.size := hb4_6.lt
  have n4 : w4.heap.size ≠ w6.heap.size := by omega
  have c5_0 : w6.cell? ⟨w5.heap.size, 0, none⟩ = some (.int .i64 x) := hb5_6.cell 0
  have c5_1 : w6.cell? ⟨w5.heap.size, 1, none⟩ = some (.bool b) := hb5_6.cell 1
  have z5 : w5.heap.size < w6.heap.size := hb5_6.lt
  have n5 : w5.heap.size ≠ w6.heap.size := by omega
  clear hq
  go_wp2_with fail
  refine (HF.out _).mono ?_
  rintro e w7 ⟨rfl, hq⟩
  have hb0_7 : Blk w7 w.heap.size 27 #[.int .i64 o, .bool u, .int .i64 f, .int .i64 a, .bool b, .int .i64 c, .bool d, .int .i64 k, .int .i64 n] := Blk.same hb0_6 (hq.block _ (hb0_6).lt)
  have hb1_7 : Blk w7 (w.heap.size + 1) 25 #[.int .i64 x, .bool b] := Blk.same hb1_6 (hq.block _ (hb1_6).lt)
  have hb2_7 : Blk w7 w2.heap.size 25 #[.int .i64 y, .bool g] := Blk.same hb2_6 (hq.block _ (hb2_6).lt)
  have hb3_7 : Blk w7 w3.heap.size 25 #[.int .i64 x, .bool (!b)] := Blk.same hb3_6 (hq.block _ (hb3_6).lt)
  have hb4_7 : Blk w7 w4.heap.size 25 #[.int .i64 x, .bool (!b)] := Blk.same hb4_6 (hq.block _ (hb4_6).lt)
  have hb5_7 : Blk w7 w5.heap.size 25 #[.int .i64 x, .bool b] := Blk.same hb5_6 (hq.block _ (hb5_6).lt)
  have hB7 := b0 hB6 hq
  clear hb0_6 hb1_6 hb2_6 hb3_6 hb4_6 hb5_6 hB6 c0_0 c0_1 c0_2 c0_3 c0_4 c0_5 c0_6 c0_7 c0_8 n0 z0 c1_0 c1_1 n1 z1 c2_0 c2_1 n2 z2 c3_0 c3_1 n3 z3 c4_0 c4_1 n4 z4 c5_0 c5_1 n5 z5
  have c0_0 : w7.cell? ⟨w.heap.size, 0, none⟩ = some (.int .i64 o) := hb0_7.cell 0
  have c0_1 : w7.cell? ⟨w.heap.size, 1, none⟩ = some (.bool u) := hb0_7.cell 1
  have c0_2 : w7.cell? ⟨w.heap.size, 2, none⟩ = some (.int .i64 f) := hb0_7.cell 2
  have c0_3 : w7.cell? ⟨w.heap.size, 3, none⟩ = some (.int .i64 a) := hb0_7.cell 3
  have c0_4 : w7.cell? ⟨w.heap.size, 4, none⟩ = some (.bool b) := hb0_7.cell 4
  have c0_5 : w7.cell? ⟨w.heap.size, 5, none⟩ = some (.int .i64 c) := hb0_7.cell 5
  have c0_6 : w7.cell? ⟨w.heap.size, 6, none⟩ = some (.bool d) := hb0_7.cell 6
  have c0_7 : w7.cell? ⟨w.heap.size, 7, none⟩ = some (.int .i64 k) := hb0_7.cell 7
  have c0_8 : w7.cell? ⟨w.heap.size, 8, none⟩ = some (.int .i64 n) := hb0_7.cell 8
  have z0 : w.heap.size < w7.heap.size := hb0_7.lt
  have n0 : w.heap.size ≠ w7.heap.size := by omega
  have c1_0 : w7.cell? ⟨(w.heap.size + 1), 0, none⟩ = some (.int .i64 x) := hb1_7.cell 0
  have c1_1 : w7.cell? ⟨(w.heap.size + 1), 1, none⟩ = some (.bool b) := hb1_7.cell 1
  have z1 : (w.heap.size + 1) < w7.heap.size := hb1_7.lt
  have n1 : (w.heap.size + 1) ≠ w7.heap.size := by omega
  have c2_0 : w7.cell? ⟨w2.heap.size, 0, none⟩ = some (.int .i64 y) := hb2_7.cell 0
  have c2_1 : w7.cell? ⟨w2.heap.size, 1, none⟩ = some (.bool g) := hb2_7.cell 1
  have z2 : w2.heap.size < w7.heap.size := hb2_7.lt
  have n2 : w2.heap.size ≠ w7.heap.size := by omega
  have c3_0 : w7.cell? ⟨w3.heap.size, 0, none⟩ = some (.int .i64 x) := hb3_7.cell 0
  have c3_1 : w7.cell? ⟨w3.heap.size, 1, none⟩ = some (.bool (!b)) := hb3_7.cell 1
  have z3 : w3.heap.size < w7.heap.size := hb3_7.lt
  have n3 : w3.heap.size ≠ w7.heap.size := by omega
  have c4_0 : w7.cell? ⟨w4.heap.size, 0, none⟩ = some (.int .i64 x) := hb4_7.cell 0
  have c4_1 : w7.cell? ⟨w4.heap.size, 1, none⟩ = some (.bool (!b)) := hb4_7.cell 1
  have z4 : w4.heap.size < w7.heap.size := hb4_7.lt
  have n4 : w4.heap.size ≠ w7.heap.size := by omega
  have c5_0 : w7.cell? ⟨w5.heap.size, 0, none⟩ = some (.int .i64 x) := hb5_7.cell 0
  have c5_1 : w7.cell? ⟨w5.heap.size, 1, none⟩ = some (.bool b) := hb5_7.cell 1
  have z5 : w5.heap.size < w7.heap.size := hb5_7.lt
  have n5 : w5.heap.size ≠ w7.heap.size := by omega
  clear hq
  go_wp2_with fail
  go_ret
  exact ⟨rfl, hB7⟩
theorem next_at {a n k : Int} {b : Bool} {A : Int} {B : Bool} (h : nxE a n k = 0) (hA : nxA a n k = A) (hB : nxB a n k b = B) (W : World) :
    Calls Try.prog 10 #[.agg #[.int .i64 a, .bool b], .int .i64 k, .int .i64 n] W fun e w' => e = .returned (.tuple #[.agg #[.int .i64 A, .bool B], .int .i64 0]) ∧ Below W.heap.size W w' := by
  have H := next_any a n k b W
  rw [h, hA, hB] at H
  exact H
theorem spotBack_any (o : Int) (u : Bool) (f a : Int) (b : Bool) (c : Int) (d : Bool) (k n : Int) (w : World) :
    Calls Try.prog 6 #[.agg #[.int .i64 o, .bool u, .int .i64 f, .int .i64 a, .bool b, .int .i64 c, .bool d, .int .i64 k, .int .i64 n]] w fun e w' => e = .returned (.bool true) ∧ Below w.heap.size w w' := by
  obtain ⟨M, hM, eM⟩ := low15 n
  obtain ⟨A, hA, eA⟩ := low15 a
  obtain ⟨K, hK, eK⟩ := low16 k
  have n1 : 1 ≤ 1 + (M : Int) := by omega
  have n2 : 1 + (M : Int) ≤ 32768 := by omega
  obtain ⟨x, hx, x0, x1⟩ := pos_in A (1 + (M : Int)) n1
  obtain ⟨m, hm, m0, m1⟩ := pos_in K (1 + (M : Int) + 1) (by omega)
  have m2 : m ≤ 1 + (M : Int) := by omega
  generalize hN : 1 + (M : Int) = N at *
  have f1 : nxE x N m = 0 := nxE_in n1 n2 x0 x1 m0 m2
  obtain ⟨g1, y0, y1⟩ := gp_next b f1
  have f2 : nxE (nxA x N m) N (N - m) = 0 := nxE_in n1 n2 y0 y1 (by omega) (by omega)
  have f3 : nxE x N N = 0 := nxE_in n1 n2 x0 x1 (by omega) (by omega)
  have e2 : nxA (nxA x N m) N (N - m) = x ∧ nxB (nxA x N m) N (N - m) (nxB x N m b) = !b := by
    by_cases h : x + m < N
    · obtain ⟨p, q⟩ := nx_low b f1 h
      rw [p, q]
      rw [p] at f2
      obtain ⟨r, t⟩ := nx_high b f2 (by omega)
      exact ⟨by omega, t⟩
    · obtain ⟨p, q⟩ := nx_high b f1 h
      rw [p, q]
      rw [p] at f2
      obtain ⟨r, t⟩ := nx_low (!b) f2 (by omega)
      exact ⟨by omega, t⟩
  obtain ⟨p3, q3⟩ := nx_high b f3 (by omega)
  obtain ⟨p4, q4⟩ := nx_high (!b) f3 (by omega)
  have e5 : gpE x (nxA x N m) N = 0 := gpE_in n1 n2 x0 x1 y0 y1
  have A5 := gap_any x (nxA x N m) N b (nxB x N m b)
  rw [gpV_ok b (nxB x N m b) e5, e5, g1] at A5
  exact spotBack_walk o u f a b c d k n M N (N + 1) A K x _ m _ w eM (by omega) (by omega) hN (by omega) rfl (by omega) eA eK hx hm m0 m2
    (next_at f1 rfl rfl) (next_at f2 e2.1 e2.2) (next_at f3 (by omega) q3) (next_at f3 (by omega) (by rw [q4, Bool.not_not])) A5 fixed_any

set_option maxRecDepth 100000 in
theorem spotBack_lifted (os : Os) (started : os.Started) (H : Type) (enc : TypeId × Value → H) :
    ReturnsInHanded {} Try.checked os 6 .any (Rows.spotBackSpec.pre6 enc Try.prog Try.f6 Rows.spotBackRow.domain false) (Rows.spotBackSpec.post enc Try.prog Try.f6 false true false false) := by
  have e : Try.f6.params.toList = [27] := by rw [Try.params6]
  refine law_of_walk (C := Try.checked) (tb := 4) H enc Try.own started (by kernel_rfl) Try.func6 Try.laidOut rfl rfl Try.underlying4 ?_ ?_
    (ChangeSpec.witness6 (enc := enc) (C := Try.checked) false ⟨#[], #[.agg #[.int .i64 0, .bool false, .int .i64 0, .int .i64 0, .bool false, .int .i64 0, .bool false, .int .i64 0, .int .i64 0]], []⟩ 8 (by kernel_rfl) (by kernel_rfl) (by kernel_rfl) (by kernel_rfl)) ?_
  · rw [e]
    intro t ht
    simp only [List.mem_cons, List.not_mem_nil, or_false] at ht
    rcases ht with rfl <;> exact ⟨by kernel_rfl, of_decide_eq_true (by kernel_rfl)⟩
  · intro ds hds
    rw [e] at hds
    match ds, hds with
    | [d0], _ => rfl
  · intro W base args ds p hval0 hA0 hsz0
    have hval : ∀ (j : Nat) t v, Try.f6.params[j]? = some t → args[j]? = some v → Value.okWide Try.prog W .any base t v := hval0
    have hA : DataW.TrodAll enc Try.prog W 0 (fun _ => true) true Try.f6.params.toList args.toList ds p := hA0
    have hsz : (DataW.weightsEach Try.prog Try.f6.params.toList ds).all (· ≤ reachBytes) = true := hsz0
    rw [Try.params6] at hA hval hsz
    obtain ⟨v0, d0, rfl, rfl, h0⟩ := trodAll_one hA
    obtain ⟨O0, U0, F0, A0, B0, C0, E0, K0, N0, rfl, bo0, bf0, ba0, bc0, bk0, bn0⟩ := open_walk (hval 0 27 v0 rfl rfl) h0
    exact spotBack_any O0 U0 F0 A0 B0 C0 E0 K0 N0 W

theorem spotBack_holds : Rows.SpotBackSaid :=
  OpenClaim.holds_of_wide 6 Try.f6 rfl rfl rfl rfl rfl rfl rfl ⟨rfl, rfl, rfl, rfl, rfl⟩ rfl rfl rfl rfl rfl (by kernel_rfl) Try.func6 (by kernel_rfl)
    (of_decide_eq_true (by kernel_rfl)) (by unfold Func.isWrapper; first | (rw [if_pos (by decide +kernel)]; kernel_rfl) | (rw [if_neg (by decide +kernel)]; exact ⟨rfl, rfl⟩))
    (fun os started H enc _ => spotBack_lifted os started H enc)
end Go.Proofs.Ytcofbaioflfehaa

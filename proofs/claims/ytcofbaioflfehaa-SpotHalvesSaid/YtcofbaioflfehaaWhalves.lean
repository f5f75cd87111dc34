/-
  For every input the law SpotHalves returns true, and its arguments read afterwards as before; no condition beyond the form's own reach.
-/
import Derived.Test.YtcofbaioflfehaaWfr
import Derived.Test.YtcofbaioflfehaaSfx
namespace Go.Proofs.Ytcofbaioflfehaa
open Go.Joins Go.ChangeShapes Go.WideShapes Go.ChangeAt Go.RowKit Go.Deep
open Go.ChangeMaps (open_string)

set_option maxRecDepth 100000 in
set_option maxHeartbeats 3200000 in
theorem spotHalves_away (o : Int) (u : Bool) (f a : Int) (b : Bool) (c : Int) (d : Bool) (k n M N A C x y G J : Int) (w : World) (hm : bits .and .i64 n 32767 = M) (h0 : 0 ≤ M) (h1 : M ≤ 32767) (hn : 1 + M = N) (hz : ¬ N = 0)
    (ha : bits .and .i64 a 65535 = A) (hc : bits .and .i64 c 65535 = C) (hx : A.tmod N = x) (hy : C.tmod N = y) (hxy : (x == y) = false) (g1 : 0 < G) (g2 : G < 65536) (j1 : 0 < J) (j2 : J < 65536) (hs : G + J = 2 * N)
    (A1 : ∀ W, Calls Try.prog 12 #[.agg #[.int .i64 x, .bool b], .agg #[.int .i64 y, .bool d], .int .i64 N] W fun e w' => e = .returned (.tuple #[.int .i64 G, .int .i64 0]) ∧ Below W.heap.size W w')
    (A2 : ∀ W, Calls Try.prog 12 #[.agg #[.int .i64 y, .bool d], .agg #[.int .i64 x, .bool b], .int .i64 N] W fun e w' => e = .returned (.tuple #[.int .i64 J, .int .i64 0]) ∧ Below W.heap.size W w')
    (AF : ∀ W, Calls Try.prog 14 #[] W fun e w' => e = .returned (.bool true) ∧ Below W.heap.size W w') :
    Calls Try.prog 9 #[.agg #[.int .i64 o, .bool u, .int .i64 f, .int .i64 a, .bool b, .int .i64 c, .bool d, .int .i64 k, .int .i64 n]] w fun e w' => e = .returned (.bool true) ∧ Below w.heap.size w w' := by
  have _ := g2; have _ := j2
  have H1 := Lib.hid A1
  have H2 := Lib.hid A2
  have HF := Lib.hid AF
  clear A1 A2 AF
  go_enter Try.func9, Try.ntmps9
  go_wp2_with fail
  have q0 := (H9.new w 27 (.int .i64 o) (.bool u) (.int .i64 f) (.int .i64 a) (.bool b) (.int .i64 c) (.bool d) (.int .i64 k) (.int .i64 n)).drew
  have q1 := ((H9.new w 27 (.int .i64 o) (.bool u) (.int .i64 f) (.int .i64 a) (.bool b) (.int .i64 c) (.bool d) (.int .i64 k) (.int .i64 n)).alloc (.cells #[.int .i64 0, .bool false] 25)).drew
  have q2 := ((H9.new w 27 (.int .i64 o) (.bool u) (.int .i64 f) (.int .i64 a) (.bool b) (.int .i64 c) (.bool d) (.int .i64 k) (.int .i64 n)).alloc (.cells #[.int .i64 x, .bool b] 25)).drew
  unfold H9 at q0 q1 q2
  go_region_held3 (fun w' => (w'.cell? ⟨w.heap.size, 0, none⟩ = some (.int .i64 o) ∧ w'.cell? ⟨w.heap.size, 1, none⟩ = some (.bool u) ∧ w'.cell? ⟨w.heap.size, 2, none⟩ = some (.int .i64 f) ∧ w'.cell? ⟨w.heap.size, 3, none⟩ = some (.int .i64 a) ∧ w'.cell? ⟨w.heap.size, 4, none⟩ = some (.bool b) ∧ w'.cell? ⟨w.heap.size, 5, none⟩ = some (.int .i64 c) ∧ w'.cell? ⟨w.heap.size, 6, none⟩ = some (.bool d) ∧ w'.cell? ⟨w.heap.size, 7, none⟩ = some (.int .i64 k) ∧ w'.cell? ⟨w.heap.size, 8, none⟩ = some (.int .i64 n)) ∧ Held w 27 #[.int .i64 o, .bool u, .int .i64 f, .int .i64 a, .bool b, .int .i64 c, .bool d, .int .i64 k, .int .i64 n] w')
    (first | exact q0 | exact q1 | exact q2)
    (fail)
  rename_i hHeld
  clear hHeld q0 q1 q2
  obtain ⟨w1, hw⟩ : ∃ wX, ((w.alloc (.cells #[.int .i64 o, .bool u, .int .i64 f, .int .i64 a, .bool b, .int .i64 c, .bool d, .int .i64 k, .int .i64 n] 27)).alloc (.cells #[.int .i64 x, .bool b] 25)).drew = wX := ⟨_, rfl⟩
  rw [hw]
  have hq : Below ((w.alloc (.cells #[.int .i64 o, .bool u, .int .i64 f, .int .i64 a, .bool b, .int .i64 c, .bool d, .int .i64 k, .int .i64 n] 27)).alloc (.cells #[.int .i64 x, .bool b] 25)).heap.size ((w.alloc (.cells #[.int .i64 o, .bool u, .int .i64 f, .int .i64 a, .bool b, .int .i64 c, .bool d, .int .i64 k, .int .i64 n] 27)).alloc (.cells #[.int .i64 x, .bool b] 25)) w1 := by rw [← hw]; exact (Below.refl _ _).drew
  have hb0_1 : Blk w1 w.heap.size 27 #[.int .i64 o, .bool u, .int .i64 f, .int .i64 a, .bool b, .int .i64 c, .bool d, .int .i64 k, .int .i64 n] := Blk.same ((Blk.at w 27 #[.int .i64 o, .bool u, .int .i64 f, .int .i64 a, .bool b, .int .i64 c, .bool d, .int .i64 k, .int .i64 n] (g := w.heap.size) (by simp)).alloc (.cells #[.int .i64 x, .bool b] 25)) (hq.block _ (((Blk.at w 27 #[.int .i64 o, .bool u, .int .i64 f, .int .i64 a, .bool b, .int .i64 c, .bool d, .int .i64 k, .int .i64 n] (g := w.heap.size) (by simp)).alloc (.cells #[.int .i64 x, .bool b] 25))).lt)
  have hb1_1 : Blk w1 (w.heap.size + 1) 25 #[.int .i64 x, .bool b] := Blk.same (Blk.at (w.alloc (.cells #[.int .i64 o, .bool u, .int .i64 f, .int .i64 a, .bool b, .int .i64 c, .bool d, .int .i64 k, .int .i64 n] 27)) 25 #[.int .i64 x, .bool b] (g := (w.heap.size + 1)) (by simp)) (hq.block _ ((Blk.at (w.alloc (.cells #[.int .i64 o, .bool u, .int .i64 f, .int .i64 a, .bool b, .int .i64 c, .bool d, .int .i64 k, .int .i64 n] 27)) 25 #[.int .i64 x, .bool b] (g := (w.heap.size + 1)) (by simp))).lt)
  have hB1 := b0 (ba (ba (Below.refl w.heap.size w) _) _) hq
  have c0_0 : w1.cell? ⟨w.heap.size, 0, none⟩ = some (.int .i64 o) := hb0_1.cell 0
  have c0_1 : w1.cell? ⟨w.heap.size, 1, none⟩ = some (.bool u) := hb0_1.cell 1
  have c0_2 : w1.cell? ⟨w.heap.size, 2, none⟩ = some (.int .i64 f) := hb0_1.cell 2
  have c0_3 : w1.cell? ⟨w.heap.size, 3, none⟩ = some (.int .i64 a) := hb0_1.cell 3
  have c0_4 : w1.cell? ⟨w.heap.size, 4, none⟩ = some (.bool b) := hb0_1.cell 4
  have c0_5 : w1.cell? ⟨w.heap.size, 5, none⟩ = some (.int .i64 c) := hb0_1.cell 5
  have c0_6 : w1.cell? ⟨w.heap.size, 6, none⟩ = some (.bool d) := hb0_1.cell 6
  have c0_7 : w1.cell? ⟨w.heap.size, 7, none⟩ = some (.int .i64 k) := hb0_1.cell 7
  have c0_8 : w1.cell? ⟨w.heap.size, 8, none⟩ = some (.int .i64 n) := hb0_1.cell 8
  have z0 : w.heap.size < w1.heap.size := hb0_1.lt
  have n0 : w.heap.size ≠ w1.heap.size := by omega
  have c1_0 : w1.cell? ⟨(w.heap.size + 1), 0, none⟩ = some (.int .i64 x) := hb1_1.cell 0
  have c1_1 : w1.cell? ⟨(w.heap.size + 1), 1, none⟩ = some (.bool b) := hb1_1.cell 1
  have z1 : (w.heap.size + 1) < w1.heap.size := hb1_1.lt
  have n1 : (w.heap.size + 1) ≠ w1.heap.size := by omega
  clear hq hw
  go_wp2_with fail
  have q0 := (H9.of (w := w) (t := 27) ⟨hb0_1, hB1⟩).drew
  have q1 := ((H9.of (w := w) (t := 27) ⟨hb0_1, hB1⟩).alloc (.cells #[.int .i64 0, .bool false] 25)).drew
  have q2 := ((H9.of (w := w) (t := 27) ⟨hb0_1, hB1⟩).alloc (.cells #[.int .i64 y, .bool d] 25)).drew
  unfold H9 at q0 q1 q2
  go_region_held3 (fun w' => (w'.cell? ⟨w.heap.size, 0, none⟩ = some (.int .i64 o) ∧ w'.cell? ⟨w.heap.size, 1, none⟩ = some (.bool u) ∧ w'.cell? ⟨w.heap.size, 2, none⟩ = some (.int .i64 f) ∧ w'.cell? ⟨w.heap.size, 3, none⟩ = some (.int .i64 a) ∧ w'.cell? ⟨w.heap.size, 4, none⟩ = some (.bool b) ∧ w'.cell? ⟨w.heap.size, 5, none⟩ = some (.int .i64 c) ∧ w'.cell? ⟨w.heap.size, 6, none⟩ = some (.bool d) ∧ w'.cell? ⟨w.heap.size, 7, none⟩ = some (.int .i64 k) ∧ w'.cell? ⟨w.heap.size, 8, none⟩ = some (.int .i64 n)) ∧ Held w 27 #[.int .i64 o, .bool u, .int .i64 f, .int .i64 a, .bool b, .int .i64 c, .bool d, .int .i64 k, .int .i64 n] w')
    (first | exact q0 | exact q1 | exact q2)
    (fail)
  rename_i hHeld
  clear hHeld q0 q1 q2
  obtain ⟨w2, hw⟩ : ∃ wX, (w1.alloc (.cells #[.int .i64 y, .bool d] 25)).drew = wX := ⟨_, rfl⟩
  rw [hw]
  have hq : Below (w1.alloc (.cells #[.int .i64 y, .bool d] 25)).heap.size (w1.alloc (.cells #[.int .i64 y, .bool d] 25)) w2 := by rw [← hw]; exact (Below.refl _ _).drew
  have hb0_2 : Blk w2 w.heap.size 27 #[.int .i64 o, .bool u, .int .i64 f, .int .i64 a, .bool b, .int .i64 c, .bool d, .int .i64 k, .int .i64 n] := Blk.same (hb0_1.alloc (.cells #[.int .i64 y, .bool d] 25)) (hq.block _ ((hb0_1.alloc (.cells #[.int .i64 y, .bool d] 25))).lt)
  have hb1_2 : Blk w2 (w.heap.size + 1) 25 #[.int .i64 x, .bool b] := Blk.same (hb1_1.alloc (.cells #[.int .i64 y, .bool d] 25)) (hq.block _ ((hb1_1.alloc (.cells #[.int .i64 y, .bool d] 25))).lt)
  have hb2_2 : Blk w2 w1.heap.size 25 #[.int .i64 y, .bool d] := Blk.same (Blk.at w1 25 #[.int .i64 y, .bool d] (g := w1.heap.size) (by simp)) (hq.block _ ((Blk.at w1 25 #[.int .i64 y, .bool d] (g := w1.heap.size) (by simp))).lt)
  have hB2 := b0 (ba hB1 _) hq
  clear hb0_1 hb1_1 hB1 c0_0 c0_1 c0_2 c0_3 c0_4 c0_5 c0_6 c0_7 c0_8 n0 z0 c1_0 c1_1 n1 z1
  have c0_0 : w2.cell? ⟨w.heap.size, 0, none⟩ = some (.int .i64 o) := hb0_2.cell 0
  have c0_1 : w2.cell? ⟨w.heap.size, 1, none⟩ = some (.bool u) := hb0_2.cell 1
  have c0_2 : w2.cell? ⟨w.heap.size, 2, none⟩ = some (.int .i64 f) := hb0_2.cell 2
  have c0_3 : w2.cell? ⟨w.heap.size, 3, none⟩ = some (.int .i64 a) := hb0_2.cell 3
  have c0_4 : w2.cell? ⟨w.heap.size, 4, none⟩ = some (.bool b) := hb0_2.cell 4
  have c0_5 : w2.cell? ⟨w.heap.size, 5, none⟩ = some (.int .i64 c) := hb0_2.cell 5
  have c0_6 : w2.cell? ⟨w.heap.size, 6, none⟩ = some (.bool d) := hb0_2.cell 6
  have c0_7 : w2.cell? ⟨w.heap.size, 7, none⟩ = some (.int .i64 k) := hb0_2.cell 7
  have c0_8 : w2.cell? ⟨w.heap.size, 8, none⟩ = some (.int .i64 n) := hb0_2.cell 8
  have z0 : w.heap.size < w2.heap.size := hb0_2.lt
  have n0 : w.heap.size ≠ w2.heap.size := by omega
  have c1_0 : w2.cell? ⟨(w.heap.size + 1), 0, none⟩ = some (.int .i64 x) := hb1_2.cell 0
  have c1_1 : w2.cell? ⟨(w.heap.size + 1), 1, none⟩ = some (.bool b) := hb1_2.cell 1
  have z1 : (w.heap.size + 1) < w2.heap.size := hb1_2.lt
  have n1 : (w.heap.size + 1) ≠ w2.heap.size := by omega
  have c2_0 : w2.cell? ⟨w1.heap.size, 0, none⟩ = some (.int .i64 y) := hb2_2.cell 0
  have c2_1 : w2.cell? ⟨w1.heap.size, 1, none⟩ = some (.bool d) := hb2_2.cell 1
  have z2 : w1.heap.size < w2.heap.size := hb2_2.lt
  have n2 : w1.heap.size ≠ w2.heap.size := by omega
  clear hq hw
  go_wp2_with fail
  refine (H1.out _).mono ?_
  rintro e w3 ⟨rfl, hq⟩
  have hb0_3 : Blk w3 w.heap.size 27 #[.int .i64 o, .bool u, .int .i64 f, .int .i64 a, .bool b, .int .i64 c, .bool d, .int .i64 k, .int .i64 n] := Blk.same hb0_2 (hq.block _ (hb0_2).lt)
  have hb1_3 : Blk w3 (w.heap.size + 1) 25 #[.int .i64 x, .bool b] := Blk.same hb1_2 (hq.block _ (hb1_2).lt)
  have hb2_3 : Blk w3 w1.heap.size 25 #[.int .i64 y, .bool d] := Blk.same hb2_2 (hq.block _ (hb2_2).lt)
  have hB3 := b0 hB2 hq
  clear hb0_2 hb1_2 hb2_2 hB2 c0_0 c0_1 c0_2 c0_3 c0_4 c0_5 c0_6 c0_7 c0_8 n0 z0 c1_0 c1_1 n1 z1 c2_0 c2_1 n2 z2
  have c0_0 : w3.cell? ⟨w.heap.size, 0, none⟩ = some (.int .i64 o) := hb0_3.cell 0
  have c0_1 : w3.cell? ⟨w.heap.size, 1, none⟩ = some (.bool u) := hb0_3.cell 1
  have c0_2 : w3.cell? ⟨w.heap.size, 2, none⟩ = some (.int .i64 f) := hb0_3.cell 2
  have c0_3 : w3.cell? ⟨w.heap.size, 3, none⟩ = some (.int .i64 a) := hb0_3.cell 3
  have c0_4 : w3.cell? ⟨w.heap.size, 4, none⟩ = some (.bool b) := hb0_3.cell 4
  have c0_5 : w3.cell? ⟨w.heap.size, 5, none⟩ = some (.int .i64 c) := hb0_3.cell 5
  have c0_6 : w3.cell? ⟨w.heap.size, 6, none⟩ = some (.bool d) := hb0_3.cell 6
  have c0_7 : w3.cell? ⟨w.heap.size, 7, none⟩ = some (.int .i64 k) := hb0_3.cell 7
  have c0_8 : w3.cell? ⟨w.heap.size, 8, none⟩ = some (.int .i64 n) := hb0_3.cell 8
  have z0 : w.heap.size < w3.heap.size := hb0_3.lt
  have n0 : w.heap.size ≠ w3.heap.size := by omega
  have c1_0 : w3.cell? ⟨(w.heap.size + 1), 0, none⟩ = some (.int .i64 x) := hb1_3.cell 0
  have c1_1 : w3.cell? ⟨(w.heap.size + 1), 1, none⟩ = some (.bool b) := hb1_3.cell 1
  have z1 : (w.heap.size + 1) < w3.heap.size := hb1_3.lt
  have n1 : (w.heap.size + 1) ≠ w3.heap.size := by omega
  have c2_0 : w3.cell? ⟨w1.heap.size, 0, none⟩ = some (.int .i64 y) := hb2_3.cell 0
  have c2_1 : w3.cell? ⟨w1.heap.size, 1, none⟩ = some (.bool d) := hb2_3.cell 1
  have z2 : w1.heap.size < w3.heap.size := hb2_3.lt
  have n2 : w1.heap.size ≠ w3.heap.size := by omega
  clear hq
  go_wp2_with fail
  refine (H2.out _).mono ?_
  rintro e w4 ⟨rfl, hq⟩
  have hb0_4 : Blk w4 w.heap.size 27 #[.int .i64 o, .bool u, .int .i64 f, .int .i64 a, .bool b, .int .i64 c, .bool d, .int .i64 k, .int .i64 n] := Blk.same hb0_3 (hq.block _ (hb0_3).lt)
  have hb1_4 : Blk w4 (w.heap.size + 1) 25 #[.int .i64 x, .bool b] := Blk.same hb1_3 (hq.block _ (hb1_3).lt)
  have hb2_4 : Blk w4 w1.heap.size 25 #[.int .i64 y, .bool d] := Blk.same hb2_3 (hq.block _ (hb2_3).lt)
  have hB4 := b0 hB3 hq
  clear hb0_3 hb1_3 hb2_3 hB3 c0_0 c0_1 c0_2 c0_3 c0_4 c0_5 c0_6 c0_7 c0_8 n0 z0 c1_0 c1_1 n1 z1 c2_0 c2_1 n2 z2
  have c0_0 : w4.cell? ⟨w.heap.size, 0, none⟩ = some (.int .i64 o) := hb0_4.cell 0
  have c0_1 : w4.cell? ⟨w.heap.size, 1, none⟩ = some (.bool u) := hb0_4.cell 1
  have c0_2 : w4.cell? ⟨w.heap.size, 2, none⟩ = some (.int .i64 f) := hb0_4.cell 2
  have c0_3 : w4.cell? ⟨w.heap.size, 3, none⟩ = some (.int .i64 a) := hb0_4.cell 3
  have c0_4 : w4.cell? ⟨w.heap.size, 4, none⟩ = some (.bool b) := hb0_4.cell 4
  have c0_5 : w4.cell? ⟨w.heap.size, 5, none⟩ = some (.int .i64 c) := hb0_4.cell 5
  have c0_6 : w4.cell? ⟨w.heap.size, 6, none⟩ = some (.bool d) := hb0_4.cell 6
  have c0_7 : w4.cell? ⟨w.heap.size, 7, none⟩ = some (.int .i64 k) := hb0_4.cell 7
  have c0_8 : w4.cell? ⟨w.heap.size, 8, none⟩ = some (.int .i64 n) := hb0_4.cell 8
  have z0 : w.heap.size < w4.heap.size := hb0_4.lt
  have n0 : w.heap.size ≠ w4.heap.size := by omega
  have c1_0 : w4.cell? ⟨(w.heap.size + 1), 0, none⟩ = some (.int .i64 x) := hb1_4.cell 0
  have c1_1 : w4.cell? ⟨(w.heap.size + 1), 1, none⟩ = some (.bool b) := hb1_4.cell 1
  have z1 : (w.heap.size + 1) < w4.heap.size := hb1_4.lt
  have n1 : (w.heap.size + 1) ≠ w4.heap.size := by omega
  have c2_0 : w4.cell? ⟨w1.heap.size, 0, none⟩ = some (.int .i64 y) := hb2_4.cell 0
  have c2_1 : w4.cell? ⟨w1.heap.size, 1, none⟩ = some (.bool d) := hb2_4.cell 1
  have z2 : w1.heap.size < w4.heap.size := hb2_4.lt
  have n2 : w1.heap.size ≠ w4.heap.size := by omega
  clear hq
  go_wp2_with fail
  refine (HF.out _).mono ?_
  rintro e w5 ⟨rfl, hq⟩
  have hb0_5 : Blk w5 w.heap.size 27 #[.int .i64 o, .bool u, .int .i64 f, .int .i64 a, .bool b, .int .i64 c, .bool d, .int .i64 k, .int .i64 n] := Blk.same hb0_4 (hq.block _ (hb0_4).lt)
  have hb1_5 : Blk w5 (w.heap.size + 1) 25 #[.int .i64 x, .bool b] := Blk.same hb1_4 (hq.block _ (hb1_4).lt)
  have hb2_5 : Blk w5 w1.heap.size 25 #[.int .i64 y, .bool d] := Blk.same hb2_4 (hq.block _ (hb2_4).lt)
  have hB5 := b0 hB4 hq
  clear hb0_4 hb1_4 hb2_4 hB4 c0_0 c0_1 c0_2 c0_3 c0_4 c0_5 c0_6 c0_7 c0_8 n0 z0 c1_0 c1_1 n1 z1 c2_0 c2_1 n2 z2
  have c0_0 : w5.cell? ⟨w.heap.size, 0, none⟩ = some (.int .i64 o) := hb0_5.cell 0
  have c0_1 : w5.cell? ⟨w.heap.size, 1, none⟩ = some (.bool u) := hb0_5.cell 1
  have c0_2 : w5.cell? ⟨w.heap.size, 2, none⟩ = some (.int .i64 f) := hb0_5.cell 2
  have c0_3 : w5.cell? ⟨w.heap.size, 3, none⟩ = some (.int .i64 a) := hb0_5.cell 3
  have c0_4 : w5.cell? ⟨w.heap.size, 4, none⟩ = some (.bool b) := hb0_5.cell 4
  have c0_5 : w5.cell? ⟨w.heap.size, 5, none⟩ = some (.int .i64 c) := hb0_5.cell 5
  have c0_6 : w5.cell? ⟨w.heap.size, 6, none⟩ = some (.bool d) := hb0_5.cell 6
  have c0_7 : w5.cell? ⟨w.heap.size, 7, none⟩ = some (.int .i64 k) := hb0_5.cell 7
  have c0_8 : w5.cell? ⟨w.heap.size, 8, none⟩ = some (.int .i64 n) := hb0_5.cell 8
  have z0 : w.heap.size < w5.heap.size := hb0_5.lt
  have n0 : w.heap.size ≠ w5.heap.size := by omega
  have c1_0 : w5.cell? ⟨(w.heap.size + 1), 0, none⟩ = some (.int .i64 x) := hb1_5.cell 0
  have c1_1 : w5.cell? ⟨(w.heap.size + 1), 1, none⟩ = some (.bool b) := hb1_5.cell 1
  have z1 : (w.heap.size + 1) < w5.heap.size := hb1_5.lt
  have n1 : (w.heap.size + 1) ≠ w5.heap.size := by omega
  have c2_0 : w5.cell? ⟨w1.heap.size, 0, none⟩ = some (.int .i64 y) := hb2_5.cell 0
  have c2_1 : w5.cell? ⟨w1.heap.size, 1, none⟩ = some (.bool d) := hb2_5.cell 1
  have z2 : w1.heap.size < w5.heap.size := hb2_5.lt
  have n2 : w1.heap.size ≠ w5.heap.size := by omega
  clear hq
  go_wp2_with fail
  go_ret
  exact ⟨rfl, hB5⟩
set_option maxRecDepth 100000 in
set_option maxHeartbeats 3200000 in
theorem spotHalves_turn (o : Int) (u : Bool) (f a : Int) (b : Bool) (c : Int) (k n M N A C x G J : Int) (w : World) (hm : bits .and .i64 n 32767 = M) (h0 : 0 ≤ M) (h1 : M ≤ 32767) (hn : 1 + M = N) (hz : ¬ N = 0)
    (ha : bits .and .i64 a 65535 = A) (hc : bits .and .i64 c 65535 = C) (hx : A.tmod N = x) (hy : C.tmod N = x) (hb : (b == !b) = false) (g1 : 0 < G) (g2 : G < 65536) (j1 : 0 < J) (j2 : J < 65536) (hs : G + J = 2 * N)
    (A1 : ∀ W, Calls Try.prog 12 #[.agg #[.int .i64 x, .bool b], .agg #[.int .i64 x, .bool (!b)], .int .i64 N] W fun e w' => e = .returned (.tuple #[.int .i64 G, .int .i64 0]) ∧ Below W.heap.size W w')
    (A2 : ∀ W, Calls Try.prog 12 #[.agg #[.int .i64 x, .bool (!b)], .agg #[.int .i64 x, .bool b], .int .i64 N] W fun e w' => e = .returned (.tuple #[.int .i64 J, .int .i64 0]) ∧ Below W.heap.size W w')
    (AF : ∀ W, Calls Try.prog 14 #[] W fun e w' => e = .returned (.bool true) ∧ Below W.heap.size W w') :
    Calls Try.prog 9 #[.agg #[.int .i64 o, .bool u, .int .i64 f, .int .i64 a, .bool b, .int .i64 c, .bool (!b), .int .i64 k, .int .i64 n]] w fun e w' => e = .returned (.bool true) ∧ Below w.heap.size w w' := by
  have _ := g2; have _ := j2
  have H1 := Lib.hid A1
  have H2 := Lib.hid A2
  have HF := Lib.hid AF
  clear A1 A2 AF
  go_enter Try.func9, Try.ntmps9
  go_wp2_with fail
  have q0 := (H9.new w 27 (.int .i64 o) (.bool u) (.int .i64 f) (.int .i64 a) (.bool b) (.int .i64 c) (.bool (!b)) (.int .i64 k) (.int .i64 n)).drew
  have q1 := ((H9.new w 27 (.int .i64 o) (.bool u) (.int .i64 f) (.int .i64 a) (.bool b) (.int .i64 c) (.bool (!b)) (.int .i64 k) (.int .i64 n)).alloc (.cells #[.int .i64 0, .bool false] 25)).drew
  have q2 := ((H9.new w 27 (.int .i64 o) (.bool u) (.int .i64 f) (.int .i64 a) (.bool b) (.int .i64 c) (.bool (!b)) (.int .i64 k) (.int .i64 n)).alloc (.cells #[.int .i64 x, .bool b] 25)).drew
  unfold H9 at q0 q1 q2
  go_region_held3 (fun w' => (w'.cell? ⟨w.heap.size, 0, none⟩ = some (.int .i64 o) ∧ w'.cell? ⟨w.heap.size, 1, none⟩ = some (.bool u) ∧ w'.cell? ⟨w.heap.size, 2, none⟩ = some (.int .i64 f) ∧ w'.cell? ⟨w.heap.size, 3, none⟩ = some (.int .i64 a) ∧ w'.cell? ⟨w.heap.size, 4, none⟩ = some (.bool b) ∧ w'.cell? ⟨w.heap.size, 5, none⟩ = some (.int .i64 c) ∧ w'.cell? ⟨w.heap.size, 6, none⟩ = some (.bool (!b)) ∧ w'.cell? ⟨w.heap.size, 7, none⟩ = some (.int .i64 k) ∧ w'.cell? ⟨w.heap.size, 8, none⟩ = some (.int .i64 n)) ∧ Held w 27 #[.int .i64 o, .bool u, .int .i64 f, .int .i64 a, .bool b, .int .i64 c, .bool (!b), .int .i64 k, .int .i64 n] w')
    (first | exact q0 | exact q1 | exact q2)
    (fail)
  rename_i hHeld
  clear hHeld q0 q1 q2
  obtain ⟨w1, hw⟩ : ∃ wX, ((w.alloc (.cells #[.int .i64 o, .bool u, .int .i64 f, .int .i64 a, .bool b, .int .i64 c, .bool (!b), .int .i64 k, .int .i64 n] 27)).alloc (.cells #[.int .i64 x, .bool b] 25)).drew = wX := ⟨_, rfl⟩
  rw [hw]
  have hq : Below ((w.alloc (.cells #[.int .i64 o, .bool u, .int .i64 f, .int .i64 a, .bool b, .int .i64 c, .bool (!b), .int .i64 k, .int .i64 n] 27)).alloc (.cells #[.int .i64 x, .bool b] 25)).heap.size ((w.alloc (.cells #[.int .i64 o, .bool u, .int .i64 f, .int .i64 a, .bool b, .int .i64 c, .bool (!b), .int .i64 k, .int .i64 n] 27)).alloc (.cells #[.int .i64 x, .bool b] 25)) w1 := by rw [← hw]; exact (Below.refl _ _).drew
  have hb0_1 : Blk w1 w.heap.size 27 #[.int .i64 o, .bool u, .int .i64 f, .int .i64 a, .bool b, .int .i64 c, .bool (!b), .int .i64 k, .int .i64 n] := Blk.same ((Blk.at w 27 #[.int .i64 o, .bool u, .int .i64 f, .int .i64 a, .bool b, .int .i64 c, .bool (!b), .int .i64 k, .int .i64 n] (g := w.heap.size) (by simp)).alloc (.cells #[.int .i64 x, .bool b] 25)) (hq.block _ (((Blk.at w 27 #[.int .i64 o, .bool u, .int .i64 f, .int .i64 a, .bool b, .int .i64 c, .bool (!b), .int .i64 k, .int .i64 n] (g := w.heap.size) (by simp)).alloc (.cells #[.int .i64 x, .bool b] 25))).lt)
  have hb1_1 : Blk w1 (w.heap.size + 1) 25 #[.int .i64 x, .bool b] := Blk.same (Blk.at (w.alloc (.cells #[.int .i64 o, .bool u, .int .i64 f, .int .i64 a, .bool b, .int .i64 c, .bool (!b), .int .i64 k, .int .i64 n] 27)) 25 #[.int .i64 x, .bool b] (g := (w.heap.size + 1)) (by simp)) (hq.block _ ((Blk.at (w.alloc (.cells #[.int .i64 o, .bool u, .int .i64 f, .int .i64 a, .bool b, .int .i64 c, .bool (!b), .int .i64 k, .int .i64 n] 27)) 25 #[.int .i64 x, .bool b] (g := (w.heap.size + 1)) (by simp))).lt)
  have hB1 := b0 (ba (ba (Below.refl w.heap.size w) _) _) hq
  have c0_0 : w1.cell? ⟨w.heap.size, 0, none⟩ = some (.int .i64 o) := hb0_1.cell 0
  have c0_1 : w1.cell? ⟨w.heap.size, 1, none⟩ = some (.bool u) := hb0_1.cell 1
  have c0_2 : w1.cell? ⟨w.heap.size, 2, none⟩ = some (.int .i64 f) := hb0_1.cell 2
  have c0_3 : w1.cell? ⟨w.heap.size, 3, none⟩ = some (.int .i64 a) := hb0_1.cell 3
  have c0_4 : w1.cell? ⟨w.heap.size, 4, none⟩ = some (.bool b) := hb0_1.cell 4
  have c0_5 : w1.cell? ⟨w.heap.size, 5, none⟩ = some (.int .i64 c) := hb0_1.cell 5
  have c0_6 : w1.cell? ⟨w.heap.size, 6, none⟩ = some (.bool (!b)) := hb0_1.cell 6
  have c0_7 : w1.cell? ⟨w.heap.size, 7, none⟩ = some (.int .i64 k) := hb0_1.cell 7
  have c0_8 : w1.cell? ⟨w.heap.size, 8, none⟩ = some (.int .i64 n) := hb0_1.cell 8
  have z0 : w.heap.size < w1.heap.size := hb0_1.lt
  have n0 : w.heap.size ≠ w1.heap.size := by omega
  have c1_0 : w1.cell? ⟨(w.heap.size + 1), 0, none⟩ = some (.int .i64 x) := hb1_1.cell 0
  have c1_1 : w1.cell? ⟨(w.heap.size + 1), 1, none⟩ = some (.bool b) := hb1_1.cell 1
  have z1 : (w.heap.size + 1) < w1.heap.size := hb1_1.lt
  have n1 : (w.heap.size + 1) ≠ w1.heap.size := by omega
  clear hq hw
  go_wp2_with fail
  have q0 := (H9.of (w := w) (t := 27) ⟨hb0_1, hB1⟩).drew
  have q1 := ((H9.of (w := w) (t := 27) ⟨hb0_1, hB1⟩).alloc (.cells #[.int .i64 0, .bool false] 25)).drew
  have q2 := ((H9.of (w := w) (t := 27) ⟨hb0_1, hB1⟩).alloc (.cells #[.int .i64 x, .bool (!b)] 25)).drew
  unfold H9 at q0 q1 q2
  go_region_held3 (fun w' => (w'.cell? ⟨w.heap.size, 0, none⟩ = some (.int .i64 o) ∧ w'.cell? ⟨w.heap.size, 1, none⟩ = some (.bool u) ∧ w'.cell? ⟨w.heap.size, 2, none⟩ = some (.int .i64 f) ∧ w'.cell? ⟨w.heap.size, 3, none⟩ = some (.int .i64 a) ∧ w'.cell? ⟨w.heap.size, 4, none⟩ = some (.bool b) ∧ w'.cell? ⟨w.heap.size, 5, none⟩ = some (.int .i64 c) ∧ w'.cell? ⟨w.heap.size, 6, none⟩ = some (.bool (!b)) ∧ w'.cell? ⟨w.heap.size, 7, none⟩ = some (.int .i64 k) ∧ w'.cell? ⟨w.heap.size, 8, none⟩ = some (.int .i64 n)) ∧ Held w 27 #[.int .i64 o, .bool u, .int .i64 f, .int .i64 a, .bool b, .int .i64 c, .bool (!b), .int .i64 k, .int .i64 n] w')
    (first | exact q0 | exact q1 | exact q2)
    (fail)
  rename_i hHeld
  clear hHeld q0 q1 q2
  obtain ⟨w2, hw⟩ : ∃ wX, (w1.alloc (.cells #[.int .i64 x, .bool (!b)] 25)).drew = wX := ⟨_, rfl⟩
  rw [hw]
  have hq : Below (w1.alloc (.cells #[.int .i64 x, .bool (!b)] 25)).heap.size (w1.alloc (.cells #[.int .i64 x, .bool (!b)] 25)) w2 := by rw [← hw]; exact (Below.refl _ _).drew
  have hb0_2 : Blk w2 w.heap.size 27 #[.int .i64 o, .bool u, .int .i64 f, .int .i64 a, .bool b, .int .i64 c, .bool (!b), .int .i64 k, .int .i64 n] := Blk.same (hb0_1.alloc (.cells #[.int .i64 x, .bool (!b)] 25)) (hq.block _ ((hb0_1.alloc (.cells #[.int .i64 x, .bool (!b)] 25))).lt)
  have hb1_2 : Blk w2 (w.heap.size + 1) 25 #[.int .i64 x, .bool b] := Blk.same (hb1_1.alloc (.cells #[.int .i64 x, .bool (!b)] 25)) (hq.block _ ((hb1_1.alloc (.cells #[.int .i64 x, .bool (!b)] 25))).lt)
  have hb2_2 : Blk w2 w1.heap.size 25 #[.int .i64 x, .bool (!b)] := Blk.same (Blk.at w1 25 #[.int .i64 x, .bool (!b)] (g := w1.heap.size) (by simp)) (hq.block _ ((Blk.at w1 25 #[.int .i64 x, .bool (!b)] (g := w1.heap.size) (by simp))).lt)
  have hB2 := b0 (ba hB1 _) hq
  clear hb0_1 hb1_1 hB1 c0_0 c0_1 c0_2 c0_3 c0_4 c0_5 c0_6 c0_7 c0_8 n0 z0 c1_0 c1_1 n1 z1
  have c0_0 : w2.cell? ⟨w.heap.size, 0, none⟩ = some (.int .i64 o) := hb0_2.cell 0
  have c0_1 : w2.cell? ⟨w.heap.size, 1, none⟩ = some (.bool u) := hb0_2.cell 1
  have c0_2 : w2.cell? ⟨w.heap.size, 2, none⟩ = some (.int .i64 f) := hb0_2.cell 2
  have c0_3 : w2.cell? ⟨w.heap.size, 3, none⟩ = some (.int .i64 a) := hb0_2.cell 3
  have c0_4 : w2.cell? ⟨w.heap.size, 4, none⟩ = some (.bool b) := hb0_2.cell 4
  have c0_5 : w2.cell? ⟨w.heap.size, 5, none⟩ = some (.int .i64 c) := hb0_2.cell 5
  have c0_6 : w2.cell? ⟨w.heap.size, 6, none⟩ = some (.bool (!b)) := hb0_2.cell 6
  have c0_7 : w2.cell? ⟨w.heap.size, 7, none⟩ = some (.int .i64 k) := hb0_2.cell 7
  have c0_8 : w2.cell? ⟨w.heap.size, 8, none⟩ = some (.int .i64 n) := hb0_2.cell 8
  have z0 : w.heap.size < w2.heap.size := hb0_2.lt
  have n0 : w.heap.size ≠ w2.heap.size := by omega
  have c1_0 : w2.cell? ⟨(w.heap.size + 1), 0, none⟩ = some (.int .i64 x) := hb1_2.cell 0
  have c1_1 : w2.cell? ⟨(w.heap.size + 1), 1, none⟩ = some (.bool b) := hb1_2.cell 1
  have z1 : (w.heap.size + 1) < w2.heap.size := hb1_2.lt
  have n1 : (w.heap.size + 1) ≠ w2.heap.size := by omega
  have c2_0 : w2.cell? ⟨w1.heap.size, 0, none⟩ = some (.int .i64 x) := hb2_2.cell 0
  have c2_1 : w2.cell? ⟨w1.heap.size, 1, none⟩ = some (.bool (!b)) := hb2_2.cell 1
  have z2 : w1.heap.size < w2.heap.size := hb2_2.lt
  have n2 : w1.heap.size ≠ w2.heap.size := by omega
  clear hq hw
  go_wp2_with fail
  refine (H1.out _).mono ?_
  rintro e w3 ⟨rfl, hq⟩
  have hb0_3 : Blk w3 w.heap.size 27 #[.int .i64 o, .bool u, .int .i64 f, .int .i64 a, .bool b, .int .i64 c, .bool (!b), .int .i64 k, .int .i64 n] := Blk.same hb0_2 (hq.block _ (hb0_2).lt)
  have hb1_3 : Blk w3 (w.heap.size + 1) 25 #[.int .i64 x, .bool b] := Blk.same hb1_2 (hq.block _ (hb1_2).lt)
  have hb2_3 : Blk w3 w1.heap.size 25 #[.int .i64 x, .bool (!b)] := Blk.same hb2_2 (hq.block _ (hb2_2).lt)
  have hB3 := b0 hB2 hq
  clear hb0_2 hb1_2 hb2_2 hB2 c0_0 c0_1 c0_2 c0_3 c0_4 c0_5 c0_6 c0_7 c0_8 n0 z0 c1_0 c1_1 n1 z1 c2_0 c2_1 n2 z2
  have c0_0 : w3.cell? ⟨w.heap.size, 0, none⟩ = some (.int .i64 o) := hb0_3.cell 0
  have c0_1 : w3.cell? ⟨w.heap.size, 1, none⟩ = some (.bool u) := hb0_3.cell 1
  have c0_2 : w3.cell? ⟨w.heap.size, 2, none⟩ = some (.int .i64 f) := hb0_3.cell 2
  have c0_3 : w3.cell? ⟨w.heap.size, 3, none⟩ = some (.int .i64 a) := hb0_3.cell 3
  have c0_4 : w3.cell? ⟨w.heap.size, 4, none⟩ = some (.bool b) := hb0_3.cell 4
  have c0_5 : w3.cell? ⟨w.heap.size, 5, none⟩ = some (.int .i64 c) := hb0_3.cell 5
  have c0_6 : w3.cell? ⟨w.heap.size, 6, none⟩ = some (.bool (!b)) := hb0_3.cell 6
  have c0_7 : w3.cell? ⟨w.heap.size, 7, none⟩ = some (.int .i64 k) := hb0_3.cell 7
  have c0_8 : w3.cell? ⟨w.heap.size, 8, none⟩ = some (.int .i64 n) := hb0_3.cell 8
  have z0 : w.heap.size < w3.heap.size := hb0_3.lt
  have n0 : w.heap.size ≠ w3.heap.size := by omega
  have c1_0 : w3.cell? ⟨(w.heap.size + 1), 0, none⟩ = some (.int .i64 x) := hb1_3.cell 0
  have c1_1 : w3.cell? ⟨(w.heap.size + 1), 1, none⟩ = some (.bool b) := hb1_3.cell 1
  have z1 : (w.heap.size + 1) < w3.heap.size := hb1_3.lt
  have n1 : (w.heap.size + 1) ≠ w3.heap.size := by omega
  have c2_0 : w3.cell? ⟨w1.heap.size, 0, none⟩ = some (.int .i64 x) := hb2_3.cell 0
  have c2_1 : w3.cell? ⟨w1.heap.size, 1, none⟩ = some (.bool (!b)) := hb2_3.cell 1
  have z2 : w1.heap.size < w3.heap.size := hb2_3.lt
  have n2 : w1.heap.size ≠ w3.heap.size := by omega
  clear hq
  go_wp2_with fail
  refine (H2.out _).mono ?_
  rintro e w4 ⟨rfl, hq⟩
  have hb0_4 : Blk w4 w.heap.size 27 #[.int .i64 o, .bool u, .int .i64 f, .int .i64 a, .bool b, .int .i64 c, .bool (!b), .int .i64 k, .int .i64 n] := Blk.same hb0_3 (hq.block _ (hb0_3).lt)
  have hb1_4 : Blk w4 (w.heap.size + 1) 25 #[.int .i64 x, .bool b] := Blk.same hb1_3 (hq.block _ (hb1_3).lt)
  have hb2_4 : Blk w4 w1.heap.size 25 #[.int .i64 x, .bool (!b)] := Blk.same hb2_3 (hq.block _ (hb2_3).lt)
  have hB4 := b0 hB3 hq
  clear hb0_3 hb1_3 hb2_3 hB3 c0_0 c0_1 c0_2 c0_3 c0_4 c0_5 c0_6 c0_7 c0_8 n0 z0 c1_0 c1_1 n1 z1 c2_0 c2_1 n2 z2
  have c0_0 : w4.cell? ⟨w.heap.size, 0, none⟩ = some (.int .i64 o) := hb0_4.cell 0
  have c0_1 : w4.cell? ⟨w.heap.size, 1, none⟩ = some (.bool u) := hb0_4.cell 1
  have c0_2 : w4.cell? ⟨w.heap.size, 2, none⟩ = some (.int .i64 f) := hb0_4.cell 2
  have c0_3 : w4.cell? ⟨w.heap.size, 3, none⟩ = some (.int .i64 a) := hb0_4.cell 3
  have c0_4 : w4.cell? ⟨w.heap.size, 4, none⟩ = some (.bool b) := hb0_4.cell 4
  have c0_5 : w4.cell? ⟨w.heap.size, 5, none⟩ = some (.int .i64 c) := hb0_4.cell 5
  have c0_6 : w4.cell? ⟨w.heap.size, 6, none⟩ = some (.bool (!b)) := hb0_4.cell 6
  have c0_7 : w4.cell? ⟨w.heap.size, 7, none⟩ = some (.int .i64 k) := hb0_4.cell 7
  have c0_8 : w4.cell? ⟨w.heap.size, 8, none⟩ = some (.int .i64 n) := hb0_4.cell 8
  have z0 : w.heap.size < w4.heap.size := hb0_4.lt
  have n0 : w.heap.size ≠ w4.heap.size := by omega
  have c1_0 : w4.cell? ⟨(w.heap.size + 1), 0, none⟩ = some (.int .i64 x) := hb1_4.cell 0
  have c1_1 : w4.cell? ⟨(w.heap.size + 1), 1, none⟩ = some (.bool b) := hb1_4.cell 1
  have z1 : (w.heap.size + 1) < w4.heap.size := hb1_4.lt
  have n1 : (w.heap.size + 1) ≠ w4.heap.size := by omega
  have c2_0 : w4.cell? ⟨w1.heap.size, 0, none⟩ = some (.int .i64 x) := hb2_4.cell 0
  have c2_1 : w4.cell? ⟨w1.heap.size, 1, none⟩ = some (.bool (!b)) := hb2_4.cell 1
  have z2 : w1.heap.size < w4.heap.size := hb2_4.lt
  have n2 : w1.heap.size ≠ w4.heap.size := by omega
  clear hq
  go_wp2_with fail
  refine (HF.out _).mono ?_
  rintro e w5 ⟨rfl, hq⟩
  have hb0_5 : Blk w5 w.heap.size 27 #[.int .i64 o, .bool u, .int .i64 f, .int .i64 a, .bool b, .int .i64 c, .bool (!b), .int .i64 k, .int .i64 n] := Blk.same hb0_4 (hq.block _ (hb0_4).lt)
  have hb1_5 : Blk w5 (w.heap.size + 1) 25 #[.int .i64 x, .bool b] := Blk.same hb1_4 (hq.block _ (hb1_4).lt)
  have hb2_5 : Blk w5 w1.heap.size 25 #[.int .i64 x, .bool (!b)] := Blk.same hb2_4 (hq.block _ (hb2_4).lt)
  have hB5 := b0 hB4 hq
  clear hb0_4 hb1_4 hb2_4 hB4 c0_0 c0_1 c0_2 c0_3 c0_4 c0_5 c0_6 c0_7 c0_8 n0 z0 c1_0 c1_1 n1 z1 c2_0 c2_1 n2 z2
  have c0_0 : w5.cell? ⟨w.heap.size, 0, none⟩ = some (.int .i64 o) := hb0_5.cell 0
  have c0_1 : w5.cell? ⟨w.heap.size, 1, none⟩ = some (.bool u) := hb0_5.cell 1
  have c0_2 : w5.cell? ⟨w.heap.size, 2, none⟩ = some (.int .i64 f) := hb0_5.cell 2
  have c0_3 : w5.cell? ⟨w.heap.size, 3, none⟩ = some (.int .i64 a) := hb0_5.cell 3
  have c0_4 : w5.cell? ⟨w.heap.size, 4, none⟩ = some (.bool b) := hb0_5.cell 4
  have c0_5 : w5.cell? ⟨w.heap.size, 5, none⟩ = some (.int .i64 c) := hb0_5.cell 5
  have c0_6 : w5.cell? ⟨w.heap.size, 6, none⟩ = some (.bool (!b)) := hb0_5.cell 6
  have c0_7 : w5.cell? ⟨w.heap.size, 7, none⟩ = some (.int .i64 k) := hb0_5.cell 7
  have c0_8 : w5.cell? ⟨w.heap.size, 8, none⟩ = some (.int .i64 n) := hb0_5.cell 8
  have z0 : w.heap.size < w5.heap.size := hb0_5.lt
  have n0 : w.heap.size ≠ w5.heap.size := by omega
  have c1_0 : w5.cell? ⟨(w.heap.size + 1), 0, none⟩ = some (.int .i64 x) := hb1_5.cell 0
  have c1_1 : w5.cell? ⟨(w.heap.size + 1), 1, none⟩ = some (.bool b) := hb1_5.cell 1
  have z1 : (w.heap.size + 1) < w5.heap.size := hb1_5.lt
  have n1 : (w.heap.size + 1) ≠ w5.heap.size := by omega
  have c2_0 : w5.cell? ⟨w1.heap.size, 0, none⟩ = some (.int .i64 x) := hb2_5.cell 0
  have c2_1 : w5.cell? ⟨w1.heap.size, 1, none⟩ = some (.bool (!b)) := hb2_5.cell 1
  have z2 : w1.heap.size < w5.heap.size := hb2_5.lt
  have n2 : w1.heap.size ≠ w5.heap.size := by omega
  clear hq
  go_wp2_with fail
  go_ret
  exact ⟨rfl, hB5⟩
set_option maxRecDepth 100000 in
set_option maxHeartbeats 3200000 in
theorem spotHalves_same (o : Int) (u : Bool) (f a : Int) (b : Bool) (c : Int) (k n M N A C x) (w : World) (hm : bits .and .i64 n 32767 = M) (h0 : 0 ≤ M) (h1 : M ≤ 32767) (hn : 1 + M = N) (hz : ¬ N = 0)
    (ha : bits .and .i64 a 65535 = A) (hc : bits .and .i64 c 65535 = C) (hx : A.tmod N = x) (hy : C.tmod N = x) 
    (A1 : ∀ W, Calls Try.prog 12 #[.agg #[.int .i64 x, .bool b], .agg #[.int .i64 x, .bool b], .int .i64 N] W fun e w' => e = .returned (.tuple #[.int .i64 0, .int .i64 0]) ∧ Below W.heap.size W w')
    (A2 : ∀ W, Calls Try.prog 12 #[.agg #[.int .i64 x, .bool b], .agg #[.int .i64 x, .bool b], .int .i64 N] W fun e w' => e = .returned (.tuple #[.int .i64 0, .int .i64 0]) ∧ Below W.heap.size W w')
    (AF : ∀ W, Calls Try.prog 14 #[] W fun e w' => e = .returned (.bool true) ∧ Below W.heap.size W w') :
    Calls Try.prog 9 #[.agg #[.int .i64 o, .bool u, .int .i64 f, .int .i64 a, .bool b, .int .i64 c, .bool b, .int .i64 k, .int .i64 n]] w fun e w' => e = .returned (.bool true) ∧ Below w.heap.size w w' := by
  have H1 := Lib.hid A1
  have H2 := Lib.hid A2
  have HF := Lib.hid AF
  clear A1 A2 AF
  go_enter Try.func9, Try.ntmps9
  go_wp2_with fail
  have q0 := (H9.new w 27 (.int .i64 o) (.bool u) (.int .i64 f) (.int .i64 a) (.bool b) (.int .i64 c) (.bool b) (.int .i64 k) (.int .i64 n)).drew
  have q1 := ((H9.new w 27 (.int .i64 o) (.bool u) (.int .i64 f) (.int .i64 a) (.bool b) (.int .i64 c) (.bool b) (.int .i64 k) (.int .i64 n)).alloc (.cells #[.int .i64 0, .bool false] 25)).drew
  have q2 := ((H9.new w 27 (.int .i64 o) (.bool u) (.int .i64 f) (.int .i64 a) (.bool b) (.int .i64 c) (.bool b) (.int .i64 k) (.int .i64 n)).alloc (.cells #[.int .i64 x, .bool b] 25)).drew
  unfold H9 at q0 q1 q2
  go_region_held3 (fun w' => (w'.cell? ⟨w.heap.size, 0, none⟩ = some (.int .i64 o) ∧ w'.cell? ⟨w.heap.size, 1, none⟩ = some (.bool u) ∧ w'.cell? ⟨w.heap.size, 2, none⟩ = some (.int .i64 f) ∧ w'.cell? ⟨w.heap.size, 3, none⟩ = some (.int .i64 a) ∧ w'.cell? ⟨w.heap.size, 4, none⟩ = some (.bool b) ∧ w'.cell? ⟨w.heap.size, 5, none⟩ = some (.int .i64 c) ∧ w'.cell? ⟨w.heap.size, 6, none⟩ = some (.bool b) ∧ w'.cell? ⟨w.heap.size, 7, none⟩ = some (.int .i64 k) ∧ w'.cell? ⟨w.heap.size, 8, none⟩ = some (.int .i64 n)) ∧ Held w 27 #[.int .i64 o, .bool u, .int .i64 f, .int .i64 a, .bool b, .int .i64 c, .bool b, .int .i64 k, .int .i64 n] w')
    (first | exact q0 | exact q1 | exact q2)
    (fail)
  rename_i hHeld
  clear hHeld q0 q1 q2
  obtain ⟨w1, hw⟩ : ∃ wX, ((w.alloc (.cells #[.int .i64 o, .bool u, .int .i64 f, .int .i64 a, .bool b, .int .i64 c, .bool b, .int .i64 k, .int .i64 n] 27)).alloc (.cells #[.int .i64 x, .bool b] 25)).drew = wX := ⟨_, rfl⟩
  rw [hw]
  have hq : Below ((w.alloc (.cells #[.int .i64 o, .bool u, .int .i64 f, .int .i64 a, .bool b, .int .i64 c, .bool b, .int .i64 k, .int .i64 n] 27)).alloc (.cells #[.int .i64 x, .bool b] 25)).heap.size ((w.alloc (.cells #[.int .i64 o, .bool u, .int .i64 f, .int .i64 a, .bool b, .int .i64 c, .bool b, .int .i64 k, .int .i64 n] 27)).alloc (.cells #[.int .i64 x, .bool b] 25)) w1 := by rw [← hw]; exact (Below.refl _ _).drew
  have hb0_1 : Blk w1 w.heap.size 27 #[.int .i64 o, .bool u, .int .i64 f, .int .i64 a, .bool b, .int .i64 c, .bool b, .int .i64 k, .int .i64 n] := Blk.same ((Blk.at w 27 #[.int .i64 o, .bool u, .int .i64 f, .int .i64 a, .bool b, .int .i64 c, .bool b, .int .i64 k, .int .i64 n] (g := w.heap.size) (by simp)).alloc (.cells #[.int .i64 x, .bool b] 25)) (hq.block _ (((Blk.at w 27 #[.int .i64 o, .bool u, .int .i64 f, .int .i64 a, .bool b, .int .i64 c, .bool b, .int .i64 k, .int .i64 n] (g := w.heap.size) (by simp)).alloc (.cells #[.int .i64 x, .bool b] 25))).lt)
  have hb1_1 : Blk w1 (w.heap.size + 1) 25 #[.int .i64 x, .bool b] := Blk.same (Blk.at (w.alloc (.cells #[.int .i64 o, .bool u, .int .i64 f, .int .i64 a, .bool b, .int .i64 c, .bool b, .int .i64 k, .int .i64 n] 27)) 25 #[.int .i64 x, .bool b] (g := (w.heap.size + 1)) (by simp)) (hq.block _ ((Blk.at (w.alloc (.cells #[.int .i64 o, .bool u, .int .i64 f, .int .i64 a, .bool b, .int .i64 c, .bool b, .int .i64 k, .int .i64 n] 27)) 25 #[.int .i64 x, .bool b] (g := (w.heap.size + 1)) (by simp))).lt)
  have hB1 := b0 (ba (ba (Below.refl w.heap.size w) _) _) hq
  have c0_0 : w1.cell? ⟨w.heap.size, 0, none⟩ = some (.int .i64 o) := hb0_1.cell 0
  have c0_1 : w1.cell? ⟨w.heap.size, 1, none⟩ = some (.bool u) := hb0_1.cell 1
  have c0_2 : w1.cell? ⟨w.heap.size, 2, none⟩ = some (.int .i64 f) := hb0_1.cell 2
  have c0_3 : w1.cell? ⟨w.heap.size, 3, none⟩ = some (.int .i64 a) := hb0_1.cell 3
  have c0_4 : w1.cell? ⟨w.heap.size, 4, none⟩ = some (.bool b) := hb0_1.cell 4
  have c0_5 : w1.cell? ⟨w.heap.size, 5, none⟩ = some (.int .i64 c) := hb0_1.cell 5
  have c0_6 : w1.cell? ⟨w.heap.size, 6, none⟩ = some (.bool b) := hb0_1.cell 6
  have c0_7 : w1.cell? ⟨w.heap.size, 7, none⟩ = some (.int .i64 k) := hb0_1.cell 7
  have c0_8 : w1.cell? ⟨w.heap.size, 8, none⟩ = some (.int .i64 n) := hb0_1.cell 8
  have z0 : w.heap.size < w1.heap.size := hb0_1.lt
  have n0 : w.heap.size ≠ w1.heap.size := by omega
  have c1_0 : w1.cell? ⟨(w.heap.size + 1), 0, none⟩ = some (.int .i64 x) := hb1_1.cell 0
  have c1_1 : w1.cell? ⟨(w.heap.size + 1), 1, none⟩ = some (.bool b) := hb1_1.cell 1
  have z1 : (w.heap.size + 1) < w1.heap.size := hb1_1.lt
  have n1 : (w.heap.size + 1) ≠ w1.heap.size := by omega
  clear hq hw
  go_wp2_with fail
  have q0 := (H9.of (w := w) (t := 27) ⟨hb0_1, hB1⟩).drew
  have q1 := ((H9.of (w := w) (t := 27) ⟨hb0_1, hB1⟩).alloc (.cells #[.int .i64 0, .bool false] 25)).drew
  have q2 := ((H9.of (w := w) (t := 27) ⟨hb0_1, hB1⟩).alloc (.cells #[.int .i64 x, .bool b] 25)).drew
  unfold H9 at q0 q1 q2
  go_region_held3 (fun w' => (w'.cell? ⟨w.heap.size, 0, none⟩ = some (.int .i64 o) ∧ w'.cell? ⟨w.heap.size, 1, none⟩ = some (.bool u) ∧ w'.cell? ⟨w.heap.size, 2, none⟩ = some (.int .i64 f) ∧ w'.cell? ⟨w.heap.size, 3, none⟩ = some (.int .i64 a) ∧ w'.cell? ⟨w.heap.size, 4, none⟩ = some (.bool b) ∧ w'.cell? ⟨w.heap.size, 5, none⟩ = some (.int .i64 c) ∧ w'.cell? ⟨w.heap.size, 6, none⟩ = some (.bool b) ∧ w'.cell? ⟨w.heap.size, 7, none⟩ = some (.int .i64 k) ∧ w'.cell? ⟨w.heap.size, 8, none⟩ = some (.int .i64 n)) ∧ Held w 27 #[.int .i64 o, .bool u, .int .i64 f, .int .i64 a, .bool b, .int .i64 c, .bool b, .int .i64 k, .int .i64 n] w')
    (first | exact q0 | exact q1 | exact q2)
    (fail)
  rename_i hHeld
  clear hHeld q0 q1 q2
  obtain ⟨w2, hw⟩ : ∃ wX, (w1.alloc (.cells #[.int .i64 x, .bool b] 25)).drew = wX := ⟨_, rfl⟩
  rw [hw]
  have hq : Below (w1.alloc (.cells #[.int .i64 x, .bool b] 25)).heap.size (w1.alloc (.cells #[.int .i64 x, .bool b] 25)) w2 := by rw [← hw]; exact (Below.refl _ _).drew
  have hb0_2 : Blk w2 w.heap.size 27 #[.int .i64 o, .bool u, .int .i64 f, .int .i64 a, .bool b, .int .i64 c, .bool b, .int .i64 k, .int .i64 n] := Blk.same (hb0_1.alloc (.cells #[.int .i64 x, .bool b] 25)) (hq.block _ ((hb0_1.alloc (.cells #[.int .i64 x, .bool b] 25))).lt)
  have hb1_2 : Blk w2 (w.heap.size + 1) 25 #[.int .i64 x, .bool b] := Blk.same (hb1_1.alloc (.cells #[.int .i64 x, .bool b] 25)) (hq.block _ ((hb1_1.alloc (.cells #[.int .i64 x, .bool b] 25))).lt)
  have hb2_2 : Blk w2 w1.heap.size 25 #[.int .i64 x, .bool b] := Blk.same (Blk.at w1 25 #[.int .i64 x, .bool b] (g := w1.heap.size) (by simp)) (hq.block _ ((Blk.at w1 25 #[.int .i64 x, .bool b] (g := w1.heap.size) (by simp))).lt)
  have hB2 := b0 (ba hB1 _) hq
  clear hb0_1 hb1_1 hB1 c0_0 c0_1 c0_2 c0_3 c0_4 c0_5 c0_6 c0_7 c0_8 n0 z0 c1_0 c1_1 n1 z1
  have c0_0 : w2.cell? ⟨w.heap.size, 0, none⟩ = some (.int .i64 o) := hb0_2.cell 0
  have c0_1 : w2.cell? ⟨w.heap.size, 1, none⟩ = some (.bool u) := hb0_2.cell 1
  have c0_2 : w2.cell? ⟨w.heap.size, 2, none⟩ = some (.int .i64 f) := hb0_2.cell 2
  have c0_3 : w2.cell? ⟨w.heap.size, 3, none⟩ = some (.int .i64 a) := hb0_2.cell 3
  have c0_4 : w2.cell? ⟨w.heap.size, 4, none⟩ = some (.bool b) := hb0_2.cell 4
  have c0_5 : w2.cell? ⟨w.heap.size, 5, none⟩ = some (.int .i64 c) := hb0_2.cell 5
  have c0_6 : w2.cell? ⟨w.heap.size, 6, none⟩ = some (.bool b) := hb0_2.cell 6
  have c0_7 : w2.cell? ⟨w.heap.size, 7, none⟩ = some (.int .i64 k) := hb0_2.cell 7
  have c0_8 : w2.cell? ⟨w.heap.size, 8, none⟩ = some (.int .i64 n) := hb0_2.cell 8
  have z0 : w.heap.size < w2.heap.size := hb0_2.lt
  have n0 : w.heap.size ≠ w2.heap.size := by omega
  have c1_0 : w2.cell? ⟨(w.heap.size + 1), 0, none⟩ = some (.int .i64 x) := hb1_2.cell 0
  have c1_1 : w2.cell? ⟨(w.heap.size + 1), 1, none⟩ = some (.bool b) := hb1_2.cell 1
  have z1 : (w.heap.size + 1) < w2.heap.size := hb1_2.lt
  have n1 : (w.heap.size + 1) ≠ w2.heap.size := by omega
  have c2_0 : w2.cell? ⟨w1.heap.size, 0, none⟩ = some (.int .i64 x) := hb2_2.cell 0
  have c2_1 : w2.cell? ⟨w1.heap.size, 1, none⟩ = some (.bool b) := hb2_2.cell 1
  have z2 : w1.heap.size < w2.heap.size := hb2_2.lt
  have n2 : w1.heap.size ≠ w2.heap.size := by omega
  clear hq hw
  go_wp2_with fail
  refine (H1.out _).mono ?_
  rintro e w3 ⟨rfl, hq⟩
  have hb0_3 : Blk w3 w.heap.size 27 #[.int .i64 o, .bool u, .int .i64 f, .int .i64 a, .bool b, .int .i64 c, .bool b, .int .i64 k, .int .i64 n] := Blk.same hb0_2 (hq.block _ (hb0_2).lt)
  have hb1_3 : Blk w3 (w.heap.size + 1) 25 #[.int .i64 x, .bool b] := Blk.same hb1_2 (hq.block _ (hb1_2).lt)
  have hb2_3 : Blk w3 w1.heap.size 25 #[.int .i64 x, .bool b] := Blk.same hb2_2 (hq.block _ (hb2_2).lt)
  have hB3 := b0 hB2 hq
  clear hb0_2 hb1_2 hb2_2 hB2 c0_0 c0_1 c0_2 c0_3 c0_4 c0_5 c0_6 c0_7 c0_8 n0 z0 c1_0 c1_1 n1 z1 c2_0 c2_1 n2 z2
  have c0_0 : w3.cell? ⟨w.heap.size, 0, none⟩ = some (.int .i64 o) := hb0_3.cell 0
  have c0_1 : w3.cell? ⟨w.heap.size, 1, none⟩ = some (.bool u) := hb0_3.cell 1
  have c0_2 : w3.cell? ⟨w.heap.size, 2, none⟩ = some (.int .i64 f) := hb0_3.cell 2
  have c0_3 : w3.cell? ⟨w.heap.size, 3, none⟩ = some (.int .i64 a) := hb0_3.cell 3
  have c0_4 : w3.cell? ⟨w.heap.size, 4, none⟩ = some (.bool b) := hb0_3.cell 4
  have c0_5 : w3.cell? ⟨w.heap.size, 5, none⟩ = some (.int .i64 c) := hb0_3.cell 5
  have c0_6 : w3.cell? ⟨w.heap.size, 6, none⟩ = some (.bool b) := hb0_3.cell 6
  have c0_7 : w3.cell? ⟨w.heap.size, 7, none⟩ = some (.int .i64 k) := hb0_3.cell 7
  have c0_8 : w3.cell? ⟨w.heap.size, 8, none⟩ = some (.int .i64 n) := hb0_3.cell 8
  have z0 : w.heap.size < w3.heap.size := hb0_3.lt
  have n0 : w.heap.size ≠ w3.heap.size := by omega
  have c1_0 : w3.cell? ⟨(w.heap.size + 1), 0, none⟩ = some (.int .i64 x) := hb1_3.cell 0
  have c1_1 : w3.cell? ⟨(w.heap.size + 1), 1, none⟩ = some (.bool b) := hb1_3.cell 1
  have z1 : (w.heap.size + 1) < w3.heap.size := hb1_3.lt
  have n1 : (w.heap.size + 1) ≠ w3.heap.size := by omega
  have c2_0 : w3.cell? ⟨w1.heap.size, 0, none⟩ = some (.int .i64 x) := hb2_3.cell 0
  have c2_1 : w3.cell? ⟨w1.heap.size, 1, none⟩ = some (.bool b) := hb2_3.cell 1
  have z2 : w1.heap.size < w3.heap.size := hb2_3.lt
  have n2 : w1.heap.size ≠ w3.heap.size := by omega
  clear hq
  go_wp2_with fail
  refine (H2.out _).mono ?_
  rintro e w4 ⟨rfl, hq⟩
  have hb0_4 : Blk w4 w.heap.size 27 #[.int .i64 o, .bool u, .int .i64 f, .int .i64 a, .bool b, .int .i64 c, .bool b, .int .i64 k, .int .i64 n] := Blk.same hb0_3 (hq.block _ (hb0_3).lt)
  have hb1_4 : Blk w4 (w.heap.size + 1) 25 #[.int .i64 x, .bool b] := Blk.same hb1_3 (hq.block _ (hb1_3).lt)
  have hb2_4 : Blk w4 w1.heap.size 25 #[.int .i64 x, .bool b] := Blk.same hb2_3 (hq.block _ (hb2_3).lt)
  have hB4 := b0 hB3 hq
  clear hb0_3 hb1_3 hb2_3 hB3 c0_0 c0_1 c0_2 c0_3 c0_4 c0_5 c0_6 c0_7 c0_8 n0 z0 c1_0 c1_1 n1 z1 c2_0 c2_1 n2 z2
  have c0_0 : w4.cell? ⟨w.heap.size, 0, none⟩ = some (.int .i64 o) := hb0_4.cell 0
  have c0_1 : w4.cell? ⟨w.heap.size, 1, none⟩ = some (.bool u) := hb0_4.cell 1
  have c0_2 : w4.cell? ⟨w.heap.size, 2, none⟩ = some (.int .i64 f) := hb0_4.cell 2
  have c0_3 : w4.cell? ⟨w.heap.size, 3, none⟩ = some (.int .i64 a) := hb0_4.cell 3
  have c0_4 : w4.cell? ⟨w.heap.size, 4, none⟩ = some (.bool b) := hb0_4.cell 4
  have c0_5 : w4.cell? ⟨w.heap.size, 5, none⟩ = some (.int .i64 c) := hb0_4.cell 5
  have c0_6 : w4.cell? ⟨w.heap.size, 6, none⟩ = some (.bool b) := hb0_4.cell 6
  have c0_7 : w4.cell? ⟨w.heap.size, 7, none⟩ = some (.int .i64 k) := hb0_4.cell 7
  have c0_8 : w4.cell? ⟨w.heap.size, 8, none⟩ = some (.int .i64 n) := hb0_4.cell 8
  have z0 : w.heap.size < w4.heap.size := hb0_4.lt
  have n0 : w.heap.size ≠ w4.heap.size := by omega
  have c1_0 : w4.cell? ⟨(w.heap.size + 1), 0, none⟩ = some (.int .i64 x) := hb1_4.cell 0
  have c1_1 : w4.cell? ⟨(w.heap.size + 1), 1, none⟩ = some (.bool b) := hb1_4.cell 1
  have z1 : (w.heap.size + 1) < w4.heap.size := hb1_4.lt
  have n1 : (w.heap.size + 1) ≠ w4.heap.size := by omega
  have c2_0 : w4.cell? ⟨w1.heap.size, 0, none⟩ = some (.int .i64 x) := hb2_4.cell 0
  have c2_1 : w4.cell? ⟨w1.heap.size, 1, none⟩ = some (.bool b) := hb2_4.cell 1
  have z2 : w1.heap.size < w4.heap.size := hb2_4.lt
  have n2 : w1.heap.size ≠ w4.heap.size := by omega
  clear hq
  go_wp2_with fail
  refine (HF.out _).mono ?_
  rintro e w5 ⟨rfl, hq⟩
  have hb0_5 : Blk w5 w.heap.size 27 #[.int .i64 o, .bool u, .int .i64 f, .int .i64 a, .bool b, .int .i64 c, .bool b, .int .i64 k, .int .i64 n] := Blk.same hb0_4 (hq.block _ (hb0_4).lt)
  have hb1_5 : Blk w5 (w.heap.size + 1) 25 #[.int .i64 x, .bool b] := Blk.same hb1_4 (hq.block _ (hb1_4).lt)
  have hb2_5 : Blk w5 w1.heap.size 25 #[.int .i64 x, .bool b] := Blk.same hb2_4 (hq.block _ (hb2_4).lt)
  have hB5 := b0 hB4 hq
  clear hb0_4 hb1_4 hb2_4 hB4 c0_0 c0_1 c0_2 c0_3 c0_4 c0_5 c0_6 c0_7 c0_8 n0 z0 c1_0 c1_1 n1 z1 c2_0 c2_1 n2 z2
  have c0_0 : w5.cell? ⟨w.heap.size, 0, none⟩ = some (.int .i64 o) := hb0_5.cell 0
  have c0_1 : w5.cell? ⟨w.heap.size, 1, none⟩ = some (.bool u) := hb0_5.cell 1
  have c0_2 : w5.cell? ⟨w.heap.size, 2, none⟩ = some (.int .i64 f) := hb0_5.cell 2
  have c0_3 : w5.cell? ⟨w.heap.size, 3, none⟩ = some (.int .i64 a) := hb0_5.cell 3
  have c0_4 : w5.cell? ⟨w.heap.size, 4, none⟩ = some (.bool b) := hb0_5.cell 4
  have c0_5 : w5.cell? ⟨w.heap.size, 5, none⟩ = some (.int .i64 c) := hb0_5.cell 5
  have c0_6 : w5.cell? ⟨w.heap.size, 6, none⟩ = some (.bool b) := hb0_5.cell 6
  have c0_7 : w5.cell? ⟨w.heap.size, 7, none⟩ = some (.int .i64 k) := hb0_5.cell 7
  have c0_8 : w5.cell? ⟨w.heap.size, 8, none⟩ = some (.int .i64 n) := hb0_5.cell 8
  have z0 : w.heap.size < w5.heap.size := hb0_5.lt
  have n0 : w.heap.size ≠ w5.heap.size := by omega
  have c1_0 : w5.cell? ⟨(w.heap.size + 1), 0, none⟩ = some (.int .i64 x) := hb1_5.cell 0
  have c1_1 : w5.cell? ⟨(w.heap.size + 1), 1, none⟩ = some (.bool b) := hb1_5.cell 1
  have z1 : (w.heap.size + 1) < w5.heap.size := hb1_5.lt
  have n1 : (w.heap.size + 1) ≠ w5.heap.size := by omega
  have c2_0 : w5.cell? ⟨w1.heap.size, 0, none⟩ = some (.int .i64 x) := hb2_5.cell 0
  have c2_1 : w5.cell? ⟨w1.heap.size, 1, none⟩ = some (.bool b) := hb2_5.cell 1
  have z2 : w1.heap.size < w5.heap.size := hb2_5.lt
  have n2 : w1.heap.size ≠ w5.heap.size := by omega
  clear hq
  go_wp2_with fail
  go_ret
  exact ⟨rfl, hB5⟩
theorem spotHalves_any (o : Int) (u : Bool) (f a : Int) (b : Bool) (c : Int) (d : Bool) (k n : Int) (w : World) :
    Calls Try.prog 9 #[.agg #[.int .i64 o, .bool u, .int .i64 f, .int .i64 a, .bool b, .int .i64 c, .bool d, .int .i64 k, .int .i64 n]] w fun e w' => e = .returned (.bool true) ∧ Below w.heap.size w w' := by
  obtain ⟨M, hM, eM⟩ := low15 n
  obtain ⟨A, hA, eA⟩ := low16 a
  obtain ⟨C, hC, eC⟩ := low16 c
  have n1 : 1 ≤ 1 + (M : Int) := by omega
  have n2 : 1 + (M : Int) ≤ 32768 := by omega
  obtain ⟨x, hx, x0, x1⟩ := pos_in A (1 + (M : Int)) n1
  obtain ⟨y, hy, y0, y1⟩ := pos_in C (1 + (M : Int)) n1
  have e1 : gpE x y (1 + (M : Int)) = 0 := gpE_in n1 n2 x0 x1 y0 y1
  have e2 : gpE y x (1 + (M : Int)) = 0 := gpE_in n1 n2 y0 y1 x0 x1
  have A1 := gap_any x y (1 + (M : Int)) b d
  have A2 := gap_any y x (1 + (M : Int)) d b
  rw [gpV_ok b d e1, e1] at A1
  rw [gpV_ok d b e2, e2] at A2
  by_cases hxy : x = y
  · subst hxy
    by_cases hb : b = d
    · subst hb
      rw [gp_same] at A1 A2
      exact spotHalves_same o u f a b c k n M _ A C x w eM (by omega) (by omega) rfl (by omega) eA eC hx hy A1 A2 fixed_any
    · obtain rfl : d = !b := by revert hb; cases b <;> cases d <;> simp
      have g : gp x x (1 + (M : Int)) b (!b) = 1 + (M : Int) := by rw [gp, if_neg hb]; omega
      have j : gp x x (1 + (M : Int)) (!b) b = 1 + (M : Int) := by rw [gp, if_neg (fun h => hb h.symm)]; omega
      rw [g] at A1
      rw [j] at A2
      exact spotHalves_turn o u f a b c k n M _ A C x _ _ w eM (by omega) (by omega) rfl (by omega) eA eC hx hy (by cases b <;> rfl) (by omega) (by omega) (by omega) (by omega) (by omega) A1 A2 fixed_any
  · have g : 0 < gp x y (1 + (M : Int)) b d ∧ gp x y (1 + (M : Int)) b d < 2 * (1 + (M : Int)) ∧ gp x y (1 + (M : Int)) b d + gp y x (1 + (M : Int)) d b = 2 * (1 + (M : Int)) := by
      unfold gp
      cases b <;> cases d <;> simp <;> (repeat' split) <;> omega
    exact spotHalves_away o u f a b c d k n M _ A C x y _ _ w eM (by omega) (by omega) rfl (by omega) eA eC hx hy (beq_eq_false_iff_ne.2 hxy) (by omega) (by omega) (by omega) (by omega) (by omega) A1 A2 fixed_any

set_option maxRecDepth 100000 in
theorem spotHalves_lifted (os : Os) (started : os.Started) (H : Type) (enc : TypeId × Value → H) :
    ReturnsInHanded {} Try.checked os 9 .any (Rows.spotHalvesSpec.pre6 enc Try.prog Try.f9 Rows.spotHalvesRow.domain false) (Rows.spotHalvesSpec.post enc Try.prog Try.f9 false true false false) := by
  have e : Try.f9.params.toList = [27] := by rw [Try.params9]
  refine law_of_walk (C := Try.checked) (tb := 4) H enc Try.own started (by kernel_rfl) Try.func9 Try.laidOut rfl rfl Try.underlying4 ?_ ?_
    (ChangeSpec.witness6 (enc := enc) (C := Try.checked) false ⟨#[], #[.agg #[.int .i64 0, .bool false, .int .i64 0, .int .i64 0, .bool false, .int .i64 0, .bool false, .int .i64 0, .int .i64 0]], []⟩ 8 (by kernel_rfl) (by kernel_rfl) (by kernel_rfl) (by kernel_rfl)) ?_
  · rw [e]
    intro t ht
    simp only [List.mem_cons, List.not_mem_nil, or_false] at ht
    rcases ht with rfl <;> exact ⟨by kernel_rfl, of_decide_eq_true (by kernel_rfl)⟩
  · intro ds hds
    rw [e] at hds
    match ds, hds with
    | [d0], _ => rfl
  · intro W base args ds p hval0 hA0 hsz0
    have hval : ∀ (j : Nat) t v, Try.f9.params[j]? = some t → args[j]? = some v → Value.okWide Try.prog W .any base t v := hval0
    have hA : DataW.TrodAll enc Try.prog W 0 (fun _ => true) true Try.f9.params.toList args.toList ds p := hA0
    have hsz : (DataW.weightsEach Try.prog Try.f9.params.toList ds).all (· ≤ reachBytes) = true := hsz0
    rw [Try.params9] at hA hval hsz
    obtain ⟨v0, d0, rfl, rfl, h0⟩ := trodAll_one hA
    obtain ⟨O0, U0, F0, A0, B0, C0, E0, K0, N0, rfl, bo0, bf0, ba0, bc0, bk0, bn0⟩ := open_walk (hval 0 27 v0 rfl rfl) h0
    exact spotHalves_any O0 U0 F0 A0 B0 C0 E0 K0 N0 W

theorem spotHalves_holds : Rows.SpotHalvesSaid :=
  OpenClaim.holds_of_wide 9 Try.f9 rfl rfl rfl rfl rfl rfl rfl ⟨rfl, rfl, rfl, rfl, rfl⟩ rfl rfl rfl rfl rfl (by kernel_rfl) Try.func9 (by kernel_rfl)
    (of_decide_eq_true (by kernel_rfl)) (by unfold Func.isWrapper; first | (rw [if_pos (by decide +kernel)]; kernel_rfl) | (rw [if_neg (by decide +kernel)]; exact ⟨rfl, rfl⟩))
    (fun os started H enc _ => spotHalves_lifted os started H enc)
end Go.Proofs.Ytcofbaioflfehaa

/-
  For every input the law SpotEvents returns true, and its arguments read afterwards as before; no condition beyond the form's own reach.
-/
import Derived.Test.YtcofbaioflfehaaWfr
import Derived.Test.YtcofbaioflfehaaSfx
namespace Go.Proofs.Ytcofbaioflfehaa
open Go.Joins Go.ChangeShapes Go.WideShapes Go.ChangeAt Go.RowKit Go.Deep
open Go.ChangeMaps (open_string)

set_option maxRecDepth 100000 in
set_option maxHeartbeats 3200000 in
theorem spotEvents_00 (s S : ByteArray) (o f p r : Int) (u q : Bool) (w : World)
    (A1 : ∀ W, Calls Try.prog 17 #[.string s] W fun e w' => e = .returned (.tuple #[.agg #[.int .i64 p, .bool q, .int .i64 r], .int .i64 0]) ∧ Below W.heap.size W w')
    (A2 : ∀ W, Calls Try.prog 18 #[.string s] W fun e w' => e = .returned (.tuple #[.agg #[.int .i64 p, .bool q, .int .i64 r], .int .i64 0]) ∧ Below W.heap.size W w')
    (A3 : ∀ W, Calls Try.prog 19 #[.agg #[.int .i64 o, .bool u, .int .i64 f]] W fun e w' => e = .returned (.tuple #[.string S, .int .i64 0]) ∧ Below W.heap.size W w')
    (A4 : ∀ W, Calls Try.prog 20 #[.agg #[.int .i64 o, .bool u, .int .i64 f]] W fun e w' => e = .returned (.tuple #[.string S, .int .i64 0]) ∧ Below W.heap.size W w')
    (A5 : ∀ W, Calls Try.prog 17 #[.string S] W fun e w' => e = .returned (.tuple #[.agg #[.int .i64 o, .bool u, .int .i64 f], .int .i64 0]) ∧ Below W.heap.size W w')
    (A6 : ∀ W, Calls Try.prog 19 #[.agg #[.int .i64 p, .bool q, .int .i64 r]] W fun e w' => e = .returned (.tuple #[.string s, .int .i64 0]) ∧ Below W.heap.size W w')
    (AF : ∀ W, Calls Try.prog 14 #[] W fun e w' => e = .returned (.bool true) ∧ Below W.heap.size W w') :
    Calls Try.prog 4 #[.string s, .agg #[.int .i64 o, .bool u, .int .i64 f]] w fun e w' => e = .returned (.bool true) ∧ Below w.heap.size w w' := by
  have H1 := Lib.hid A1
  have H2 := Lib.hid A2
  have H3 := Lib.hid A3
  have H4 := Lib.hid A4
  have H5 := Lib.hid A5
  have H6 := Lib.hid A6
  have HF := Lib.hid AF
  clear A1 A2 A3 A4 A5 A6 AF
  go_enter Try.func4, Try.ntmps4
  go_wp2_with fail
  refine (H1.out _).mono ?_
  rintro e w1 ⟨rfl, hq⟩
  have hb0_1 : Blk w1 w.heap.size 23 #[.int .i64 o, .bool u, .int .i64 f] := Blk.same (Blk.at w 23 #[.int .i64 o, .bool u, .int .i64 f] (g := w.heap.size) (by simp)) (hq.block _ ((Blk.at w 23 #[.int .i64 o, .bool u, .int .i64 f] (g := w.heap.size) (by simp))).lt)
  have hB1 := b0 (ba (Below.refl w.heap.size w) _) hq
  have c0_0 : w1.cell? ⟨w.heap.size, 0, none⟩ = some (.int .i64 o) := hb0_1.cell 0
  have c0_1 : w1.cell? ⟨w.heap.size, 1, none⟩ = some (.bool u) := hb0_1.cell 1
  have c0_2 : w1.cell? ⟨w.heap.size, 2, none⟩ = some (.int .i64 f) := hb0_1.cell 2
  have z0 : w.heap.size < w1.heap.size := hb0_1.lt
  have n0 : w.heap.size ≠ w1.heap.size := by omega
  clear hq
  go_wp2_with fail
  refine (H2.out _).mono ?_
  rintro e w2 ⟨rfl, hq⟩
  have hb0_2 : Blk w2 w.heap.size 23 #[.int .i64 o, .bool u, .int .i64 f] := Blk.same (hb0_1.alloc (.cells #[.int .i64 p, .bool q, .int .i64 r] 23)) (hq.block _ ((hb0_1.alloc (.cells #[.int .i64 p, .bool q, .int .i64 r] 23))).lt)
  have hb1_2 : Blk w2 w1.heap.size 23 #[.int .i64 p, .bool q, .int .i64 r] := Blk.same (Blk.at w1 23 #[.int .i64 p, .bool q, .int .i64 r] (g := w1.heap.size) (by simp)) (hq.block _ ((Blk.at w1 23 #[.int .i64 p, .bool q, .int .i64 r] (g := w1.heap.size) (by simp))).lt)
  have hB2 := b0 (ba hB1 _) hq
  clear hb0_1 hB1 c0_0 c0_1 c0_2 n0 z0
  have c0_0 : w2.cell? ⟨w.heap.size, 0, none⟩ = some (.int .i64 o) := hb0_2.cell 0
  have c0_1 : w2.cell? ⟨w.heap.size, 1, none⟩ = some (.bool u) := hb0_2.cell 1
  have c0_2 : w2.cell? ⟨w.heap.size, 2, none⟩ = some (.int .i64 f) := hb0_2.cell 2
  have z0 : w.heap.size < w2.heap.size := hb0_2.lt
  have n0 : w.heap.size ≠ w2.heap.size := by omega
  have c1_0 : w2.cell? ⟨w1.heap.size, 0, none⟩ = some (.int .i64 p) := hb1_2.cell 0
  have c1_1 : w2.cell? ⟨w1.heap.size, 1, none⟩ = some (.bool q) := hb1_2.cell 1
  have c1_2 : w2.cell? ⟨w1.heap.size, 2, none⟩ = some (.int .i64 r) := hb1_2.cell 2
  have z1 : w1.heap.size < w2.heap.size := hb1_2.lt
  have n1 : w1.heap.size ≠ w2.heap.size := by omega
  clear hq
  go_wp2_with fail
  refine (H3.out _).mono ?_
  rintro e w3 ⟨rfl, hq⟩
  have hb0_3 : Blk w3 w.heap.size 23 #[.int .i64 o, .bool u, .int .i64 f] := Blk.same (hb0_2.alloc (.cells #[.int .i64 p, .bool q, .int .i64 r] 23)) (hq.block _ ((hb0_2.alloc (.cells #[.int .i64 p, .bool q, .int .i64 r] 23))).lt)
  have hb1_3 : Blk w3 w1.heap.size 23 #[.int .i64 p, .bool q, .int .i64 r] := Blk.same (hb1_2.alloc (.cells #[.int .i64 p, .bool q, .int .i64 r] 23)) (hq.block _ ((hb1_2.alloc (.cells #[.int .i64 p, .bool q, .int .i64 r] 23))).lt)
  have hb2_3 : Blk w3 w2.heap.size 23 #[.int .i64 p, .bool q, .int .i64 r] := Blk.same (Blk.at w2 23 #[.int .i64 p, .bool q, .int .i64 r] (g := w2.heap.size) (by simp)) (hq.block _ ((Blk.at w2 23 #[.int .i64 p, .bool q, .int .i64 r] (g := w2.heap.size) (by simp))).lt)
  have hB3 := b0 (ba hB2 _) hq
  clear hb0_2 hb1_2 hB2 c0_0 c0_1 c0_2 n0 z0 c1_0 c1_1 c1_2 n1 z1
  have c0_0 : w3.cell? ⟨w.heap.size, 0, none⟩ = some (.int .i64 o) := hb0_3.cell 0
  have c0_1 : w3.cell? ⟨w.heap.size, 1, none⟩ = some (.bool u) := hb0_3.cell 1
  have c0_2 : w3.cell? ⟨w.heap.size, 2, none⟩ = some (.int .i64 f) := hb0_3.cell 2
  have z0 : w.heap.size < w3.heap.size := hb0_3.lt
  have n0 : w.heap.size ≠ w3.heap.size := by omega
  have c1_0 : w3.cell? ⟨w1.heap.size, 0, none⟩ = some (.int .i64 p) := hb1_3.cell 0
  have c1_1 : w3.cell? ⟨w1.heap.size, 1, none⟩ = some (.bool q) := hb1_3.cell 1
  have c1_2 : w3.cell? ⟨w1.heap.size, 2, none⟩ = some (.int .i64 r) := hb1_3.cell 2
  have z1 : w1.heap.size < w3.heap.size := hb1_3.lt
  have n1 : w1.heap.size ≠ w3.heap.size := by omega
  have c2_0 : w3.cell? ⟨w2.heap.size, 0, none⟩ = some (.int .i64 p) := hb2_3.cell 0
  have c2_1 : w3.cell? ⟨w2.heap.size, 1, none⟩ = some (.bool q) := hb2_3.cell 1
  have c2_2 : w3.cell? ⟨w2.heap.size, 2, none⟩ = some (.int .i64 r) := hb2_3.cell 2
  have z2 : w2.heap.size < w3.heap.size := hb2_3.lt
  have n2 : w2.heap.size ≠ w3.heap.size := by omega
  clear hq
  go_wp2_with fail
  refine (H4.out _).mono ?_
  rintro e w4 ⟨rfl, hq⟩
  have hb0_4 : Blk w4 w.heap.size 23 #[.int .i64 o, .bool u, .int .i64 f] := Blk.same hb0_3 (hq.block _ (hb0_3).lt)
  have hb1_4 : Blk w4 w1.heap.size 23 #[.int .i64 p, .bool q, .int .i64 r] := Blk.same hb1_3 (hq.block _ (hb1_3).lt)
  have hb2_4 : Blk w4 w2.heap.size 23 #[.int .i64 p, .bool q, .int .i64 r] := Blk.same hb2_3 (hq.block _ (hb2_3).lt)
  have hB4 := b0 hB3 hq
  clear hb0_3 hb1_3 hb2_3 hB3 c0_0 c0_1 c0_2 n0 z0 c1_0 c1_1 c1_2 n1 z1 c2_0 c2_1 c2_2 n2 z2
  have c0_0 : w4.cell? ⟨w.heap.size, 0, none⟩ = some (.int .i64 o) := hb0_4.cell 0
  have c0_1 : w4.cell? ⟨w.heap.size, 1, none⟩ = some (.bool u) := hb0_4.cell 1
  have c0_2 : w4.cell? ⟨w.heap.size, 2, none⟩ = some (.int .i64 f) := hb0_4.cell 2
  have z0 : w.heap.size < w4.heap.size := hb0_4.lt
  have n0 : w.heap.size ≠ w4.heap.size := by omega
  have c1_0 : w4.cell? ⟨w1.heap.size, 0, none⟩ = some (.int .i64 p) := hb1_4.cell 0
  have c1_1 : w4.cell? ⟨w1.heap.size, 1, none⟩ = some (.bool q) := hb1_4.cell 1
  have c1_2 : w4.cell? ⟨w1.heap.size, 2, none⟩ = some (.int .i64 r) := hb1_4.cell 2
  have z1 : w1.heap.size < w4.heap.size := hb1_4.lt
  have n1 : w1.heap.size ≠ w4.heap.size := by omega
  have c2_0 : w4.cell? ⟨w2.heap.size, 0, none⟩ = some (.int .i64 p) := hb2_4.cell 0
  have c2_1 : w4.cell? ⟨w2.heap.size, 1, none⟩ = some (.bool q) := hb2_4.cell 1
  have c2_2 : w4.cell? ⟨w2.heap.size, 2, none⟩ = some (.int .i64 r) := hb2_4.cell 2
  have z2 : w2.heap.size < w4.heap.size := hb2_4.lt
  have n2 : w2.heap.size ≠ w4.heap.size := by omega
  clear hq
  go_wp2_with fail
  refine (H5.out _).mono ?_
  rintro e w5 ⟨rfl, hq⟩
  have hb0_5 : Blk w5 w.heap.size 23 #[.int .i64 o, .bool u, .int .i64 f] := Blk.same hb0_4 (hq.block _ (hb0_4).lt)
  have hb1_5 : Blk w5 w1.heap.size 23 #[.int .i64 p, .bool q, .int .i64 r] := Blk.same hb1_4 (hq.block _ (hb1_4).lt)
  have hb2_5 : Blk w5 w2.heap.size 23 #[.int .i64 p, .bool q, .int .i64 r] := Blk.same hb2_4 (hq.block _ (hb2_4).lt)
  have hB5 := b0 hB4 hq
  clear hb0_4 hb1_4 hb2_4 hB4 c0_0 c0_1 c0_2 n0 z0 c1_0 c1_1 c1_2 n1 z1 c2_0 c2_1 c2_2 n2 z2
  have c0_0 : w5.cell? ⟨w.heap.size, 0, none⟩ = some (.int .i64 o) := hb0_5.cell 0
  have c0_1 : w5.cell? ⟨w.heap.size, 1, none⟩ = some (.bool u) := hb0_5.cell 1
  have c0_2 : w5.cell? ⟨w.heap.size, 2, none⟩ = some (.int .i64 f) := hb0_5.cell 2
  have z0 : w.heap.size < w5.heap.size := hb0_5.lt
  have n0 : w.heap.size ≠ w5.heap.size := by omega
  have c1_0 : w5.cell? ⟨w1.heap.size, 0, none⟩ = some (.int .i64 p) := hb1_5.cell 0
  have c1_1 : w5.cell? ⟨w1.heap.size, 1, none⟩ = some (.bool q) := hb1_5.cell 1
  have c1_2 : w5.cell? ⟨w1.heap.size, 2, none⟩ = some (.int .i64 r) := hb1_5.cell 2
  have z1 : w1.heap.size < w5.heap.size := hb1_5.lt
  have n1 : w1.heap.size ≠ w5.heap.size := by omega
  have c2_0 : w5.cell? ⟨w2.heap.size, 0, none⟩ = some (.int .i64 p) := hb2_5.cell 0
  have c2_1 : w5.cell? ⟨w2.heap.size, 1, none⟩ = some (.bool q) := hb2_5.cell 1
  have c2_2 : w5.cell? ⟨w2.heap.size, 2, none⟩ = some (.int .i64 r) := hb2_5.cell 2
  have z2 : w2.heap.size < w5.heap.size := hb2_5.lt
  have n2 : w2.heap.size ≠ w5.heap.size := by omega
  clear hq
  go_wp2_with fail
  refine (H6.out _).mono ?_
  rintro e w6 ⟨rfl, hq⟩
  have hb0_6 : Blk w6 w.heap.size 23 #[.int .i64 o, .bool u, .int .i64 f] := Blk.same (hb0_5.alloc (.cells #[.int .i64 o, .bool u, .int .i64 f] 23)) (hq.block _ ((hb0_5.alloc (.cells #[.int .i64 o, .bool u, .int .i64 f] 23))).lt)
  have hb1_6 : Blk w6 w1.heap.size 23 #[.int .i64 p, .bool q, .int .i64 r] := Blk.same (hb1_5.alloc (.cells #[.int .i64 o, .bool u, .int .i64 f] 23)) (hq.block _ ((hb1_5.alloc (.cells #[.int .i64 o, .bool u, .int .i64 f] 23))).lt)
  have hb2_6 : Blk w6 w2.heap.size 23 #[.int .i64 p, .bool q, .int .i64 r] := Blk.same (hb2_5.alloc (.cells #[.int .i64 o, .bool u, .int .i64 f] 23)) (hq.block _ ((hb2_5.alloc (.cells #[.int .i64 o, .bool u, .int .i64 f] 23))).lt)
  have hb3_6 : Blk w6 w5.heap.size 23 #[.int .i64 o, .bool u, .int .i64 f] := Blk.same (Blk.at w5 23 #[.int .i64 o, .bool u, .int .i64 f] (g := w5.heap.size) (by simp)) (hq.block _ ((Blk.at w5 23 #[.int .i64 o, .bool u, .int .i64 f] (g := w5.heap.size) (by simp))).lt)
  have hB6 := b0 (ba hB5 _) hq
  clear hb0_5 hb1_5 hb2_5 hB5 c0_0 c0_1 c0_2 n0 z0 c1_0 c1_1 c1_2 n1 z1 c2_0 c2_1 c2_2 n2 z2
  have c0_0 : w6.cell? ⟨w.heap.size, 0, none⟩ = some (.int .i64 o) := hb0_6.cell 0
  have c0_1 : w6.cell? ⟨w.heap.size, 1, none⟩ = some (.bool u) := hb0_6.cell 1
  have c0_2 : w6.cell? ⟨w.heap.size, 2, none⟩ = some (.int .i64 f) := hb0_6.cell 2
  have z0 : w.heap.size < w6.heap.size := hb0_6.lt
  have n0 : w.heap.size ≠ w6.heap.size := by omega
  have c1_0 : w6.cell? ⟨w1.heap.size, 0, none⟩ = some (.int .i64 p) := hb1_6.cell 0
  have c1_1 : w6.cell? ⟨w1.heap.size, 1, none⟩ = some (.bool q) := hb1_6.cell 1
  have c1_2 : w6.cell? ⟨w1.heap.size, 2, none⟩ = some (.int .i64 r) := hb1_6.cell 2
  have z1 : w1.heap.size < w6.heap.size := hb1_6.lt
  have n1 : w1.heap.size ≠ w6.heap.size := by omega
  have c2_0 : w6.cell? ⟨w2.heap.size, 0, none⟩ = some (.int .i64 p) := hb2_6.cell 0
  have c2_1 : w6.cell? ⟨w2.heap.size, 1, none⟩ = some (.bool q) := hb2_6.cell 1
  have c2_2 : w6.cell? ⟨w2.heap.size, 2, none⟩ = some (.int .i64 r) := hb2_6.cell 2
  have z2 : w2.heap.size < w6.heap.size := hb2_6.lt
  have n2 : w2.heap.size ≠ w6.heap.size := by omega
  have c3_0 : w6.cell? ⟨w5.heap.size, 0, none⟩ = some (.int .i64 o) := hb3_6.cell 0
  have c3_1 : w6.cell? ⟨w5.heap.size, 1, none⟩ = some (.bool u) := hb3_6.cell 1
  have c3_2 : w6.cell? ⟨w5.heap.size, 2, none⟩ = some (.int .i64 f) := hb3_6.cell 2
  have z3 : w5.heap.size < w6.heap.size := hb3_6.lt
  have n3 : w5.heap.size ≠ w6.heap.size := by omega
  clear hq
  go_wp2_with fail
  refine (HF.out _).mono ?_
  rintro e w7 ⟨rfl, hq⟩
  have hb0_7 : Blk w7 w.heap.size 23 #[.int .i64 o, .bool u, .int .i64 f] := Blk.same hb0_6 (hq.block _ (hb0_6).lt)
  have hb1_7 : Blk w7 w1.heap.size 23 #[.int .i64 p, .bool q, .int .i64 r] := Blk.same hb1_6 (hq.block _ (hb1_6).lt)
  have hb2_7 : Blk w7 w2.heap.size 23 #[.int .i64 p, .bool q, .int .i64 r] := Blk.same hb2_6 (hq.block _ (hb2_6).lt)
  have hb3_7 : Blk w7 w5.heap.size 23 #[.int .i64 o, .bool u, .int .i64 f] := Blk.same hb3_6 (hq.block _ (hb3_6).lt)
  have hB7 := b0 hB6 hq
  clear hb0_6 hb1_6 hb2_6 hb3_6 hB6 c0_0 c0_1 c0_2 n0 z0 c1_0 c1_1 c1_2 n1 z1 c2_0 c2_1 c2_2 n2 z2 c3_0 c3_1 c3_2 n3 z3
  have c0_0 : w7.cell? ⟨w.heap.size, 0, none⟩ = some (.int .i64 o) := hb0_7.cell 0
  have c0_1 : w7.cell? ⟨w.heap.size, 1, none⟩ = some (.bool u) := hb0_7.cell 1
  have c0_2 : w7.cell? ⟨w.heap.size, 2, none⟩ = some (.int .i64 f) := hb0_7.cell 2
  have z0 : w.heap.size < w7.heap.size := hb0_7.lt
  have n0 : w.heap.size ≠ w7.heap.size := by omega
  have c1_0 : w7.cell? ⟨w1.heap.size, 0, none⟩ = some (.int .i64 p) := hb1_7.cell 0
  have c1_1 : w7.cell? ⟨w1.heap.size, 1, none⟩ = some (.bool q) := hb1_7.cell 1
  have c1_2 : w7.cell? ⟨w1.heap.size, 2, none⟩ = some (.int .i64 r) := hb1_7.cell 2
  have z1 : w1.heap.size < w7.heap.size := hb1_7.lt
  have n1 : w1.heap.size ≠ w7.heap.size := by omega
  have c2_0 : w7.cell? ⟨w2.heap.size, 0, none⟩ = some (.int .i64 p) := hb2_7.cell 0
  have c2_1 : w7.cell? ⟨w2.heap.size, 1, none⟩ = some (.bool q) := hb2_7.cell 1
  have c2_2 : w7.cell? ⟨w2.heap.size, 2, none⟩ = some (.int .i64 r) := hb2_7.cell 2
  have z2 : w2.heap.size < w7.heap.size := hb2_7.lt
  have n2 : w2.heap.size ≠ w7.heap.size := by omega
  have c3_0 : w7.cell? ⟨w5.heap.size, 0, none⟩ = some (.int .i64 o) := hb3_7.cell 0
  have c3_1 : w7.cell? ⟨w5.heap.size, 1, none⟩ = some (.bool u) := hb3_7.cell 1
  have c3_2 : w7.cell? ⟨w5.heap.size, 2, none⟩ = some (.int .i64 f) := hb3_7.cell 2
  have z3 : w5.heap.size < w7.heap.size := hb3_7.lt
  have n3 : w5.heap.size ≠ w7.heap.size := by omega
  clear hq
  go_wp2_with fail
  go_ret
  exact ⟨rfl, hB7⟩
set_option maxRecDepth 100000 in
set_option maxHeartbeats 3200000 in
theorem spotEvents_01 (s S T : ByteArray) (o f p r j : Int) (u q : Bool) (w : World)
    (A1 : ∀ W, Calls Try.prog 17 #[.string s] W fun e w' => e = .returned (.tuple #[.agg #[.int .i64 p, .bool q, .int .i64 r], .int .i64 1]) ∧ Below W.heap.size W w')
    (A2 : ∀ W, Calls Try.prog 18 #[.string s] W fun e w' => e = .returned (.tuple #[.agg #[.int .i64 p, .bool q, .int .i64 r], .int .i64 1]) ∧ Below W.heap.size W w')
    (A3 : ∀ W, Calls Try.prog 19 #[.agg #[.int .i64 o, .bool u, .int .i64 f]] W fun e w' => e = .returned (.tuple #[.string S, .int .i64 0]) ∧ Below W.heap.size W w')
    (A4 : ∀ W, Calls Try.prog 20 #[.agg #[.int .i64 o, .bool u, .int .i64 f]] W fun e w' => e = .returned (.tuple #[.string S, .int .i64 0]) ∧ Below W.heap.size W w')
    (A5 : ∀ W, Calls Try.prog 17 #[.string S] W fun e w' => e = .returned (.tuple #[.agg #[.int .i64 o, .bool u, .int .i64 f], .int .i64 0]) ∧ Below W.heap.size W w')
    (A6 : ∀ W, Calls Try.prog 19 #[.agg #[.int .i64 p, .bool q, .int .i64 r]] W fun e w' => e = .returned (.tuple #[.string T, .int .i64 j]) ∧ Below W.heap.size W w')
    (AF : ∀ W, Calls Try.prog 14 #[] W fun e w' => e = .returned (.bool true) ∧ Below W.heap.size W w') :
    Calls Try.prog 4 #[.string s, .agg #[.int .i64 o, .bool u, .int .i64 f]] w fun e w' => e = .returned (.bool true) ∧ Below w.heap.size w w' := by
  have H1 := Lib.hid A1
  have H2 := Lib.hid A2
  have H3 := Lib.hid A3
  have H4 := Lib.hid A4
  have H5 := Lib.hid A5
  have H6 := Lib.hid A6
  have HF := Lib.hid AF
  clear A1 A2 A3 A4 A5 A6 AF
  go_enter Try.func4, Try.ntmps4
  go_wp2_with fail
  refine (H1.out _).mono ?_
  rintro e w1 ⟨rfl, hq⟩
  have hb0_1 : Blk w1 w.heap.size 23 #[.int .i64 o, .bool u, .int .i64 f] := Blk.same (Blk.at w 23 #[.int .i64 o, .bool u, .int .i64 f] (g := w.heap.size) (by simp)) (hq.block _ ((Blk.at w 23 #[.int .i64 o, .bool u, .int .i64 f] (g := w.heap.size) (by simp))).lt)
  have hB1 := b0 (ba (Below.refl w.heap.size w) _) hq
  have c0_0 : w1.cell? ⟨w.heap.size, 0, none⟩ = some (.int .i64 o) := hb0_1.cell 0
  have c0_1 : w1.cell? ⟨w.heap.size, 1, none⟩ = some (.bool u) := hb0_1.cell 1
  have c0_2 : w1.cell? ⟨w.heap.size, 2, none⟩ = some (.int .i64 f) := hb0_1.cell 2
  have z0 : w.heap.size < w1.heap.size := hb0_1.lt
  have n0 : w.heap.size ≠ w1.heap.size := by omega
  clear hq
  go_wp2_with fail
  refine (H2.out _).mono ?_
  rintro e w2 ⟨rfl, hq⟩
  have hb0_2 : Blk w2 w.heap.size 23 #[.int .i64 o, .bool u, .int .i64 f] := Blk.same (hb0_1.alloc (.cells #[.int .i64 p, .bool q, .int .i64 r] 23)) (hq.block _ ((hb0_1.alloc (.cells #[.int .i64 p, .bool q, .int .i64 r] 23))).lt)
  have hb1_2 : Blk w2 w1.heap.size 23 #[.int .i64 p, .bool q, .int .i64 r] := Blk.same (Blk.at w1 23 #[.int .i64 p, .bool q, .int .i64 r] (g := w1.heap.size) (by simp)) (hq.block _ ((Blk.at w1 23 #[.int .i64 p, .bool q, .int .i64 r] (g := w1.heap.size) (by simp))).lt)
  have hB2 := b0 (ba hB1 _) hq
  clear hb0_1 hB1 c0_0 c0_1 c0_2 n0 z0
  have c0_0 : w2.cell? ⟨w.heap.size, 0, none⟩ = some (.int .i64 o) := hb0_2.cell 0
  have c0_1 : w2.cell? ⟨w.heap.size, 1, none⟩ = some (.bool u) := hb0_2.cell 1
  have c0_2 : w2.cell? ⟨w.heap.size, 2, none⟩ = some (.int .i64 f) := hb0_2.cell 2
  have z0 : w.heap.size < w2.heap.size := hb0_2.lt
  have n0 : w.heap.size ≠ w2.heap.size := by omega
  have c1_0 : w2.cell? ⟨w1.heap.size, 0, none⟩ = some (.int .i64 p) := hb1_2.cell 0
  have c1_1 : w2.cell? ⟨w1.heap.size, 1, none⟩ = some (.bool q) := hb1_2.cell 1
  have c1_2 : w2.cell? ⟨w1.heap.size, 2, none⟩ = some (.int .i64 r) := hb1_2.cell 2
  have z1 : w1.heap.size < w2.heap.size := hb1_2.lt
  have n1 : w1.heap.size ≠ w2.heap.size := by omega
  clear hq
  go_wp2_with fail
  refine (H3.out _).mono ?_
  rintro e w3 ⟨rfl, hq⟩
  have hb0_3 : Blk w3 w.heap.size 23 #[.int .i64 o, .bool u, .int .i64 f] := Blk.same (hb0_2.alloc (.cells #[.int .i64 p, .bool q, .int .i64 r] 23)) (hq.block _ ((hb0_2.alloc (.cells #[.int .i64 p, .bool q, .int .i64 r] 23))).lt)
  have hb1_3 : Blk w3 w1.heap.size 23 #[.int .i64 p, .bool q, .int .i64 r] := Blk.same (hb1_2.alloc (.cells #[.int .i64 p, .bool q, .int .i64 r] 23)) (hq.block _ ((hb1_2.alloc (.cells #[.int .i64 p, .bool q, .int .i64 r] 23))).lt)
  have hb2_3 : Blk w3 w2.heap.size 23 #[.int .i64 p, .bool q, .int .i64 r] := Blk.same (Blk.at w2 23 #[.int .i64 p, .bool q, .int .i64 r] (g := w2.heap.size) (by simp)) (hq.block _ ((Blk.at w2 23 #[.int .i64 p, .bool q, .int .i64 r] (g := w2.heap.size) (by simp))).lt)
  have hB3 := b0 (ba hB2 _) hq
  clear hb0_2 hb1_2 hB2 c0_0 c0_1 c0_2 n0 z0 c1_0 c1_1 c1_2 n1 z1
  have c0_0 : w3.cell? ⟨w.heap.size, 0, none⟩ = some (.int .i64 o) := hb0_3.cell 0
  have c0_1 : w3.cell? ⟨w.heap.size, 1, none⟩ = some (.bool u) := hb0_3.cell 1
  have c0_2 : w3.cell? ⟨w.heap.size, 2, none⟩ = some (.int .i64 f) := hb0_3.cell 2
  have z0 : w.heap.size < w3.heap.size := hb0_3.lt
  have n0 : w.heap.size ≠ w3.heap.size := by omega
  have c1_0 : w3.cell? ⟨w1.heap.size, 0, none⟩ = some (.int .i64 p) := hb1_3.cell 0
  have c1_1 : w3.cell? ⟨w1.heap.size, 1, none⟩ = some (.bool q) := hb1_3.cell 1
  have c1_2 : w3.cell? ⟨w1.heap.size, 2, none⟩ = some (.int .i64 r) := hb1_3.cell 2
  have z1 : w1.heap.size < w3.heap.size := hb1_3.lt
  have n1 : w1.heap.size ≠ w3.heap.size := by omega
  have c2_0 : w3.cell? ⟨w2.heap.size, 0, none⟩ = some (.int .i64 p) := hb2_3.cell 0
  have c2_1 : w3.cell? ⟨w2.heap.size, 1, none⟩ = some (.bool q) := hb2_3.cell 1
  have c2_2 : w3.cell? ⟨w2.heap.size, 2, none⟩ = some (.int .i64 r) := hb2_3.cell 2
  have z2 : w2.heap.size < w3.heap.size := hb2_3.lt
  have n2 : w2.heap.size ≠ w3.heap.size := by omega
  clear hq
  go_wp2_with fail
  refine (H4.out _).mono ?_
  rintro e w4 ⟨rfl, hq⟩
  have hb0_4 : Blk w4 w.heap.size 23 #[.int .i64 o, .bool u, .int .i64 f] := Blk.same hb0_3 (hq.block _ (hb0_3).lt)
  have hb1_4 : Blk w4 w1.heap.size 23 #[.int .i64 p, .bool q, .int .i64 r] := Blk.same hb1_3 (hq.block _ (hb1_3).lt)
  have hb2_4 : Blk w4 w2.heap.size 23 #[.int .i64 p, .bool q, .int .i64 r] := Blk.same hb2_3 (hq.block _ (hb2_3).lt)
  have hB4 := b0 hB3 hq
  clear hb0_3 hb1_3 hb2_3 hB3 c0_0 c0_1 c0_2 n0 z0 c1_0 c1_1 c1_2 n1 z1 c2_0 c2_1 c2_2 n2 z2
  have c0_0 : w4.cell? ⟨w.heap.size, 0, none⟩ = some (.int .i64 o) := hb0_4.cell 0
  have c0_1 : w4.cell? ⟨w.heap.size, 1, none⟩ = some (.bool u) := hb0_4.cell 1
  have c0_2 : w4.cell? ⟨w.heap.size, 2, none⟩ = some (.int .i64 f) := hb0_4.cell 2
  have z0 : w.heap.size < w4.heap.size := hb0_4.lt
  have n0 : w.heap.size ≠ w4.heap.size := by omega
  have c1_0 : w4.cell? ⟨w1.heap.size, 0, none⟩ = some (.int .i64 p) := hb1_4.cell 0
  have c1_1 : w4.cell? ⟨w1.heap.size, 1, none⟩ = some (.bool q) := hb1_4.cell 1
  have c1_2 : w4.cell? ⟨w1.heap.size, 2, none⟩ = some (.int .i64 r) := hb1_4.cell 2
  have z1 : w1.heap.size < w4.heap.size := hb1_4.lt
  have n1 : w1.heap.size ≠ w4.heap.size := by omega
  have c2_0 : w4.cell? ⟨w2.heap.size, 0, none⟩ = some (.int .i64 p) := hb2_4.cell 0
  have c2_1 : w4.cell? ⟨w2.heap.size, 1, none⟩ = some (.bool q) := hb2_4.cell 1
  have c2_2 : w4.cell? ⟨w2.heap.size, 2, none⟩ = some (.int .i64 r) := hb2_4.cell 2
  have z2 : w2.heap.size < w4.heap.size := hb2_4.lt
  have n2 : w2.heap.size ≠ w4.heap.size := by omega
  clear hq
  go_wp2_with fail
  refine (H5.out _).mono ?_
  rintro e w5 ⟨rfl, hq⟩
  have hb0_5 : Blk w5 w.heap.size 23 #[.int .i64 o, .bool u, .int .i64 f] := Blk.same hb0_4 (hq.block _ (hb0_4).lt)
  have hb1_5 : Blk w5 w1.heap.size 23 #[.int .i64 p, .bool q, .int .i64 r] := Blk.same hb1_4 (hq.block _ (hb1_4).lt)
  have hb2_5 : Blk w5 w2.heap.size 23 #[.int .i64 p, .bool q, .int .i64 r] := Blk.same hb2_4 (hq.block _ (hb2_4).lt)
  have hB5 := b0 hB4 hq
  clear hb0_4 hb1_4 hb2_4 hB4 c0_0 c0_1 c0_2 n0 z0 c1_0 c1_1 c1_2 n1 z1 c2_0 c2_1 c2_2 n2 z2
  have c0_0 : w5.cell? ⟨w.heap.size, 0, none⟩ = some (.int .i64 o) := hb0_5.cell 0
  have c0_1 : w5.cell? ⟨w.heap.size, 1, none⟩ = some (.bool u) := hb0_5.cell 1
  have c0_2 : w5.cell? ⟨w.heap.size, 2, none⟩ = some (.int .i64 f) := hb0_5.cell 2
  have z0 : w.heap.size < w5.heap.size := hb0_5.lt
  have n0 : w.heap.size ≠ w5.heap.size := by omega
  have c1_0 : w5.cell? ⟨w1.heap.size, 0, none⟩ = some (.int .i64 p) := hb1_5.cell 0
  have c1_1 : w5.cell? ⟨w1.heap.size, 1, none⟩ = some (.bool q) := hb1_5.cell 1
  have c1_2 : w5.cell? ⟨w1.heap.size, 2, none⟩ = some (.int .i64 r) := hb1_5.cell 2
  have z1 : w1.heap.size < w5.heap.size := hb1_5.lt
  have n1 : w1.heap.size ≠ w5.heap.size := by omega
  have c2_0 : w5.cell? ⟨w2.heap.size, 0, none⟩ = some (.int .i64 p) := hb2_5.cell 0
  have c2_1 : w5.cell? ⟨w2.heap.size, 1, none⟩ = some (.bool q) := hb2_5.cell 1
  have c2_2 : w5.cell? ⟨w2.heap.size, 2, none⟩ = some (.int .i64 r) := hb2_5.cell 2
  have z2 : w2.heap.size < w5.heap.size := hb2_5.lt
  have n2 : w2.heap.size ≠ w5.heap.size := by omega
  clear hq
  go_wp2_with fail
  refine (H6.out _).mono ?_
  rintro e w6 ⟨rfl, hq⟩
  have hb0_6 : Blk w6 w.heap.size 23 #[.int .i64 o, .bool u, .int .i64 f] := Blk.same (hb0_5.alloc (.cells #[.int .i64 o, .bool u, .int .i64 f] 23)) (hq.block _ ((hb0_5.alloc (.cells #[.int .i64 o, .bool u, .int .i64 f] 23))).lt)
  have hb1_6 : Blk w6 w1.heap.size 23 #[.int .i64 p, .bool q, .int .i64 r] := Blk.same (hb1_5.alloc (.cells #[.int .i64 o, .bool u, .int .i64 f] 23)) (hq.block _ ((hb1_5.alloc (.cells #[.int .i64 o, .bool u, .int .i64 f] 23))).lt)
  have hb2_6 : Blk w6 w2.heap.size 23 #[.int .i64 p, .bool q, .int .i64 r] := Blk.same (hb2_5.alloc (.cells #[.int .i64 o, .bool u, .int .i64 f] 23)) (hq.block _ ((hb2_5.alloc (.cells #[.int .i64 o, .bool u, .int .i64 f] 23))).lt)
  have hb3_6 : Blk w6 w5.heap.size 23 #[.int .i64 o, .bool u, .int .i64 f] := Blk.same (Blk.at w5 23 #[.int .i64 o, .bool u, .int .i64 f] (g := w5.heap.size) (by simp)) (hq.block _ ((Blk.at w5 23 #[.int .i64 o, .bool u, .int .i64 f] (g := w5.heap.size) (by simp))).lt)
  have hB6 := b0 (ba hB5 _) hq
  clear hb0_5 hb1_5 hb2_5 hB5 c0_0 c0_1 c0_2 n0 z0 c1_0 c1_1 c1_2 n1 z1 c2_0 c2_1 c2_2 n2 z2
  have c0_0 : w6.cell? ⟨w.heap.size, 0, none⟩ = some (.int .i64 o) := hb0_6.cell 0
  have c0_1 : w6.cell? ⟨w.heap.size, 1, none⟩ = some (.bool u) := hb0_6.cell 1
  have c0_2 : w6.cell? ⟨w.heap.size, 2, none⟩ = some (.int .i64 f) := hb0_6.cell 2
  have z0 : w.heap.size < w6.heap.size := hb0_6.lt
  have n0 : w.heap.size ≠ w6.heap.size := by omega
  have c1_0 : w6.cell? ⟨w1.heap.size, 0, none⟩ = some (.int .i64 p) := hb1_6.cell 0
  have c1_1 : w6.cell? ⟨w1.heap.size, 1, none⟩ = some (.bool q) := hb1_6.cell 1
  have c1_2 : w6.cell? ⟨w1.heap.size, 2, none⟩ = some (.int .i64 r) := hb1_6.cell 2
  have z1 : w1.heap.size < w6.heap.size := hb1_6.lt
  have n1 : w1.heap.size ≠ w6.heap.size := by omega
  have c2_0 : w6.cell? ⟨w2.heap.size, 0, none⟩ = some (.int .i64 p) := hb2_6.cell 0
  have c2_1 : w6.cell? ⟨w2.heap.size, 1, none⟩ = some (.bool q) := hb2_6.cell 1
  have c2_2 : w6.cell? ⟨w2.heap.size, 2, none⟩ = some (.int .i64 r) := hb2_6.cell 2
  have z2 : w2.heap.size < w6.heap.size := hb2_6.lt
  have n2 : w2.heap.size ≠ w6.heap.size := by omega
  have c3_0 : w6.cell? ⟨w5.heap.size, 0, none⟩ = some (.int .i64 o) := hb3_6.cell 0
  have c3_1 : w6.cell? ⟨w5.heap.size, 1, none⟩ = some (.bool u) := hb3_6.cell 1
  have c3_2 : w6.cell? ⟨w5.heap.size, 2, none⟩ = some (.int .i64 f) := hb3_6.cell 2
  have z3 : w5.heap.size < w6.heap.size := hb3_6.lt
  have n3 : w5.heap.size ≠ w6.heap.size := by omega
  clear hq
  go_wp2_with fail
  refine (HF.out _).mono ?_
  rintro e w7 ⟨rfl, hq⟩
  have hb0_7 : Blk w7 w.heap.size 23 #[.int .i64 o, .bool u, .int .i64 f] := Blk.same hb0_6 (hq.block _ (hb0_6).lt)
  have hb1_7 : Blk w7 w1.heap.size 23 #[.int .i64 p, .bool q, .int .i64 r] := Blk.same hb1_6 (hq.block _ (hb1_6).lt)
  have hb2_7 : Blk w7 w2.heap.size 23 #[.int .i64 p, .bool q, .int .i64 r] := Blk.same hb2_6 (hq.block _ (hb2_6).lt)
  have hb3_7 : Blk w7 w5.heap.size 23 #[.int .i64 o, .bool u, .int .i64 f] := Blk.same hb3_6 (hq.block _ (hb3_6).lt)
  have hB7 := b0 hB6 hq
  clear hb0_6 hb1_6 hb2_6 hb3_6 hB6 c0_0 c0_1 c0_2 n0 z0 c1_0 c1_1 c1_2 n1 z1 c2_0 c2_1 c2_2 n2 z2 c3_0 c3_1 c3_2 n3 z3
  have c0_0 : w7.cell? ⟨w.heap.size, 0, none⟩ = some (.int .i64 o) := hb0_7.cell 0
  have c0_1 : w7.cell? ⟨w.heap.size, 1, none⟩ = some (.bool u) := hb0_7.cell 1
  have c0_2 : w7.cell? ⟨w.heap.size, 2, none⟩ = some (.int .i64 f) := hb0_7.cell 2
  have z0 : w.heap.size < w7.heap.size := hb0_7.lt
  have n0 : w.heap.size ≠ w7.heap.size := by omega
  have c1_0 : w7.cell? ⟨w1.heap.size, 0, none⟩ = some (.int .i64 p) := hb1_7.cell 0
  have c1_1 : w7.cell? ⟨w1.heap.size, 1, none⟩ = some (.bool q) := hb1_7.cell 1
  have c1_2 : w7.cell? ⟨w1.heap.size, 2, none⟩ = some (.int .i64 r) := hb1_7.cell 2
  have z1 : w1.heap.size < w7.heap.size := hb1_7.lt
  have n1 : w1.heap.size ≠ w7.heap.size := by omega
  have c2_0 : w7.cell? ⟨w2.heap.size, 0, none⟩ = some (.int .i64 p) := hb2_7.cell 0
  have c2_1 : w7.cell? ⟨w2.heap.size, 1, none⟩ = some (.bool q) := hb2_7.cell 1
  have c2_2 : w7.cell? ⟨w2.heap.size, 2, none⟩ = some (.int .i64 r) := hb2_7.cell 2
  have z2 : w2.heap.size < w7.heap.size := hb2_7.lt
  have n2 : w2.heap.size ≠ w7.heap.size := by omega
  have c3_0 : w7.cell? ⟨w5.heap.size, 0, none⟩ = some (.int .i64 o) := hb3_7.cell 0
  have c3_1 : w7.cell? ⟨w5.heap.size, 1, none⟩ = some (.bool u) := hb3_7.cell 1
  have c3_2 : w7.cell? ⟨w5.heap.size, 2, none⟩ = some (.int .i64 f) := hb3_7.cell 2
  have z3 : w5.heap.size < w7.heap.size := hb3_7.lt
  have n3 : w5.heap.size ≠ w7.heap.size := by omega
  clear hq
  go_wp2_with fail
  go_ret
  exact ⟨rfl, hB7⟩
set_option maxRecDepth 100000 in
set_option maxHeartbeats 3200000 in
theorem spotEvents_10 (s S : ByteArray) (o f p r x z m : Int) (u q y : Bool) (w : World)
    (A1 : ∀ W, Calls Try.prog 17 #[.string s] W fun e w' => e = .returned (.tuple #[.agg #[.int .i64 p, .bool q, .int .i64 r], .int .i64 0]) ∧ Below W.heap.size W w')
    (A2 : ∀ W, Calls Try.prog 18 #[.string s] W fun e w' => e = .returned (.tuple #[.agg #[.int .i64 p, .bool q, .int .i64 r], .int .i64 0]) ∧ Below W.heap.size W w')
    (A3 : ∀ W, Calls Try.prog 19 #[.agg #[.int .i64 o, .bool u, .int .i64 f]] W fun e w' => e = .returned (.tuple #[.string S, .int .i64 1]) ∧ Below W.heap.size W w')
    (A4 : ∀ W, Calls Try.prog 20 #[.agg #[.int .i64 o, .bool u, .int .i64 f]] W fun e w' => e = .returned (.tuple #[.string S, .int .i64 1]) ∧ Below W.heap.size W w')
    (A5 : ∀ W, Calls Try.prog 17 #[.string S] W fun e w' => e = .returned (.tuple #[.agg #[.int .i64 x, .bool y, .int .i64 z], .int .i64 m]) ∧ Below W.heap.size W w')
    (A6 : ∀ W, Calls Try.prog 19 #[.agg #[.int .i64 p, .bool q, .int .i64 r]] W fun e w' => e = .returned (.tuple #[.string s, .int .i64 0]) ∧ Below W.heap.size W w')
    (AF : ∀ W, Calls Try.prog 14 #[] W fun e w' => e = .returned (.bool true) ∧ Below W.heap.size W w') :
    Calls Try.prog 4 #[.string s, .agg #[.int .i64 o, .bool u, .int .i64 f]] w fun e w' => e = .returned (.bool true) ∧ Below w.heap.size w w' := by
  have H1 := Lib.hid A1
  have H2 := Lib.hid A2
  have H3 := Lib.hid A3
  have H4 := Lib.hid A4
  have H5 := Lib.hid A5
  have H6 := Lib.hid A6
  have HF := Lib.hid AF
  clear A1 A2 A3 A4 A5 A6 AF
  go_enter Try.func4, Try.ntmps4
  go_wp2_with fail
  refine (H1.out _).mono ?_
  rintro e w1 ⟨rfl, hq⟩
  have hb0_1 : Blk w1 w.heap.size 23 #[.int .i64 o, .bool u, .int .i64 f] := Blk.same (Blk.at w 23 #[.int .i64 o, .bool u, .int .i64 f] (g := w.heap.size) (by simp)) (hq.block _ ((Blk.at w 23 #[.int .i64 o, .bool u, .int .i64 f] (g := w.heap.size) (by simp))).lt)
  have hB1 := b0 (ba (Below.refl w.heap.size w) _) hq
  have c0_0 : w1.cell? ⟨w.heap.size, 0, none⟩ = some (.int .i64 o) := hb0_1.cell 0
  have c0_1 : w1.cell? ⟨w.heap.size, 1, none⟩ = some (.bool u) := hb0_1.cell 1
  have c0_2 : w1.cell? ⟨w.heap.size, 2, none⟩ = some (.int .i64 f) := hb0_1.cell 2
  have z0 : w.heap.size < w1.heap.size := hb0_1.lt
  have n0 : w.heap.size ≠ w1.heap.size := by omega
  clear hq
  go_wp2_with fail
  refine (H2.out _).mono ?_
  rintro e w2 ⟨rfl, hq⟩
  have hb0_2 : Blk w2 w.heap.size 23 #[.int .i64 o, .bool u, .int .i64 f] := Blk.same (hb0_1.alloc (.cells #[.int .i64 p, .bool q, .int .i64 r] 23)) (hq.block _ ((hb0_1.alloc (.cells #[.int .i64 p, .bool q, .int .i64 r] 23))).lt)
  have hb1_2 : Blk w2 w1.heap.size 23 #[.int .i64 p, .bool q, .int .i64 r] := Blk.same (Blk.at w1 23 #[.int .i64 p, .bool q, .int .i64 r] (g := w1.heap.size) (by simp)) (hq.block _ ((Blk.at w1 23 #[.int .i64 p, .bool q, .int .i64 r] (g := w1.heap.size) (by simp))).lt)
  have hB2 := b0 (ba hB1 _) hq
  clear hb0_1 hB1 c0_0 c0_1 c0_2 n0 z0
  have c0_0 : w2.cell? ⟨w.heap.size, 0, none⟩ = some (.int .i64 o) := hb0_2.cell 0
  have c0_1 : w2.cell? ⟨w.heap.size, 1, none⟩ = some (.bool u) := hb0_2.cell 1
  have c0_2 : w2.cell? ⟨w.heap.size, 2, none⟩ = some (.int .i64 f) := hb0_2.cell 2
  have z0 : w.heap.size < w2.heap.size := hb0_2.lt
  have n0 : w.heap.size ≠ w2.heap.size := by omega
  have c1_0 : w2.cell? ⟨w1.heap.size, 0, none⟩ = some (.int .i64 p) := hb1_2.cell 0
  have c1_1 : w2.cell? ⟨w1.heap.size, 1, none⟩ = some (.bool q) := hb1_2.cell 1
  have c1_2 : w2.cell? ⟨w1.heap.size, 2, none⟩ = some (.int .i64 r) := hb1_2.cell 2
  have z1 : w1.heap.size < w2.heap.size := hb1_2.lt
  have n1 : w1.heap.size ≠ w2.heap.size := by omega
  clear hq
  go_wp2_with fail
  refine (H3.out _).mono ?_
  rintro e w3 ⟨rfl, hq⟩
  have hb0_3 : Blk w3 w.heap.size 23 #[.int .i64 o, .bool u, .int .i64 f] := Blk.same (hb0_2.alloc (.cells #[.int .i64 p, .bool q, .int .i64 r] 23)) (hq.block _ ((hb0_2.alloc (.cells #[.int .i64 p, .bool q, .int .i64 r] 23))).lt)
  have hb1_3 : Blk w3 w1.heap.size 23 #[.int .i64 p, .bool q, .int .i64 r] := Blk.same (hb1_2.alloc (.cells #[.int .i64 p, .bool q, .int .i64 r] 23)) (hq.block _ ((hb1_2.alloc (.cells #[.int .i64 p, .bool q, .int .i64 r] 23))).lt)
  have hb2_3 : Blk w3 w2.heap.size 23 #[.int .i64 p, .bool q, .int .i64 r] := Blk.same (Blk.at w2 23 #[.int .i64 p, .bool q, .int .i64 r] (g := w2.heap.size) (by simp)) (hq.block _ ((Blk.at w2 23 #[.int .i64 p, .bool q, .int .i64 r] (g := w2.heap.size) (by simp))).lt)
  have hB3 := b0 (ba hB2 _) hq
  clear hb0_2 hb1_2 hB2 c0_0 c0_1 c0_2 n0 z0 c1_0 c1_1 c1_2 n1 z1
  have c0_0 : w3.cell? ⟨w.heap.size, 0, none⟩ = some (.int .i64 o) := hb0_3.cell 0
  have c0_1 : w3.cell? ⟨w.heap.size, 1, none⟩ = some (.bool u) := hb0_3.cell 1
  have c0_2 : w3.cell? ⟨w.heap.size, 2, none⟩ = some (.int .i64 f) := hb0_3.cell 2
  have z0 : w.heap.size < w3.heap.size := hb0_3.lt
  have n0 : w.heap.size ≠ w3.heap.size := by omega
  have c1_0 : w3.cell? ⟨w1.heap.size, 0, none⟩ = some (.int .i64 p) := hb1_3.cell 0
  have c1_1 : w3.cell? ⟨w1.heap.size, 1, none⟩ = some (.bool q) := hb1_3.cell 1
  have c1_2 : w3.cell? ⟨w1.heap.size, 2, none⟩ = some (.int .i64 r) := hb1_3.cell 2
  have z1 : w1.heap.size < w3.heap.size := hb1_3.lt
  have n1 : w1.heap.size ≠ w3.heap.size := by omega
  have c2_0 : w3.cell? ⟨w2.heap.size, 0, none⟩ = some (.int .i64 p) := hb2_3.cell 0
  have c2_1 : w3.cell? ⟨w2.heap.size, 1, none⟩ = some (.bool q) := hb2_3.cell 1
  have c2_2 : w3.cell? ⟨w2.heap.size, 2, none⟩ = some (.int .i64 r) := hb2_3.cell 2
  have z2 : w2.heap.size < w3.heap.size := hb2_3.lt
  have n2 : w2.heap.size ≠ w3.heap.size := by omega
  clear hq
  go_wp2_with fail
  refine (H4.out _).mono ?_
  rintro e w4 ⟨rfl, hq⟩
  have hb0_4 : Blk w4 w.heap.size 23 #[.int .i64 o, .bool u, .int .i64 f] := Blk.same hb0_3 (hq.block _ (hb0_3).lt)
  have hb1_4 : Blk w4 w1.heap.size 23 #[.int .i64 p, .bool q, .int .i64 r] := Blk.same hb1_3 (hq.block _ (hb1_3).lt)
  have hb2_4 : Blk w4 w2.heap.size 23 #[.int .i64 p, .bool q, .int .i64 r] := Blk.same hb2_3 (hq.block _ (hb2_3).lt)
  have hB4 := b0 hB3 hq
  clear hb0_3 hb1_3 hb2_3 hB3 c0_0 c0_1 c0_2 n0 z0 c1_0 c1_1 c1_2 n1 z1 c2_0 c2_1 c2_2 n2 z2
  have c0_0 : w4.cell? ⟨w.heap.size, 0, none⟩ = some (.int .i64 o) := hb0_4.cell 0
  have c0_1 : w4.cell? ⟨w.heap.size, 1, none⟩ = some (.bool u) := hb0_4.cell 1
  have c0_2 : w4.cell? ⟨w.heap.size, 2, none⟩ = some (.int .i64 f) := hb0_4.cell 2
  have z0 : w.heap.size < w4.heap.size := hb0_4.lt
  have n0 : w.heap.size ≠ w4.heap.size := by omega
  have c1_0 : w4.cell? ⟨w1.heap.size, 0, none⟩ = some (.int .i64 p) := hb1_4.cell 0
  have c1_1 : w4.cell? ⟨w1.heap.size, 1, none⟩ = some (.bool q) := hb1_4.cell 1
  have c1_2 : w4.cell? ⟨w1.heap.size, 2, none⟩ = some (.int .i64 r) := hb1_4.cell 2
  have z1 : w1.heap.size < w4.heap.size := hb1_4.lt
  have n1 : w1.heap.size ≠ w4.heap.size := by omega
  have c2_0 : w4.cell? ⟨w2.heap.size, 0, none⟩ = some (.int .i64 p) := hb2_4.cell 0
  have c2_1 : w4.cell? ⟨w2.heap.size, 1, none⟩ = some (.bool q) := hb2_4.cell 1
  have c2_2 : w4.cell? ⟨w2.heap.size, 2, none⟩ = some (.int .i64 r) := hb2_4.cell 2
  have z2 : w2.heap.size < w4.heap.size := hb2_4.lt
  have n2 : w2.heap.size ≠ w4.heap.size := by omega
  clear hq
  go_wp2_with fail
  refine (H5.out _).mono ?_
  rintro e w5 ⟨rfl, hq⟩
  have hb0_5 : Blk w5 w.heap.size 23 #[.int .i64 o, .bool u, .int .i64 f] := Blk.same hb0_4 (hq.block _ (hb0_4).lt)
  have hb1_5 : Blk w5 w1.heap.size 23 #[.int .i64 p, .bool q, .int .i64 r] := Blk.same hb1_4 (hq.block _ (hb1_4).lt)
  have hb2_5 : Blk w5 w2.heap.size 23 #[.int .i64 p, .bool q, .int .i64 r] := Blk.same hb2_4 (hq.block _ (hb2_4).lt)
  have hB5 := b0 hB4 hq
  clear hb0_4 hb1_4 hb2_4 hB4 c0_0 c0_1 c0_2 n0 z0 c1_0 c1_1 c1_2 n1 z1 c2_0 c2_1 c2_2 n2 z2
  have c0_0 : w5.cell? ⟨w.heap.size, 0, none⟩ = some (.int .i64 o) := hb0_5.cell 0
  have c0_1 : w5.cell? ⟨w.heap.size, 1, none⟩ = some (.bool u) := hb0_5.cell 1
  have c0_2 : w5.cell? ⟨w.heap.size, 2, none⟩ = some (.int .i64 f) := hb0_5.cell 2
  have z0 : w.heap.size < w5.heap.size := hb0_5.lt
  have n0 : w.heap.size ≠ w5.heap.size := by omega
  have c1_0 : w5.cell? ⟨w1.heap.size, 0, none⟩ = some (.int .i64 p) := hb1_5.cell 0
  have c1_1 : w5.cell? ⟨w1.heap.size, 1, none⟩ = some (.bool q) := hb1_5.cell 1
  have c1_2 : w5.cell? ⟨w1.heap.size, 2, none⟩ = some (.int .i64 r) := hb1_5.cell 2
  have z1 : w1.heap.size < w5.heap.size := hb1_5.lt
  have n1 : w1.heap.size ≠ w5.heap.size := by omega
  have c2_0 : w5.cell? ⟨w2.heap.size, 0, none⟩ = some (.int .i64 p) := hb2_5.cell 0
  have c2_1 : w5.cell? ⟨w2.heap.size, 1, none⟩ = some (.bool q) := hb2_5.cell 1
  have c2_2 : w5.cell? ⟨w2.heap.size, 2, none⟩ = some (.int .i64 r) := hb2_5.cell 2
  have z2 : w2.heap.size < w5.heap.size := hb2_5.lt
  have n2 : w2.heap.size ≠ w5.heap.size := by omega
  clear hq
  go_wp2_with fail
  refine (H6.out _).mono ?_
  rintro e w6 ⟨rfl, hq⟩
  have hb0_6 : Blk w6 w.heap.size 23 #[.int .i64 o, .bool u, .int .i64 f] := Blk.same (hb0_5.alloc (.cells #[.int .i64 x, .bool y, .int .i64 z] 23)) (hq.block _ ((hb0_5.alloc (.cells #[.int .i64 x, .bool y, .int .i64 z] 23))).lt)
  have hb1_6 : Blk w6 w1.heap.size 23 #[.int .i64 p, .bool q, .int .i64 r] := Blk.same (hb1_5.alloc (.cells #[.int .i64 x, .bool y, .int .i64 z] 23)) (hq.block _ ((hb1_5.alloc (.cells #[.int .i64 x, .bool y, .int .i64 z] 23))).lt)
  have hb2_6 : Blk w6 w2.heap.size 23 #[.int .i64 p, .bool q, .int .i64 r] := Blk.same (hb2_5.alloc (.cells #[.int .i64 x, .bool y, .int .i64 z] 23)) (hq.block _ ((hb2_5.alloc (.cells #[.int .i64 x, .bool y, .int .i64 z] 23))).lt)
  have hb3_6 : Blk w6 w5.heap.size 23 #[.int .i64 x, .bool y, .int .i64 z] := Blk.same (Blk.at w5 23 #[.int .i64 x, .bool y, .int .i64 z] (g := w5.heap.size) (by simp)) (hq.block _ ((Blk.at w5 23 #[.int .i64 x, .bool y, .int .i64 z] (g := w5.heap.size) (by simp))).lt)
  have hB6 := b0 (ba hB5 _) hq
  clear hb0_5 hb1_5 hb2_5 hB5 c0_0 c0_1 c0_2 n0 z0 c1_0 c1_1 c1_2 n1 z1 c2_0 c2_1 c2_2 n2 z2
  have c0_0 : w6.cell? ⟨w.heap.size, 0, none⟩ = some (.int .i64 o) := hb0_6.cell 0
  have c0_1 : w6.cell? ⟨w.heap.size, 1, none⟩ = some (.bool u) := hb0_6.cell 1
  have c0_2 : w6.cell? ⟨w.heap.size, 2, none⟩ = some (.int .i64 f) := hb0_6.cell 2
  have z0 : w.heap.size < w6.heap.size := hb0_6.lt
  have n0 : w.heap.size ≠ w6.heap.size := by omega
  have c1_0 : w6.cell? ⟨w1.heap.size, 0, none⟩ = some (.int .i64 p) := hb1_6.cell 0
  have c1_1 : w6.cell? ⟨w1.heap.size, 1, none⟩ = some (.bool q) := hb1_6.cell 1
  have c1_2 : w6.cell? ⟨w1.heap.size, 2, none⟩ = some (.int .i64 r) := hb1_6.cell 2
  have z1 : w1.heap.size < w6.heap.size := hb1_6.lt
  have n1 : w1.heap.size ≠ w6.heap.size := by omega
  have c2_0 : w6.cell? ⟨w2.heap.size, 0, none⟩ = some (.int .i64 p) := hb2_6.cell 0
  have c2_1 : w6.cell? ⟨w2.heap.size, 1, none⟩ = some (.bool q) := hb2_6.cell 1
  have c2_2 : w6.cell? ⟨w2.heap.size, 2, none⟩ = some (.int .i64 r) := hb2_6.cell 2
  have z2 : w2.heap.size < w6.heap.size := hb2_6.lt
  have n2 : w2.heap.size ≠ w6.heap.size := by omega
  have c3_0 : w6.cell? ⟨w5.heap.size, 0, none⟩ = some (.int .i64 x) := hb3_6.cell 0
  have c3_1 : w6.cell? ⟨w5.heap.size, 1, none⟩ = some (.bool y) := hb3_6.cell 1
  have c3_2 : w6.cell? ⟨w5.heap.size, 2, none⟩ = some (.int .i64 z) := hb3_6.cell 2
  have z3 : w5.heap.size < w6.heap.size := hb3_6.lt
  have n3 : w5.heap.size ≠ w6.heap.size := by omega
  clear hq
  go_wp2_with fail
  refine (HF.out _).mono ?_
  rintro e w7 ⟨rfl, hq⟩
  have hb0_7 : Blk w7 w.heap.size 23 #[.int .i64 o, .bool u, .int .i64 f] := Blk.same hb0_6 (hq.block _ (hb0_6).lt)
  have hb1_7 : Blk w7 w1.heap.size 23 #[.int .i64 p, .bool q, .int .i64 r] := Blk.same hb1_6 (hq.block _ (hb1_6).lt)
  have hb2_7 : Blk w7 w2.heap.size 23 #[.int .i64 p, .bool q, .int .i64 r] := Blk.same hb2_6 (hq.block _ (hb2_6).lt)
  have hb3_7 : Blk w7 w5.heap.size 23 #[.int .i64 x, .bool y, .int .i64 z] := Blk.same hb3_6 (hq.block _ (hb3_6).lt)
  have hB7 := b0 hB6 hq
  clear hb0_6 hb1_6 hb2_6 hb3_6 hB6 c0_0 c0_1 c0_2 n0 z0 c1_0 c1_1 c1_2 n1 z1 c2_0 c2_1 c2_2 n2 z2 c3_0 c3_1 c3_2 n3 z3
  have c0_0 : w7.cell? ⟨w.heap.size, 0, none⟩ = some (.int .i64 o) := hb0_7.cell 0
  have c0_1 : w7.cell? ⟨w.heap.size, 1, none⟩ = some (.bool u) := hb0_7.cell 1
  have c0_2 : w7.cell? ⟨w.heap.size, 2, none⟩ = some (.int .i64 f) := hb0_7.cell 2
  have z0 : w.heap.size < w7.heap.size := hb0_7.lt
  have n0 : w.heap.size ≠ w7.heap.size := by omega
  have c1_0 : w7.cell? ⟨w1.heap.size, 0, none⟩ = some (.int .i64 p) := hb1_7.cell 0
  have c1_1 : w7.cell? ⟨w1.heap.size, 1, none⟩ = some (.bool q) := hb1_7.cell 1
  have c1_2 : w7.cell? ⟨w1.heap.size, 2, none⟩ = some (.int .i64 r) := hb1_7.cell 2
  have z1 : w1.heap.size < w7.heap.size := hb1_7.lt
  have n1 : w1.heap.size ≠ w7.heap.size := by omega
  have c2_0 : w7.cell? ⟨w2.heap.size, 0, none⟩ = some (.int .i64 p) := hb2_7.cell 0
  have c2_1 : w7.cell? ⟨w2.heap.size, 1, none⟩ = some (.bool q) := hb2_7.cell 1
  have c2_2 : w7.cell? ⟨w2.heap.size, 2, none⟩ = some (.int .i64 r) := hb2_7.cell 2
  have z2 : w2.heap.size < w7.heap.size := hb2_7.lt
  have n2 : w2.heap.size ≠ w7.heap.size := by omega
  have c3_0 : w7.cell? ⟨w5.heap.size, 0, none⟩ = some (.int .i64 x) := hb3_7.cell 0
  have c3_1 : w7.cell? ⟨w5.heap.size, 1, none⟩ = some (.bool y) := hb3_7.cell 1
  have c3_2 : w7.cell? ⟨w5.heap.size, 2, none⟩ = some (.int .i64 z) := hb3_7.cell 2
  have z3 : w5.heap.size < w7.heap.size := hb3_7.lt
  have n3 : w5.heap.size ≠ w7.heap.size := by omega
  clear hq
  go_wp2_with fail
  go_ret
  exact ⟨rfl, hB7⟩
set_option maxRecDepth 100000 in
set_option maxHeartbeats 3200000 in
theorem spotEvents_11 (s S T : ByteArray) (o f p r x z m j : Int) (u q y : Bool) (w : World)
    (A1 : ∀ W, Calls Try.prog 17 #[.string s] W fun e w' => e = .returned (.tuple #[.agg #[.int .i64 p, .bool q, .int .i64 r], .int .i64 1]) ∧ Below W.heap.size W w')
    (A2 : ∀ W, Calls Try.prog 18 #[.string s] W fun e w' => e = .returned (.tuple #[.agg #[.int .i64 p, .bool q, .int .i64 r], .int .i64 1]) ∧ Below W.heap.size W w')
    (A3 : ∀ W, Calls Try.prog 19 #[.agg #[.int .i64 o, .bool u, .int .i64 f]] W fun e w' => e = .returned (.tuple #[.string S, .int .i64 1]) ∧ Below W.heap.size W w')
    (A4 : ∀ W, Calls Try.prog 20 #[.agg #[.int .i64 o, .bool u, .int .i64 f]] W fun e w' => e = .returned (.tuple #[.string S, .int .i64 1]) ∧ Below W.heap.size W w')
    (A5 : ∀ W, Calls Try.prog 17 #[.string S] W fun e w' => e = .returned (.tuple #[.agg #[.int .i64 x, .bool y, .int .i64 z], .int .i64 m]) ∧ Below W.heap.size W w')
    (A6 : ∀ W, Calls Try.prog 19 #[.agg #[.int .i64 p, .bool q, .int .i64 r]] W fun e w' => e = .returned (.tuple #[.string T, .int .i64 j]) ∧ Below W.heap.size W w')
    (AF : ∀ W, Calls Try.prog 14 #[] W fun e w' => e = .returned (.bool true) ∧ Below W.heap.size W w') :
    Calls Try.prog 4 #[.string s, .agg #[.int .i64 o, .bool u, .int .i64 f]] w fun e w' => e = .returned (.bool true) ∧ Below w.heap.size w w' := by
  have H1 := Lib.hid A1
  have H2 := Lib.hid A2
  have H3 := Lib.hid A3
  have H4 := Lib.hid A4
  have H5 := Lib.hid A5
  have H6 := Lib.hid A6
  have HF := Lib.hid AF
  clear A1 A2 A3 A4 A5 A6 AF
  go_enter Try.func4, Try.ntmps4
  go_wp2_with fail
  refine (H1.out _).mono ?_
  rintro e w1 ⟨rfl, hq⟩
  have hb0_1 : Blk w1 w.heap.size 23 #[.int .i64 o, .bool u, .int .i64 f] := Blk.same (Blk.at w 23 #[.int .i64 o, .bool u, .int .i64 f] (g := w.heap.size) (by simp)) (hq.block _ ((Blk.at w 23 #[.int .i64 o, .bool u, .int .i64 f] (g := w.heap.size) (by simp))).lt)
  have hB1 := b0 (ba (Below.refl w.heap.size w) _) hq
  have c0_0 : w1.cell? ⟨w.heap.size, 0, none⟩ = some (.int .i64 o) := hb0_1.cell 0
  have c0_1 : w1.cell? ⟨w.heap.size, 1, none⟩ = some (.bool u) := hb0_1.cell 1
  have c0_2 : w1.cell? ⟨w.heap.size, 2, none⟩ = some (.int .i64 f) := hb0_1.cell 2
  have z0 : w.heap.size < w1.heap.size := hb0_1.lt
  have n0 : w.heap.size ≠ w1.heap.size := by omega
  clear hq
  go_wp2_with fail
  refine (H2.out _).mono ?_
  rintro e w2 ⟨rfl, hq⟩
  have hb0_2 : Blk w2 w.heap.size 23 #[.int .i64 o, .bool u, .int .i64 f] := Blk.same (hb0_1.alloc (.cells #[.int .i64 p, .bool q, .int .i64 r] 23)) (hq.block _ ((hb0_1.alloc (.cells #[.int .i64 p, .bool q, .int .i64 r] 23))).lt)
  have hb1_2 : Blk w2 w1.heap.size 23 #[.int .i64 p, .bool q, .int .i64 r] := Blk.same (Blk.at w1 23 #[.int .i64 p, .bool q, .int .i64 r] (g := w1.heap.size) (by simp)) (hq.block _ ((Blk.at w1 23 #[.int .i64 p, .bool q, .int .i64 r] (g := w1.heap.size) (by simp))).lt)
  have hB2 := b0 (ba hB1 _) hq
  clear hb0_1 hB1 c0_0 c0_1 c0_2 n0 z0
  have c0_0 : w2.cell? ⟨w.heap.size, 0, none⟩ = some (.int .i64 o) := hb0_2.cell 0
  have c0_1 : w2.cell? ⟨w.heap.size, 1, none⟩ = some (.bool u) := hb0_2.cell 1
  have c0_2 : w2.cell? ⟨w.heap.size, 2, none⟩ = some (.int .i64 f) := hb0_2.cell 2
  have z0 : w.heap.size < w2.heap.size := hb0_2.lt
  have n0 : w.heap.size ≠ w2.heap.size := by omega
  have c1_0 : w2.cell? ⟨w1.heap.size, 0, none⟩ = some (.int .i64 p) := hb1_2.cell 0
  have c1_1 : w2.cell? ⟨w1.heap.size, 1, none⟩ = some (.bool q) := hb1_2.cell 1
  have c1_2 : w2.cell? ⟨w1.heap.size, 2, none⟩ = some (.int .i64 r) := hb1_2.cell 2
  have z1 : w1.heap.size < w2.heap.size := hb1_2.lt
  have n1 : w1.heap.size ≠ w2.heap.size := by omega
  clear hq
  go_wp2_with fail
  refine (H3.out _).mono ?_
  rintro e w3 ⟨rfl, hq⟩
  have hb0_3 : Blk w3 w.heap.size 23 #[.int .i64 o, .bool u, .int .i64 f] := Blk.same (hb0_2.alloc (.cells #[.int .i64 p, .bool q, .int .i64 r] 23)) (hq.block _ ((hb0_2.alloc (.cells #[.int .i64 p, .bool q, .int .i64 r] 23))).lt)
  have hb1_3 : Blk w3 w1.heap.size 23 #[.int .i64 p, .bool q, .int .i64 r] := Blk.same (hb1_2.alloc (.cells #[.int .i64 p, .bool q, .int .i64 r] 23)) (hq.block _ ((hb1_2.alloc (.cells #[.int .i64 p, .bool q, .int .i64 r] 23))).lt)
  have hb2_3 : Blk w3 w2.heap.size 23 #[.int .i64 p, .bool q, .int .i64 r] := Blk.same (Blk.at w2 23 #[.int .i64 p, .bool q, .int .i64 r] (g := w2.heap.size) (by simp)) (hq.block _ ((Blk.at w2 23 #[.int .i64 p, .bool q, .int .i64 r] (g := w2.heap.size) (by simp))).lt)
  have hB3 := b0 (ba hB2 _) hq
  clear hb0_2 hb1_2 hB2 c0_0 c0_1 c0_2 n0 z0 c1_0 c1_1 c1_2 n1 z1
  have c0_0 : w3.cell? ⟨w.heap.size, 0, none⟩ = some (.int .i64 o) := hb0_3.cell 0
  have c0_1 : w3.cell? ⟨w.heap.size, 1, none⟩ = some (.bool u) := hb0_3.cell 1
  have c0_2 : w3.cell? ⟨w.heap.size, 2, none⟩ = some (.int .i64 f) := hb0_3.cell 2
  have z0 : w.heap.size < w3.heap.size := hb0_3.lt
  have n0 : w.heap.size ≠ w3.heap.size := by omega
  have c1_0 : w3.cell? ⟨w1.heap.size, 0, none⟩ = some (.int .i64 p) := hb1_3.cell 0
  have c1_1 : w3.cell? ⟨w1.heap.size, 1, none⟩ = some (.bool q) := hb1_3.cell 1
  have c1_2 : w3.cell? ⟨w1.heap.size, 2, none⟩ = some (.int .i64 r) := hb1_3.cell 2
  have z1 : w1.heap.size < w3.heap.size := hb1_3.lt
  have n1 : w1.heap.size ≠ w3.heap.size := by omega
  have c2_0 : w3.cell? ⟨w2.heap.size, 0, none⟩ = some (.int .i64 p) := hb2_3.cell 0
  have c2_1 : w3.cell? ⟨w2.heap.size, 1, none⟩ = some (.bool q) := hb2_3.cell 1
  have c2_2 : w3.cell? ⟨w2.heap.size, 2, none⟩ = some (.int .i64 r) := hb2_3.cell 2
  have z2 : w2.heap.size < w3.heap.size := hb2_3.lt
  have n2 : w2.heap.size ≠ w3.heap.size := by omega
  clear hq
  go_wp2_with fail
  refine (H4.out _).mono ?_
  rintro e w4 ⟨rfl, hq⟩
  have hb0_4 : Blk w4 w.heap.size 23 #[.int .i64 o, .bool u, .int .i64 f] := Blk.same hb0_3 (hq.block _ (hb0_3).lt)
  have hb1_4 : Blk w4 w1.heap.size 23 #[.int .i64 p, .bool q, .int .i64 r] := Blk.same hb1_3 (hq.block _ (hb1_3).lt)
  have hb2_4 : Blk w4 w2.heap.size 23 #[.int .i64 p, .bool q, .int .i64 r] := Blk.same hb2_3 (hq.block _ (hb2_3).lt)
  have hB4 := b0 hB3 hq
  clear hb0_3 hb1_3 hb2_3 hB3 c0_0 c0_1 c0_2 n0 z0 c1_0 c1_1 c1_2 n1 z1 c2_0 c2_1 c2_2 n2 z2
  have c0_0 : w4.cell? ⟨w.heap.size, 0, none⟩ = some (.int .i64 o) := hb0_4.cell 0
  have c0_1 : w4.cell? ⟨w.heap.size, 1, none⟩ = some (.bool u) := hb0_4.cell 1
  have c0_2 : w4.cell? ⟨w.heap.size, 2, none⟩ = some (.int .i64 f) := hb0_4.cell 2
  have z0 : w.heap.size < w4.heap.size := hb0_4.lt
  have n0 : w.heap.size ≠ w4.heap.size := by omega
  have c1_0 : w4.cell? ⟨w1.heap.size, 0, none⟩ = some (.int .i64 p) := hb1_4.cell 0
  have c1_1 : w4.cell? ⟨w1.heap.size, 1, none⟩ = some (.bool q) := hb1_4.cell 1
  have c1_2 : w4.cell? ⟨w1.heap.size, 2, none⟩ = some (.int .i64 r) := hb1_4.cell 2
  have z1 : w1.heap.size < w4.heap.size := hb1_4.lt
  have n1 : w1.heap.size ≠ w4.heap.size := by omega
  have c2_0 : w4.cell? ⟨w2.heap.size, 0, none⟩ = some (.int .i64 p) := hb2_4.cell 0
  have c2_1 : w4.cell? ⟨w2.heap.size, 1, none⟩ = some (.bool q) := hb2_4.cell 1
  have c2_2 : w4.cell? ⟨w2.heap.size, 2, none⟩ = some (.int .i64 r) := hb2_4.cell 2
  have z2 : w2.heap.size < w4.heap.size := hb2_4.lt
  have n2 : w2.heap.size ≠ w4.heap.size := by omega
  clear hq
  go_wp2_with fail
  refine (H5.out _).mono ?_
  rintro e w5 ⟨rfl, hq⟩
  have hb0_5 : Blk w5 w.heap.size 23 #[.int .i64 o, .bool u, .int .i64 f] := Blk.same hb0_4 (hq.block _ (hb0_4).lt)
  have hb1_5 : Blk w5 w1.heap.size 23 #[.int .i64 p, .bool q, .int .i64 r] := Blk.same hb1_4 (hq.block _ (hb1_4).lt)
  have hb2_5 : Blk w5 w2.heap.size 23 #[.int .i64 p, .bool q, .int .i64 r] := Blk.same hb2_4 (hq.block _ (hb2_4).lt)
  have hB5 := b0 hB4 hq
  clear hb0_4 hb1_4 hb2_4 hB4 c0_0 c0_1 c0_2 n0 z0 c1_0 c1_1 c1_2 n1 z1 c2_0 c2_1 c2_2 n2 z2
  have c0_0 : w5.cell? ⟨w.heap.size, 0, none⟩ = some (.int .i64 o) := hb0_5.cell 0
  have c0_1 : w5.cell? ⟨w.heap.size, 1, none⟩ = some (.bool u) := hb0_5.cell 1
  have c0_2 : w5.cell? ⟨w.heap.size, 2, none⟩ = some (.int .i64 f) := hb0_5.cell 2
  have z0 : w.heap.size < w5.heap.size := hb0_5.lt
  have n0 : w.heap.size ≠ w5.heap.size := by omega
  have c1_0 : w5.cell? ⟨w1.heap.size, 0, none⟩ = some (.int .i64 p) := hb1_5.cell 0
  have c1_1 : w5.cell? ⟨w1.heap.size, 1, none⟩ = some (.bool q) := hb1_5.cell 1
  have c1_2 : w5.cell? ⟨w1.heap.size, 2, none⟩ = some (.int .i64 r) := hb1_5.cell 2
  have z1 : w1.heap.size < w5.heap.size := hb1_5.lt
  have n1 : w1.heap.size ≠ w5.heap.size := by omega
  have c2_0 : w5.cell? ⟨w2.heap.size, 0, none⟩ = some (.int .i64 p) := hb2_5.cell 0
  have c2_1 : w5.cell? ⟨w2.heap.size, 1, none⟩ = some (.bool q) := hb2_5.cell 1
  have c2_2 : w5.cell? ⟨w2.heap.size, 2, none⟩ = some (.int .i64 r) := hb2_5.cell 2
  have z2 : w2.heap.size < w5.heap.size := hb2_5.lt
  have n2 : w2.heap.size ≠ w5.heap.size := by omega
  clear hq
  go_wp2_with fail
  refine (H6.out _).mono ?_
  rintro e w6 ⟨rfl, hq⟩
  have hb0_6 : Blk w6 w.heap.size 23 #[.int .i64 o, .bool u, .int .i64 f] := Blk.same (hb0_5.alloc (.cells #[.int .i64 x, .bool y, .int .i64 z] 23)) (hq.block _ ((hb0_5.alloc (.cells #[.int .i64 x, .bool y, .int .i64 z] 23))).lt)
  have hb1_6 : Blk w6 w1.heap.size 23 #[.int .i64 p, .bool q, .int .i64 r] := Blk.same (hb1_5.alloc (.cells #[.int .i64 x, .bool y, .int .i64 z] 23)) (hq.block _ ((hb1_5.alloc (.cells #[.int .i64 x, .bool y, .int .i64 z] 23))).lt)
  have hb2_6 : Blk w6 w2.heap.size 23 #[.int .i64 p, .bool q, .int .i64 r] := Blk.same (hb2_5.alloc (.cells #[.int .i64 x, .bool y, .int .i64 z] 23)) (hq.block _ ((hb2_5.alloc (.cells #[.int .i64 x, .bool y, .int .i64 z] 23))).lt)
  have hb3_6 : Blk w6 w5.heap.size 23 #[.int .i64 x, .bool y, .int .i64 z] := Blk.same (Blk.at w5 23 #[.int .i64 x, .bool y, .int .i64 z] (g := w5.heap.size) (by simp)) (hq.block _ ((Blk.at w5 23 #[.int .i64 x, .bool y, .int .i64 z] (g := w5.heap.size) (by simp))).lt)
  have hB6 := b0 (ba hB5 _) hq
  clear hb0_5 hb1_5 hb2_5 hB5 c0_0 c0_1 c0_2 n0 z0 c1_0 c1_1 c1_2 n1 z1 c2_0 c2_1 c2_2 n2 z2
  have c0_0 : w6.cell? ⟨w.heap.size, 0, none⟩ = some (.int .i64 o) := hb0_6.cell 0
  have c0_1 : w6.cell? ⟨w.heap.size, 1, none⟩ = some (.bool u) := hb0_6.cell 1
  have c0_2 : w6.cell? ⟨w.heap.size, 2, none⟩ = some (.int .i64 f) := hb0_6.cell 2
  have z0 : w.heap.size < w6.heap.size := hb0_6.lt
  have n0 : w.heap.size ≠ w6.heap.size := by omega
  have c1_0 : w6.cell? ⟨w1.heap.size, 0, none⟩ = some (.int .i64 p) := hb1_6.cell 0
  have c1_1 : w6.cell? ⟨w1.heap.size, 1, none⟩ = some (.bool q) := hb1_6.cell 1
  have c1_2 : w6.cell? ⟨w1.heap.size, 2, none⟩ = some (.int .i64 r) := hb1_6.cell 2
  have z1 : w1.heap.size < w6.heap.size := hb1_6.lt
  have n1 : w1.heap.size ≠ w6.heap.size := by omega
  have c2_0 : w6.cell? ⟨w2.heap.size, 0, none⟩ = some (.int .i64 p) := hb2_6.cell 0
  have c2_1 : w6.cell? ⟨w2.heap.size, 1, none⟩ = some (.bool q) := hb2_6.cell 1
  have c2_2 : w6.cell? ⟨w2.heap.size, 2, none⟩ = some (.int .i64 r) := hb2_6.cell 2
  have z2 : w2.heap.size < w6.heap.size := hb2_6.lt
  have n2 : w2.heap.size ≠ w6.heap.size := by omega
  have c3_0 : w6.cell? ⟨w5.heap.size, 0, none⟩ = some (.int .i64 x) := hb3_6.cell 0
  have c3_1 : w6.cell? ⟨w5.heap.size, 1, none⟩ = some (.bool y) := hb3_6.cell 1
  have c3_2 : w6.cell? ⟨w5.heap.size, 2, none⟩ = some (.int .i64 z) := hb3_6.cell 2
  have z3 : w5.heap.size < w6.heap.size := hb3_6.lt
  have n3 : w5.heap.size ≠ w6.heap.size := by omega
  clear hq
  go_wp2_with fail
  refine (HF.out _).mono ?_
  rintro e w7 ⟨rfl, hq⟩
  have hb0_7 : Blk w7 w.heap.size 23 #[.int .i64 o, .bool u, .int .i64 f] := Blk.same hb0_6 (hq.block _ (hb0_6).lt)
  have hb1_7 : Blk w7 w1.heap.size 23 #[.int .i64 p, .bool q, .int .i64 r] := Blk.same hb1_6 (hq.block _ (hb1_6).lt)
  have hb2_7 : Blk w7 w2.heap.size 23 #[.int .i64 p, .bool q, .int .i64 r] := Blk.same hb2_6 (hq.block _ (hb2_6).lt)
  have hb3_7 : Blk w7 w5.heap.size 23 #[.int .i64 x, .bool y, .int .i64 z] := Blk.same hb3_6 (hq.block _ (hb3_6).lt)
  have hB7 := b0 hB6 hq
  clear hb0_6 hb1_6 hb2_6 hb3_6 hB6 c0_0 c0_1 c0_2 n0 z0 c1_0 c1_1 c1_2 n1 z1 c2_0 c2_1 c2_2 n2 z2 c3_0 c3_1 c3_2 n3 z3
  have c0_0 : w7.cell? ⟨w.heap.size, 0, none⟩ = some (.int .i64 o) := hb0_7.cell 0
  have c0_1 : w7.cell? ⟨w.heap.size, 1, none⟩ = some (.bool u) := hb0_7.cell 1
  have c0_2 : w7.cell? ⟨w.heap.size, 2, none⟩ = some (.int .i64 f) := hb0_7.cell 2
  have z0 : w.heap.size < w7.heap.size := hb0_7.lt
  have n0 : w.heap.size ≠ w7.heap.size := by omega
  have c1_0 : w7.cell? ⟨w1.heap.size, 0, none⟩ = some (.int .i64 p) := hb1_7.cell 0
  have c1_1 : w7.cell? ⟨w1.heap.size, 1, none⟩ = some (.bool q) := hb1_7.cell 1
  have c1_2 : w7.cell? ⟨w1.heap.size, 2, none⟩ = some (.int .i64 r) := hb1_7.cell 2
  have z1 : w1.heap.size < w7.heap.size := hb1_7.lt
  have n1 : w1.heap.size ≠ w7.heap.size := by omega
  have c2_0 : w7.cell? ⟨w2.heap.size, 0, none⟩ = some (.int .i64 p) := hb2_7.cell 0
  have c2_1 : w7.cell? ⟨w2.heap.size, 1, none⟩ = some (.bool q) := hb2_7.cell 1
  have c2_2 : w7.cell? ⟨w2.heap.size, 2, none⟩ = some (.int .i64 r) := hb2_7.cell 2
  have z2 : w2.heap.size < w7.heap.size := hb2_7.lt
  have n2 : w2.heap.size ≠ w7.heap.size := by omega
  have c3_0 : w7.cell? ⟨w5.heap.size, 0, none⟩ = some (.int .i64 x) := hb3_7.cell 0
  have c3_1 : w7.cell? ⟨w5.heap.size, 1, none⟩ = some (.bool y) := hb3_7.cell 1
  have c3_2 : w7.cell? ⟨w5.heap.size, 2, none⟩ = some (.int .i64 z) := hb3_7.cell 2
  have z3 : w5.heap.size < w7.heap.size := hb3_7.lt
  have n3 : w5.heap.size ≠ w7.heap.size := by omega
  clear hq
  go_wp2_with fail
  go_ret
  exact ⟨rfl, hB7⟩
theorem spotEvents_any (s : ByteArray) (o : Int) (u : Bool) (f : Int) (w : World) :
    Calls Try.prog 4 #[.string s, .agg #[.int .i64 o, .bool u, .int .i64 f]] w fun e w' => e = .returned (.bool true) ∧ Below w.heap.size w w' := by
  have P := parse_any s
  have Q := rparse_any s
  have B := build_any o f u
  have D := rbuild_any o f u
  have M := build_any (paO s) (paF s) (paW s)
  have K := parse_any (buS o u f)
  have hp (h : s.size = 4) : paE s = 0 ∧ buS (paO s) (paW s) (paF s) = s ∧ buE (paO s) (paF s) = 0 := ⟨if_pos h, (evB_parse s h).2, if_pos (evB_parse s h).1⟩
  have hb (h : isEv o f) : buE o f = 0 ∧ paO (buS o u f) = o ∧ paW (buS o u f) = u ∧ paF (buS o u f) = f ∧ paE (buS o u f) = 0 := by
    refine ⟨if_pos h, ?_⟩
    obtain ⟨a, rfl⟩ := Int.eq_ofNat_of_zero_le h.1.1
    obtain ⟨b, rfl⟩ := Int.eq_ofNat_of_zero_le h.2.1
    have e : buS (a : Int) u (b : Int) = evB (a + if u then 32768 else 0) b := if_pos h
    rw [e]
    exact (parse_evB a b u (by have := h.1.2; omega) (by have := h.2.2; omega)).2
  by_cases h : isEv o f
  · obtain ⟨g0, g1, g2, g3, g4⟩ := hb h
    rw [g0] at B D
    rw [g1, g2, g3, g4] at K
    by_cases k : s.size = 4
    · obtain ⟨k0, k1, k2⟩ := hp k
      rw [k0] at P Q
      rw [k1, k2] at M
      exact spotEvents_00 s _ _ _ _ _ _ _ w P Q B D K M fixed_any
    · have k0 : paE s = 1 := if_neg k
      rw [k0] at P Q
      exact spotEvents_01 s _ _ _ _ _ _ _ _ _ w P Q B D K M fixed_any
  · have g0 : buE o f = 1 := if_neg h
    rw [g0] at B D
    by_cases k : s.size = 4
    · obtain ⟨k0, k1, k2⟩ := hp k
      rw [k0] at P Q
      rw [k1, k2] at M
      exact spotEvents_10 s _ _ _ _ _ _ _ _ _ _ _ w P Q B D K M fixed_any
    · have k0 : paE s = 1 := if_neg k
      rw [k0] at P Q
      exact spotEvents_11 s _ _ _ _ _ _ _ _ _ _ _ _ _ w P Q B D K M fixed_any

set_option maxRecDepth 100000 in
theorem spotEvents_lifted (os : Os) (started : os.Started) (H : Type) (enc : TypeId × Value → H) :
    ReturnsInHanded {} Try.checked os 4 .any (Rows.spotEventsSpec.pre6 enc Try.prog Try.f4 Rows.spotEventsRow.domain false) (Rows.spotEventsSpec.post enc Try.prog Try.f4 false true false false) := by
  have e : Try.f4.params.toList = [9, 23] := by rw [Try.params4]
  refine law_of_walk (C := Try.checked) (tb := 4) H enc Try.own started (by kernel_rfl) Try.func4 Try.laidOut rfl rfl Try.underlying4 ?_ ?_
    (ChangeSpec.witness6 (enc := enc) (C := Try.checked) false ⟨#[], #[.string ByteArray.empty, .agg #[.int .i64 0, .bool false, .int .i64 0]], []⟩ 8 (by kernel_rfl) (by kernel_rfl) (by kernel_rfl) (by kernel_rfl)) ?_
  · rw [e]
    intro t ht
    simp only [List.mem_cons, List.not_mem_nil, or_false] at ht
    rcases ht with rfl | rfl <;> exact ⟨by kernel_rfl, of_decide_eq_true (by kernel_rfl)⟩
  · intro ds hds
    rw [e] at hds
    match ds, hds with
    | [d0, d1], _ => rfl
  · intro W base args ds p hval0 hA0 hsz0
    have hval : ∀ (j : Nat) t v, Try.f4.params[j]? = some t → args[j]? = some v → Value.okWide Try.prog W .any base t v := hval0
    have hA : DataW.TrodAll enc Try.prog W 0 (fun _ => true) true Try.f4.params.toList args.toList ds p := hA0
    have hsz : (DataW.weightsEach Try.prog Try.f4.params.toList ds).all (· ≤ reachBytes) = true := hsz0
    rw [Try.params4] at hA hval hsz
    obtain ⟨v0, v1, d0, d1, p0, p1, rfl, rfl, rfl, h0, h1⟩ := trodAll_two hA
    obtain ⟨x0, rfl, rfl, rfl, _⟩ := open_string Try.underlying9 (hval 0 9 v0 rfl rfl) h0
    obtain ⟨O1, U1, F1, rfl, bo1, bf1⟩ := open_event (hval 1 23 v1 rfl rfl) h1
    have s0 := sized_string hsz (j := 0) (t := 9) rfl rfl
    simp only [reachBytes] at s0
    exact spotEvents_any x0 O1 U1 F1 W

theorem spotEvents_holds : Rows.SpotEventsSaid :=
  OpenClaim.holds_of_wide 4 Try.f4 rfl rfl rfl rfl rfl rfl rfl ⟨rfl, rfl, rfl, rfl, rfl⟩ rfl rfl rfl rfl rfl (by kernel_rfl) Try.func4 (by kernel_rfl)
    (of_decide_eq_true (by kernel_rfl)) (by unfold Func.isWrapper; first | (rw [if_pos (by decide +kernel)]; kernel_rfl) | (rw [if_neg (by decide +kernel)]; exact ⟨rfl, rfl⟩))
    (fun os started H enc _ => spotEvents_lifted os started H enc)
end Go.Proofs.Ytcofbaioflfehaa

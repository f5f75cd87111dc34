/-
  The calls that every law of the layer asks beside its own (fixed): true; no condition.
-/
import Derived.Test.YtcofbaioflfehaaSne
import Derived.Test.YtcofbaioflfehaaSev
namespace Go.Proofs.Ytcofbaioflfehaa
open Go.RowKit

theorem Blk.at (W : World) (t : TypeId) (cs : Array Value) {g : Nat} (h : W.heap.size = g) : Blk (W.alloc (.cells cs t)) g t cs := by
  subst h; exact Blk.new W t cs
set_option maxRecDepth 100000 in
set_option maxHeartbeats 3200000 in
theorem fixed_walk (w : World)
    (A1 : ∀ W, Calls Try.prog 10 #[.agg #[.int .i64 3, .bool false], .int .i64 2, .int .i64 4] W fun e w' => e = .returned (.tuple #[.agg #[.int .i64 1, .bool true], .int .i64 0]) ∧ Below W.heap.size W w')
    (A2 : ∀ W, Calls Try.prog 12 #[.agg #[.int .i64 3, .bool false], .agg #[.int .i64 1, .bool true], .int .i64 4] W fun e w' => e = .returned (.tuple #[.int .i64 2, .int .i64 0]) ∧ Below W.heap.size W w')
    (A3 : ∀ W, Calls Try.prog 10 #[.agg #[.int .i64 0, .bool false], .int .i64 5, .int .i64 4] W fun e w' => e = .returned (.tuple #[.agg #[.int .i64 0, .bool false], .int .i64 1]) ∧ Below W.heap.size W w')
    (A4 : ∀ W, Calls Try.prog 17 #[.string (⟨#[5, 128, 2, 0]⟩ : ByteArray)] W fun e w' => e = .returned (.tuple #[.agg #[.int .i64 5, .bool true, .int .i64 2], .int .i64 0]) ∧ Below W.heap.size W w')
    (A5 : ∀ W, Calls Try.prog 19 #[.agg #[.int .i64 5, .bool true, .int .i64 2]] W fun e w' => e = .returned (.tuple #[.string (⟨#[5, 128, 2, 0]⟩ : ByteArray), .int .i64 0]) ∧ Below W.heap.size W w')
    (A6 : ∀ W, Calls Try.prog 19 #[.agg #[.int .i64 32768, .bool false, .int .i64 0]] W fun e w' => e = .returned (.tuple #[.string ⟨#[]⟩, .int .i64 1]) ∧ Below W.heap.size W w')
    (A7 : ∀ W, Calls Try.prog 15 #[.agg #[.int .i64 1, .bool true], .int .i64 0] W fun e w' => e = .returned (.int .i64 130) ∧ Below W.heap.size W w')
    (A8 : ∀ W, Calls Try.prog 21 #[.agg #[.int .i64 0, .bool true, .int .i64 2], .agg #[.int .i64 3, .bool false], .agg #[.int .i64 1, .bool true], .int .i64 4] W fun e w' => e = .returned (.bool true) ∧ Below W.heap.size W w')
    (A9 : ∀ W, Calls Try.prog 21 #[.agg #[.int .i64 0, .bool false, .int .i64 1], .agg #[.int .i64 3, .bool false], .agg #[.int .i64 1, .bool true], .int .i64 4] W fun e w' => e = .returned (.bool false) ∧ Below W.heap.size W w')
    (A10 : ∀ W, Calls Try.prog 21 #[.agg #[.int .i64 0, .bool false, .int .i64 0], .agg #[.int .i64 3, .bool false], .agg #[.int .i64 1, .bool true], .int .i64 4] W fun e w' => e = .returned (.bool true) ∧ Below W.heap.size W w') :
    Calls Try.prog 14 #[] w fun e w' => e = .returned (.bool true) ∧ Below w.heap.size w w' := by
  have H1 := Lib.hid A1
  have H2 := Lib.hid A2
  have H3 := Lib.hid A3
  have H4 := Lib.hid A4
  have H5 := Lib.hid A5
  have H6 := Lib.hid A6
  have H7 := Lib.hid A7
  have H8 := Lib.hid A8
  have H9 := Lib.hid A9
  have H10 := Lib.hid A10
  clear A1 A2 A3 A4 A5 A6 A7 A8 A9 A10
  go_enter Try.func14, Try.ntmps14
  go_wp2_with fail
  refine (H1.out _).mono ?_
  rintro e w1 ⟨rfl, hq⟩
  have hB1 := b0 (Below.refl w.heap.size w) hq
  clear hq
  go_wp2_with fail
  refine (H2.out _).mono ?_
  rintro e w2 ⟨rfl, hq⟩
  have hb0_2 : Blk w2 w1.heap.size 25 #[.int .i64 1, .bool true] := Blk.same (Blk.at w1 25 #[.int .i64 1, .bool true] (g := w1.heap.size) (by simp)) (hq.block _ ((Blk.at w1 25 #[.int .i64 1, .bool true] (g := w1.heap.size) (by simp))).lt)
  have hB2 := b0 (ba hB1 _) hq
  clear hB1
  have c0_0 : w2.cell? ⟨w1.heap.size, 0, none⟩ = some (.int .i64 1) := hb0_2.cell 0
  have c0_1 : w2.cell? ⟨w1.heap.size, 1, none⟩ = some (.bool true) := hb0_2.cell 1
  have z0 : w1.heap.size < w2.heap.size := hb0_2.lt
  have n0 : w1.heap.size ≠ w2.heap.size := by omega
  clear hq
  go_wp2_with fail
  refine (H3.out _).mono ?_
  rintro e w3 ⟨rfl, hq⟩
  have hb0_3 : Blk w3 w1.heap.size 25 #[.int .i64 1, .bool true] := Blk.same hb0_2 (hq.block _ (hb0_2).lt)
  have hB3 := b0 hB2 hq
  clear hb0_2 hB2 c0_0 c0_1 n0 z0
  have c0_0 : w3.cell? ⟨w1.heap.size, 0, none⟩ = some (.int .i64 1) := hb0_3.cell 0
  have c0_1 : w3.cell? ⟨w1.heap.size, 1, none⟩ = some (.bool true) := hb0_3.cell 1
  have z0 : w1.heap.size < w3.heap.size := hb0_3.lt
  have n0 : w1.heap.size ≠ w3.heap.size := by omega
  clear hq
  go_wp2_with fail
  refine (H4.out _).mono ?_
  rintro e w4 ⟨rfl, hq⟩
  have hb0_4 : Blk w4 w1.heap.size 25 #[.int .i64 1, .bool true] := Blk.same (hb0_3.alloc (.cells #[.int .i64 0, .bool false] 25)) (hq.block _ ((hb0_3.alloc (.cells #[.int .i64 0, .bool false] 25))).lt)
  have hb1_4 : Blk w4 w3.heap.size 25 #[.int .i64 0, .bool false] := Blk.same (Blk.at w3 25 #[.int .i64 0, .bool false] (g := w3.heap.size) (by simp)) (hq.block _ ((Blk.at w3 25 #[.int .i64 0, .bool false] (g := w3.heap.size) (by simp))).lt)
  have hB4 := b0 (ba hB3 _) hq
  clear hb0_3 hB3 c0_0 c0_1 n0 z0
  have c0_0 : w4.cell? ⟨w1.heap.size, 0, none⟩ = some (.int .i64 1) := hb0_4.cell 0
  have c0_1 : w4.cell? ⟨w1.heap.size, 1, none⟩ = some (.bool true) := hb0_4.cell 1
  have z0 : w1.heap.size < w4.heap.size := hb0_4.lt
  have n0 : w1.heap.size ≠ w4.heap.size := by omega
  have c1_0 : w4.cell? ⟨w3.heap.size, 0, none⟩ = some (.int .i64 0) := hb1_4.cell 0
  have c1_1 : w4.cell? ⟨w3.heap.size, 1, none⟩ = some (.bool false) := hb1_4.cell 1
  have z1 : w3.heap.size < w4.heap.size := hb1_4.lt
  have n1 : w3.heap.size ≠ w4.heap.size := by omega
  clear hq
  go_wp2_with fail
  refine (H5.out _).mono ?_
  rintro e w5 ⟨rfl, hq⟩
  have hb0_5 : Blk w5 w1.heap.size 25 #[.int .i64 1, .bool true] := Blk.same (hb0_4.alloc (.cells #[.int .i64 5, .bool true, .int .i64 2] 23)) (hq.block _ ((hb0_4.alloc (.cells #[.int .i64 5, .bool true, .int .i64 2] 23))).lt)
  have hb1_5 : Blk w5 w3.heap.size 25 #[.int .i64 0, .bool false] := Blk.same (hb1_4.alloc (.cells #[.int .i64 5, .bool true, .int .i64 2] 23)) (hq.block _ ((hb1_4.alloc (.cells #[.int .i64 5, .bool true, .int .i64 2] 23))).lt)
  have hb2_5 : Blk w5 w4.heap.size 23 #[.int .i64 5, .bool true, .int .i64 2] := Blk.same (Blk.at w4 23 #[.int .i64 5, .bool true, .int .i64 2] (g := w4.heap.size) (by simp)) (hq.block _ ((Blk.at w4 23 #[.int .i64 5, .bool true, .int .i64 2] (g := w4.heap.size) (by simp))).lt)
  have hB5 := b0 (ba hB4 _) hq
  clear hb0_4 hb1_4 hB4 c0_0 c0_1 n0 z0 c1_0 c1_1 n1 z1
  have c0_0 : w5.cell? ⟨w1.heap.size, 0, none⟩ = some (.int .i64 1) := hb0_5.cell 0
  have c0_1 : w5.cell? ⟨w1.heap.size, 1, none⟩ = some (.bool true) := hb0_5.cell 1
  have z0 : w1.heap.size < w5.heap.size := hb0_5.lt
  have n0 : w1.heap.size ≠ w5.heap.size := by omega
  have c1_0 : w5.cell? ⟨w3.heap.size, 0, none⟩ = some (.int .i64 0) := hb1_5.cell 0
  have c1_1 : w5.cell? ⟨w3.heap.size, 1, none⟩ = some (.bool false) := hb1_5.cell 1
  have z1 : w3.heap.size < w5.heap.size := hb1_5.lt
  have n1 : w3.heap.size ≠ w5.heap.size := by omega
  have c2_0 : w5.cell? ⟨w4.heap.size, 0, none⟩ = some (.int .i64 5) := hb2_5.cell 0
  have c2_1 : w5.cell? ⟨w4.heap.size, 1, none⟩ = some (.bool true) := hb2_5.cell 1
  have c2_2 : w5.cell? ⟨w4.heap.size, 2, none⟩ = some (.int .i64 2) := hb2_5.cell 2
  have z2 : w4.heap.size < w5.heap.size := hb2_5.lt
  have n2 : w4.heap.size ≠ w5.heap.size := by omega
  clear hq
  go_wp2_with fail
  refine (H6.out _).mono ?_
  rintro e w6 ⟨rfl, hq⟩
  have hb0_6 : Blk w6 w1.heap.size 25 #[.int .i64 1, .bool true] := Blk.same hb0_5 (hq.block _ (hb0_5).lt)
  have hb1_6 : Blk w6 w3.heap.size 25 #[.int .i64 0, .bool false] := Blk.same hb1_5 (hq.block _ (hb1_5).lt)
  have hb2_6 : Blk w6 w4.heap.size 23 #[.int .i64 5, .bool true, .int .i64 2] := Blk.same hb2_5 (hq.block _ (hb2_5).lt)
  have hB6 := b0 hB5 hq
  clear hb0_5 hb1_5 hb2_5 hB5 c0_0 c0_1 n0 z0 c1_0 c1_1 n1 z1 c2_0 c2_1 c2_2 n2 z2
  have c0_0 : w6.cell? ⟨w1.heap.size, 0, none⟩ = some (.int .i64 1) := hb0_6.cell 0
  have c0_1 : w6.cell? ⟨w1.heap.size, 1, none⟩ = some (.bool true) := hb0_6.cell 1
  have z0 : w1.heap.size < w6.heap.size := hb0_6.lt
  have n0 : w1.heap.size ≠ w6.heap.size := by omega
  have c1_0 : w6.cell? ⟨w3.heap.size, 0, none⟩ = some (.int .i64 0) := hb1_6.cell 0
  have c1_1 : w6.cell? ⟨w3.heap.size, 1, none⟩ = some (.bool false) := hb1_6.cell 1
  have z1 : w3.heap.size < w6.heap.size := hb1_6.lt
  have n1 : w3.heap.size ≠ w6.heap.size := by omega
  have c2_0 : w6.cell? ⟨w4.heap.size, 0, none⟩ = some (.int .i64 5) := hb2_6.cell 0
  have c2_1 : w6.cell? ⟨w4.heap.size, 1, none⟩ = some (.bool true) := hb2_6.cell 1
  have c2_2 : w6.cell? ⟨w4.heap.size, 2, none⟩ = some (.int .i64 2) := hb2_6.cell 2
  have z2 : w4.heap.size < w6.heap.size := hb2_6.lt
  have n2 : w4.heap.size ≠ w6.heap.size := by omega
  clear hq
  go_wp2_with fail
  refine (H7.out _).mono ?_
  rintro e w7 ⟨rfl, hq⟩
  have hb0_7 : Blk w7 w1.heap.size 25 #[.int .i64 1, .bool true] := Blk.same hb0_6 (hq.block _ (hb0_6).lt)
  have hb1_7 : Blk w7 w3.heap.size 25 #[.int .i64 0, .bool false] := Blk.same hb1_6 (hq.block _ (hb1_6).lt)
  have hb2_7 : Blk w7 w4.heap.size 23 #[.int .i64 5, .bool true, .int .i64 2] := Blk.same hb2_6 (hq.block _ (hb2_6).lt)
  have hB7 := b0 hB6 hq
  clear hb0_6 hb1_6 hb2_6 hB6 c0_0 c0_1 n0 z0 c1_0 c1_1 n1 z1 c2_0 c2_1 c2_2 n2 z2
  have c0_0 : w7.cell? ⟨w1.heap.size, 0, none⟩ = some (.int .i64 1) := hb0_7.cell 0
  have c0_1 : w7.cell? ⟨w1.heap.size, 1, none⟩ = some (.bool true) := hb0_7.cell 1
  have z0 : w1.heap.size < w7.heap.size := hb0_7.lt
  have n0 : w1.heap.size ≠ w7.heap.size := by omega
  have c1_0 : w7.cell? ⟨w3.heap.size, 0, none⟩ = some (.int .i64 0) := hb1_7.cell 0
  have c1_1 : w7.cell? ⟨w3.heap.size, 1, none⟩ = some (.bool false) := hb1_7.cell 1
  have z1 : w3.heap.size < w7.heap.size := hb1_7.lt
  have n1 : w3.heap.size ≠ w7.heap.size := by omega
  have c2_0 : w7.cell? ⟨w4.heap.size, 0, none⟩ = some (.int .i64 5) := hb2_7.cell 0
  have c2_1 : w7.cell? ⟨w4.heap.size, 1, none⟩ = some (.bool true) := hb2_7.cell 1
  have c2_2 : w7.cell? ⟨w4.heap.size, 2, none⟩ = some (.int .i64 2) := hb2_7.cell 2
  have z2 : w4.heap.size < w7.heap.size := hb2_7.lt
  have n2 : w4.heap.size ≠ w7.heap.size := by omega
  clear hq
  go_wp2_with fail
  refine (H8.out _).mono ?_
  rintro e w8 ⟨rfl, hq⟩
  have hb0_8 : Blk w8 w1.heap.size 25 #[.int .i64 1, .bool true] := Blk.same hb0_7 (hq.block _ (hb0_7).lt)
  have hb1_8 : Blk w8 w3.heap.size 25 #[.int .i64 0, .bool false] := Blk.same hb1_7 (hq.block _ (hb1_7).lt)
  have hb2_8 : Blk w8 w4.heap.size 23 #[.int .i64 5, .bool true, .int .i64 2] := Blk.same hb2_7 (hq.block _ (hb2_7).lt)
  have hB8 := b0 hB7 hq
  clear hb0_7 hb1_7 hb2_7 hB7 c0_0 c0_1 n0 z0 c1_0 c1_1 n1 z1 c2_0 c2_1 c2_2 n2 z2
  have c0_0 : w8.cell? ⟨w1.heap.size, 0, none⟩ = some (.int .i64 1) := hb0_8.cell 0
  have c0_1 : w8.cell? ⟨w1.heap.size, 1, none⟩ = some (.bool true) := hb0_8.cell 1
  have z0 : w1.heap.size < w8.heap.size := hb0_8.lt
  have n0 : w1.heap.size ≠ w8.heap.size := by omega
  have c1_0 : w8.cell? ⟨w3.heap.size, 0, none⟩ = some (.int .i64 0) := hb1_8.cell 0
  have c1_1 : w8.cell? ⟨w3.heap.size, 1, none⟩ = some (.bool false) := hb1_8.cell 1
  have z1 : w3.heap.size < w8.heap.size := hb1_8.lt
  have n1 : w3.heap.size ≠ w8.heap.size := by omega
  have c2_0 : w8.cell? ⟨w4.heap.size, 0, none⟩ = some (.int .i64 5) := hb2_8.cell 0
  have c2_1 : w8.cell? ⟨w4.heap.size, 1, none⟩ = some (.bool true) := hb2_8.cell 1
  have c2_2 : w8.cell? ⟨w4.heap.size, 2, none⟩ = some (.int .i64 2) := hb2_8.cell 2
  have z2 : w4.heap.size < w8.heap.size := hb2_8.lt
  have n2 : w4.heap.size ≠ w8.heap.size := by omega
  clear hq
  go_wp2_with fail
  refine (H9.out _).mono ?_
  rintro e w9 ⟨rfl, hq⟩
  have hb0_9 : Blk w9 w1.heap.size 25 #[.int .i64 1, .bool true] := Blk.same hb0_8 (hq.block _ (hb0_8).lt)
  have hb1_9 : Blk w9 w3.heap.size 25 #[.int .i64 0, .bool false] := Blk.same hb1_8 (hq.block _ (hb1_8).lt)
  have hb2_9 : Blk w9 w4.heap.size 23 #[.int .i64 5, .bool true, .int .i64 2] := Blk.same hb2_8 (hq.block _ (hb2_8).lt)
  have hB9 := b0 hB8 hq
  clear hb0_8 hb1_8 hb2_8 hB8 c0_0 c0_1 n0 z0 c1_0 c1_1 n1 z1 c2_0 c2_1 c2_2 n2 z2
  have c0_0 : w9.cell? ⟨w1.heap.size, 0, none⟩ = some (.int .i64 1) := hb0_9.cell 0
  have c0_1 : w9.cell? ⟨w1.heap.size, 1, none⟩ = some (.bool true) := hb0_9.cell 1
  have z0 : w1.heap.size < w9.heap.size := hb0_9.lt
  have n0 : w1.heap.size ≠ w9.heap.size := by omega
  have c1_0 : w9.cell? ⟨w3.heap.size, 0, none⟩ = some (.int .i64 0) := hb1_9.cell 0
  have c1_1 : w9.cell? ⟨w3.heap.size, 1, none⟩ = some (.bool false) := hb1_9.cell 1
  have z1 : w3.heap.size < w9.heap.size := hb1_9.lt
  have n1 : w3.heap.size ≠ w9.heap.size := by omega
  have c2_0 : w9.cell? ⟨w4.heap.size, 0, none⟩ = some (.int .i64 5) := hb2_9.cell 0
  have c2_1 : w9.cell? ⟨w4.heap.size, 1, none⟩ = some (.bool true) := hb2_9.cell 1
  have c2_2 : w9.cell? ⟨w4.heap.size, 2, none⟩ = some (.int .i64 2) := hb2_9.cell 2
  have z2 : w4.heap.size < w9.heap.size := hb2_9.lt
  have n2 : w4.heap.size ≠ w9.heap.size := by omega
  clear hq
  go_wp2_with fail
  refine (H10.out _).mono ?_
  rintro e w10 ⟨rfl, hq⟩
  have hb0_10 : Blk w10 w1.heap.size 25 #[.int .i64 1, .bool true] := Blk.same hb0_9 (hq.block _ (hb0_9).lt)
  have hb1_10 : Blk w10 w3.heap.size 25 #[.int .i64 0, .bool false] := Blk.same hb1_9 (hq.block _ (hb1_9).lt)
  have hb2_10 : Blk w10 w4.heap.size 23 #[.int .i64 5, .bool true, .int .i64 2] := Blk.same hb2_9 (hq.block _ (hb2_9).lt)
  have hB10 := b0 hB9 hq
  clear hb0_9 hb1_9 hb2_9 hB9 c0_0 c0_1 n0 z0 c1_0 c1_1 n1 z1 c2_0 c2_1 c2_2 n2 z2
  have c0_0 : w10.cell? ⟨w1.heap.size, 0, none⟩ = some (.int .i64 1) := hb0_10.cell 0
  have c0_1 : w10.cell? ⟨w1.heap.size, 1, none⟩ = some (.bool true) := hb0_10.cell 1
  have z0 : w1.heap.size < w10.heap.size := hb0_10.lt
  have n0 : w1.heap.size ≠ w10.heap.size := by omega
  have c1_0 : w10.cell? ⟨w3.heap.size, 0, none⟩ = some (.int .i64 0) := hb1_10.cell 0
  have c1_1 : w10.cell? ⟨w3.heap.size, 1, none⟩ = some (.bool false) := hb1_10.cell 1
  have z1 : w3.heap.size < w10.heap.size := hb1_10.lt
  have n1 : w3.heap.size ≠ w10.heap.size := by omega
  have c2_0 : w10.cell? ⟨w4.heap.size, 0, none⟩ = some (.int .i64 5) := hb2_10.cell 0
  have c2_1 : w10.cell? ⟨w4.heap.size, 1, none⟩ = some (.bool true) := hb2_10.cell 1
  have c2_2 : w10.cell? ⟨w4.heap.size, 2, none⟩ = some (.int .i64 2) := hb2_10.cell 2
  have z2 : w4.heap.size < w10.heap.size := hb2_10.lt
  have n2 : w4.heap.size ≠ w10.heap.size := by omega
  clear hq
  go_wp2_with fail
  go_ret
  exact ⟨rfl, hB10⟩
theorem fixed_any (w : World) : Calls Try.prog 14 #[] w fun e w' => e = .returned (.bool true) ∧ Below w.heap.size w w' := by
  refine fixed_walk w (fun W => ?_) (fun W => ?_) (fun W => ?_) (fun W => ?_) (fun W => ?_) (fun W => ?_) (fun W => ?_) (fun W => ?_) (fun W => ?_) (fun W => ?_)
  · have h := next_any 3 4 2 false W
    rw [show nxA 3 4 2 = 1 from by decide +kernel, show nxB 3 4 2 false = true from by decide +kernel, show nxE 3 4 2 = 0 from by decide +kernel] at h
    exact h
  · have h := gap_any 3 1 4 false true W
    rw [show gpV 3 1 4 false true = 2 from by decide +kernel, show gpE 3 1 4 = 0 from by decide +kernel] at h
    exact h
  · have h := next_any 0 4 5 false W
    rw [show nxA 0 4 5 = 0 from by decide +kernel, show nxB 0 4 5 false = false from by decide +kernel, show nxE 0 4 5 = 1 from by decide +kernel] at h
    exact h
  · have h := parse_any (⟨#[5, 128, 2, 0]⟩ : ByteArray) W
    rw [show paO (⟨#[5, 128, 2, 0]⟩ : ByteArray) = 5 from by decide +kernel, show paW (⟨#[5, 128, 2, 0]⟩ : ByteArray) = true from by decide +kernel, show paF (⟨#[5, 128, 2, 0]⟩ : ByteArray) = 2 from by decide +kernel, show paE (⟨#[5, 128, 2, 0]⟩ : ByteArray) = 0 from by decide +kernel] at h
    exact h
  · have h := build_any 5 2 true W
    rw [show buS 5 true 2 = (⟨#[5, 128, 2, 0]⟩ : ByteArray) from by decide +kernel, show buE 5 2 = 0 from by decide +kernel] at h
    exact h
  · have h := build_any 32768 0 false W
    rw [show buS 32768 false 0 = ⟨#[]⟩ from by decide +kernel, show buE 32768 0 = 1 from by decide +kernel] at h
    exact h
  · have h := chk_any 1 0 true W
    rw [show chkE 1 0 = 130 from by decide +kernel] at h
    exact h
  · have h := need_any 0 2 3 1 4 true false true W
    rw [show needV 0 true 2 3 false 1 true 4 = true from by decide +kernel] at h
    exact h
  · have h := need_any 0 1 3 1 4 false false true W
    rw [show needV 0 false 1 3 false 1 true 4 = false from by decide +kernel] at h
    exact h
  · have h := need_any 0 0 3 1 4 false false true W
    rw [show needV 0 false 0 3 false 1 true 4 = true from by decide +kernel] at h
    exact h
end Go.Proofs.Ytcofbaioflfehaa

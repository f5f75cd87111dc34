/-
  The walks of DescBack where the string is a descriptor; no condition.
-/
import Derived.Test.YtmipjmoemmgkiaaWka
namespace Go.Proofs.Ytmipjmoemmgkiaa
open Go.Joins Go.ChangeShapes Go.WideShapes Go.ChangeAt Go.RowKit Go.Deep
open Go.ChangeMaps (open_string)

set_option maxRecDepth 100000 in
set_option maxHeartbeats 3200000 in
theorem descBack_abad_ok (s : ByteArray) (a1 a2 a3 a4 : Int) (b1 b2 b3 b4 : Int) (Y : ByteArray) (q : Int) (c1 c2 c3 c4 : Int) (w : World)
    (A1 : ∀ W, Calls Try.prog 11 #[.agg #[.int .u64 a1, .int .u32 a2, .int .i64 a3, .int .i64 a4]] W fun e w' => e = .returned (.tuple #[.string ⟨#[]⟩, .int .i64 1]) ∧ Below W.heap.size W w')
    (A2 : ∀ W, Calls Try.prog 11 #[.agg #[.int .u64 b1, .int .u32 b2, .int .i64 b3, .int .i64 b4]] W fun e w' => e = .returned (.tuple #[.string Y, .int .i64 q]) ∧ Below W.heap.size W w')
    (A4 : ∀ W, Calls Try.prog 9 #[.string s] W fun e w' => e = .returned (.tuple #[.agg #[.int .u64 c1, .int .u32 c2, .int .i64 c3, .int .i64 c4], .int .i64 0]) ∧ Below W.heap.size W w')
    (A5 : ∀ W, Calls Try.prog 11 #[.agg #[.int .u64 c1, .int .u32 c2, .int .i64 c3, .int .i64 c4]] W fun e w' => e = .returned (.tuple #[.string s, .int .i64 0]) ∧ Below W.heap.size W w')
    (AF : ∀ W, Calls Try.prog 13 #[] W fun e w' => e = .returned (.bool true) ∧ Below W.heap.size W w') :
    Calls Try.prog 5 #[.agg #[.int .u64 a1, .int .u32 a2, .int .i64 a3, .int .i64 a4], .agg #[.int .u64 b1, .int .u32 b2, .int .i64 b3, .int .i64 b4], .string s] w fun e w' => e = .returned (.bool true) ∧ Below w.heap.size w w' := by
  have H1 := Lib.hid A1
  have H2 := Lib.hid A2
  have H4 := Lib.hid A4
  have H5 := Lib.hid A5
  have HF := Lib.hid AF
  clear A1 A2 A4 A5 AF
  go_enter Try.func5, Try.ntmps5
  go_wp2_with fail
  refine (H1.out _).mono ?_
  rintro e w1 ⟨rfl, hq⟩
  have hb0_1 : Blk w1 w.heap.size 25 #[.int .u64 a1, .int .u32 a2, .int .i64 a3, .int .i64 a4] := Blk.same ((Blk.new w 25 #[.int .u64 a1, .int .u32 a2, .int .i64 a3, .int .i64 a4]).alloc (.cells #[.int .u64 b1, .int .u32 b2, .int .i64 b3, .int .i64 b4] 25)) (hq.block _ (((Blk.new w 25 #[.int .u64 a1, .int .u32 a2, .int .i64 a3, .int .i64 a4]).alloc (.cells #[.int .u64 b1, .int .u32 b2, .int .i64 b3, .int .i64 b4] 25))).lt)
  have hb1_1 : Blk w1 (w.heap.size + 1) 25 #[.int .u64 b1, .int .u32 b2, .int .i64 b3, .int .i64 b4] := Blk.same (Blk.new2 w (.cells #[.int .u64 a1, .int .u32 a2, .int .i64 a3, .int .i64 a4] 25) 25 #[.int .u64 b1, .int .u32 b2, .int .i64 b3, .int .i64 b4]) (hq.block _ ((Blk.new2 w (.cells #[.int .u64 a1, .int .u32 a2, .int .i64 a3, .int .i64 a4] 25) 25 #[.int .u64 b1, .int .u32 b2, .int .i64 b3, .int .i64 b4])).lt)
  have hB1 := b0 (ba (ba (Below.refl w.heap.size w) _) _) hq
  clear hq
  have c0_0 : w1.cell? ⟨w.heap.size, 0, none⟩ = some (.int .u64 a1) := hb0_1.cell 0
  have c0_1 : w1.cell? ⟨w.heap.size, 1, none⟩ = some (.int .u32 a2) := hb0_1.cell 1
  have c0_2 : w1.cell? ⟨w.heap.size, 2, none⟩ = some (.int .i64 a3) := hb0_1.cell 2
  have c0_3 : w1.cell? ⟨w.heap.size, 3, none⟩ = some (.int .i64 a4) := hb0_1.cell 3
  have z0 : w.heap.size < w1.heap.size := hb0_1.lt
  have n0 : w.heap.size ≠ w1.heap.size := by omega
  have c1_0 : w1.cell? ⟨(w.heap.size + 1), 0, none⟩ = some (.int .u64 b1) := hb1_1.cell 0
  have c1_1 : w1.cell? ⟨(w.heap.size + 1), 1, none⟩ = some (.int .u32 b2) := hb1_1.cell 1
  have c1_2 : w1.cell? ⟨(w.heap.size + 1), 2, none⟩ = some (.int .i64 b3) := hb1_1.cell 2
  have c1_3 : w1.cell? ⟨(w.heap.size + 1), 3, none⟩ = some (.int .i64 b4) := hb1_1.cell 3
  have z1 : (w.heap.size + 1) < w1.heap.size := hb1_1.lt
  have n1 : (w.heap.size + 1) ≠ w1.heap.size := by omega
  go_wp2_with fail
  refine (H2.out _).mono ?_
  rintro e w2 ⟨rfl, hq⟩
  have hb0_2 : Blk w2 w.heap.size 25 #[.int .u64 a1, .int .u32 a2, .int .i64 a3, .int .i64 a4] := Blk.same hb0_1 (hq.block _ (hb0_1).lt)
  have hb1_2 : Blk w2 (w.heap.size + 1) 25 #[.int .u64 b1, .int .u32 b2, .int .i64 b3, .int .i64 b4] := Blk.same hb1_1 (hq.block _ (hb1_1).lt)
  have hB2 := b0 hB1 hq
  clear hq hb0_1 hb1_1 hB1 c0_0 c0_1 c0_2 c0_3 n0 z0 c1_0 c1_1 c1_2 c1_3 n1 z1
  have c0_0 : w2.cell? ⟨w.heap.size, 0, none⟩ = some (.int .u64 a1) := hb0_2.cell 0
  have c0_1 : w2.cell? ⟨w.heap.size, 1, none⟩ = some (.int .u32 a2) := hb0_2.cell 1
  have c0_2 : w2.cell? ⟨w.heap.size, 2, none⟩ = some (.int .i64 a3) := hb0_2.cell 2
  have c0_3 : w2.cell? ⟨w.heap.size, 3, none⟩ = some (.int .i64 a4) := hb0_2.cell 3
  have z0 : w.heap.size < w2.heap.size := hb0_2.lt
  have n0 : w.heap.size ≠ w2.heap.size := by omega
  have c1_0 : w2.cell? ⟨(w.heap.size + 1), 0, none⟩ = some (.int .u64 b1) := hb1_2.cell 0
  have c1_1 : w2.cell? ⟨(w.heap.size + 1), 1, none⟩ = some (.int .u32 b2) := hb1_2.cell 1
  have c1_2 : w2.cell? ⟨(w.heap.size + 1), 2, none⟩ = some (.int .i64 b3) := hb1_2.cell 2
  have c1_3 : w2.cell? ⟨(w.heap.size + 1), 3, none⟩ = some (.int .i64 b4) := hb1_2.cell 3
  have z1 : (w.heap.size + 1) < w2.heap.size := hb1_2.lt
  have n1 : (w.heap.size + 1) ≠ w2.heap.size := by omega
  go_wp2_with fail
  refine (H4.out _).mono ?_
  rintro e w3 ⟨rfl, hq⟩
  have hb0_3 : Blk w3 w.heap.size 25 #[.int .u64 a1, .int .u32 a2, .int .i64 a3, .int .i64 a4] := Blk.same hb0_2 (hq.block _ (hb0_2).lt)
  have hb1_3 : Blk w3 (w.heap.size + 1) 25 #[.int .u64 b1, .int .u32 b2, .int .i64 b3, .int .i64 b4] := Blk.same hb1_2 (hq.block _ (hb1_2).lt)
  have hB3 := b0 hB2 hq
  clear hq hb0_2 hb1_2 hB2 c0_0 c0_1 c0_2 c0_3 n0 z0 c1_0 c1_1 c1_2 c1_3 n1 z1
  have c0_0 : w3.cell? ⟨w.heap.size, 0, none⟩ = some (.int .u64 a1) := hb0_3.cell 0
  have c0_1 : w3.cell? ⟨w.heap.size, 1, none⟩ = some (.int .u32 a2) := hb0_3.cell 1
  have c0_2 : w3.cell? ⟨w.heap.size, 2, none⟩ = some (.int .i64 a3) := hb0_3.cell 2
  have c0_3 : w3.cell? ⟨w.heap.size, 3, none⟩ = some (.int .i64 a4) := hb0_3.cell 3
  have z0 : w.heap.size < w3.heap.size := hb0_3.lt
  have n0 : w.heap.size ≠ w3.heap.size := by omega
  have c1_0 : w3.cell? ⟨(w.heap.size + 1), 0, none⟩ = some (.int .u64 b1) := hb1_3.cell 0
  have c1_1 : w3.cell? ⟨(w.heap.size + 1), 1, none⟩ = some (.int .u32 b2) := hb1_3.cell 1
  have c1_2 : w3.cell? ⟨(w.heap.size + 1), 2, none⟩ = some (.int .i64 b3) := hb1_3.cell 2
  have c1_3 : w3.cell? ⟨(w.heap.size + 1), 3, none⟩ = some (.int .i64 b4) := hb1_3.cell 3
  have z1 : (w.heap.size + 1) < w3.heap.size := hb1_3.lt
  have n1 : (w.heap.size + 1) ≠ w3.heap.size := by omega
  go_wp2_with fail
  refine (H5.out _).mono ?_
  rintro e w4 ⟨rfl, hq⟩
  have hb0_4 : Blk w4 w.heap.size 25 #[.int .u64 a1, .int .u32 a2, .int .i64 a3, .int .i64 a4] := Blk.same (hb0_3.alloc (.cells #[.int .u64 c1, .int .u32 c2, .int .i64 c3, .int .i64 c4] 25)) (hq.block _ ((hb0_3.alloc (.cells #[.int .u64 c1, .int .u32 c2, .int .i64 c3, .int .i64 c4] 25))).lt)
  have hb1_4 : Blk w4 (w.heap.size + 1) 25 #[.int .u64 b1, .int .u32 b2, .int .i64 b3, .int .i64 b4] := Blk.same (hb1_3.alloc (.cells #[.int .u64 c1, .int .u32 c2, .int .i64 c3, .int .i64 c4] 25)) (hq.block _ ((hb1_3.alloc (.cells #[.int .u64 c1, .int .u32 c2, .int .i64 c3, .int .i64 c4] 25))).lt)
  have hb2_4 : Blk w4 w3.heap.size 25 #[.int .u64 c1, .int .u32 c2, .int .i64 c3, .int .i64 c4] := Blk.same (Blk.new w3 25 #[.int .u64 c1, .int .u32 c2, .int .i64 c3, .int .i64 c4]) (hq.block _ ((Blk.new w3 25 #[.int .u64 c1, .int .u32 c2, .int .i64 c3, .int .i64 c4])).lt)
  have hB4 := b0 (ba hB3 _) hq
  clear hq hb0_3 hb1_3 hB3 c0_0 c0_1 c0_2 c0_3 n0 z0 c1_0 c1_1 c1_2 c1_3 n1 z1
  have c0_0 : w4.cell? ⟨w.heap.size, 0, none⟩ = some (.int .u64 a1) := hb0_4.cell 0
  have c0_1 : w4.cell? ⟨w.heap.size, 1, none⟩ = some (.int .u32 a2) := hb0_4.cell 1
  have c0_2 : w4.cell? ⟨w.heap.size, 2, none⟩ = some (.int .i64 a3) := hb0_4.cell 2
  have c0_3 : w4.cell? ⟨w.heap.size, 3, none⟩ = some (.int .i64 a4) := hb0_4.cell 3
  have z0 : w.heap.size < w4.heap.size := hb0_4.lt
  have n0 : w.heap.size ≠ w4.heap.size := by omega
  have c1_0 : w4.cell? ⟨(w.heap.size + 1), 0, none⟩ = some (.int .u64 b1) := hb1_4.cell 0
  have c1_1 : w4.cell? ⟨(w.heap.size + 1), 1, none⟩ = some (.int .u32 b2) := hb1_4.cell 1
  have c1_2 : w4.cell? ⟨(w.heap.size + 1), 2, none⟩ = some (.int .i64 b3) := hb1_4.cell 2
  have c1_3 : w4.cell? ⟨(w.heap.size + 1), 3, none⟩ = some (.int .i64 b4) := hb1_4.cell 3
  have z1 : (w.heap.size + 1) < w4.heap.size := hb1_4.lt
  have n1 : (w.heap.size + 1) ≠ w4.heap.size := by omega
  have c2_0 : w4.cell? ⟨w3.heap.size, 0, none⟩ = some (.int .u64 c1) := hb2_4.cell 0
  have c2_1 : w4.cell? ⟨w3.heap.size, 1, none⟩ = some (.int .u32 c2) := hb2_4.cell 1
  have c2_2 : w4.cell? ⟨w3.heap.size, 2, none⟩ = some (.int .i64 c3) := hb2_4.cell 2
  have c2_3 : w4.cell? ⟨w3.heap.size, 3, none⟩ = some (.int .i64 c4) := hb2_4.cell 3
  have z2 : w3.heap.size < w4.heap.size := hb2_4.lt
  have n2 : w3.heap.size ≠ w4.heap.size := by omega
  go_wp2_with fail
  refine (HF.out _).mono ?_
  rintro e w5 ⟨rfl, hq⟩
  have hb0_5 : Blk w5 w.heap.size 25 #[.int .u64 a1, .int .u32 a2, .int .i64 a3, .int .i64 a4] := Blk.same hb0_4 (hq.block _ (hb0_4).lt)
  have hb1_5 : Blk w5 (w.heap.size + 1) 25 #[.int .u64 b1, .int .u32 b2, .int .i64 b3, .int .i64 b4] := Blk.same hb1_4 (hq.block _ (hb1_4).lt)
  have hb2_5 : Blk w5 w3.heap.size 25 #[.int .u64 c1, .int .u32 c2, .int .i64 c3, .int .i64 c4] := Blk.same hb2_4 (hq.block _ (hb2_4).lt)
  have hB5 := b0 hB4 hq
  clear hq hb0_4 hb1_4 hb2_4 hB4 c0_0 c0_1 c0_2 c0_3 n0 z0 c1_0 c1_1 c1_2 c1_3 n1 z1 c2_0 c2_1 c2_2 c2_3 n2 z2
  have c0_0 : w5.cell? ⟨w.heap.size, 0, none⟩ = some (.int .u64 a1) := hb0_5.cell 0
  have c0_1 : w5.cell? ⟨w.heap.size, 1, none⟩ = some (.int .u32 a2) := hb0_5.cell 1
  have c0_2 : w5.cell? ⟨w.heap.size, 2, none⟩ = some (.int .i64 a3) := hb0_5.cell 2
  have c0_3 : w5.cell? ⟨w.heap.size, 3, none⟩ = some (.int .i64 a4) := hb0_5.cell 3
  have z0 : w.heap.size < w5.heap.size := hb0_5.lt
  have n0 : w.heap.size ≠ w5.heap.size := by omega
  have c1_0 : w5.cell? ⟨(w.heap.size + 1), 0, none⟩ = some (.int .u64 b1) := hb1_5.cell 0
  have c1_1 : w5.cell? ⟨(w.heap.size + 1), 1, none⟩ = some (.int .u32 b2) := hb1_5.cell 1
  have c1_2 : w5.cell? ⟨(w.heap.size + 1), 2, none⟩ = some (.int .i64 b3) := hb1_5.cell 2
  have c1_3 : w5.cell? ⟨(w.heap.size + 1), 3, none⟩ = some (.int .i64 b4) := hb1_5.cell 3
  have z1 : (w.heap.size + 1) < w5.heap.size := hb1_5.lt
  have n1 : (w.heap.size + 1) ≠ w5.heap.size := by omega
  have c2_0 : w5.cell? ⟨w3.heap.size, 0, none⟩ = some (.int .u64 c1) := hb2_5.cell 0
  have c2_1 : w5.cell? ⟨w3.heap.size, 1, none⟩ = some (.int .u32 c2) := hb2_5.cell 1
  have c2_2 : w5.cell? ⟨w3.heap.size, 2, none⟩ = some (.int .i64 c3) := hb2_5.cell 2
  have c2_3 : w5.cell? ⟨w3.heap.size, 3, none⟩ = some (.int .i64 c4) := hb2_5.cell 3
  have z2 : w3.heap.size < w5.heap.size := hb2_5.lt
  have n2 : w3.heap.size ≠ w5.heap.size := by omega
  go_wp2_with fail
  go_ret
  exact ⟨rfl, hB5⟩
set_option maxRecDepth 100000 in
set_option maxHeartbeats 3200000 in
theorem descBack_bbad_ok (s : ByteArray) (a1 a2 a3 a4 : Int) (b1 b2 b3 b4 : Int) (X : ByteArray) (c1 c2 c3 c4 : Int) (w : World)
    (A1 : ∀ W, Calls Try.prog 11 #[.agg #[.int .u64 a1, .int .u32 a2, .int .i64 a3, .int .i64 a4]] W fun e w' => e = .returned (.tuple #[.string X, .int .i64 0]) ∧ Below W.heap.size W w')
    (A2 : ∀ W, Calls Try.prog 11 #[.agg #[.int .u64 b1, .int .u32 b2, .int .i64 b3, .int .i64 b4]] W fun e w' => e = .returned (.tuple #[.string ⟨#[]⟩, .int .i64 1]) ∧ Below W.heap.size W w')
    (A3 : ∀ W, Calls Try.prog 9 #[.string X] W fun e w' => e = .returned (.tuple #[.agg #[.int .u64 a1, .int .u32 a2, .int .i64 a3, .int .i64 a4], .int .i64 0]) ∧ Below W.heap.size W w')
    (A4 : ∀ W, Calls Try.prog 9 #[.string s] W fun e w' => e = .returned (.tuple #[.agg #[.int .u64 c1, .int .u32 c2, .int .i64 c3, .int .i64 c4], .int .i64 0]) ∧ Below W.heap.size W w')
    (A5 : ∀ W, Calls Try.prog 11 #[.agg #[.int .u64 c1, .int .u32 c2, .int .i64 c3, .int .i64 c4]] W fun e w' => e = .returned (.tuple #[.string s, .int .i64 0]) ∧ Below W.heap.size W w')
    (AF : ∀ W, Calls Try.prog 13 #[] W fun e w' => e = .returned (.bool true) ∧ Below W.heap.size W w') :
    Calls Try.prog 5 #[.agg #[.int .u64 a1, .int .u32 a2, .int .i64 a3, .int .i64 a4], .agg #[.int .u64 b1, .int .u32 b2, .int .i64 b3, .int .i64 b4], .string s] w fun e w' => e = .returned (.bool true) ∧ Below w.heap.size w w' := by
  have H1 := Lib.hid A1
  have H2 := Lib.hid A2
  have H3 := Lib.hid A3
  have H4 := Lib.hid A4
  have H5 := Lib.hid A5
  have HF := Lib.hid AF
  clear A1 A2 A3 A4 A5 AF
  go_enter Try.func5, Try.ntmps5
  go_wp2_with fail
  refine (H1.out _).mono ?_
  rintro e w1 ⟨rfl, hq⟩
  have hb0_1 : Blk w1 w.heap.size 25 #[.int .u64 a1, .int .u32 a2, .int .i64 a3, .int .i64 a4] := Blk.same ((Blk.new w 25 #[.int .u64 a1, .int .u32 a2, .int .i64 a3, .int .i64 a4]).alloc (.cells #[.int .u64 b1, .int .u32 b2, .int .i64 b3, .int .i64 b4] 25)) (hq.block _ (((Blk.new w 25 #[.int .u64 a1, .int .u32 a2, .int .i64 a3, .int .i64 a4]).alloc (.cells #[.int .u64 b1, .int .u32 b2, .int .i64 b3, .int .i64 b4] 25))).lt)
  have hb1_1 : Blk w1 (w.heap.size + 1) 25 #[.int .u64 b1, .int .u32 b2, .int .i64 b3, .int .i64 b4] := Blk.same (Blk.new2 w (.cells #[.int .u64 a1, .int .u32 a2, .int .i64 a3, .int .i64 a4] 25) 25 #[.int .u64 b1, .int .u32 b2, .int .i64 b3, .int .i64 b4]) (hq.block _ ((Blk.new2 w (.cells #[.int .u64 a1, .int .u32 a2, .int .i64 a3, .int .i64 a4] 25) 25 #[.int .u64 b1, .int .u32 b2, .int .i64 b3, .int .i64 b4])).lt)
  have hB1 := b0 (ba (ba (Below.refl w.heap.size w) _) _) hq
  clear hq
  have c0_0 : w1.cell? ⟨w.heap.size, 0, none⟩ = some (.int .u64 a1) := hb0_1.cell 0
  have c0_1 : w1.cell? ⟨w.heap.size, 1, none⟩ = some (.int .u32 a2) := hb0_1.cell 1
  have c0_2 : w1.cell? ⟨w.heap.size, 2, none⟩ = some (.int .i64 a3) := hb0_1.cell 2
  have c0_3 : w1.cell? ⟨w.heap.size, 3, none⟩ = some (.int .i64 a4) := hb0_1.cell 3
  have z0 : w.heap.size < w1.heap.size := hb0_1.lt
  have n0 : w.heap.size ≠ w1.heap.size := by omega
  have c1_0 : w1.cell? ⟨(w.heap.size + 1), 0, none⟩ = some (.int .u64 b1) := hb1_1.cell 0
  have c1_1 : w1.cell? ⟨(w.heap.size + 1), 1, none⟩ = some (.int .u32 b2) := hb1_1.cell 1
  have c1_2 : w1.cell? ⟨(w.heap.size + 1), 2, none⟩ = some (.int .i64 b3) := hb1_1.cell 2
  have c1_3 : w1.cell? ⟨(w.heap.size + 1), 3, none⟩ = some (.int .i64 b4) := hb1_1.cell 3
  have z1 : (w.heap.size + 1) < w1.heap.size := hb1_1.lt
  have n1 : (w.heap.size + 1) ≠ w1.heap.size := by omega
  go_wp2_with fail
  refine (H2.out _).mono ?_
  rintro e w2 ⟨rfl, hq⟩
  have hb0_2 : Blk w2 w.heap.size 25 #[.int .u64 a1, .int .u32 a2, .int .i64 a3, .int .i64 a4] := Blk.same hb0_1 (hq.block _ (hb0_1).lt)
  have hb1_2 : Blk w2 (w.heap.size + 1) 25 #[.int .u64 b1, .int .u32 b2, .int .i64 b3, .int .i64 b4] := Blk.same hb1_1 (hq.block _ (hb1_1).lt)
  have hB2 := b0 hB1 hq
  clear hq hb0_1 hb1_1 hB1 c0_0 c0_1 c0_2 c0_3 n0 z0 c1_0 c1_1 c1_2 c1_3 n1 z1
  have c0_0 : w2.cell? ⟨w.heap.size, 0, none⟩ = some (.int .u64 a1) := hb0_2.cell 0
  have c0_1 : w2.cell? ⟨w.heap.size, 1, none⟩ = some (.int .u32 a2) := hb0_2.cell 1
  have c0_2 : w2.cell? ⟨w.heap.size, 2, none⟩ = some (.int .i64 a3) := hb0_2.cell 2
  have c0_3 : w2.cell? ⟨w.heap.size, 3, none⟩ = some (.int .i64 a4) := hb0_2.cell 3
  have z0 : w.heap.size < w2.heap.size := hb0_2.lt
  have n0 : w.heap.size ≠ w2.heap.size := by omega
  have c1_0 : w2.cell? ⟨(w.heap.size + 1), 0, none⟩ = some (.int .u64 b1) := hb1_2.cell 0
  have c1_1 : w2.cell? ⟨(w.heap.size + 1), 1, none⟩ = some (.int .u32 b2) := hb1_2.cell 1
  have c1_2 : w2.cell? ⟨(w.heap.size + 1), 2, none⟩ = some (.int .i64 b3) := hb1_2.cell 2
  have c1_3 : w2.cell? ⟨(w.heap.size + 1), 3, none⟩ = some (.int .i64 b4) := hb1_2.cell 3
  have z1 : (w.heap.size + 1) < w2.heap.size := hb1_2.lt
  have n1 : (w.heap.size + 1) ≠ w2.heap.size := by omega
  go_wp2_with fail
  refine (H3.out _).mono ?_
  rintro e w3 ⟨rfl, hq⟩
  have hb0_3 : Blk w3 w.heap.size 25 #[.int .u64 a1, .int .u32 a2, .int .i64 a3, .int .i64 a4] := Blk.same hb0_2 (hq.block _ (hb0_2).lt)
  have hb1_3 : Blk w3 (w.heap.size + 1) 25 #[.int .u64 b1, .int .u32 b2, .int .i64 b3, .int .i64 b4] := Blk.same hb1_2 (hq.block _ (hb1_2).lt)
  have hB3 := b0 hB2 hq
  clear hq hb0_2 hb1_2 hB2 c0_0 c0_1 c0_2 c0_3 n0 z0 c1_0 c1_1 c1_2 c1_3 n1 z1
  have c0_0 : w3.cell? ⟨w.heap.size, 0, none⟩ = some (.int .u64 a1) := hb0_3.cell 0
  have c0_1 : w3.cell? ⟨w.heap.size, 1, none⟩ = some (.int .u32 a2) := hb0_3.cell 1
  have c0_2 : w3.cell? ⟨w.heap.size, 2, none⟩ = some (.int .i64 a3) := hb0_3.cell 2
  have c0_3 : w3.cell? ⟨w.heap.size, 3, none⟩ = some (.int .i64 a4) := hb0_3.cell 3
  have z0 : w.heap.size < w3.heap.size := hb0_3.lt
  have n0 : w.heap.size ≠ w3.heap.size := by omega
  have c1_0 : w3.cell? ⟨(w.heap.size + 1), 0, none⟩ = some (.int .u64 b1) := hb1_3.cell 0
  have c1_1 : w3.cell? ⟨(w.heap.size + 1), 1, none⟩ = some (.int .u32 b2) := hb1_3.cell 1
  have c1_2 : w3.cell? ⟨(w.heap.size + 1), 2, none⟩ = some (.int .i64 b3) := hb1_3.cell 2
  have c1_3 : w3.cell? ⟨(w.heap.size + 1), 3, none⟩ = some (.int .i64 b4) := hb1_3.cell 3
  have z1 : (w.heap.size + 1) < w3.heap.size := hb1_3.lt
  have n1 : (w.heap.size + 1) ≠ w3.heap.size := by omega
  go_wp2_with fail
  refine (H4.out _).mono ?_
  rintro e w4 ⟨rfl, hq⟩
  have hb0_4 : Blk w4 w.heap.size 25 #[.int .u64 a1, .int .u32 a2, .int .i64 a3, .int .i64 a4] := Blk.same (hb0_3.alloc (.cells #[.int .u64 a1, .int .u32 a2, .int .i64 a3, .int .i64 a4] 25)) (hq.block _ ((hb0_3.alloc (.cells #[.int .u64 a1, .int .u32 a2, .int .i64 a3, .int .i64 a4] 25))).lt)
  have hb1_4 : Blk w4 (w.heap.size + 1) 25 #[.int .u64 b1, .int .u32 b2, .int .i64 b3, .int .i64 b4] := Blk.same (hb1_3.alloc (.cells #[.int .u64 a1, .int .u32 a2, .int .i64 a3, .int .i64 a4] 25)) (hq.block _ ((hb1_3.alloc (.cells #[.int .u64 a1, .int .u32 a2, .int .i64 a3, .int .i64 a4] 25))).lt)
  have hb2_4 : Blk w4 w3.heap.size 25 #[.int .u64 a1, .int .u32 a2, .int .i64 a3, .int .i64 a4] := Blk.same (Blk.new w3 25 #[.int .u64 a1, .int .u32 a2, .int .i64 a3, .int .i64 a4]) (hq.block _ ((Blk.new w3 25 #[.int .u64 a1, .int .u32 a2, .int .i64 a3, .int .i64 a4])).lt)
  have hB4 := b0 (ba hB3 _) hq
  clear hq hb0_3 hb1_3 hB3 c0_0 c0_1 c0_2 c0_3 n0 z0 c1_0 c1_1 c1_2 c1_3 n1 z1
  have c0_0 : w4.cell? ⟨w.heap.size, 0, none⟩ = some (.int .u64 a1) := hb0_4.cell 0
  have c0_1 : w4.cell? ⟨w.heap.size, 1, none⟩ = some (.int .u32 a2) := hb0_4.cell 1
  have c0_2 : w4.cell? ⟨w.heap.size, 2, none⟩ = some (.int .i64 a3) := hb0_4.cell 2
  have c0_3 : w4.cell? ⟨w.heap.size, 3, none⟩ = some (.int .i64 a4) := hb0_4.cell 3
  have z0 : w.heap.size < w4.heap.size := hb0_4.lt
  have n0 : w.heap.size ≠ w4.heap.size := by omega
  have c1_0 : w4.cell? ⟨(w.heap.size + 1), 0, none⟩ = some (.int .u64 b1) := hb1_4.cell 0
  have c1_1 : w4.cell? ⟨(w.heap.size + 1), 1, none⟩ = some (.int .u32 b2) := hb1_4.cell 1
  have c1_2 : w4.cell? ⟨(w.heap.size + 1), 2, none⟩ = some (.int .i64 b3) := hb1_4.cell 2
  have c1_3 : w4.cell? ⟨(w.heap.size + 1), 3, none⟩ = some (.int .i64 b4) := hb1_4.cell 3
  have z1 : (w.heap.size + 1) < w4.heap.size := hb1_4.lt
  have n1 : (w.heap.size + 1) ≠ w4.heap.size := by omega
  have c2_0 : w4.cell? ⟨w3.heap.size, 0, none⟩ = some (.int .u64 a1) := hb2_4.cell 0
  have c2_1 : w4.cell? ⟨w3.heap.size, 1, none⟩ = some (.int .u32 a2) := hb2_4.cell 1
  have c2_2 : w4.cell? ⟨w3.heap.size, 2, none⟩ = some (.int .i64 a3) := hb2_4.cell 2
  have c2_3 : w4.cell? ⟨w3.heap.size, 3, none⟩ = some (.int .i64 a4) := hb2_4.cell 3
  have z2 : w3.heap.size < w4.heap.size := hb2_4.lt
  have n2 : w3.heap.size ≠ w4.heap.size := by omega
  go_wp2_with fail
  refine (H5.out _).mono ?_
  rintro e w5 ⟨rfl, hq⟩
  have hb0_5 : Blk w5 w.heap.size 25 #[.int .u64 a1, .int .u32 a2, .int .i64 a3, .int .i64 a4] := Blk.same (hb0_4.alloc (.cells #[.int .u64 c1, .int .u32 c2, .int .i64 c3, .int .i64 c4] 25)) (hq.block _ ((hb0_4.alloc (.cells #[.int .u64 c1, .int .u32 c2, .int .i64 c3, .int .i64 c4] 25))).lt)
  have hb1_5 : Blk w5 (w.heap.size + 1) 25 #[.int .u64 b1, .int .u32 b2, .int .i64 b3, .int .i64 b4] := Blk.same (hb1_4.alloc (.cells #[.int .u64 c1, .int .u32 c2, .int .i64 c3, .int .i64 c4] 25)) (hq.block _ ((hb1_4.alloc (.cells #[.int .u64 c1, .int .u32 c2, .int .i64 c3, .int .i64 c4] 25))).lt)
  have hb2_5 : Blk w5 w3.heap.size 25 #[.int .u64 a1, .int .u32 a2, .int .i64 a3, .int .i64 a4] := Blk.same (hb2_4.alloc (.cells #[.int .u64 c1, .int .u32 c2, .int .i64 c3, .int .i64 c4] 25)) (hq.block _ ((hb2_4.alloc (.cells #[.int .u64 c1, .int .u32 c2, .int .i64 c3, .int .i64 c4] 25))).lt)
  have hb3_5 : Blk w5 w4.heap.size 25 #[.int .u64 c1, .int .u32 c2, .int .i64 c3, .int .i64 c4] := Blk.same (Blk.new w4 25 #[.int .u64 c1, .int .u32 c2, .int .i64 c3, .int .i64 c4]) (hq.block _ ((Blk.new w4 25 #[.int .u64 c1, .int .u32 c2, .int .i64 c3, .int .i64 c4])).lt)
  have hB5 := b0 (ba hB4 _) hq
  clear hq hb0_4 hb1_4 hb2_4 hB4 c0_0 c0_1 c0_2 c0_3 n0 z0 c1_0 c1_1 c1_2 c1_3 n1 z1 c2_0 c2_1 c2_2 c2_3 n2 z2
  have c0_0 : w5.cell? ⟨w.heap.size, 0, none⟩ = some (.int .u64 a1) := hb0_5.cell 0
  have c0_1 : w5.cell? ⟨w.heap.size, 1, none⟩ = some (.int .u32 a2) := hb0_5.cell 1
  have c0_2 : w5.cell? ⟨w.heap.size, 2, none⟩ = some (.int .i64 a3) := hb0_5.cell 2
  have c0_3 : w5.cell? ⟨w.heap.size, 3, none⟩ = some (.int .i64 a4) := hb0_5.cell 3
  have z0 : w.heap.size < w5.heap.size := hb0_5.lt
  have n0 : w.heap.size ≠ w5.heap.size := by omega
  have c1_0 : w5.cell? ⟨(w.heap.size + 1), 0, none⟩ = some (.int .u64 b1) := hb1_5.cell 0
  have c1_1 : w5.cell? ⟨(w.heap.size + 1), 1, none⟩ = some (.int .u32 b2) := hb1_5.cell 1
  have c1_2 : w5.cell? ⟨(w.heap.size + 1), 2, none⟩ = some (.int .i64 b3) := hb1_5.cell 2
  have c1_3 : w5.cell? ⟨(w.heap.size + 1), 3, none⟩ = some (.int .i64 b4) := hb1_5.cell 3
  have z1 : (w.heap.size + 1) < w5.heap.size := hb1_5.lt
  have n1 : (w.heap.size + 1) ≠ w5.heap.size := by omega
  have c2_0 : w5.cell? ⟨w3.heap.size, 0, none⟩ = some (.int .u64 a1) := hb2_5.cell 0
  have c2_1 : w5.cell? ⟨w3.heap.size, 1, none⟩ = some (.int .u32 a2) := hb2_5.cell 1
  have c2_2 : w5.cell? ⟨w3.heap.size, 2, none⟩ = some (.int .i64 a3) := hb2_5.cell 2
  have c2_3 : w5.cell? ⟨w3.heap.size, 3, none⟩ = some (.int .i64 a4) := hb2_5.cell 3
  have z2 : w3.heap.size < w5.heap.size := hb2_5.lt
  have n2 : w3.heap.size ≠ w5.heap.size := by omega
  have c3_0 : w5.cell? ⟨w4.heap.size, 0, none⟩ = some (.int .u64 c1) := hb3_5.cell 0
  have c3_1 : w5.cell? ⟨w4.heap.size, 1, none⟩ = some (.int .u32 c2) := hb3_5.cell 1
  have c3_2 : w5.cell? ⟨w4.heap.size, 2, none⟩ = some (.int .i64 c3) := hb3_5.cell 2
  have c3_3 : w5.cell? ⟨w4.heap.size, 3, none⟩ = some (.int .i64 c4) := hb3_5.cell 3
  have z3 : w4.heap.size < w5.heap.size := hb3_5.lt
  have n3 : w4.heap.size ≠ w5.heap.size := by omega
  go_wp2_with fail
  refine (HF.out _).mono ?_
  rintro e w6 ⟨rfl, hq⟩
  have hb0_6 : Blk w6 w.heap.size 25 #[.int .u64 a1, .int .u32 a2, .int .i64 a3, .int .i64 a4] := Blk.same hb0_5 (hq.block _ (hb0_5).lt)
  have hb1_6 : Blk w6 (w.heap.size + 1) 25 #[.int .u64 b1, .int .u32 b2, .int .i64 b3, .int .i64 b4] := Blk.same hb1_5 (hq.block _ (hb1_5).lt)
  have hb2_6 : Blk w6 w3.heap.size 25 #[.int .u64 a1, .int .u32 a2, .int .i64 a3, .int .i64 a4] := Blk.same hb2_5 (hq.block _ (hb2_5).lt)
  have hb3_6 : Blk w6 w4.heap.size 25 #[.int .u64 c1, .int .u32 c2, .int .i64 c3, .int .i64 c4] := Blk.same hb3_5 (hq.block _ (hb3_5).lt)
  have hB6 := b0 hB5 hq
  clear hq hb0_5 hb1_5 hb2_5 hb3_5 hB5 c0_0 c0_1 c0_2 c0_3 n0 z0 c1_0 c1_1 c1_2 c1_3 n1 z1 c2_0 c2_1 c2_2 c2_3 n2 z2 c3_0 c3_1 c3_2 c3_3 n3 z3
  have c0_0 : w6.cell? ⟨w.heap.size, 0, none⟩ = some (.int .u64 a1) := hb0_6.cell 0
  have c0_1 : w6.cell? ⟨w.heap.size, 1, none⟩ = some (.int .u32 a2) := hb0_6.cell 1
  have c0_2 : w6.cell? ⟨w.heap.size, 2, none⟩ = some (.int .i64 a3) := hb0_6.cell 2
  have c0_3 : w6.cell? ⟨w.heap.size, 3, none⟩ = some (.int .i64 a4) := hb0_6.cell 3
  have z0 : w.heap.size < w6.heap.size := hb0_6.lt
  have n0 : w.heap.size ≠ w6.heap.size := by omega
  have c1_0 : w6.cell? ⟨(w.heap.size + 1), 0, none⟩ = some (.int .u64 b1) := hb1_6.cell 0
  have c1_1 : w6.cell? ⟨(w.heap.size + 1), 1, none⟩ = some (.int .u32 b2) := hb1_6.cell 1
  have c1_2 : w6.cell? ⟨(w.heap.size + 1), 2, none⟩ = some (.int .i64 b3) := hb1_6.cell 2
  have c1_3 : w6.cell? ⟨(w.heap.size + 1), 3, none⟩ = some (.int .i64 b4) := hb1_6.cell 3
  have z1 : (w.heap.size + 1) < w6.heap.size := hb1_6.lt
  have n1 : (w.heap.size + 1) ≠ w6.heap.size := by omega
  have c2_0 : w6.cell? ⟨w3.heap.size, 0, none⟩ = some (.int .u64 a1) := hb2_6.cell 0
  have c2_1 : w6.cell? ⟨w3.heap.size, 1, none⟩ = some (.int .u32 a2) := hb2_6.cell 1
  have c2_2 : w6.cell? ⟨w3.heap.size, 2, none⟩ = some (.int .i64 a3) := hb2_6.cell 2
  have c2_3 : w6.cell? ⟨w3.heap.size, 3, none⟩ = some (.int .i64 a4) := hb2_6.cell 3
  have z2 : w3.heap.size < w6.heap.size := hb2_6.lt
  have n2 : w3.heap.size ≠ w6.heap.size := by omega
  have c3_0 : w6.cell? ⟨w4.heap.size, 0, none⟩ = some (.int .u64 c1) := hb3_6.cell 0
  have c3_1 : w6.cell? ⟨w4.heap.size, 1, none⟩ = some (.int .u32 c2) := hb3_6.cell 1
  have c3_2 : w6.cell? ⟨w4.heap.size, 2, none⟩ = some (.int .i64 c3) := hb3_6.cell 2
  have c3_3 : w6.cell? ⟨w4.heap.size, 3, none⟩ = some (.int .i64 c4) := hb3_6.cell 3
  have z3 : w4.heap.size < w6.heap.size := hb3_6.lt
  have n3 : w4.heap.size ≠ w6.heap.size := by omega
  go_wp2_with fail
  go_ret
  exact ⟨rfl, hB6⟩
set_option maxRecDepth 100000 in
set_option maxHeartbeats 3200000 in
theorem descBack_same_ok (s : ByteArray) (a1 a2 a3 a4 : Int) (X : ByteArray) (c1 c2 c3 c4 : Int) (w : World)
    (A1 : ∀ W, Calls Try.prog 11 #[.agg #[.int .u64 a1, .int .u32 a2, .int .i64 a3, .int .i64 a4]] W fun e w' => e = .returned (.tuple #[.string X, .int .i64 0]) ∧ Below W.heap.size W w')
    (A3 : ∀ W, Calls Try.prog 9 #[.string X] W fun e w' => e = .returned (.tuple #[.agg #[.int .u64 a1, .int .u32 a2, .int .i64 a3, .int .i64 a4], .int .i64 0]) ∧ Below W.heap.size W w')
    (A4 : ∀ W, Calls Try.prog 9 #[.string s] W fun e w' => e = .returned (.tuple #[.agg #[.int .u64 c1, .int .u32 c2, .int .i64 c3, .int .i64 c4], .int .i64 0]) ∧ Below W.heap.size W w')
    (A5 : ∀ W, Calls Try.prog 11 #[.agg #[.int .u64 c1, .int .u32 c2, .int .i64 c3, .int .i64 c4]] W fun e w' => e = .returned (.tuple #[.string s, .int .i64 0]) ∧ Below W.heap.size W w')
    (AF : ∀ W, Calls Try.prog 13 #[] W fun e w' => e = .returned (.bool true) ∧ Below W.heap.size W w') :
    Calls Try.prog 5 #[.agg #[.int .u64 a1, .int .u32 a2, .int .i64 a3, .int .i64 a4], .agg #[.int .u64 a1, .int .u32 a2, .int .i64 a3, .int .i64 a4], .string s] w fun e w' => e = .returned (.bool true) ∧ Below w.heap.size w w' := by
  have H1 := Lib.hid A1
  have H3 := Lib.hid A3
  have H4 := Lib.hid A4
  have H5 := Lib.hid A5
  have HF := Lib.hid AF
  clear A1 A3 A4 A5 AF
  go_enter Try.func5, Try.ntmps5
  go_wp2_with fail
  refine (H1.out _).mono ?_
  rintro e w1 ⟨rfl, hq⟩
  have hb0_1 : Blk w1 w.heap.size 25 #[.int .u64 a1, .int .u32 a2, .int .i64 a3, .int .i64 a4] := Blk.same ((Blk.new w 25 #[.int .u64 a1, .int .u32 a2, .int .i64 a3, .int .i64 a4]).alloc (.cells #[.int .u64 a1, .int .u32 a2, .int .i64 a3, .int .i64 a4] 25)) (hq.block _ (((Blk.new w 25 #[.int .u64 a1, .int .u32 a2, .int .i64 a3, .int .i64 a4]).alloc (.cells #[.int .u64 a1, .int .u32 a2, .int .i64 a3, .int .i64 a4] 25))).lt)
  have hb1_1 : Blk w1 (w.heap.size + 1) 25 #[.int .u64 a1, .int .u32 a2, .int .i64 a3, .int .i64 a4] := Blk.same (Blk.new2 w (.cells #[.int .u64 a1, .int .u32 a2, .int .i64 a3, .int .i64 a4] 25) 25 #[.int .u64 a1, .int .u32 a2, .int .i64 a3, .int .i64 a4]) (hq.block _ ((Blk.new2 w (.cells #[.int .u64 a1, .int .u32 a2, .int .i64 a3, .int .i64 a4] 25) 25 #[.int .u64 a1, .int .u32 a2, .int .i64 a3, .int .i64 a4])).lt)
  have hB1 := b0 (ba (ba (Below.refl w.heap.size w) _) _) hq
  clear hq
  have c0_0 : w1.cell? ⟨w.heap.size, 0, none⟩ = some (.int .u64 a1) := hb0_1.cell 0
  have c0_1 : w1.cell? ⟨w.heap.size, 1, none⟩ = some (.int .u32 a2) := hb0_1.cell 1
  have c0_2 : w1.cell? ⟨w.heap.size, 2, none⟩ = some (.int .i64 a3) := hb0_1.cell 2
  have c0_3 : w1.cell? ⟨w.heap.size, 3, none⟩ = some (.int .i64 a4) := hb0_1.cell 3
  have z0 : w.heap.size < w1.heap.size := hb0_1.lt
  have n0 : w.heap.size ≠ w1.heap.size := by omega
  have c1_0 : w1.cell? ⟨(w.heap.size + 1), 0, none⟩ = some (.int .u64 a1) := hb1_1.cell 0
  have c1_1 : w1.cell? ⟨(w.heap.size + 1), 1, none⟩ = some (.int .u32 a2) := hb1_1.cell 1
  have c1_2 : w1.cell? ⟨(w.heap.size + 1), 2, none⟩ = some (.int .i64 a3) := hb1_1.cell 2
  have c1_3 : w1.cell? ⟨(w.heap.size + 1), 3, none⟩ = some (.int .i64 a4) := hb1_1.cell 3
  have z1 : (w.heap.size + 1) < w1.heap.size := hb1_1.lt
  have n1 : (w.heap.size + 1) ≠ w1.heap.size := by omega
  go_wp2_with fail
  refine (H1.out _).mono ?_
  rintro e w2 ⟨rfl, hq⟩
  have hb0_2 : Blk w2 w.heap.size 25 #[.int .u64 a1, .int .u32 a2, .int .i64 a3, .int .i64 a4] := Blk.same hb0_1 (hq.block _ (hb0_1).lt)
  have hb1_2 : Blk w2 (w.heap.size + 1) 25 #[.int .u64 a1, .int .u32 a2, .int .i64 a3, .int .i64 a4] := Blk.same hb1_1 (hq.block _ (hb1_1).lt)
  have hB2 := b0 hB1 hq
  clear hq hb0_1 hb1_1 hB1 c0_0 c0_1 c0_2 c0_3 n0 z0 c1_0 c1_1 c1_2 c1_3 n1 z1
  have c0_0 : w2.cell? ⟨w.heap.size, 0, none⟩ = some (.int .u64 a1) := hb0_2.cell 0
  have c0_1 : w2.cell? ⟨w.heap.size, 1, none⟩ = some (.int .u32 a2) := hb0_2.cell 1
  have c0_2 : w2.cell? ⟨w.heap.size, 2, none⟩ = some (.int .i64 a3) := hb0_2.cell 2
  have c0_3 : w2.cell? ⟨w.heap.size, 3, none⟩ = some (.int .i64 a4) := hb0_2.cell 3
  have z0 : w.heap.size < w2.heap.size := hb0_2.lt
  have n0 : w.heap.size ≠ w2.heap.size := by omega
  have c1_0 : w2.cell? ⟨(w.heap.size + 1), 0, none⟩ = some (.int .u64 a1) := hb1_2.cell 0
  have c1_1 : w2.cell? ⟨(w.heap.size + 1), 1, none⟩ = some (.int .u32 a2) := hb1_2.cell 1
  have c1_2 : w2.cell? ⟨(w.heap.size + 1), 2, none⟩ = some (.int .i64 a3) := hb1_2.cell 2
  have c1_3 : w2.cell? ⟨(w.heap.size + 1), 3, none⟩ = some (.int .i64 a4) := hb1_2.cell 3
  have z1 : (w.heap.size + 1) < w2.heap.size := hb1_2.lt
  have n1 : (w.heap.size + 1) ≠ w2.heap.size := by omega
  go_wp2_with fail
  refine (H3.out _).mono ?_
  rintro e w3 ⟨rfl, hq⟩
  have hb0_3 : Blk w3 w.heap.size 25 #[.int .u64 a1, .int .u32 a2, .int .i64 a3, .int .i64 a4] := Blk.same hb0_2 (hq.block _ (hb0_2).lt)
  have hb1_3 : Blk w3 (w.heap.size + 1) 25 #[.int .u64 a1, .int .u32 a2, .int .i64 a3, .int .i64 a4] := Blk.same hb1_2 (hq.block _ (hb1_2).lt)
  have hB3 := b0 hB2 hq
  clear hq hb0_2 hb1_2 hB2 c0_0 c0_1 c0_2 c0_3 n0 z0 c1_0 c1_1 c1_2 c1_3 n1 z1
  have c0_0 : w3.cell? ⟨w.heap.size, 0, none⟩ = some (.int .u64 a1) := hb0_3.cell 0
  have c0_1 : w3.cell? ⟨w.heap.size, 1, none⟩ = some (.int .u32 a2) := hb0_3.cell 1
  have c0_2 : w3.cell? ⟨w.heap.size, 2, none⟩ = some (.int .i64 a3) := hb0_3.cell 2
  have c0_3 : w3.cell? ⟨w.heap.size, 3, none⟩ = some (.int .i64 a4) := hb0_3.cell 3
  have z0 : w.heap.size < w3.heap.size := hb0_3.lt
  have n0 : w.heap.size ≠ w3.heap.size := by omega
  have c1_0 : w3.cell? ⟨(w.heap.size + 1), 0, none⟩ = some (.int .u64 a1) := hb1_3.cell 0
  have c1_1 : w3.cell? ⟨(w.heap.size + 1), 1, none⟩ = some (.int .u32 a2) := hb1_3.cell 1
  have c1_2 : w3.cell? ⟨(w.heap.size + 1), 2, none⟩ = some (.int .i64 a3) := hb1_3.cell 2
  have c1_3 : w3.cell? ⟨(w.heap.size + 1), 3, none⟩ = some (.int .i64 a4) := hb1_3.cell 3
  have z1 : (w.heap.size + 1) < w3.heap.size := hb1_3.lt
  have n1 : (w.heap.size + 1) ≠ w3.heap.size := by omega
  go_wp2_with fail
  refine (H4.out _).mono ?_
  rintro e w4 ⟨rfl, hq⟩
  have hb0_4 : Blk w4 w.heap.size 25 #[.int .u64 a1, .int .u32 a2, .int .i64 a3, .int .i64 a4] := Blk.same (hb0_3.alloc (.cells #[.int .u64 a1, .int .u32 a2, .int .i64 a3, .int .i64 a4] 25)) (hq.block _ ((hb0_3.alloc (.cells #[.int .u64 a1, .int .u32 a2, .int .i64 a3, .int .i64 a4] 25))).lt)
  have hb1_4 : Blk w4 (w.heap.size + 1) 25 #[.int .u64 a1, .int .u32 a2, .int .i64 a3, .int .i64 a4] := Blk.same (hb1_3.alloc (.cells #[.int .u64 a1, .int .u32 a2, .int .i64 a3, .int .i64 a4] 25)) (hq.block _ ((hb1_3.alloc (.cells #[.int .u64 a1, .int .u32 a2, .int .i64 a3, .int .i64 a4] 25))).lt)
  have hb2_4 : Blk w4 w3.heap.size 25 #[.int .u64 a1, .int .u32 a2, .int .i64 a3, .int .i64 a4] := Blk.same (Blk.new w3 25 #[.int .u64 a1, .int .u32 a2, .int .i64 a3, .int .i64 a4]) (hq.block _ ((Blk.new w3 25 #[.int .u64 a1, .int .u32 a2, .int .i64 a3, .int .i64 a4])).lt)
  have hB4 := b0 (ba hB3 _) hq
  clear hq hb0_3 hb1_3 hB3 c0_0 c0_1 c0_2 c0_3 n0 z0 c1_0 c1_1 c1_2 c1_3 n1 z1
  have c0_0 : w4.cell? ⟨w.heap.size, 0, none⟩ = some (.int .u64 a1) := hb0_4.cell 0
  have c0_1 : w4.cell? ⟨w.heap.size, 1, none⟩ = some (.int .u32 a2) := hb0_4.cell 1
  have c0_2 : w4.cell? ⟨w.heap.size, 2, none⟩ = some (.int .i64 a3) := hb0_4.cell 2
  have c0_3 : w4.cell? ⟨w.heap.size, 3, none⟩ = some (.int .i64 a4) := hb0_4.cell 3
  have z0 : w.heap.size < w4.heap.size := hb0_4.lt
  have n0 : w.heap.size ≠ w4.heap.size := by omega
  have c1_0 : w4.cell? ⟨(w.heap.size + 1), 0, none⟩ = some (.int .u64 a1) := hb1_4.cell 0
  have c1_1 : w4.cell? ⟨(w.heap.size + 1), 1, none⟩ = some (.int .u32 a2) := hb1_4.cell 1
  have c1_2 : w4.cell? ⟨(w.heap.size + 1), 2, none⟩ = some (.int .i64 a3) := hb1_4.cell 2
  have c1_3 : w4.cell? ⟨(w.heap.size + 1), 3, none⟩ = some (.int .i64 a4) := hb1_4.cell 3
  have z1 : (w.heap.size + 1) < w4.heap.size := hb1_4.lt
  have n1 : (w.heap.size + 1) ≠ w4.heap.size := by omega
  have c2_0 : w4.cell? ⟨w3.heap.size, 0, none⟩ = some (.int .u64 a1) := hb2_4.cell 0
  have c2_1 : w4.cell? ⟨w3.heap.size, 1, none⟩ = some (.int .u32 a2) := hb2_4.cell 1
  have c2_2 : w4.cell? ⟨w3.heap.size, 2, none⟩ = some (.int .i64 a3) := hb2_4.cell 2
  have c2_3 : w4.cell? ⟨w3.heap.size, 3, none⟩ = some (.int .i64 a4) := hb2_4.cell 3
  have z2 : w3.heap.size < w4.heap.size := hb2_4.lt
  have n2 : w3.heap.size ≠ w4.heap.size := by omega
  go_wp2_with fail
  refine (H5.out _).mono ?_
  rintro e w5 ⟨rfl, hq⟩
  have hb0_5 : Blk w5 w.heap.size 25 #[.int .u64 a1, .int .u32 a2, .int .i64 a3, .int .i64 a4] := Blk.same (hb0_4.alloc (.cells #[.int .u64 c1, .int .u32 c2, .int .i64 c3, .int .i64 c4] 25)) (hq.block _ ((hb0_4.alloc (.cells #[.int .u64 c1, .int .u32 c2, .int .i64 c3, .int .i64 c4] 25))).lt)
  have hb1_5 : Blk w5 (w.heap.size + 1) 25 #[.int .u64 a1, .int .u32 a2, .int .i64 a3, .int .i64 a4] := Blk.same (hb1_4.alloc (.cells #[.int .u64 c1, .int .u32 c2, .int .i64 c3, .int .i64 c4] 25)) (hq.block _ ((hb1_4.alloc (.cells #[.int .u64 c1, .int .u32 c2, .int .i64 c3, .int .i64 c4] 25))).lt)
  have hb2_5 : Blk w5 w3.heap.size 25 #[.int .u64 a1, .int .u32 a2, .int .i64 a3, .int .i64 a4] := Blk.same (hb2_4.alloc (.cells #[.int .u64 c1, .int .u32 c2, .int .i64 c3, .int .i64 c4] 25)) (hq.block _ ((hb2_4.alloc (.cells #[.int .u64 c1, .int .u32 c2, .int .i64 c3, .int .i64 c4] 25))).lt)
  have hb3_5 : Blk w5 w4.heap.size 25 #[.int .u64 c1, .int .u32 c2, .int .i64 c3, .int .i64 c4] := Blk.same (Blk.new w4 25 #[.int .u64 c1, .int .u32 c2, .int .i64 c3, .int .i64 c4]) (hq.block _ ((Blk.new w4 25 #[.int .u64 c1, .int .u32 c2, .int .i64 c3, .int .i64 c4])).lt)
  have hB5 := b0 (ba hB4 _) hq
  clear hq hb0_4 hb1_4 hb2_4 hB4 c0_0 c0_1 c0_2 c0_3 n0 z0 c1_0 c1_1 c1_2 c1_3 n1 z1 c2_0 c2_1 c2_2 c2_3 n2 z2
  have c0_0 : w5.cell? ⟨w.heap.size, 0, none⟩ = some (.int .u64 a1) := hb0_5.cell 0
  have c0_1 : w5.cell? ⟨w.heap.size, 1, none⟩ = some (.int .u32 a2) := hb0_5.cell 1
  have c0_2 : w5.cell? ⟨w.heap.size, 2, none⟩ = some (.int .i64 a3) := hb0_5.cell 2
  have c0_3 : w5.cell? ⟨w.heap.size, 3, none⟩ = some (.int .i64 a4) := hb0_5.cell 3
  have z0 : w.heap.size < w5.heap.size := hb0_5.lt
  have n0 : w.heap.size ≠ w5.heap.size := by omega
  have c1_0 : w5.cell? ⟨(w.heap.size + 1), 0, none⟩ = some (.int .u64 a1) := hb1_5.cell 0
  have c1_1 : w5.cell? ⟨(w.heap.size + 1), 1, none⟩ = some (.int .u32 a2) := hb1_5.cell 1
  have c1_2 : w5.cell? ⟨(w.heap.size + 1), 2, none⟩ = some (.int .i64 a3) := hb1_5.cell 2
  have c1_3 : w5.cell? ⟨(w.heap.size + 1), 3, none⟩ = some (.int .i64 a4) := hb1_5.cell 3
  have z1 : (w.heap.size + 1) < w5.heap.size := hb1_5.lt
  have n1 : (w.heap.size + 1) ≠ w5.heap.size := by omega
  have c2_0 : w5.cell? ⟨w3.heap.size, 0, none⟩ = some (.int .u64 a1) := hb2_5.cell 0
  have c2_1 : w5.cell? ⟨w3.heap.size, 1, none⟩ = some (.int .u32 a2) := hb2_5.cell 1
  have c2_2 : w5.cell? ⟨w3.heap.size, 2, none⟩ = some (.int .i64 a3) := hb2_5.cell 2
  have c2_3 : w5.cell? ⟨w3.heap.size, 3, none⟩ = some (.int .i64 a4) := hb2_5.cell 3
  have z2 : w3.heap.size < w5.heap.size := hb2_5.lt
  have n2 : w3.heap.size ≠ w5.heap.size := by omega
  have c3_0 : w5.cell? ⟨w4.heap.size, 0, none⟩ = some (.int .u64 c1) := hb3_5.cell 0
  have c3_1 : w5.cell? ⟨w4.heap.size, 1, none⟩ = some (.int .u32 c2) := hb3_5.cell 1
  have c3_2 : w5.cell? ⟨w4.heap.size, 2, none⟩ = some (.int .i64 c3) := hb3_5.cell 2
  have c3_3 : w5.cell? ⟨w4.heap.size, 3, none⟩ = some (.int .i64 c4) := hb3_5.cell 3
  have z3 : w4.heap.size < w5.heap.size := hb3_5.lt
  have n3 : w4.heap.size ≠ w5.heap.size := by omega
  go_wp2_with fail
  refine (HF.out _).mono ?_
  rintro e w6 ⟨rfl, hq⟩
  have hb0_6 : Blk w6 w.heap.size 25 #[.int .u64 a1, .int .u32 a2, .int .i64 a3, .int .i64 a4] := Blk.same hb0_5 (hq.block _ (hb0_5).lt)
  have hb1_6 : Blk w6 (w.heap.size + 1) 25 #[.int .u64 a1, .int .u32 a2, .int .i64 a3, .int .i64 a4] := Blk.same hb1_5 (hq.block _ (hb1_5).lt)
  have hb2_6 : Blk w6 w3.heap.size 25 #[.int .u64 a1, .int .u32 a2, .int .i64 a3, .int .i64 a4] := Blk.same hb2_5 (hq.block _ (hb2_5).lt)
  have hb3_6 : Blk w6 w4.heap.size 25 #[.int .u64 c1, .int .u32 c2, .int .i64 c3, .int .i64 c4] := Blk.same hb3_5 (hq.block _ (hb3_5).lt)
  have hB6 := b0 hB5 hq
  clear hq hb0_5 hb1_5 hb2_5 hb3_5 hB5 c0_0 c0_1 c0_2 c0_3 n0 z0 c1_0 c1_1 c1_2 c1_3 n1 z1 c2_0 c2_1 c2_2 c2_3 n2 z2 c3_0 c3_1 c3_2 c3_3 n3 z3
  have c0_0 : w6.cell? ⟨w.heap.size, 0, none⟩ = some (.int .u64 a1) := hb0_6.cell 0
  have c0_1 : w6.cell? ⟨w.heap.size, 1, none⟩ = some (.int .u32 a2) := hb0_6.cell 1
  have c0_2 : w6.cell? ⟨w.heap.size, 2, none⟩ = some (.int .i64 a3) := hb0_6.cell 2
  have c0_3 : w6.cell? ⟨w.heap.size, 3, none⟩ = some (.int .i64 a4) := hb0_6.cell 3
  have z0 : w.heap.size < w6.heap.size := hb0_6.lt
  have n0 : w.heap.size ≠ w6.heap.size := by omega
  have c1_0 : w6.cell? ⟨(w.heap.size + 1), 0, none⟩ = some (.int .u64 a1) := hb1_6.cell 0
  have c1_1 : w6.cell? ⟨(w.heap.size + 1), 1, none⟩ = some (.int .u32 a2) := hb1_6.cell 1
  have c1_2 : w6.cell? ⟨(w.heap.size + 1), 2, none⟩ = some (.int .i64 a3) := hb1_6.cell 2
  have c1_3 : w6.cell? ⟨(w.heap.size + 1), 3, none⟩ = some (.int .i64 a4) := hb1_6.cell 3
  have z1 : (w.heap.size + 1) < w6.heap.size := hb1_6.lt
  have n1 : (w.heap.size + 1) ≠ w6.heap.size := by omega
  have c2_0 : w6.cell? ⟨w3.heap.size, 0, none⟩ = some (.int .u64 a1) := hb2_6.cell 0
  have c2_1 : w6.cell? ⟨w3.heap.size, 1, none⟩ = some (.int .u32 a2) := hb2_6.cell 1
  have c2_2 : w6.cell? ⟨w3.heap.size, 2, none⟩ = some (.int .i64 a3) := hb2_6.cell 2
  have c2_3 : w6.cell? ⟨w3.heap.size, 3, none⟩ = some (.int .i64 a4) := hb2_6.cell 3
  have z2 : w3.heap.size < w6.heap.size := hb2_6.lt
  have n2 : w3.heap.size ≠ w6.heap.size := by omega
  have c3_0 : w6.cell? ⟨w4.heap.size, 0, none⟩ = some (.int .u64 c1) := hb3_6.cell 0
  have c3_1 : w6.cell? ⟨w4.heap.size, 1, none⟩ = some (.int .u32 c2) := hb3_6.cell 1
  have c3_2 : w6.cell? ⟨w4.heap.size, 2, none⟩ = some (.int .i64 c3) := hb3_6.cell 2
  have c3_3 : w6.cell? ⟨w4.heap.size, 3, none⟩ = some (.int .i64 c4) := hb3_6.cell 3
  have z3 : w4.heap.size < w6.heap.size := hb3_6.lt
  have n3 : w4.heap.size ≠ w6.heap.size := by omega
  go_wp2_with fail
  go_ret
  exact ⟨rfl, hB6⟩
set_option maxRecDepth 100000 in
set_option maxHeartbeats 3200000 in
theorem descBack_dif1_ok (s : ByteArray) (a1 a2 a3 a4 : Int) (b1 b2 b3 b4 : Int) (X Y : ByteArray) (c1 c2 c3 c4 : Int) (w : World) (xy : (X.toList == Y.toList) = false) (ab : (a1 == b1) = false)
    (A1 : ∀ W, Calls Try.prog 11 #[.agg #[.int .u64 a1, .int .u32 a2, .int .i64 a3, .int .i64 a4]] W fun e w' => e = .returned (.tuple #[.string X, .int .i64 0]) ∧ Below W.heap.size W w')
    (A2 : ∀ W, Calls Try.prog 11 #[.agg #[.int .u64 b1, .int .u32 b2, .int .i64 b3, .int .i64 b4]] W fun e w' => e = .returned (.tuple #[.string Y, .int .i64 0]) ∧ Below W.heap.size W w')
    (A3 : ∀ W, Calls Try.prog 9 #[.string X] W fun e w' => e = .returned (.tuple #[.agg #[.int .u64 a1, .int .u32 a2, .int .i64 a3, .int .i64 a4], .int .i64 0]) ∧ Below W.heap.size W w')
    (A4 : ∀ W, Calls Try.prog 9 #[.string s] W fun e w' => e = .returned (.tuple #[.agg #[.int .u64 c1, .int .u32 c2, .int .i64 c3, .int .i64 c4], .int .i64 0]) ∧ Below W.heap.size W w')
    (A5 : ∀ W, Calls Try.prog 11 #[.agg #[.int .u64 c1, .int .u32 c2, .int .i64 c3, .int .i64 c4]] W fun e w' => e = .returned (.tuple #[.string s, .int .i64 0]) ∧ Below W.heap.size W w')
    (AF : ∀ W, Calls Try.prog 13 #[] W fun e w' => e = .returned (.bool true) ∧ Below W.heap.size W w') :
    Calls Try.prog 5 #[.agg #[.int .u64 a1, .int .u32 a2, .int .i64 a3, .int .i64 a4], .agg #[.int .u64 b1, .int .u32 b2, .int .i64 b3, .int .i64 b4], .string s] w fun e w' => e = .returned (.bool true) ∧ Below w.heap.size w w' := by
  have H1 := Lib.hid A1
  have H2 := Lib.hid A2
  have H3 := Lib.hid A3
  have H4 := Lib.hid A4
  have H5 := Lib.hid A5
  have HF := Lib.hid AF
  clear A1 A2 A3 A4 A5 AF
  go_enter Try.func5, Try.ntmps5
  go_wp2_with fail
  refine (H1.out _).mono ?_
  rintro e w1 ⟨rfl, hq⟩
  have hb0_1 : Blk w1 w.heap.size 25 #[.int .u64 a1, .int .u32 a2, .int .i64 a3, .int .i64 a4] := Blk.same ((Blk.new w 25 #[.int .u64 a1, .int .u32 a2, .int .i64 a3, .int .i64 a4]).alloc (.cells #[.int .u64 b1, .int .u32 b2, .int .i64 b3, .int .i64 b4] 25)) (hq.block _ (((Blk.new w 25 #[.int .u64 a1, .int .u32 a2, .int .i64 a3, .int .i64 a4]).alloc (.cells #[.int .u64 b1, .int .u32 b2, .int .i64 b3, .int .i64 b4] 25))).lt)
  have hb1_1 : Blk w1 (w.heap.size + 1) 25 #[.int .u64 b1, .int .u32 b2, .int .i64 b3, .int .i64 b4] := Blk.same (Blk.new2 w (.cells #[.int .u64 a1, .int .u32 a2, .int .i64 a3, .int .i64 a4] 25) 25 #[.int .u64 b1, .int .u32 b2, .int .i64 b3, .int .i64 b4]) (hq.block _ ((Blk.new2 w (.cells #[.int .u64 a1, .int .u32 a2, .int .i64 a3, .int .i64 a4] 25) 25 #[.int .u64 b1, .int .u32 b2, .int .i64 b3, .int .i64 b4])).lt)
  have hB1 := b0 (ba (ba (Below.refl w.heap.size w) _) _) hq
  clear hq
  have c0_0 : w1.cell? ⟨w.heap.size, 0, none⟩ = some (.int .u64 a1) := hb0_1.cell 0
  have c0_1 : w1.cell? ⟨w.heap.size, 1, none⟩ = some (.int .u32 a2) := hb0_1.cell 1
  have c0_2 : w1.cell? ⟨w.heap.size, 2, none⟩ = some (.int .i64 a3) := hb0_1.cell 2
  have c0_3 : w1.cell? ⟨w.heap.size, 3, none⟩ = some (.int .i64 a4) := hb0_1.cell 3
  have z0 : w.heap.size < w1.heap.size := hb0_1.lt
  have n0 : w.heap.size ≠ w1.heap.size := by omega
  have c1_0 : w1.cell? ⟨(w.heap.size + 1), 0, none⟩ = some (.int .u64 b1) := hb1_1.cell 0
  have c1_1 : w1.cell? ⟨(w.heap.size + 1), 1, none⟩ = some (.int .u32 b2) := hb1_1.cell 1
  have c1_2 : w1.cell? ⟨(w.heap.size + 1), 2, none⟩ = some (.int .i64 b3) := hb1_1.cell 2
  have c1_3 : w1.cell? ⟨(w.heap.size + 1), 3, none⟩ = some (.int .i64 b4) := hb1_1.cell 3
  have z1 : (w.heap.size + 1) < w1.heap.size := hb1_1.lt
  have n1 : (w.heap.size + 1) ≠ w1.heap.size := by omega
  go_wp2_with fail
  refine (H2.out _).mono ?_
  rintro e w2 ⟨rfl, hq⟩
  have hb0_2 : Blk w2 w.heap.size 25 #[.int .u64 a1, .int .u32 a2, .int .i64 a3, .int .i64 a4] := Blk.same hb0_1 (hq.block _ (hb0_1).lt)
  have hb1_2 : Blk w2 (w.heap.size + 1) 25 #[.int .u64 b1, .int .u32 b2, .int .i64 b3, .int .i64 b4] := Blk.same hb1_1 (hq.block _ (hb1_1).lt)
  have hB2 := b0 hB1 hq
  clear hq hb0_1 hb1_1 hB1 c0_0 c0_1 c0_2 c0_3 n0 z0 c1_0 c1_1 c1_2 c1_3 n1 z1
  have c0_0 : w2.cell? ⟨w.heap.size, 0, none⟩ = some (.int .u64 a1) := hb0_2.cell 0
  have c0_1 : w2.cell? ⟨w.heap.size, 1, none⟩ = some (.int .u32 a2) := hb0_2.cell 1
  have c0_2 : w2.cell? ⟨w.heap.size, 2, none⟩ = some (.int .i64 a3) := hb0_2.cell 2
  have c0_3 : w2.cell? ⟨w.heap.size, 3, none⟩ = some (.int .i64 a4) := hb0_2.cell 3
  have z0 : w.heap.size < w2.heap.size := hb0_2.lt
  have n0 : w.heap.size ≠ w2.heap.size := by omega
  have c1_0 : w2.cell? ⟨(w.heap.size + 1), 0, none⟩ = some (.int .u64 b1) := hb1_2.cell 0
  have c1_1 : w2.cell? ⟨(w.heap.size + 1), 1, none⟩ = some (.int .u32 b2) := hb1_2.cell 1
  have c1_2 : w2.cell? ⟨(w.heap.size + 1), 2, none⟩ = some (.int .i64 b3) := hb1_2.cell 2
  have c1_3 : w2.cell? ⟨(w.heap.size + 1), 3, none⟩ = some (.int .i64 b4) := hb1_2.cell 3
  have z1 : (w.heap.size + 1) < w2.heap.size := hb1_2.lt
  have n1 : (w.heap.size + 1) ≠ w2.heap.size := by omega
  go_wp2_with fail
  refine (H3.out _).mono ?_
  rintro e w3 ⟨rfl, hq⟩
  have hb0_3 : Blk w3 w.heap.size 25 #[.int .u64 a1, .int .u32 a2, .int .i64 a3, .int .i64 a4] := Blk.same hb0_2 (hq.block _ (hb0_2).lt)
  have hb1_3 : Blk w3 (w.heap.size + 1) 25 #[.int .u64 b1, .int .u32 b2, .int .i64 b3, .int .i64 b4] := Blk.same hb1_2 (hq.block _ (hb1_2).lt)
  have hB3 := b0 hB2 hq
  clear hq hb0_2 hb1_2 hB2 c0_0 c0_1 c0_2 c0_3 n0 z0 c1_0 c1_1 c1_2 c1_3 n1 z1
  have c0_0 : w3.cell? ⟨w.heap.size, 0, none⟩ = some (.int .u64 a1) := hb0_3.cell 0
  have c0_1 : w3.cell? ⟨w.heap.size, 1, none⟩ = some (.int .u32 a2) := hb0_3.cell 1
  have c0_2 : w3.cell? ⟨w.heap.size, 2, none⟩ = some (.int .i64 a3) := hb0_3.cell 2
  have c0_3 : w3.cell? ⟨w.heap.size, 3, none⟩ = some (.int .i64 a4) := hb0_3.cell 3
  have z0 : w.heap.size < w3.heap.size := hb0_3.lt
  have n0 : w.heap.size ≠ w3.heap.size := by omega
  have c1_0 : w3.cell? ⟨(w.heap.size + 1), 0, none⟩ = some (.int .u64 b1) := hb1_3.cell 0
  have c1_1 : w3.cell? ⟨(w.heap.size + 1), 1, none⟩ = some (.int .u32 b2) := hb1_3.cell 1
  have c1_2 : w3.cell? ⟨(w.heap.size + 1), 2, none⟩ = some (.int .i64 b3) := hb1_3.cell 2
  have c1_3 : w3.cell? ⟨(w.heap.size + 1), 3, none⟩ = some (.int .i64 b4) := hb1_3.cell 3
  have z1 : (w.heap.size + 1) < w3.heap.size := hb1_3.lt
  have n1 : (w.heap.size + 1) ≠ w3.heap.size := by omega
  go_wp2_with fail
  refine (H4.out _).mono ?_
  rintro e w4 ⟨rfl, hq⟩
  have hb0_4 : Blk w4 w.heap.size 25 #[.int .u64 a1, .int .u32 a2, .int .i64 a3, .int .i64 a4] := Blk.same (hb0_3.alloc (.cells #[.int .u64 a1, .int .u32 a2, .int .i64 a3, .int .i64 a4] 25)) (hq.block _ ((hb0_3.alloc (.cells #[.int .u64 a1, .int .u32 a2, .int .i64 a3, .int .i64 a4] 25))).lt)
  have hb1_4 : Blk w4 (w.heap.size + 1) 25 #[.int .u64 b1, .int .u32 b2, .int .i64 b3, .int .i64 b4] := Blk.same (hb1_3.alloc (.cells #[.int .u64 a1, .int .u32 a2, .int .i64 a3, .int .i64 a4] 25)) (hq.block _ ((hb1_3.alloc (.cells #[.int .u64 a1, .int .u32 a2, .int .i64 a3, .int .i64 a4] 25))).lt)
  have hb2_4 : Blk w4 w3.heap.size 25 #[.int .u64 a1, .int .u32 a2, .int .i64 a3, .int .i64 a4] := Blk.same (Blk.new w3 25 #[.int .u64 a1, .int .u32 a2, .int .i64 a3, .int .i64 a4]) (hq.block _ ((Blk.new w3 25 #[.int .u64 a1, .int .u32 a2, .int .i64 a3, .int .i64 a4])).lt)
  have hB4 := b0 (ba hB3 _) hq
  clear hq hb0_3 hb1_3 hB3 c0_0 c0_1 c0_2 c0_3 n0 z0 c1_0 c1_1 c1_2 c1_3 n1 z1
  have c0_0 : w4.cell? ⟨w.heap.size, 0, none⟩ = some (.int .u64 a1) := hb0_4.cell 0
  have c0_1 : w4.cell? ⟨w.heap.size, 1, none⟩ = some (.int .u32 a2) := hb0_4.cell 1
  have c0_2 : w4.cell? ⟨w.heap.size, 2, none⟩ = some (.int .i64 a3) := hb0_4.cell 2
  have c0_3 : w4.cell? ⟨w.heap.size, 3, none⟩ = some (.int .i64 a4) := hb0_4.cell 3
  have z0 : w.heap.size < w4.heap.size := hb0_4.lt
  have n0 : w.heap.size ≠ w4.heap.size := by omega
  have c1_0 : w4.cell? ⟨(w.heap.size + 1), 0, none⟩ = some (.int .u64 b1) := hb1_4.cell 0
  have c1_1 : w4.cell? ⟨(w.heap.size + 1), 1, none⟩ = some (.int .u32 b2) := hb1_4.cell 1
  have c1_2 : w4.cell? ⟨(w.heap.size + 1), 2, none⟩ = some (.int .i64 b3) := hb1_4.cell 2
  have c1_3 : w4.cell? ⟨(w.heap.size + 1), 3, none⟩ = some (.int .i64 b4) := hb1_4.cell 3
  have z1 : (w.heap.size + 1) < w4.heap.size := hb1_4.lt
  have n1 : (w.heap.size + 1) ≠ w4.heap.size := by omega
  have c2_0 : w4.cell? ⟨w3.heap.size, 0, none⟩ = some (.int .u64 a1) := hb2_4.cell 0
  have c2_1 : w4.cell? ⟨w3.heap.size, 1, none⟩ = some (.int .u32 a2) := hb2_4.cell 1
  have c2_2 : w4.cell? ⟨w3.heap.size, 2, none⟩ = some (.int .i64 a3) := hb2_4.cell 2
  have c2_3 : w4.cell? ⟨w3.heap.size, 3, none⟩ = some (.int .i64 a4) := hb2_4.cell 3
  have z2 : w3.heap.size < w4.heap.size := hb2_4.lt
  have n2 : w3.heap.size ≠ w4.heap.size := by omega
  go_wp2_with fail
  refine (H5.out _).mono ?_
  rintro e w5 ⟨rfl, hq⟩
  have hb0_5 : Blk w5 w.heap.size 25 #[.int .u64 a1, .int .u32 a2, .int .i64 a3, .int .i64 a4] := Blk.same (hb0_4.alloc (.cells #[.int .u64 c1, .int .u32 c2, .int .i64 c3, .int .i64 c4] 25)) (hq.block _ ((hb0_4.alloc (.cells #[.int .u64 c1, .int .u32 c2, .int .i64 c3, .int .i64 c4] 25))).lt)
  have hb1_5 : Blk w5 (w.heap.size + 1) 25 #[.int .u64 b1, .int .u32 b2, .int .i64 b3, .int .i64 b4] := Blk.same (hb1_4.alloc (.cells #[.int .u64 c1, .int .u32 c2, .int .i64 c3, .int .i64 c4] 25)) (hq.block _ ((hb1_4.alloc (.cells #[.int .u64 c1, .int .u32 c2, .int .i64 c3, .int .i64 c4] 25))).lt)
  have hb2_5 : Blk w5 w3.heap.size 25 #[.int .u64 a1, .int .u32 a2, .int .i64 a3, .int .i64 a4] := Blk.same (hb2_4.alloc (.cells #[.int .u64 c1, .int .u32 c2, .int .i64 c3, .int .i64 c4] 25)) (hq.block _ ((hb2_4.alloc (.cells #[.int .u64 c1, .int .u32 c2, .int .i64 c3, .int .i64 c4] 25))).lt)
  have hb3_5 : Blk w5 w4.heap.size 25 #[.int .u64 c1, .int .u32 c2, .int .i64 c3, .int .i64 c4] := Blk.same (Blk.new w4 25 #[.int .u64 c1, .int .u32 c2, .int .i64 c3, .int .i64 c4]) (hq.block _ ((Blk.new w4 25 #[.int .u64 c1, .int .u32 c2, .int .i64 c3, .int .i64 c4])).lt)
  have hB5 := b0 (ba hB4 _) hq
  clear hq hb0_4 hb1_4 hb2_4 hB4 c0_0 c0_1 c0_2 c0_3 n0 z0 c1_0 c1_1 c1_2 c1_3 n1 z1 c2_0 c2_1 c2_2 c2_3 n2 z2
  have c0_0 : w5.cell? ⟨w.heap.size, 0, none⟩ = some (.int .u64 a1) := hb0_5.cell 0
  have c0_1 : w5.cell? ⟨w.heap.size, 1, none⟩ = some (.int .u32 a2) := hb0_5.cell 1
  have c0_2 : w5.cell? ⟨w.heap.size, 2, none⟩ = some (.int .i64 a3) := hb0_5.cell 2
  have c0_3 : w5.cell? ⟨w.heap.size, 3, none⟩ = some (.int .i64 a4) := hb0_5.cell 3
  have z0 : w.heap.size < w5.heap.size := hb0_5.lt
  have n0 : w.heap.size ≠ w5.heap.size := by omega
  have c1_0 : w5.cell? ⟨(w.heap.size + 1), 0, none⟩ = some (.int .u64 b1) := hb1_5.cell 0
  have c1_1 : w5.cell? ⟨(w.heap.size + 1), 1, none⟩ = some (.int .u32 b2) := hb1_5.cell 1
  have c1_2 : w5.cell? ⟨(w.heap.size + 1), 2, none⟩ = some (.int .i64 b3) := hb1_5.cell 2
  have c1_3 : w5.cell? ⟨(w.heap.size + 1), 3, none⟩ = some (.int .i64 b4) := hb1_5.cell 3
  have z1 : (w.heap.size + 1) < w5.heap.size := hb1_5.lt
  have n1 : (w.heap.size + 1) ≠ w5.heap.size := by omega
  have c2_0 : w5.cell? ⟨w3.heap.size, 0, none⟩ = some (.int .u64 a1) := hb2_5.cell 0
  have c2_1 : w5.cell? ⟨w3.heap.size, 1, none⟩ = some (.int .u32 a2) := hb2_5.cell 1
  have c2_2 : w5.cell? ⟨w3.heap.size, 2, none⟩ = some (.int .i64 a3) := hb2_5.cell 2
  have c2_3 : w5.cell? ⟨w3.heap.size, 3, none⟩ = some (.int .i64 a4) := hb2_5.cell 3
  have z2 : w3.heap.size < w5.heap.size := hb2_5.lt
  have n2 : w3.heap.size ≠ w5.heap.size := by omega
  have c3_0 : w5.cell? ⟨w4.heap.size, 0, none⟩ = some (.int .u64 c1) := hb3_5.cell 0
  have c3_1 : w5.cell? ⟨w4.heap.size, 1, none⟩ = some (.int .u32 c2) := hb3_5.cell 1
  have c3_2 : w5.cell? ⟨w4.heap.size, 2, none⟩ = some (.int .i64 c3) := hb3_5.cell 2
  have c3_3 : w5.cell? ⟨w4.heap.size, 3, none⟩ = some (.int .i64 c4) := hb3_5.cell 3
  have z3 : w4.heap.size < w5.heap.size := hb3_5.lt
  have n3 : w4.heap.size ≠ w5.heap.size := by omega
  go_wp2_with fail
  refine (HF.out _).mono ?_
  rintro e w6 ⟨rfl, hq⟩
  have hb0_6 : Blk w6 w.heap.size 25 #[.int .u64 a1, .int .u32 a2, .int .i64 a3, .int .i64 a4] := Blk.same hb0_5 (hq.block _ (hb0_5).lt)
  have hb1_6 : Blk w6 (w.heap.size + 1) 25 #[.int .u64 b1, .int .u32 b2, .int .i64 b3, .int .i64 b4] := Blk.same hb1_5 (hq.block _ (hb1_5).lt)
  have hb2_6 : Blk w6 w3.heap.size 25 #[.int .u64 a1, .int .u32 a2, .int .i64 a3, .int .i64 a4] := Blk.same hb2_5 (hq.block _ (hb2_5).lt)
  have hb3_6 : Blk w6 w4.heap.size 25 #[.int .u64 c1, .int .u32 c2, .int .i64 c3, .int .i64 c4] := Blk.same hb3_5 (hq.block _ (hb3_5).lt)
  have hB6 := b0 hB5 hq
  clear hq hb0_5 hb1_5 hb2_5 hb3_5 hB5 c0_0 c0_1 c0_2 c0_3 n0 z0 c1_0 c1_1 c1_2 c1_3 n1 z1 c2_0 c2_1 c2_2 c2_3 n2 z2 c3_0 c3_1 c3_2 c3_3 n3 z3
  have c0_0 : w6.cell? ⟨w.heap.size, 0, none⟩ = some (.int .u64 a1) := hb0_6.cell 0
  have c0_1 : w6.cell? ⟨w.heap.size, 1, none⟩ = some (.int .u32 a2) := hb0_6.cell 1
  have c0_2 : w6.cell? ⟨w.heap.size, 2, none⟩ = some (.int .i64 a3) := hb0_6.cell 2
  have c0_3 : w6.cell? ⟨w.heap.size, 3, none⟩ = some (.int .i64 a4) := hb0_6.cell 3
  have z0 : w.heap.size < w6.heap.size := hb0_6.lt
  have n0 : w.heap.size ≠ w6.heap.size := by omega
  have c1_0 : w6.cell? ⟨(w.heap.size + 1), 0, none⟩ = some (.int .u64 b1) := hb1_6.cell 0
  have c1_1 : w6.cell? ⟨(w.heap.size + 1), 1, none⟩ = some (.int .u32 b2) := hb1_6.cell 1
  have c1_2 : w6.cell? ⟨(w.heap.size + 1), 2, none⟩ = some (.int .i64 b3) := hb1_6.cell 2
  have c1_3 : w6.cell? ⟨(w.heap.size + 1), 3, none⟩ = some (.int .i64 b4) := hb1_6.cell 3
  have z1 : (w.heap.size + 1) < w6.heap.size := hb1_6.lt
  have n1 : (w.heap.size + 1) ≠ w6.heap.size := by omega
  have c2_0 : w6.cell? ⟨w3.heap.size, 0, none⟩ = some (.int .u64 a1) := hb2_6.cell 0
  have c2_1 : w6.cell? ⟨w3.heap.size, 1, none⟩ = some (.int .u32 a2) := hb2_6.cell 1
  have c2_2 : w6.cell? ⟨w3.heap.size, 2, none⟩ = some (.int .i64 a3) := hb2_6.cell 2
  have c2_3 : w6.cell? ⟨w3.heap.size, 3, none⟩ = some (.int .i64 a4) := hb2_6.cell 3
  have z2 : w3.heap.size < w6.heap.size := hb2_6.lt
  have n2 : w3.heap.size ≠ w6.heap.size := by omega
  have c3_0 : w6.cell? ⟨w4.heap.size, 0, none⟩ = some (.int .u64 c1) := hb3_6.cell 0
  have c3_1 : w6.cell? ⟨w4.heap.size, 1, none⟩ = some (.int .u32 c2) := hb3_6.cell 1
  have c3_2 : w6.cell? ⟨w4.heap.size, 2, none⟩ = some (.int .i64 c3) := hb3_6.cell 2
  have c3_3 : w6.cell? ⟨w4.heap.size, 3, none⟩ = some (.int .i64 c4) := hb3_6.cell 3
  have z3 : w4.heap.size < w6.heap.size := hb3_6.lt
  have n3 : w4.heap.size ≠ w6.heap.size := by omega
  go_wp2_with fail
  go_ret
  exact ⟨rfl, hB6⟩
set_option maxRecDepth 100000 in
set_option maxHeartbeats 3200000 in
theorem descBack_dif2_ok (s : ByteArray) (a1 a2 a3 a4 : Int) (b2 b3 b4 : Int) (X Y : ByteArray) (c1 c2 c3 c4 : Int) (w : World) (xy : (X.toList == Y.toList) = false) (ab : (a2 == b2) = false)
    (A1 : ∀ W, Calls Try.prog 11 #[.agg #[.int .u64 a1, .int .u32 a2, .int .i64 a3, .int .i64 a4]] W fun e w' => e = .returned (.tuple #[.string X, .int .i64 0]) ∧ Below W.heap.size W w')
    (A2 : ∀ W, Calls Try.prog 11 #[.agg #[.int .u64 a1, .int .u32 b2, .int .i64 b3, .int .i64 b4]] W fun e w' => e = .returned (.tuple #[.string Y, .int .i64 0]) ∧ Below W.heap.size W w')
    (A3 : ∀ W, Calls Try.prog 9 #[.string X] W fun e w' => e = .returned (.tuple #[.agg #[.int .u64 a1, .int .u32 a2, .int .i64 a3, .int .i64 a4], .int .i64 0]) ∧ Below W.heap.size W w')
    (A4 : ∀ W, Calls Try.prog 9 #[.string s] W fun e w' => e = .returned (.tuple #[.agg #[.int .u64 c1, .int .u32 c2, .int .i64 c3, .int .i64 c4], .int .i64 0]) ∧ Below W.heap.size W w')
    (A5 : ∀ W, Calls Try.prog 11 #[.agg #[.int .u64 c1, .int .u32 c2, .int .i64 c3, .int .i64 c4]] W fun e w' => e = .returned (.tuple #[.string s, .int .i64 0]) ∧ Below W.heap.size W w')
    (AF : ∀ W, Calls Try.prog 13 #[] W fun e w' => e = .returned (.bool true) ∧ Below W.heap.size W w') :
    Calls Try.prog 5 #[.agg #[.int .u64 a1, .int .u32 a2, .int .i64 a3, .int .i64 a4], .agg #[.int .u64 a1, .int .u32 b2, .int .i64 b3, .int .i64 b4], .string s] w fun e w' => e = .returned (.bool true) ∧ Below w.heap.size w w' := by
  have H1 := Lib.hid A1
  have H2 := Lib.hid A2
  have H3 := Lib.hid A3
  have H4 := Lib.hid A4
  have H5 := Lib.hid A5
  have HF := Lib.hid AF
  clear A1 A2 A3 A4 A5 AF
  go_enter Try.func5, Try.ntmps5
  go_wp2_with fail
  refine (H1.out _).mono ?_
  rintro e w1 ⟨rfl, hq⟩
  have hb0_1 : Blk w1 w.heap.size 25 #[.int .u64 a1, .int .u32 a2, .int .i64 a3, .int .i64 a4] := Blk.same ((Blk.new w 25 #[.int .u64 a1, .int .u32 a2, .int .i64 a3, .int .i64 a4]).alloc (.cells #[.int .u64 a1, .int .u32 b2, .int .i64 b3, .int .i64 b4] 25)) (hq.block _ (((Blk.new w 25 #[.int .u64 a1, .int .u32 a2, .int .i64 a3, .int .i64 a4]).alloc (.cells #[.int .u64 a1, .int .u32 b2, .int .i64 b3, .int .i64 b4] 25))).lt)
  have hb1_1 : Blk w1 (w.heap.size + 1) 25 #[.int .u64 a1, .int .u32 b2, .int .i64 b3, .int .i64 b4] := Blk.same (Blk.new2 w (.cells #[.int .u64 a1, .int .u32 a2, .int .i64 a3, .int .i64 a4] 25) 25 #[.int .u64 a1, .int .u32 b2, .int .i64 b3, .int .i64 b4]) (hq.block _ ((Blk.new2 w (.cells #[.int .u64 a1, .int .u32 a2, .int .i64 a3, .int .i64 a4] 25) 25 #[.int .u64 a1, .int .u32 b2, .int .i64 b3, .int .i64 b4])).lt)
  have hB1 := b0 (ba (ba (Below.refl w.heap.size w) _) _) hq
  clear hq
  have c0_0 : w1.cell? ⟨w.heap.size, 0, none⟩ = some (.int .u64 a1) := hb0_1.cell 0
  have c0_1 : w1.cell? ⟨w.heap.size, 1, none⟩ = some (.int .u32 a2) := hb0_1.cell 1
  have c0_2 : w1.cell? ⟨w.heap.size, 2, none⟩ = some (.int .i64 a3) := hb0_1.cell 2
  have c0_3 : w1.cell? ⟨w.heap.size, 3, none⟩ = some (.int .i64 a4) := hb0_1.cell 3
  have z0 : w.heap.size < w1.heap.size := hb0_1.lt
  have n0 : w.heap.size ≠ w1.heap.size := by omega
  have c1_0 : w1.cell? ⟨(w.heap.size + 1), 0, none⟩ = some (.int .u64 a1) := hb1_1.cell 0
  have c1_1 : w1.cell? ⟨(w.heap.size + 1), 1, none⟩ = some (.int .u32 b2) := hb1_1.cell 1
  have c1_2 : w1.cell? ⟨(w.heap.size + 1), 2, none⟩ = some (.int .i64 b3) := hb1_1.cell 2
  have c1_3 : w1.cell? ⟨(w.heap.size + 1), 3, none⟩ = some (.int .i64 b4) := hb1_1.cell 3
  have z1 : (w.heap.size + 1) < w1.heap.size := hb1_1.lt
  have n1 : (w.heap.size + 1) ≠ w1.heap.size := by omega
  go_wp2_with fail
  refine (H2.out _).mono ?_
  rintro e w2 ⟨rfl, hq⟩
  have hb0_2 : Blk w2 w.heap.size 25 #[.int .u64 a1, .int .u32 a2, .int .i64 a3, .int .i64 a4] := Blk.same hb0_1 (hq.block _ (hb0_1).lt)
  have hb1_2 : Blk w2 (w.heap.size + 1) 25 #[.int .u64 a1, .int .u32 b2, .int .i64 b3, .int .i64 b4] := Blk.same hb1_1 (hq.block _ (hb1_1).lt)
  have hB2 := b0 hB1 hq
  clear hq hb0_1 hb1_1 hB1 c0_0 c0_1 c0_2 c0_3 n0 z0 c1_0 c1_1 c1_2 c1_3 n1 z1
  have c0_0 : w2.cell? ⟨w.heap.size, 0, none⟩ = some (.int .u64 a1) := hb0_2.cell 0
  have c0_1 : w2.cell? ⟨w.heap.size, 1, none⟩ = some (.int .u32 a2) := hb0_2.cell 1
  have c0_2 : w2.cell? ⟨w.heap.size, 2, none⟩ = some (.int .i64 a3) := hb0_2.cell 2
  have c0_3 : w2.cell? ⟨w.heap.size, 3, none⟩ = some (.int .i64 a4) := hb0_2.cell 3
  have z0 : w.heap.size < w2.heap.size := hb0_2.lt
  have n0 : w.heap.size ≠ w2.heap.size := by omega
  have c1_0 : w2.cell? ⟨(w.heap.size + 1), 0, none⟩ = some (.int .u64 a1) := hb1_2.cell 0
  have c1_1 : w2.cell? ⟨(w.heap.size + 1), 1, none⟩ = some (.int .u32 b2) := hb1_2.cell 1
  have c1_2 : w2.cell? ⟨(w.heap.size + 1), 2, none⟩ = some (.int .i64 b3) := hb1_2.cell 2
  have c1_3 : w2.cell? ⟨(w.heap.size + 1), 3, none⟩ = some (.int .i64 b4) := hb1_2.cell 3
  have z1 : (w.heap.size + 1) < w2.heap.size := hb1_2.lt
  have n1 : (w.heap.size + 1) ≠ w2.heap.size := by omega
  go_wp2_with fail
  refine (H3.out _).mono ?_
  rintro e w3 ⟨rfl, hq⟩
  have hb0_3 : Blk w3 w.heap.size 25 #[.int .u64 a1, .int .u32 a2, .int .i64 a3, .int .i64 a4] := Blk.same hb0_2 (hq.block _ (hb0_2).lt)
  have hb1_3 : Blk w3 (w.heap.size + 1) 25 #[.int .u64 a1, .int .u32 b2, .int .i64 b3, .int .i64 b4] := Blk.same hb1_2 (hq.block _ (hb1_2).lt)
  have hB3 := b0 hB2 hq
  clear hq hb0_2 hb1_2 hB2 c0_0 c0_1 c0_2 c0_3 n0 z0 c1_0 c1_1 c1_2 c1_3 n1 z1
  have c0_0 : w3.cell? ⟨w.heap.size, 0, none⟩ = some (.int .u64 a1) := hb0_3.cell 0
  have c0_1 : w3.cell? ⟨w.heap.size, 1, none⟩ = some (.int .u32 a2) := hb0_3.cell 1
  have c0_2 : w3.cell? ⟨w.heap.size, 2, none⟩ = some (.int .i64 a3) := hb0_3.cell 2
  have c0_3 : w3.cell? ⟨w.heap.size, 3, none⟩ = some (.int .i64 a4) := hb0_3.cell 3
  have z0 : w.heap.size < w3.heap.size := hb0_3.lt
  have n0 : w.heap.size ≠ w3.heap.size := by omega
  have c1_0 : w3.cell? ⟨(w.heap.size + 1), 0, none⟩ = some (.int .u64 a1) := hb1_3.cell 0
  have c1_1 : w3.cell? ⟨(w.heap.size + 1), 1, none⟩ = some (.int .u32 b2) := hb1_3.cell 1
  have c1_2 : w3.cell? ⟨(w.heap.size + 1), 2, none⟩ = some (.int .i64 b3) := hb1_3.cell 2
  have c1_3 : w3.cell? ⟨(w.heap.size + 1), 3, none⟩ = some (.int .i64 b4) := hb1_3.cell 3
  have z1 : (w.heap.size + 1) < w3.heap.size := hb1_3.lt
  have n1 : (w.heap.size + 1) ≠ w3.heap.size := by omega
  go_wp2_with fail
  refine (H4.out _).mono ?_
  rintro e w4 ⟨rfl, hq⟩
  have hb0_4 : Blk w4 w.heap.size 25 #[.int .u64 a1, .int .u32 a2, .int .i64 a3, .int .i64 a4] := Blk.same (hb0_3.alloc (.cells #[.int .u64 a1, .int .u32 a2, .int .i64 a3, .int .i64 a4] 25)) (hq.block _ ((hb0_3.alloc (.cells #[.int .u64 a1, .int .u32 a2, .int .i64 a3, .int .i64 a4] 25))).lt)
  have hb1_4 : Blk w4 (w.heap.size + 1) 25 #[.int .u64 a1, .int .u32 b2, .int .i64 b3, .int .i64 b4] := Blk.same (hb1_3.alloc (.cells #[.int .u64 a1, .int .u32 a2, .int .i64 a3, .int .i64 a4] 25)) (hq.block _ ((hb1_3.alloc (.cells #[.int .u64 a1, .int .u32 a2, .int .i64 a3, .int .i64 a4] 25))).lt)
  have hb2_4 : Blk w4 w3.heap.size 25 #[.int .u64 a1, .int .u32 a2, .int .i64 a3, .int .i64 a4] := Blk.same (Blk.new w3 25 #[.int .u64 a1, .int .u32 a2, .int .i64 a3, .int .i64 a4]) (hq.block _ ((Blk.new w3 25 #[.int .u64 a1, .int .u32 a2, .int .i64 a3, .int .i64 a4])).lt)
  have hB4 := b0 (ba hB3 _) hq
  clear hq hb0_3 hb1_3 hB3 c0_0 c0_1 c0_2 c0_3 n0 z0 c1_0 c1_1 c1_2 c1_3 n1 z1
  have c0_0 : w4.cell? ⟨w.heap.size, 0, none⟩ = some (.int .u64 a1) := hb0_4.cell 0
  have c0_1 : w4.cell? ⟨w.heap.size, 1, none⟩ = some (.int .u32 a2) := hb0_4.cell 1
  have c0_2 : w4.cell? ⟨w.heap.size, 2, none⟩ = some (.int .i64 a3) := hb0_4.cell 2
  have c0_3 : w4.cell? ⟨w.heap.size, 3, none⟩ = some (.int .i64 a4) := hb0_4.cell 3
  have z0 : w.heap.size < w4.heap.size := hb0_4.lt
  have n0 : w.heap.size ≠ w4.heap.size := by omega
  have c1_0 : w4.cell? ⟨(w.heap.size + 1), 0, none⟩ = some (.int .u64 a1) := hb1_4.cell 0
  have c1_1 : w4.cell? ⟨(w.heap.size + 1), 1, none⟩ = some (.int .u32 b2) := hb1_4.cell 1
  have c1_2 : w4.cell? ⟨(w.heap.size + 1), 2, none⟩ = some (.int .i64 b3) := hb1_4.cell 2
  have c1_3 : w4.cell? ⟨(w.heap.size + 1), 3, none⟩ = some (.int .i64 b4) := hb1_4.cell 3
  have z1 : (w.heap.size + 1) < w4.heap.size := hb1_4.lt
  have n1 : (w.heap.size + 1) ≠ w4.heap.size := by omega
  have c2_0 : w4.cell? ⟨w3.heap.size, 0, none⟩ = some (.int .u64 a1) := hb2_4.cell 0
  have c2_1 : w4.cell? ⟨w3.heap.size, 1, none⟩ = some (.int .u32 a2) := hb2_4.cell 1
  have c2_2 : w4.cell? ⟨w3.heap.size, 2, none⟩ = some (.int .i64 a3) := hb2_4.cell 2
  have c2_3 : w4.cell? ⟨w3.heap.size, 3, none⟩ = some (.int .i64 a4) := hb2_4.cell 3
  have z2 : w3.heap.size < w4.heap.size := hb2_4.lt
  have n2 : w3.heap.size ≠ w4.heap.size := by omega
  go_wp2_with fail
  refine (H5.out _).mono ?_
  rintro e w5 ⟨rfl, hq⟩
  have hb0_5 : Blk w5 w.heap.size 25 #[.int .u64 a1, .int .u32 a2, .int .i64 a3, .int .i64 a4] := Blk.same (hb0_4.alloc (.cells #[.int .u64 c1, .int .u32 c2, .int .i64 c3, .int .i64 c4] 25)) (hq.block _ ((hb0_4.alloc (.cells #[.int .u64 c1, .int .u32 c2, .int .i64 c3, .int .i64 c4] 25))).lt)
  have hb1_5 : Blk w5 (w.heap.size + 1) 25 #[.int .u64 a1, .int .u32 b2, .int .i64 b3, .int .i64 b4] := Blk.same (hb1_4.alloc (.cells #[.int .u64 c1, .int .u32 c2, .int .i64 c3, .int .i64 c4] 25)) (hq.block _ ((hb1_4.alloc (.cells #[.int .u64 c1, .int .u32 c2, .int .i64 c3, .int .i64 c4] 25))).lt)
  have hb2_5 : Blk w5 w3.heap.size 25 #[.int .u64 a1, .int .u32 a2, .int .i64 a3, .int .i64 a4] := Blk.same (hb2_4.alloc (.cells #[.int .u64 c1, .int .u32 c2, .int .i64 c3, .int .i64 c4] 25)) (hq.block _ ((hb2_4.alloc (.cells #[.int .u64 c1, .int .u32 c2, .int .i64 c3, .int .i64 c4] 25))).lt)
  have hb3_5 : Blk w5 w4.heap.size 25 #[.int .u64 c1, .int .u32 c2, .int .i64 c3, .int .i64 c4] := Blk.same (Blk.new w4 25 #[.int .u64 c1, .int .u32 c2, .int .i64 c3, .int .i64 c4]) (hq.block _ ((Blk.new w4 25 #[.int .u64 c1, .int .u32 c2, .int .i64 c3, .int .i64 c4])).lt)
  have hB5 := b0 (ba hB4 _) hq
  clear hq hb0_4 hb1_4 hb2_4 hB4 c0_0 c0_1 c0_2 c0_3 n0 z0 c1_0 c1_1 c1_2 c1_3 n1 z1 c2_0 c2_1 c2_2 c2_3 n2 z2
  have c0_0 : w5.cell? ⟨w.heap.size, 0, none⟩ = some (.int .u64 a1) := hb0_5.cell 0
  have c0_1 : w5.cell? ⟨w.heap.size, 1, none⟩ = some (.int .u32 a2) := hb0_5.cell 1
  have c0_2 : w5.cell? ⟨w.heap.size, 2, none⟩ = some (.int .i64 a3) := hb0_5.cell 2
  have c0_3 : w5.cell? ⟨w.heap.size, 3, none⟩ = some (.int .i64 a4) := hb0_5.cell 3
  have z0 : w.heap.size < w5.heap.size := hb0_5.lt
  have n0 : w.heap.size ≠ w5.heap.size := by omega
  have c1_0 : w5.cell? ⟨(w.heap.size + 1), 0, none⟩ = some (.int .u64 a1) := hb1_5.cell 0
  have c1_1 : w5.cell? ⟨(w.heap.size + 1), 1, none⟩ = some (.int .u32 b2) := hb1_5.cell 1
  have c1_2 : w5.cell? ⟨(w.heap.size + 1), 2, none⟩ = some (.int .i64 b3) := hb1_5.cell 2
  have c1_3 : w5.cell? ⟨(w.heap.size + 1), 3, none⟩ = some (.int .i64 b4) := hb1_5.cell 3
  have z1 : (w.heap.size + 1) < w5.heap.size := hb1_5.lt
  have n1 : (w.heap.size + 1) ≠ w5.heap.size := by omega
  have c2_0 : w5.cell? ⟨w3.heap.size, 0, none⟩ = some (.int .u64 a1) := hb2_5.cell 0
  have c2_1 : w5.cell? ⟨w3.heap.size, 1, none⟩ = some (.int .u32 a2) := hb2_5.cell 1
  have c2_2 : w5.cell? ⟨w3.heap.size, 2, none⟩ = some (.int .i64 a3) := hb2_5.cell 2
  have c2_3 : w5.cell? ⟨w3.heap.size, 3, none⟩ = some (.int .i64 a4) := hb2_5.cell 3
  have z2 : w3.heap.size < w5.heap.size := hb2_5.lt
  have n2 : w3.heap.size ≠ w5.heap.size := by omega
  have c3_0 : w5.cell? ⟨w4.heap.size, 0, none⟩ = some (.int .u64 c1) := hb3_5.cell 0
  have c3_1 : w5.cell? ⟨w4.heap.size, 1, none⟩ = some (.int .u32 c2) := hb3_5.cell 1
  have c3_2 : w5.cell? ⟨w4.heap.size, 2, none⟩ = some (.int .i64 c3) := hb3_5.cell 2
  have c3_3 : w5.cell? ⟨w4.heap.size, 3, none⟩ = some (.int .i64 c4) := hb3_5.cell 3
  have z3 : w4.heap.size < w5.heap.size := hb3_5.lt
  have n3 : w4.heap.size ≠ w5.heap.size := by omega
  go_wp2_with fail
  refine (HF.out _).mono ?_
  rintro e w6 ⟨rfl, hq⟩
  have hb0_6 : Blk w6 w.heap.size 25 #[.int .u64 a1, .int .u32 a2, .int .i64 a3, .int .i64 a4] := Blk.same hb0_5 (hq.block _ (hb0_5).lt)
  have hb1_6 : Blk w6 (w.heap.size + 1) 25 #[.int .u64 a1, .int .u32 b2, .int .i64 b3, .int .i64 b4] := Blk.same hb1_5 (hq.block _ (hb1_5).lt)
  have hb2_6 : Blk w6 w3.heap.size 25 #[.int .u64 a1, .int .u32 a2, .int .i64 a3, .int .i64 a4] := Blk.same hb2_5 (hq.block _ (hb2_5).lt)
  have hb3_6 : Blk w6 w4.heap.size 25 #[.int .u64 c1, .int .u32 c2, .int .i64 c3, .int .i64 c4] := Blk.same hb3_5 (hq.block _ (hb3_5).lt)
  have hB6 := b0 hB5 hq
  clear hq hb0_5 hb1_5 hb2_5 hb3_5 hB5 c0_0 c0_1 c0_2 c0_3 n0 z0 c1_0 c1_1 c1_2 c1_3 n1 z1 c2_0 c2_1 c2_2 c2_3 n2 z2 c3_0 c3_1 c3_2 c3_3 n3 z3
  have c0_0 : w6.cell? ⟨w.heap.size, 0, none⟩ = some (.int .u64 a1) := hb0_6.cell 0
  have c0_1 : w6.cell? ⟨w.heap.size, 1, none⟩ = some (.int .u32 a2) := hb0_6.cell 1
  have c0_2 : w6.cell? ⟨w.heap.size, 2, none⟩ = some (.int .i64 a3) := hb0_6.cell 2
  have c0_3 : w6.cell? ⟨w.heap.size, 3, none⟩ = some (.int .i64 a4) := hb0_6.cell 3
  have z0 : w.heap.size < w6.heap.size := hb0_6.lt
  have n0 : w.heap.size ≠ w6.heap.size := by omega
  have c1_0 : w6.cell? ⟨(w.heap.size + 1), 0, none⟩ = some (.int .u64 a1) := hb1_6.cell 0
  have c1_1 : w6.cell? ⟨(w.heap.size + 1), 1, none⟩ = some (.int .u32 b2) := hb1_6.cell 1
  have c1_2 : w6.cell? ⟨(w.heap.size + 1), 2, none⟩ = some (.int .i64 b3) := hb1_6.cell 2
  have c1_3 : w6.cell? ⟨(w.heap.size + 1), 3, none⟩ = some (.int .i64 b4) := hb1_6.cell 3
  have z1 : (w.heap.size + 1) < w6.heap.size := hb1_6.lt
  have n1 : (w.heap.size + 1) ≠ w6.heap.size := by omega
  have c2_0 : w6.cell? ⟨w3.heap.size, 0, none⟩ = some (.int .u64 a1) := hb2_6.cell 0
  have c2_1 : w6.cell? ⟨w3.heap.size, 1, none⟩ = some (.int .u32 a2) := hb2_6.cell 1
  have c2_2 : w6.cell? ⟨w3.heap.size, 2, none⟩ = some (.int .i64 a3) := hb2_6.cell 2
  have c2_3 : w6.cell? ⟨w3.heap.size, 3, none⟩ = some (.int .i64 a4) := hb2_6.cell 3
  have z2 : w3.heap.size < w6.heap.size := hb2_6.lt
  have n2 : w3.heap.size ≠ w6.heap.size := by omega
  have c3_0 : w6.cell? ⟨w4.heap.size, 0, none⟩ = some (.int .u64 c1) := hb3_6.cell 0
  have c3_1 : w6.cell? ⟨w4.heap.size, 1, none⟩ = some (.int .u32 c2) := hb3_6.cell 1
  have c3_2 : w6.cell? ⟨w4.heap.size, 2, none⟩ = some (.int .i64 c3) := hb3_6.cell 2
  have c3_3 : w6.cell? ⟨w4.heap.size, 3, none⟩ = some (.int .i64 c4) := hb3_6.cell 3
  have z3 : w4.heap.size < w6.heap.size := hb3_6.lt
  have n3 : w4.heap.size ≠ w6.heap.size := by omega
  go_wp2_with fail
  go_ret
  exact ⟨rfl, hB6⟩
set_option maxRecDepth 100000 in
set_option maxHeartbeats 3200000 in
theorem descBack_dif3_ok (s : ByteArray) (a1 a2 a3 a4 : Int) (b3 b4 : Int) (X Y : ByteArray) (c1 c2 c3 c4 : Int) (w : World) (xy : (X.toList == Y.toList) = false) (ab : (a3 == b3) = false)
    (A1 : ∀ W, Calls Try.prog 11 #[.agg #[.int .u64 a1, .int .u32 a2, .int .i64 a3, .int .i64 a4]] W fun e w' => e = .returned (.tuple #[.string X, .int .i64 0]) ∧ Below W.heap.size W w')
    (A2 : ∀ W, Calls Try.prog 11 #[.agg #[.int .u64 a1, .int .u32 a2, .int .i64 b3, .int .i64 b4]] W fun e w' => e = .returned (.tuple #[.string Y, .int .i64 0]) ∧ Below W.heap.size W w')
    (A3 : ∀ W, Calls Try.prog 9 #[.string X] W fun e w' => e = .returned (.tuple #[.agg #[.int .u64 a1, .int .u32 a2, .int .i64 a3, .int .i64 a4], .int .i64 0]) ∧ Below W.heap.size W w')
    (A4 : ∀ W, Calls Try.prog 9 #[.string s] W fun e w' => e = .returned (.tuple #[.agg #[.int .u64 c1, .int .u32 c2, .int .i64 c3, .int .i64 c4], .int .i64 0]) ∧ Below W.heap.size W w')
    (A5 : ∀ W, Calls Try.prog 11 #[.agg #[.int .u64 c1, .int .u32 c2, .int .i64 c3, .int .i64 c4]] W fun e w' => e = .returned (.tuple #[.string s, .int .i64 0]) ∧ Below W.heap.size W w')
    (AF : ∀ W, Calls Try.prog 13 #[] W fun e w' => e = .returned (.bool true) ∧ Below W.heap.size W w') :
    Calls Try.prog 5 #[.agg #[.int .u64 a1, .int .u32 a2, .int .i64 a3, .int .i64 a4], .agg #[.int .u64 a1, .int .u32 a2, .int .i64 b3, .int .i64 b4], .string s] w fun e w' => e = .returned (.bool true) ∧ Below w.heap.size w w' := by
  have H1 := Lib.hid A1
  have H2 := Lib.hid A2
  have H3 := Lib.hid A3
  have H4 := Lib.hid A4
  have H5 := Lib.hid A5
  have HF := Lib.hid AF
  clear A1 A2 A3 A4 A5 AF
  go_enter Try.func5, Try.ntmps5
  go_wp2_with fail
  refine (H1.out _).mono ?_
  rintro e w1 ⟨rfl, hq⟩
  have hb0_1 : Blk w1 w.heap.size 25 #[.int .u64 a1, .int .u32 a2, .int .i64 a3, .int .i64 a4] := Blk.same ((Blk.new w 25 #[.int .u64 a1, .int .u32 a2, .int .i64 a3, .int .i64 a4]).alloc (.cells #[.int .u64 a1, .int .u32 a2, .int .i64 b3, .int .i64 b4] 25)) (hq.block _ (((Blk.new w 25 #[.int .u64 a1, .int .u32 a2, .int .i64 a3, .int .i64 a4]).alloc (.cells #[.int .u64 a1, .int .u32 a2, .int .i64 b3, .int .i64 b4] 25))).lt)
  have hb1_1 : Blk w1 (w.heap.size + 1) 25 #[.int .u64 a1, .int .u32 a2, .int .i64 b3, .int .i64 b4] := Blk.same (Blk.new2 w (.cells #[.int .u64 a1, .int .u32 a2, .int .i64 a3, .int .i64 a4] 25) 25 #[.int .u64 a1, .int .u32 a2, .int .i64 b3, .int .i64 b4]) (hq.block _ ((Blk.new2 w (.cells #[.int .u64 a1, .int .u32 a2, .int .i64 a3, .int .i64 a4] 25) 25 #[.int .u64 a1, .int .u32 a2, .int .i64 b3, .int .i64 b4])).lt)
  have hB1 := b0 (ba (ba (Below.refl w.heap.size w) _) _) hq
  clear hq
  have c0_0 : w1.cell? ⟨w.heap.size, 0, none⟩ = some (.int .u64 a1) := hb0_1.cell 0
  have c0_1 : w1.cell? ⟨w.heap.size, 1, none⟩ = some (.int .u32 a2) := hb0_1.cell 1
  have c0_2 : w1.cell? ⟨w.heap.size, 2, none⟩ = some (.int .i64 a3) := hb0_1.cell 2
  have c0_3 : w1.cell? ⟨w.heap.size, 3, none⟩ = some (.int .i64 a4) := hb0_1.cell 3
  have z0 : w.heap.size < w1.heap.size := hb0_1.lt
  have n0 : w.heap.size ≠ w1.heap.size := by omega
  have c1_0 : w1.cell? ⟨(w.heap.size + 1), 0, none⟩ = some (.int .u64 a1) := hb1_1.cell 0
  have c1_1 : w1.cell? ⟨(w.heap.size + 1), 1, none⟩ = some (.int .u32 a2) := hb1_1.cell 1
  have c1_2 : w1.cell? ⟨(w.heap.size + 1), 2, none⟩ = some (.int .i64 b3) := hb1_1.cell 2
  have c1_3 : w1.cell? ⟨(w.heap.size + 1), 3, none⟩ = some (.int .i64 b4) := hb1_1.cell 3
  have z1 : (w.heap.size + 1) < w1.heap.size := hb1_1.lt
  have n1 : (w.heap.size + 1) ≠ w1.heap.size := by omega
  go_wp2_with fail
  refine (H2.out _).mono ?_
  rintro e w2 ⟨rfl, hq⟩
  have hb0_2 : Blk w2 w.heap.size 25 #[.int .u64 a1, .int .u32 a2, .int .i64 a3, .int .i64 a4] := Blk.same hb0_1 (hq.block _ (hb0_1).lt)
  have hb1_2 : Blk w2 (w.heap.size + 1) 25 #[.int .u64 a1, .int .u32 a2, .int .i64 b3, .int .i64 b4] := Blk.same hb1_1 (hq.block _ (hb1_1).lt)
  have hB2 := b0 hB1 hq
  clear hq hb0_1 hb1_1 hB1 c0_0 c0_1 c0_2 c0_3 n0 z0 c1_0 c1_1 c1_2 c1_3 n1 z1
  have c0_0 : w2.cell? ⟨w.heap.size, 0, none⟩ = some (.int .u64 a1) := hb0_2.cell 0
  have c0_1 : w2.cell? ⟨w.heap.size, 1, none⟩ = some (.int .u32 a2) := hb0_2.cell 1
  have c0_2 : w2.cell? ⟨w.heap.size, 2, none⟩ = some (.int .i64 a3) := hb0_2.cell 2
  have c0_3 : w2.cell? ⟨w.heap.size, 3, none⟩ = some (.int .i64 a4) := hb0_2.cell 3
  have z0 : w.heap.size < w2.heap.size := hb0_2.lt
  have n0 : w.heap.size ≠ w2.heap.size := by omega
  have c1_0 : w2.cell? ⟨(w.heap.size + 1), 0, none⟩ = some (.int .u64 a1) := hb1_2.cell 0
  have c1_1 : w2.cell? ⟨(w.heap.size + 1), 1, none⟩ = some (.int .u32 a2) := hb1_2.cell 1
  have c1_2 : w2.cell? ⟨(w.heap.size + 1), 2, none⟩ = some (.int .i64 b3) := hb1_2.cell 2
  have c1_3 : w2.cell? ⟨(w.heap.size + 1), 3, none⟩ = some (.int .i64 b4) := hb1_2.cell 3
  have z1 : (w.heap.size + 1) < w2.heap.size := hb1_2.lt
  have n1 : (w.heap.size + 1) ≠ w2.heap.size := by omega
  go_wp2_with fail
  refine (H3.out _).mono ?_
  rintro e w3 ⟨rfl, hq⟩
  have hb0_3 : Blk w3 w.heap.size 25 #[.int .u64 a1, .int .u32 a2, .int .i64 a3, .int .i64 a4] := Blk.same hb0_2 (hq.block _ (hb0_2).lt)
  have hb1_3 : Blk w3 (w.heap.size + 1) 25 #[.int .u64 a1, .int .u32 a2, .int .i64 b3, .int .i64 b4] := Blk.same hb1_2 (hq.block _ (hb1_2).lt)
  have hB3 := b0 hB2 hq
  clear hq hb0_2 hb1_2 hB2 c0_0 c0_1 c0_2 c0_3 n0 z0 c1_0 c1_1 c1_2 c1_3 n1 z1
  have c0_0 : w3.cell? ⟨w.heap.size, 0, none⟩ = some (.int .u64 a1) := hb0_3.cell 0
  have c0_1 : w3.cell? ⟨w.heap.size, 1, none⟩ = some (.int .u32 a2) := hb0_3.cell 1
  have c0_2 : w3.cell? ⟨w.heap.size, 2, none⟩ = some (.int .i64 a3) := hb0_3.cell 2
  have c0_3 : w3.cell? ⟨w.heap.size, 3, none⟩ = some (.int .i64 a4) := hb0_3.cell 3
  have z0 : w.heap.size < w3.heap.size := hb0_3.lt
  have n0 : w.heap.size ≠ w3.heap.size := by omega
  have c1_0 : w3.cell? ⟨(w.heap.size + 1), 0, none⟩ = some (.int .u64 a1) := hb1_3.cell 0
  have c1_1 : w3.cell? ⟨(w.heap.size + 1), 1, none⟩ = some (.int .u32 a2) := hb1_3.cell 1
  have c1_2 : w3.cell? ⟨(w.heap.size + 1), 2, none⟩ = some (.int .i64 b3) := hb1_3.cell 2
  have c1_3 : w3.cell? ⟨(w.heap.size + 1), 3, none⟩ = some (.int .i64 b4) := hb1_3.cell 3
  have z1 : (w.heap.size + 1) < w3.heap.size := hb1_3.lt
  have n1 : (w.heap.size + 1) ≠ w3.heap.size := by omega
  go_wp2_with fail
  refine (H4.out _).mono ?_
  rintro e w4 ⟨rfl, hq⟩
  have hb0_4 : Blk w4 w.heap.size 25 #[.int .u64 a1, .int .u32 a2, .int .i64 a3, .int .i64 a4] := Blk.same (hb0_3.alloc (.cells #[.int .u64 a1, .int .u32 a2, .int .i64 a3, .int .i64 a4] 25)) (hq.block _ ((hb0_3.alloc (.cells #[.int .u64 a1, .int .u32 a2, .int .i64 a3, .int .i64 a4] 25))).lt)
  have hb1_4 : Blk w4 (w.heap.size + 1) 25 #[.int .u64 a1, .int .u32 a2, .int .i64 b3, .int .i64 b4] := Blk.same (hb1_3.alloc (.cells #[.int .u64 a1, .int .u32 a2, .int .i64 a3, .int .i64 a4] 25)) (hq.block _ ((hb1_3.alloc (.cells #[.int .u64 a1, .int .u32 a2, .int .i64 a3, .int .i64 a4] 25))).lt)
  have hb2_4 : Blk w4 w3.heap.size 25 #[.int .u64 a1, .int .u32 a2, .int .i64 a3, .int .i64 a4] := Blk.same (Blk.new w3 25 #[.int .u64 a1, .int .u32 a2, .int .i64 a3, .int .i64 a4]) (hq.block _ ((Blk.new w3 25 #[.int .u64 a1, .int .u32 a2, .int .i64 a3, .int .i64 a4])).lt)
  have hB4 := b0 (ba hB3 _) hq
  clear hq hb0_3 hb1_3 hB3 c0_0 c0_1 c0_2 c0_3 n0 z0 c1_0 c1_1 c1_2 c1_3 n1 z1
  have c0_0 : w4.cell? ⟨w.heap.size, 0, none⟩ = some (.int .u64 a1) := hb0_4.cell 0
  have c0_1 : w4.cell? ⟨w.heap.size, 1, none⟩ = some (.int .u32 a2) := hb0_4.cell 1
  have c0_2 : w4.cell? ⟨w.heap.size, 2, none⟩ = some (.int .i64 a3) := hb0_4.cell 2
  have c0_3 : w4.cell? ⟨w.heap.size, 3, none⟩ = some (.int .i64 a4) := hb0_4.cell 3
  have z0 : w.heap.size < w4.heap.size := hb0_4.lt
  have n0 : w.heap.size ≠ w4.heap.size := by omega
  have c1_0 : w4.cell? ⟨(w.heap.size + 1), 0, none⟩ = some (.int .u64 a1) := hb1_4.cell 0
  have c1_1 : w4.cell? ⟨(w.heap.size + 1), 1, none⟩ = some (.int .u32 a2) := hb1_4.cell 1
  have c1_2 : w4.cell? ⟨(w.heap.size + 1), 2, none⟩ = some (.int .i64 b3) := hb1_4.cell 2
  have c1_3 : w4.cell? ⟨(w.heap.size + 1), 3, none⟩ = some (.int .i64 b4) := hb1_4.cell 3
  have z1 : (w.heap.size + 1) < w4.heap.size := hb1_4.lt
  have n1 : (w.heap.size + 1) ≠ w4.heap.size := by omega
  have c2_0 : w4.cell? ⟨w3.heap.size, 0, none⟩ = some (.int .u64 a1) := hb2_4.cell 0
  have c2_1 : w4.cell? ⟨w3.heap.size, 1, none⟩ = some (.int .u32 a2) := hb2_4.cell 1
  have c2_2 : w4.cell? ⟨w3.heap.size, 2, none⟩ = some (.int .i64 a3) := hb2_4.cell 2
  have c2_3 : w4.cell? ⟨w3.heap.size, 3, none⟩ = some (.int .i64 a4) := hb2_4.cell 3
  have z2 : w3.heap.size < w4.heap.size := hb2_4.lt
  have n2 : w3.heap.size ≠ w4.heap.size := by omega
  go_wp2_with fail
  refine (H5.out _).mono ?_
  rintro e w5 ⟨rfl, hq⟩
  have hb0_5 : Blk w5 w.heap.size 25 #[.int .u64 a1, .int .u32 a2, .int .i64 a3, .int .i64 a4] := Blk.same (hb0_4.alloc (.cells #[.int .u64 c1, .int .u32 c2, .int .i64 c3, .int .i64 c4] 25)) (hq.block _ ((hb0_4.alloc (.cells #[.int .u64 c1, .int .u32 c2, .int .i64 c3, .int .i64 c4] 25))).lt)
  have hb1_5 : Blk w5 (w.heap.size + 1) 25 #[.int .u64 a1, .int .u32 a2, .int .i64 b3, .int .i64 b4] := Blk.same (hb1_4.alloc (.cells #[.int .u64 c1, .int .u32 c2, .int .i64 c3, .int .i64 c4] 25)) (hq.block _ ((hb1_4.alloc (.cells #[.int .u64 c1, .int .u32 c2, .int .i64 c3, .int .i64 c4] 25))).lt)
  have hb2_5 : Blk w5 w3.heap.size 25 #[.int .u64 a1, .int .u32 a2, .int .i64 a3, .int .i64 a4] := Blk.same (hb2_4.alloc (.cells #[.int .u64 c1, .int .u32 c2, .int .i64 c3, .int .i64 c4] 25)) (hq.block _ ((hb2_4.alloc (.cells #[.int .u64 c1, .int .u32 c2, .int .i64 c3, .int .i64 c4] 25))).lt)
  have hb3_5 : Blk w5 w4.heap.size 25 #[.int .u64 c1, .int .u32 c2, .int .i64 c3, .int .i64 c4] := Blk.same (Blk.new w4 25 #[.int .u64 c1, .int .u32 c2, .int .i64 c3, .int .i64 c4]) (hq.block _ ((Blk.new w4 25 #[.int .u64 c1, .int .u32 c2, .int .i64 c3, .int .i64 c4])).lt)
  have hB5 := b0 (ba hB4 _) hq
  clear hq hb0_4 hb1_4 hb2_4 hB4 c0_0 c0_1 c0_2 c0_3 n0 z0 c1_0 c1_1 c1_2 c1_3 n1 z1 c2_0 c2_1 c2_2 c2_3 n2 z2
  have c0_0 : w5.cell? ⟨w.heap.size, 0, none⟩ = some (.int .u64 a1) := hb0_5.cell 0
  have c0_1 : w5.cell? ⟨w.heap.size, 1, none⟩ = some (.int .u32 a2) := hb0_5.cell 1
  have c0_2 : w5.cell? ⟨w.heap.size, 2, none⟩ = some (.int .i64 a3) := hb0_5.cell 2
  have c0_3 : w5.cell? ⟨w.heap.size, 3, none⟩ = some (.int .i64 a4) := hb0_5.cell 3
  have z0 : w.heap.size < w5.heap.size := hb0_5.lt
  have n0 : w.heap.size ≠ w5.heap.size := by omega
  have c1_0 : w5.cell? ⟨(w.heap.size + 1), 0, none⟩ = some (.int .u64 a1) := hb1_5.cell 0
  have c1_1 : w5.cell? ⟨(w.heap.size + 1), 1, none⟩ = some (.int .u32 a2) := hb1_5.cell 1
  have c1_2 : w5.cell? ⟨(w.heap.size + 1), 2, none⟩ = some (.int .i64 b3) := hb1_5.cell 2
  have c1_3 : w5.cell? ⟨(w.heap.size + 1), 3, none⟩ = some (.int .i64 b4) := hb1_5.cell 3
  have z1 : (w.heap.size + 1) < w5.heap.size := hb1_5.lt
  have n1 : (w.heap.size + 1) ≠ w5.heap.size := by omega
  have c2_0 : w5.cell? ⟨w3.heap.size, 0, none⟩ = some (.int .u64 a1) := hb2_5.cell 0
  have c2_1 : w5.cell? ⟨w3.heap.size, 1, none⟩ = some (.int .u32 a2) := hb2_5.cell 1
  have c2_2 : w5.cell? ⟨w3.heap.size, 2, none⟩ = some (.int .i64 a3) := hb2_5.cell 2
  have c2_3 : w5.cell? ⟨w3.heap.size, 3, none⟩ = some (.int .i64 a4) := hb2_5.cell 3
  have z2 : w3.heap.size < w5.heap.size := hb2_5.lt
  have n2 : w3.heap.size ≠ w5.heap.size := by omega
  have c3_0 : w5.cell? ⟨w4.heap.size, 0, none⟩ = some (.int .u64 c1) := hb3_5.cell 0
  have c3_1 : w5.cell? ⟨w4.heap.size, 1, none⟩ = some (.int .u32 c2) := hb3_5.cell 1
  have c3_2 : w5.cell? ⟨w4.heap.size, 2, none⟩ = some (.int .i64 c3) := hb3_5.cell 2
  have c3_3 : w5.cell? ⟨w4.heap.size, 3, none⟩ = some (.int .i64 c4) := hb3_5.cell 3
  have z3 : w4.heap.size < w5.heap.size := hb3_5.lt
  have n3 : w4.heap.size ≠ w5.heap.size := by omega
  go_wp2_with fail
  refine (HF.out _).mono ?_
  rintro e w6 ⟨rfl, hq⟩
  have hb0_6 : Blk w6 w.heap.size 25 #[.int .u64 a1, .int .u32 a2, .int .i64 a3, .int .i64 a4] := Blk.same hb0_5 (hq.block _ (hb0_5).lt)
  have hb1_6 : Blk w6 (w.heap.size + 1) 25 #[.int .u64 a1, .int .u32 a2, .int .i64 b3, .int .i64 b4] := Blk.same hb1_5 (hq.block _ (hb1_5).lt)
  have hb2_6 : Blk w6 w3.heap.size 25 #[.int .u64 a1, .int .u32 a2, .int .i64 a3, .int .i64 a4] := Blk.same hb2_5 (hq.block _ (hb2_5).lt)
  have hb3_6 : Blk w6 w4.heap.size 25 #[.int .u64 c1, .int .u32 c2, .int .i64 c3, .int .i64 c4] := Blk.same hb3_5 (hq.block _ (hb3_5).lt)
  have hB6 := b0 hB5 hq
  clear hq hb0_5 hb1_5 hb2_5 hb3_5 hB5 c0_0 c0_1 c0_2 c0_3 n0 z0 c1_0 c1_1 c1_2 c1_3 n1 z1 c2_0 c2_1 c2_2 c2_3 n2 z2 c3_0 c3_1 c3_2 c3_3 n3 z3
  have c0_0 : w6.cell? ⟨w.heap.size, 0, none⟩ = some (.int .u64 a1) := hb0_6.cell 0
  have c0_1 : w6.cell? ⟨w.heap.size, 1, none⟩ = some (.int .u32 a2) := hb0_6.cell 1
  have c0_2 : w6.cell? ⟨w.heap.size, 2, none⟩ = some (.int .i64 a3) := hb0_6.cell 2
  have c0_3 : w6.cell? ⟨w.heap.size, 3, none⟩ = some (.int .i64 a4) := hb0_6.cell 3
  have z0 : w.heap.size < w6.heap.size := hb0_6.lt
  have n0 : w.heap.size ≠ w6.heap.size := by omega
  have c1_0 : w6.cell? ⟨(w.heap.size + 1), 0, none⟩ = some (.int .u64 a1) := hb1_6.cell 0
  have c1_1 : w6.cell? ⟨(w.heap.size + 1), 1, none⟩ = some (.int .u32 a2) := hb1_6.cell 1
  have c1_2 : w6.cell? ⟨(w.heap.size + 1), 2, none⟩ = some (.int .i64 b3) := hb1_6.cell 2
  have c1_3 : w6.cell? ⟨(w.heap.size + 1), 3, none⟩ = some (.int .i64 b4) := hb1_6.cell 3
  have z1 : (w.heap.size + 1) < w6.heap.size := hb1_6.lt
  have n1 : (w.heap.size + 1) ≠ w6.heap.size := by omega
  have c2_0 : w6.cell? ⟨w3.heap.size, 0, none⟩ = some (.int .u64 a1) := hb2_6.cell 0
  have c2_1 : w6.cell? ⟨w3.heap.size, 1, none⟩ = some (.int .u32 a2) := hb2_6.cell 1
  have c2_2 : w6.cell? ⟨w3.heap.size, 2, none⟩ = some (.int .i64 a3) := hb2_6.cell 2
  have c2_3 : w6.cell? ⟨w3.heap.size, 3, none⟩ = some (.int .i64 a4) := hb2_6.cell 3
  have z2 : w3.heap.size < w6.heap.size := hb2_6.lt
  have n2 : w3.heap.size ≠ w6.heap.size := by omega
  have c3_0 : w6.cell? ⟨w4.heap.size, 0, none⟩ = some (.int .u64 c1) := hb3_6.cell 0
  have c3_1 : w6.cell? ⟨w4.heap.size, 1, none⟩ = some (.int .u32 c2) := hb3_6.cell 1
  have c3_2 : w6.cell? ⟨w4.heap.size, 2, none⟩ = some (.int .i64 c3) := hb3_6.cell 2
  have c3_3 : w6.cell? ⟨w4.heap.size, 3, none⟩ = some (.int .i64 c4) := hb3_6.cell 3
  have z3 : w4.heap.size < w6.heap.size := hb3_6.lt
  have n3 : w4.heap.size ≠ w6.heap.size := by omega
  go_wp2_with fail
  go_ret
  exact ⟨rfl, hB6⟩
set_option maxRecDepth 100000 in
set_option maxHeartbeats 3200000 in
theorem descBack_dif4_ok (s : ByteArray) (a1 a2 a3 a4 : Int) (b4 : Int) (X Y : ByteArray) (c1 c2 c3 c4 : Int) (w : World) (xy : (X.toList == Y.toList) = false) (ab : (a4 == b4) = false)
    (A1 : ∀ W, Calls Try.prog 11 #[.agg #[.int .u64 a1, .int .u32 a2, .int .i64 a3, .int .i64 a4]] W fun e w' => e = .returned (.tuple #[.string X, .int .i64 0]) ∧ Below W.heap.size W w')
    (A2 : ∀ W, Calls Try.prog 11 #[.agg #[.int .u64 a1, .int .u32 a2, .int .i64 a3, .int .i64 b4]] W fun e w' => e = .returned (.tuple #[.string Y, .int .i64 0]) ∧ Below W.heap.size W w')
    (A3 : ∀ W, Calls Try.prog 9 #[.string X] W fun e w' => e = .returned (.tuple #[.agg #[.int .u64 a1, .int .u32 a2, .int .i64 a3, .int .i64 a4], .int .i64 0]) ∧ Below W.heap.size W w')
    (A4 : ∀ W, Calls Try.prog 9 #[.string s] W fun e w' => e = .returned (.tuple #[.agg #[.int .u64 c1, .int .u32 c2, .int .i64 c3, .int .i64 c4], .int .i64 0]) ∧ Below W.heap.size W w')
    (A5 : ∀ W, Calls Try.prog 11 #[.agg #[.int .u64 c1, .int .u32 c2, .int .i64 c3, .int .i64 c4]] W fun e w' => e = .returned (.tuple #[.string s, .int .i64 0]) ∧ Below W.heap.size W w')
    (AF : ∀ W, Calls Try.prog 13 #[] W fun e w' => e = .returned (.bool true) ∧ Below W.heap.size W w') :
    Calls Try.prog 5 #[.agg #[.int .u64 a1, .int .u32 a2, .int .i64 a3, .int .i64 a4], .agg #[.int .u64 a1, .int .u32 a2, .int .i64 a3, .int .i64 b4], .string s] w fun e w' => e = .returned (.bool true) ∧ Below w.heap.size w w' := by
  have H1 := Lib.hid A1
  have H2 := Lib.hid A2
  have H3 := Lib.hid A3
  have H4 := Lib.hid A4
  have H5 := Lib.hid A5
  have HF := Lib.hid AF
  clear A1 A2 A3 A4 A5 AF
  go_enter Try.func5, Try.ntmps5
  go_wp2_with fail
  refine (H1.out _).mono ?_
  rintro e w1 ⟨rfl, hq⟩
  have hb0_1 : Blk w1 w.heap.size 25 #[.int .u64 a1, .int .u32 a2, .int .i64 a3, .int .i64 a4] := Blk.same ((Blk.new w 25 #[.int .u64 a1, .int .u32 a2, .int .i64 a3, .int .i64 a4]).alloc (.cells #[.int .u64 a1, .int .u32 a2, .int .i64 a3, .int .i64 b4] 25)) (hq.block _ (((Blk.new w 25 #[.int .u64 a1, .int .u32 a2, .int .i64 a3, .int .i64 a4]).alloc (.cells #[.int .u64 a1, .int .u32 a2, .int .i64 a3, .int .i64 b4] 25))).lt)
  have hb1_1 : Blk w1 (w.heap.size + 1) 25 #[.int .u64 a1, .int .u32 a2, .int .i64 a3, .int .i64 b4] := Blk.same (Blk.new2 w (.cells #[.int .u64 a1, .int .u32 a2, .int .i64 a3, .int .i64 a4] 25) 25 #[.int .u64 a1, .int .u32 a2, .int .i64 a3, .int .i64 b4]) (hq.block _ ((Blk.new2 w (.cells #[.int .u64 a1, .int .u32 a2, .int .i64 a3, .int .i64 a4] 25) 25 #[.int .u64 a1, .int .u32 a2, .int .i64 a3, .int .i64 b4])).lt)
  have hB1 := b0 (ba (ba (Below.refl w.heap.size w) _) _) hq
  clear hq
  have c0_0 : w1.cell? ⟨w.heap.size, 0, none⟩ = some (.int .u64 a1) := hb0_1.cell 0
  have c0_1 : w1.cell? ⟨w.heap.size, 1, none⟩ = some (.int .u32 a2) := hb0_1.cell 1
  have c0_2 : w1.cell? ⟨w.heap.size, 2, none⟩ = some (.int .i64 a3) := hb0_1.cell 2
  have c0_3 : w1.cell? ⟨w.heap.size, 3, none⟩ = some (.int .i64 a4) := hb0_1.cell 3
  have z0 : w.heap.size < w1.heap.size := hb0_1.lt
  have n0 : w.heap.size ≠ w1.heap.size := by omega
  have c1_0 : w1.cell? ⟨(w.heap.size + 1), 0, none⟩ = some (.int .u64 a1) := hb1_1.cell 0
  have c1_1 : w1.cell? ⟨(w.heap.size + 1), 1, none⟩ = some (.int .u32 a2) := hb1_1.cell 1
  have c1_2 : w1.cell? ⟨(w.heap.size + 1), 2, none⟩ = some (.int .i64 a3) := hb1_1.cell 2
  have c1_3 : w1.cell? ⟨(w.heap.size + 1), 3, none⟩ = some (.int .i64 b4) := hb1_1.cell 3
  have z1 : (w.heap.size + 1) < w1.heap.size := hb1_1.lt
  have n1 : (w.heap.size + 1) ≠ w1.heap.size := by omega
  go_wp2_with fail
  refine (H2.out _).mono ?_
  rintro e w2 ⟨rfl, hq⟩
  have hb0_2 : Blk w2 w.heap.size 25 #[.int .u64 a1, .int .u32 a2, .int .i64 a3, .int .i64 a4] := Blk.same hb0_1 (hq.block _ (hb0_1).lt)
  have hb1_2 : Blk w2 (w.heap.size + 1) 25 #[.int .u64 a1, .int .u32 a2, .int .i64 a3, .int .i64 b4] := Blk.same hb1_1 (hq.block _ (hb1_1).lt)
  have hB2 := b0 hB1 hq
  clear hq hb0_1 hb1_1 hB1 c0_0 c0_1 c0_2 c0_3 n0 z0 c1_0 c1_1 c1_2 c1_3 n1 z1
  have c0_0 : w2.cell? ⟨w.heap.size, 0, none⟩ = some (.int .u64 a1) := hb0_2.cell 0
  have c0_1 : w2.cell? ⟨w.heap.size, 1, none⟩ = some (.int .u32 a2) := hb0_2.cell 1
  have c0_2 : w2.cell? ⟨w.heap.size, 2, none⟩ = some (.int .i64 a3) := hb0_2.cell 2
  have c0_3 : w2.cell? ⟨w.heap.size, 3, none⟩ = some (.int .i64 a4) := hb0_2.cell 3
  have z0 : w.heap.size < w2.heap.size := hb0_2.lt
  have n0 : w.heap.size ≠ w2.heap.size := by omega
  have c1_0 : w2.cell? ⟨(w.heap.size + 1), 0, none⟩ = some (.int .u64 a1) := hb1_2.cell 0
  have c1_1 : w2.cell? ⟨(w.heap.size + 1), 1, none⟩ = some (.int .u32 a2) := hb1_2.cell 1
  have c1_2 : w2.cell? ⟨(w.heap.size + 1), 2, none⟩ = some (.int .i64 a3) := hb1_2.cell 2
  have c1_3 : w2.cell? ⟨(w.heap.size + 1), 3, none⟩ = some (.int .i64 b4) := hb1_2.cell 3
  have z1 : (w.heap.size + 1) < w2.heap.size := hb1_2.lt
  have n1 : (w.heap.size + 1) ≠ w2.heap.size := by omega
  go_wp2_with fail
  refine (H3.out _).mono ?_
  rintro e w3 ⟨rfl, hq⟩
  have hb0_3 : Blk w3 w.heap.size 25 #[.int .u64 a1, .int .u32 a2, .int .i64 a3, .int .i64 a4] := Blk.same hb0_2 (hq.block _ (hb0_2).lt)
  have hb1_3 : Blk w3 (w.heap.size + 1) 25 #[.int .u64 a1, .int .u32 a2, .int .i64 a3, .int .i64 b4] := Blk.same hb1_2 (hq.block _ (hb1_2).lt)
  have hB3 := b0 hB2 hq
  clear hq hb0_2 hb1_2 hB2 c0_0 c0_1 c0_2 c0_3 n0 z0 c1_0 c1_1 c1_2 c1_3 n1 z1
  have c0_0 : w3.cell? ⟨w.heap.size, 0, none⟩ = some (.int .u64 a1) := hb0_3.cell 0
  have c0_1 : w3.cell? ⟨w.heap.size, 1, none⟩ = some (.int .u32 a2) := hb0_3.cell 1
  have c0_2 : w3.cell? ⟨w.heap.size, 2, none⟩ = some (.int .i64 a3) := hb0_3.cell 2
  have c0_3 : w3.cell? ⟨w.heap.size, 3, none⟩ = some (.int .i64 a4) := hb0_3.cell 3
  have z0 : w.heap.size < w3.heap.size := hb0_3.lt
  have n0 : w.heap.size ≠ w3.heap.size := by omega
  have c1_0 : w3.cell? ⟨(w.heap.size + 1), 0, none⟩ = some (.int .u64 a1) := hb1_3.cell 0
  have c1_1 : w3.cell? ⟨(w.heap.size + 1), 1, none⟩ = some (.int .u32 a2) := hb1_3.cell 1
  have c1_2 : w3.cell? ⟨(w.heap.size + 1), 2, none⟩ = some (.int .i64 a3) := hb1_3.cell 2
  have c1_3 : w3.cell? ⟨(w.heap.size + 1), 3, none⟩ = some (.int .i64 b4) := hb1_3.cell 3
  have z1 : (w.heap.size + 1) < w3.heap.size := hb1_3.lt
  have n1 : (w.heap.size + 1) ≠ w3.heap.size := by omega
  go_wp2_with fail
  refine (H4.out _).mono ?_
  rintro e w4 ⟨rfl, hq⟩
  have hb0_4 : Blk w4 w.heap.size 25 #[.int .u64 a1, .int .u32 a2, .int .i64 a3, .int .i64 a4] := Blk.same (hb0_3.alloc (.cells #[.int .u64 a1, .int .u32 a2, .int .i64 a3, .int .i64 a4] 25)) (hq.block _ ((hb0_3.alloc (.cells #[.int .u64 a1, .int .u32 a2, .int .i64 a3, .int .i64 a4] 25))).lt)
  have hb1_4 : Blk w4 (w.heap.size + 1) 25 #[.int .u64 a1, .int .u32 a2, .int .i64 a3, .int .i64 b4] := Blk.same (hb1_3.alloc (.cells #[.int .u64 a1, .int .u32 a2, .int .i64 a3, .int .i64 a4] 25)) (hq.block _ ((hb1_3.alloc (.cells #[.int .u64 a1, .int .u32 a2, .int .i64 a3, .int .i64 a4] 25))).lt)
  have hb2_4 : Blk w4 w3.heap.size 25 #[.int .u64 a1, .int .u32 a2, .int .i64 a3, .int .i64 a4] := Blk.same (Blk.new w3 25 #[.int .u64 a1, .int .u32 a2, .int .i64 a3, .int .i64 a4]) (hq.block _ ((Blk.new w3 25 #[.int .u64 a1, .int .u32 a2, .int .i64 a3, .int .i64 a4])).lt)
  have hB4 := b0 (ba hB3 _) hq
  clear hq hb0_3 hb1_3 hB3 c0_0 c0_1 c0_2 c0_3 n0 z0 c1_0 c1_1 c1_2 c1_3 n1 z1
  have c0_0 : w4.cell? ⟨w.heap.size, 0, none⟩ = some (.int .u64 a1) := hb0_4.cell 0
  have c0_1 : w4.cell? ⟨w.heap.size, 1, none⟩ = some (.int .u32 a2) := hb0_4.cell 1
  have c0_2 : w4.cell? ⟨w.heap.size, 2, none⟩ = some (.int .i64 a3) := hb0_4.cell 2
  have c0_3 : w4.cell? ⟨w.heap.size, 3, none⟩ = some (.int .i64 a4) := hb0_4.cell 3
  have z0 : w.heap.size < w4.heap.size := hb0_4.lt
  have n0 : w.heap.size ≠ w4.heap.size := by omega
  have c1_0 : w4.cell? ⟨(w.heap.size + 1), 0, none⟩ = some (.int .u64 a1) := hb1_4.cell 0
  have c1_1 : w4.cell? ⟨(w.heap.size + 1), 1, none⟩ = some (.int .u32 a2) := hb1_4.cell 1
  have c1_2 : w4.cell? ⟨(w.heap.size + 1), 2, none⟩ = some (.int .i64 a3) := hb1_4.cell 2
  have c1_3 : w4.cell? ⟨(w.heap.size + 1), 3, none⟩ = some (.int .i64 b4) := hb1_4.cell 3
  have z1 : (w.heap.size + 1) < w4.heap.size := hb1_4.lt
  have n1 : (w.heap.size + 1) ≠ w4.heap.size := by omega
  have c2_0 : w4.cell? ⟨w3.heap.size, 0, none⟩ = some (.int .u64 a1) := hb2_4.cell 0
  have c2_1 : w4.cell? ⟨w3.heap.size, 1, none⟩ = some (.int .u32 a2) := hb2_4.cell 1
  have c2_2 : w4.cell? ⟨w3.heap.size, 2, none⟩ = some (.int .i64 a3) := hb2_4.cell 2
  have c2_3 : w4.cell? ⟨w3.heap.size, 3, none⟩ = some (.int .i64 a4) := hb2_4.cell 3
  have z2 : w3.heap.size < w4.heap.size := hb2_4.lt
  have n2 : w3.heap.size ≠ w4.heap.size := by omega
  go_wp2_with fail
  refine (H5.out _).mono ?_
  rintro e w5 ⟨rfl, hq⟩
  have hb0_5 : Blk w5 w.heap.size 25 #[.int .u64 a1, .int .u32 a2, .int .i64 a3, .int .i64 a4] := Blk.same (hb0_4.alloc (.cells #[.int .u64 c1, .int .u32 c2, .int .i64 c3, .int .i64 c4] 25)) (hq.block _ ((hb0_4.alloc (.cells #[.int .u64 c1, .int .u32 c2, .int .i64 c3, .int .i64 c4] 25))).lt)
  have hb1_5 : Blk w5 (w.heap.size + 1) 25 #[.int .u64 a1, .int .u32 a2, .int .i64 a3, .int .i64 b4] := Blk.same (hb1_4.alloc (.cells #[.int .u64 c1, .int .u32 c2, .int .i64 c3, .int .i64 c4] 25)) (hq.block _ ((hb1_4.alloc (.cells #[.int .u64 c1, .int .u32 c2, .int .i64 c3, .int .i64 c4] 25))).lt)
  have hb2_5 : Blk w5 w3.heap.size 25 #[.int .u64 a1, .int .u32 a2, .int .i64 a3, .int .i64 a4] := Blk.same (hb2_4.alloc (.cells #[.int .u64 c1, .int .u32 c2, .int .i64 c3, .int .i64 c4] 25)) (hq.block _ ((hb2_4.alloc (.cells #[.int .u64 c1, .int .u32 c2, .int .i64 c3, .int .i64 c4] 25))).lt)
  have hb3_5 : Blk w5 w4.heap.size 25 #[.int .u64 c1, .int .u32 c2, .int .i64 c3, .int .i64 c4] := Blk.same (Blk.new w4 25 #[.int .u64 c1, .int .u32 c2, .int .i64 c3, .int .i64 c4]) (hq.block _ ((Blk.new w4 25 #[.int .u64 c1, .int .u32 c2, .int .i64 c3, .int .i64 c4])).lt)
  have hB5 := b0 (ba hB4 _) hq
  clear hq hb0_4 hb1_4 hb2_4 hB4 c0_0 c0_1 c0_2 c0_3 n0 z0 c1_0 c1_1 c1_2 c1_3 n1 z1 c2_0 c2_1 c2_2 c2_3 n2 z2
  have c0_0 : w5.cell? ⟨w.heap.size, 0, none⟩ = some (.int .u64 a1) := hb0_5.cell 0
  have c0_1 : w5.cell? ⟨w.heap.size, 1, none⟩ = some (.int .u32 a2) := hb0_5.cell 1
  have c0_2 : w5.cell? ⟨w.heap.size, 2, none⟩ = some (.int .i64 a3) := hb0_5.cell 2
  have c0_3 : w5.cell? ⟨w.heap.size, 3, none⟩ = some (.int .i64 a4) := hb0_5.cell 3
  have z0 : w.heap.size < w5.heap.size := hb0_5.lt
  have n0 : w.heap.size ≠ w5.heap.size := by omega
  have c1_0 : w5.cell? ⟨(w.heap.size + 1), 0, none⟩ = some (.int .u64 a1) := hb1_5.cell 0
  have c1_1 : w5.cell? ⟨(w.heap.size + 1), 1, none⟩ = some (.int .u32 a2) := hb1_5.cell 1
  have c1_2 : w5.cell? ⟨(w.heap.size + 1), 2, none⟩ = some (.int .i64 a3) := hb1_5.cell 2
  have c1_3 : w5.cell? ⟨(w.heap.size + 1), 3, none⟩ = some (.int .i64 b4) := hb1_5.cell 3
  have z1 : (w.heap.size + 1) < w5.heap.size := hb1_5.lt
  have n1 : (w.heap.size + 1) ≠ w5.heap.size := by omega
  have c2_0 : w5.cell? ⟨w3.heap.size, 0, none⟩ = some (.int .u64 a1) := hb2_5.cell 0
  have c2_1 : w5.cell? ⟨w3.heap.size, 1, none⟩ = some (.int .u32 a2) := hb2_5.cell 1
  have c2_2 : w5.cell? ⟨w3.heap.size, 2, none⟩ = some (.int .i64 a3) := hb2_5.cell 2
  have c2_3 : w5.cell? ⟨w3.heap.size, 3, none⟩ = some (.int .i64 a4) := hb2_5.cell 3
  have z2 : w3.heap.size < w5.heap.size := hb2_5.lt
  have n2 : w3.heap.size ≠ w5.heap.size := by omega
  have c3_0 : w5.cell? ⟨w4.heap.size, 0, none⟩ = some (.int .u64 c1) := hb3_5.cell 0
  have c3_1 : w5.cell? ⟨w4.heap.size, 1, none⟩ = some (.int .u32 c2) := hb3_5.cell 1
  have c3_2 : w5.cell? ⟨w4.heap.size, 2, none⟩ = some (.int .i64 c3) := hb3_5.cell 2
  have c3_3 : w5.cell? ⟨w4.heap.size, 3, none⟩ = some (.int .i64 c4) := hb3_5.cell 3
  have z3 : w4.heap.size < w5.heap.size := hb3_5.lt
  have n3 : w4.heap.size ≠ w5.heap.size := by omega
  go_wp2_with fail
  refine (HF.out _).mono ?_
  rintro e w6 ⟨rfl, hq⟩
  have hb0_6 : Blk w6 w.heap.size 25 #[.int .u64 a1, .int .u32 a2, .int .i64 a3, .int .i64 a4] := Blk.same hb0_5 (hq.block _ (hb0_5).lt)
  have hb1_6 : Blk w6 (w.heap.size + 1) 25 #[.int .u64 a1, .int .u32 a2, .int .i64 a3, .int .i64 b4] := Blk.same hb1_5 (hq.block _ (hb1_5).lt)
  have hb2_6 : Blk w6 w3.heap.size 25 #[.int .u64 a1, .int .u32 a2, .int .i64 a3, .int .i64 a4] := Blk.same hb2_5 (hq.block _ (hb2_5).lt)
  have hb3_6 : Blk w6 w4.heap.size 25 #[.int .u64 c1, .int .u32 c2, .int .i64 c3, .int .i64 c4] := Blk.same hb3_5 (hq.block _ (hb3_5).lt)
  have hB6 := b0 hB5 hq
  clear hq hb0_5 hb1_5 hb2_5 hb3_5 hB5 c0_0 c0_1 c0_2 c0_3 n0 z0 c1_0 c1_1 c1_2 c1_3 n1 z1 c2_0 c2_1 c2_2 c2_3 n2 z2 c3_0 c3_1 c3_2 c3_3 n3 z3
  have c0_0 : w6.cell? ⟨w.heap.size, 0, none⟩ = some (.int .u64 a1) := hb0_6.cell 0
  have c0_1 : w6.cell? ⟨w.heap.size, 1, none⟩ = some (.int .u32 a2) := hb0_6.cell 1
  have c0_2 : w6.cell? ⟨w.heap.size, 2, none⟩ = some (.int .i64 a3) := hb0_6.cell 2
  have c0_3 : w6.cell? ⟨w.heap.size, 3, none⟩ = some (.int .i64 a4) := hb0_6.cell 3
  have z0 : w.heap.size < w6.heap.size := hb0_6.lt
  have n0 : w.heap.size ≠ w6.heap.size := by omega
  have c1_0 : w6.cell? ⟨(w.heap.size + 1), 0, none⟩ = some (.int .u64 a1) := hb1_6.cell 0
  have c1_1 : w6.cell? ⟨(w.heap.size + 1), 1, none⟩ = some (.int .u32 a2) := hb1_6.cell 1
  have c1_2 : w6.cell? ⟨(w.heap.size + 1), 2, none⟩ = some (.int .i64 a3) := hb1_6.cell 2
  have c1_3 : w6.cell? ⟨(w.heap.size + 1), 3, none⟩ = some (.int .i64 b4) := hb1_6.cell 3
  have z1 : (w.heap.size + 1) < w6.heap.size := hb1_6.lt
  have n1 : (w.heap.size + 1) ≠ w6.heap.size := by omega
  have c2_0 : w6.cell? ⟨w3.heap.size, 0, none⟩ = some (.int .u64 a1) := hb2_6.cell 0
  have c2_1 : w6.cell? ⟨w3.heap.size, 1, none⟩ = some (.int .u32 a2) := hb2_6.cell 1
  have c2_2 : w6.cell? ⟨w3.heap.size, 2, none⟩ = some (.int .i64 a3) := hb2_6.cell 2
  have c2_3 : w6.cell? ⟨w3.heap.size, 3, none⟩ = some (.int .i64 a4) := hb2_6.cell 3
  have z2 : w3.heap.size < w6.heap.size := hb2_6.lt
  have n2 : w3.heap.size ≠ w6.heap.size := by omega
  have c3_0 : w6.cell? ⟨w4.heap.size, 0, none⟩ = some (.int .u64 c1) := hb3_6.cell 0
  have c3_1 : w6.cell? ⟨w4.heap.size, 1, none⟩ = some (.int .u32 c2) := hb3_6.cell 1
  have c3_2 : w6.cell? ⟨w4.heap.size, 2, none⟩ = some (.int .i64 c3) := hb3_6.cell 2
  have c3_3 : w6.cell? ⟨w4.heap.size, 3, none⟩ = some (.int .i64 c4) := hb3_6.cell 3
  have z3 : w4.heap.size < w6.heap.size := hb3_6.lt
  have n3 : w4.heap.size ≠ w6.heap.size := by omega
  go_wp2_with fail
  go_ret
  exact ⟨rfl, hB6⟩
end Go.Proofs.Ytmipjmoemmgkiaa

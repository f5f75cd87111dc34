/-
  For every input the law DescBytes returns true, and its arguments read afterwards as before; no condition beyond the form's own reach.
-/
import Derived.Test.YtmipjmoemmgkiaaWfr
import Derived.Test.YtmipjmoemmgkiaaDfx
import Derived.Test.YtmipjmoemmgkiaaDmt
import Derived.StillTailTactics
namespace Go.Proofs.Ytmipjmoemmgkiaa
open Go.Joins Go.ChangeShapes Go.WideShapes Go.ChangeAt Go.RowKit Go.Deep
open Go.ChangeMaps (open_string)

set_option maxRecDepth 100000 in
set_option maxHeartbeats 3200000 in
theorem descBytes_bad (o : Int) (h1 h2 h3 h4 : Int) (w : World)
    (A1 : ∀ W, Calls Try.prog 11 #[.agg #[.int .u64 h1, .int .u32 h2, .int .i64 h3, .int .i64 h4]] W fun e w' => e = .returned (.tuple #[.string ⟨#[]⟩, .int .i64 1]) ∧ Below W.heap.size W w')
    (A2 : ∀ W, Calls Try.prog 11 #[.agg #[.int .u64 o, .int .u32 h2, .int .i64 h3, .int .i64 h4]] W fun e w' => e = .returned (.tuple #[.string ⟨#[]⟩, .int .i64 1]) ∧ Below W.heap.size W w')
    (AF : ∀ W, Calls Try.prog 13 #[] W fun e w' => e = .returned (.bool true) ∧ Below W.heap.size W w') :
    Calls Try.prog 7 #[.agg #[.int .u64 h1, .int .u32 h2, .int .i64 h3, .int .i64 h4], .int .u64 o] w fun e w' => e = .returned (.bool true) ∧ Below w.heap.size w w' := by
  have H1 := Lib.hid A1
  have H2 := Lib.hid A2
  have HF := Lib.hid AF
  clear A1 A2 AF
  go_enter Try.func7, Try.ntmps7
  go_wp2_with fail
  refine (H1.out _).mono ?_
  rintro e w1 ⟨rfl, hq⟩
  have hb0_1 : Blk w1 w.heap.size 25 #[.int .u64 h1, .int .u32 h2, .int .i64 h3, .int .i64 h4] := Blk.same (Blk.new w 25 #[.int .u64 h1, .int .u32 h2, .int .i64 h3, .int .i64 h4]) (hq.block _ ((Blk.new w 25 #[.int .u64 h1, .int .u32 h2, .int .i64 h3, .int .i64 h4])).lt)
  have hB1 := b0 (ba (Below.refl w.heap.size w) _) hq
  clear hq
  have c0_0 : w1.cell? ⟨w.heap.size, 0, none⟩ = some (.int .u64 h1) := hb0_1.cell 0
  have c0_1 : w1.cell? ⟨w.heap.size, 1, none⟩ = some (.int .u32 h2) := hb0_1.cell 1
  have c0_2 : w1.cell? ⟨w.heap.size, 2, none⟩ = some (.int .i64 h3) := hb0_1.cell 2
  have c0_3 : w1.cell? ⟨w.heap.size, 3, none⟩ = some (.int .i64 h4) := hb0_1.cell 3
  have z0 : w.heap.size < w1.heap.size := hb0_1.lt
  have n0 : w.heap.size ≠ w1.heap.size := by omega
  go_wp2_with fail
  refine (H2.out _).mono ?_
  rintro e w2 ⟨rfl, hq⟩
  have hb0_2 : Blk w2 w.heap.size 25 #[.int .u64 h1, .int .u32 h2, .int .i64 h3, .int .i64 h4] := Blk.same (hb0_1.alloc (.cells #[.int .u64 o, .int .u32 h2, .int .i64 h3, .int .i64 h4] 25)) (hq.block _ ((hb0_1.alloc (.cells #[.int .u64 o, .int .u32 h2, .int .i64 h3, .int .i64 h4] 25))).lt)
  have hb1_2 : Blk w2 w1.heap.size 25 #[.int .u64 o, .int .u32 h2, .int .i64 h3, .int .i64 h4] := Blk.same (Blk.new w1 25 #[.int .u64 o, .int .u32 h2, .int .i64 h3, .int .i64 h4]) (hq.block _ ((Blk.new w1 25 #[.int .u64 o, .int .u32 h2, .int .i64 h3, .int .i64 h4])).lt)
  have hB2 := b0 (ba hB1 _) hq
  clear hq hb0_1 hB1 c0_0 c0_1 c0_2 c0_3 n0 z0
  have c0_0 : w2.cell? ⟨w.heap.size, 0, none⟩ = some (.int .u64 h1) := hb0_2.cell 0
  have c0_1 : w2.cell? ⟨w.heap.size, 1, none⟩ = some (.int .u32 h2) := hb0_2.cell 1
  have c0_2 : w2.cell? ⟨w.heap.size, 2, none⟩ = some (.int .i64 h3) := hb0_2.cell 2
  have c0_3 : w2.cell? ⟨w.heap.size, 3, none⟩ = some (.int .i64 h4) := hb0_2.cell 3
  have z0 : w.heap.size < w2.heap.size := hb0_2.lt
  have n0 : w.heap.size ≠ w2.heap.size := by omega
  have c1_0 : w2.cell? ⟨w1.heap.size, 0, none⟩ = some (.int .u64 o) := hb1_2.cell 0
  have c1_1 : w2.cell? ⟨w1.heap.size, 1, none⟩ = some (.int .u32 h2) := hb1_2.cell 1
  have c1_2 : w2.cell? ⟨w1.heap.size, 2, none⟩ = some (.int .i64 h3) := hb1_2.cell 2
  have c1_3 : w2.cell? ⟨w1.heap.size, 3, none⟩ = some (.int .i64 h4) := hb1_2.cell 3
  have z1 : w1.heap.size < w2.heap.size := hb1_2.lt
  have n1 : w1.heap.size ≠ w2.heap.size := by omega
  go_wp2_with fail
  refine (HF.out _).mono ?_
  rintro e w3 ⟨rfl, hq⟩
  have hb0_3 : Blk w3 w.heap.size 25 #[.int .u64 h1, .int .u32 h2, .int .i64 h3, .int .i64 h4] := Blk.same hb0_2 (hq.block _ (hb0_2).lt)
  have hb1_3 : Blk w3 w1.heap.size 25 #[.int .u64 o, .int .u32 h2, .int .i64 h3, .int .i64 h4] := Blk.same hb1_2 (hq.block _ (hb1_2).lt)
  have hB3 := b0 hB2 hq
  clear hq hb0_2 hb1_2 hB2 c0_0 c0_1 c0_2 c0_3 n0 z0 c1_0 c1_1 c1_2 c1_3 n1 z1
  have c0_0 : w3.cell? ⟨w.heap.size, 0, none⟩ = some (.int .u64 h1) := hb0_3.cell 0
  have c0_1 : w3.cell? ⟨w.heap.size, 1, none⟩ = some (.int .u32 h2) := hb0_3.cell 1
  have c0_2 : w3.cell? ⟨w.heap.size, 2, none⟩ = some (.int .i64 h3) := hb0_3.cell 2
  have c0_3 : w3.cell? ⟨w.heap.size, 3, none⟩ = some (.int .i64 h4) := hb0_3.cell 3
  have z0 : w.heap.size < w3.heap.size := hb0_3.lt
  have n0 : w.heap.size ≠ w3.heap.size := by omega
  have c1_0 : w3.cell? ⟨w1.heap.size, 0, none⟩ = some (.int .u64 o) := hb1_3.cell 0
  have c1_1 : w3.cell? ⟨w1.heap.size, 1, none⟩ = some (.int .u32 h2) := hb1_3.cell 1
  have c1_2 : w3.cell? ⟨w1.heap.size, 2, none⟩ = some (.int .i64 h3) := hb1_3.cell 2
  have c1_3 : w3.cell? ⟨w1.heap.size, 3, none⟩ = some (.int .i64 h4) := hb1_3.cell 3
  have z1 : w1.heap.size < w3.heap.size := hb1_3.lt
  have n1 : w1.heap.size ≠ w3.heap.size := by omega
  go_wp2_with fail
  go_ret
  exact ⟨rfl, hB3⟩
end Go.Proofs.Ytmipjmoemmgkiaa

/-
  The walk of DescBytes where the descriptor may be, the other address being the same; no condition.
-/
import Derived.Test.YtmipjmoemmgkiaaWfr
import Derived.Test.YtmipjmoemmgkiaaDfx
import Derived.Test.YtmipjmoemmgkiaaDmt
import Derived.StillTailTactics
namespace Go.Proofs.Ytmipjmoemmgkiaa
open Go.Joins Go.ChangeShapes Go.WideShapes Go.ChangeAt Go.RowKit Go.Deep
open Go.ChangeMaps (open_string)

set_option maxRecDepth 100000 in
set_option maxHeartbeats 3200000 in
theorem descBytes_same (S R P : ByteArray) (h1 h2 h3 h4 : Int) (w : World) (hs : S.size = 16) (m0 m1 m2 m3 : Nat) (e0 : (S[12]'(by omega)).toNat = m0) (e1 : (S[13]'(by omega)).toNat = m1) (e2 : (S[14]'(by omega)).toNat = m2) (e3 : (S[15]'(by omega)).toNat = m3) (q0 : m0 < 256) (q1 : m1 < 256) (q2 : m2 < 256) (q3 : m3 < 256) (hi : h3 = (m0 : Int) + 256 * (m1 : Int)) (hf : h4 = (m2 : Int) + 256 * (m3 : Int)) (r1 : S.extract 8 16 = R) (p1 : S.extract 0 8 = P)
    (A1 : ∀ W, Calls Try.prog 11 #[.agg #[.int .u64 h1, .int .u32 h2, .int .i64 h3, .int .i64 h4]] W fun e w' => e = .returned (.tuple #[.string S, .int .i64 0]) ∧ Below W.heap.size W w')
    (AF : ∀ W, Calls Try.prog 13 #[] W fun e w' => e = .returned (.bool true) ∧ Below W.heap.size W w') :
    Calls Try.prog 7 #[.agg #[.int .u64 h1, .int .u32 h2, .int .i64 h3, .int .i64 h4], .int .u64 h1] w fun e w' => e = .returned (.bool true) ∧ Below w.heap.size w w' := by
  have H1 := Lib.hid A1
  have HF := Lib.hid AF
  clear A1 AF
  have v0 : IntKind.i64.wrap (m0 : Int) = m0 := by rw [IntKind.wrap_i64]; omega
  have v1 : IntKind.i64.wrap (m1 : Int) = m1 := by rw [IntKind.wrap_i64]; omega
  have v2 : IntKind.i64.wrap (m2 : Int) = m2 := by rw [IntKind.wrap_i64]; omega
  have v3 : IntKind.i64.wrap (m3 : Int) = m3 := by rw [IntKind.wrap_i64]; omega
  have v4 : IntKind.i64.wrap (256 * (m1 : Int)) = 256 * (m1 : Int) := by rw [IntKind.wrap_i64]; omega
  have v5 : IntKind.i64.wrap (256 * (m3 : Int)) = 256 * (m3 : Int) := by rw [IntKind.wrap_i64]; omega
  have v6 : IntKind.i64.wrap ((m0 : Int) + 256 * (m1 : Int)) = h3 := by rw [IntKind.wrap_i64]; omega
  have v7 : IntKind.i64.wrap ((m2 : Int) + 256 * (m3 : Int)) = h4 := by rw [IntKind.wrap_i64]; omega
  clear hi hf q0 q1 q2 q3
  have j1 : ((S.size : Int) == 16) = true := by rw [hs]; rfl
  have j2 : (8 : Int) ≤ S.size := by omega
  have j3 : (12 : Int) < S.size := by omega
  have j4 : (13 : Int) < S.size := by omega
  have j5 : (14 : Int) < S.size := by omega
  have j6 : (15 : Int) < S.size := by omega
  have j7 : 8 ≤ S.size := by omega
  have j8 : ¬ (S.size : Int) < 8 := by omega
  go_enter Try.func7, Try.ntmps7
  go_wp2_with fail
  refine (H1.out _).mono ?_
  rintro e w1 ⟨rfl, hq⟩
  have hb0_1 : Blk w1 w.heap.size 25 #[.int .u64 h1, .int .u32 h2, .int .i64 h3, .int .i64 h4] := Blk.same (Blk.new w 25 #[.int .u64 h1, .int .u32 h2, .int .i64 h3, .int .i64 h4]) (hq.block _ ((Blk.new w 25 #[.int .u64 h1, .int .u32 h2, .int .i64 h3, .int .i64 h4])).lt)
  have hB1 := b0 (ba (Below.refl w.heap.size w) _) hq
  clear hq
  have c0_0 : w1.cell? ⟨w.heap.size, 0, none⟩ = some (.int .u64 h1) := hb0_1.cell 0
  have c0_1 : w1.cell? ⟨w.heap.size, 1, none⟩ = some (.int .u32 h2) := hb0_1.cell 1
  have c0_2 : w1.cell? ⟨w.heap.size, 2, none⟩ = some (.int .i64 h3) := hb0_1.cell 2
  have c0_3 : w1.cell? ⟨w.heap.size, 3, none⟩ = some (.int .i64 h4) := hb0_1.cell 3
  have z0 : w.heap.size < w1.heap.size := hb0_1.lt
  have n0 : w.heap.size ≠ w1.heap.size := by omega
  go_wp2_with fail
  refine (H1.out _).mono ?_
  rintro e w2 ⟨rfl, hq⟩
  have hb0_2 : Blk w2 w.heap.size 25 #[.int .u64 h1, .int .u32 h2, .int .i64 h3, .int .i64 h4] := Blk.same (hb0_1.alloc (.cells #[.int .u64 h1, .int .u32 h2, .int .i64 h3, .int .i64 h4] 25)) (hq.block _ ((hb0_1.alloc (.cells #[.int .u64 h1, .int .u32 h2, .int .i64 h3, .int .i64 h4] 25))).lt)
  have hb1_2 : Blk w2 w1.heap.size 25 #[.int .u64 h1, .int .u32 h2, .int .i64 h3, .int .i64 h4] := Blk.same (Blk.new w1 25 #[.int .u64 h1, .int .u32 h2, .int .i64 h3, .int .i64 h4]) (hq.block _ ((Blk.new w1 25 #[.int .u64 h1, .int .u32 h2, .int .i64 h3, .int .i64 h4])).lt)
  have hB2 := b0 (ba hB1 _) hq
  clear hq hb0_1 hB1 c0_0 c0_1 c0_2 c0_3 n0 z0
  have c0_0 : w2.cell? ⟨w.heap.size, 0, none⟩ = some (.int .u64 h1) := hb0_2.cell 0
  have c0_1 : w2.cell? ⟨w.heap.size, 1, none⟩ = some (.int .u32 h2) := hb0_2.cell 1
  have c0_2 : w2.cell? ⟨w.heap.size, 2, none⟩ = some (.int .i64 h3) := hb0_2.cell 2
  have c0_3 : w2.cell? ⟨w.heap.size, 3, none⟩ = some (.int .i64 h4) := hb0_2.cell 3
  have z0 : w.heap.size < w2.heap.size := hb0_2.lt
  have n0 : w.heap.size ≠ w2.heap.size := by omega
  have c1_0 : w2.cell? ⟨w1.heap.size, 0, none⟩ = some (.int .u64 h1) := hb1_2.cell 0
  have c1_1 : w2.cell? ⟨w1.heap.size, 1, none⟩ = some (.int .u32 h2) := hb1_2.cell 1
  have c1_2 : w2.cell? ⟨w1.heap.size, 2, none⟩ = some (.int .i64 h3) := hb1_2.cell 2
  have c1_3 : w2.cell? ⟨w1.heap.size, 3, none⟩ = some (.int .i64 h4) := hb1_2.cell 3
  have z1 : w1.heap.size < w2.heap.size := hb1_2.lt
  have n1 : w1.heap.size ≠ w2.heap.size := by omega
  go_wp2_with fail
  have hD := hB2.drew
  have k0 := (H4.of (w := w) (t := 25) ⟨hb0_2, hB2⟩).drew
  clear hb0_2 hb1_2 hB2 c0_0 c0_1 c0_2 c0_3 n0 z0 c1_0 c1_1 c1_2 c1_3 n1 z1
  obtain ⟨⟨c0, c1, c2, c3⟩, _⟩ := k0
  go_still_tail 58, (by kernel_rfl)
  change wpList _ _ _ _ _ w2.drew
  generalize w2.drew = W2 at *
  clear c0 c1 c2 c3
  go_wp2_with fail
  refine (HF.out _).mono ?_
  rintro e w3 ⟨rfl, hq⟩
  go_wp2_with fail
  go_ret
  exact ⟨rfl, b0 hD hq⟩
end Go.Proofs.Ytmipjmoemmgkiaa

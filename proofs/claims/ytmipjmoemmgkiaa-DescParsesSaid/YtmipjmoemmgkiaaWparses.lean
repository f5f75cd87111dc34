/-
  For every input the law DescParses returns true, and its arguments read afterwards as before; no condition beyond the form's own reach.
-/
import Derived.Test.YtmipjmoemmgkiaaWfr
import Derived.Test.YtmipjmoemmgkiaaDfx
import Derived.Test.YtmipjmoemmgkiaaDbr
namespace Go.Proofs.Ytmipjmoemmgkiaa
open Go.Joins Go.ChangeShapes Go.WideShapes Go.ChangeAt Go.RowKit Go.Deep
open Go.ChangeMaps (open_string)

set_option maxRecDepth 100000 in
set_option maxHeartbeats 3200000 in
theorem descParses_walk (s S : ByteArray) (E G : Int) (a1 a2 a3 a4 : Int) (h1 h2 h3 h4 : Int) (w : World)
    (A1 : ∀ W, Calls Try.prog 9 #[.string s] W fun e w' => e = .returned (.tuple #[.agg #[.int .u64 a1, .int .u32 a2, .int .i64 a3, .int .i64 a4], .int .i64 E]) ∧ Below W.heap.size W w')
    (A2 : ∀ W, Calls Try.prog 10 #[.string s] W fun e w' => e = .returned (.tuple #[.agg #[.int .u64 a1, .int .u32 a2, .int .i64 a3, .int .i64 a4], .int .i64 E]) ∧ Below W.heap.size W w')
    (A3 : ∀ W, Calls Try.prog 11 #[.agg #[.int .u64 h1, .int .u32 h2, .int .i64 h3, .int .i64 h4]] W fun e w' => e = .returned (.tuple #[.string S, .int .i64 G]) ∧ Below W.heap.size W w')
    (A4 : ∀ W, Calls Try.prog 12 #[.agg #[.int .u64 h1, .int .u32 h2, .int .i64 h3, .int .i64 h4]] W fun e w' => e = .returned (.tuple #[.string S, .int .i64 G]) ∧ Below W.heap.size W w')
    (AF : ∀ W, Calls Try.prog 13 #[] W fun e w' => e = .returned (.bool true) ∧ Below W.heap.size W w') :
    Calls Try.prog 3 #[.string s, .agg #[.int .u64 h1, .int .u32 h2, .int .i64 h3, .int .i64 h4]] w fun e w' => e = .returned (.bool true) ∧ Below w.heap.size w w' := by
  have H1 := Lib.hid A1
  have H2 := Lib.hid A2
  have H3 := Lib.hid A3
  have H4 := Lib.hid A4
  have HF := Lib.hid AF
  clear A1 A2 A3 A4 AF
  go_enter Try.func3, Try.ntmps3
  go_wp2_with fail
  refine (H1.out _).mono ?_
  rintro e w1 ⟨rfl, hq⟩
  have hb0_1 : Blk w1 w.heap.size 25 #[.int .u64 h1, .int .u32 h2, .int .i64 h3, .int .i64 h4] := Blk.same (Blk.new w 25 #[.int .u64 h1, .int .u32 h2, .int .i64 h3, .int .i64 h4]) (hq.block _ ((Blk.new w 25 #[.int .u64 h1, .int .u32 h2, .int .i64 h3, .int .i64 h4])).lt)
  have hB1 := b0 (ba (Below.refl w.heap.size w) _) hq
  clear hq
  have c0_0 : w1.cell? ⟨w.heap.size, 0, none⟩ = some (.int .u64 h1) := hb0_1.cell 0
  have c0_1 : w1.cell? ⟨w.heap.size, 1, none⟩ = some (.int .u32 h2) := hb0_1.cell 1
  have c0_2 : w1.cell? ⟨w.heap.size, 2, none⟩ = some (.int .i64 h3) := hb0_1.cell 2
  have c0_3 : w1.cell? ⟨w.heap.size, 3, none⟩ = some (.int .i64 h4) := hb0_1.cell 3
  have z0 : w.heap.size < w1.heap.size := hb0_1.lt
  have n0 : w.heap.size ≠ w1.heap.size := by omega
  go_wp2_with fail
  refine (H2.out _).mono ?_
  rintro e w2 ⟨rfl, hq⟩
  have hb0_2 : Blk w2 w.heap.size 25 #[.int .u64 h1, .int .u32 h2, .int .i64 h3, .int .i64 h4] := Blk.same (hb0_1.alloc (.cells #[.int .u64 a1, .int .u32 a2, .int .i64 a3, .int .i64 a4] 25)) (hq.block _ ((hb0_1.alloc (.cells #[.int .u64 a1, .int .u32 a2, .int .i64 a3, .int .i64 a4] 25))).lt)
  have hb1_2 : Blk w2 w1.heap.size 25 #[.int .u64 a1, .int .u32 a2, .int .i64 a3, .int .i64 a4] := Blk.same (Blk.new w1 25 #[.int .u64 a1, .int .u32 a2, .int .i64 a3, .int .i64 a4]) (hq.block _ ((Blk.new w1 25 #[.int .u64 a1, .int .u32 a2, .int .i64 a3, .int .i64 a4])).lt)
  have hB2 := b0 (ba hB1 _) hq
  clear hq hb0_1 hB1 c0_0 c0_1 c0_2 c0_3 n0 z0
  have c0_0 : w2.cell? ⟨w.heap.size, 0, none⟩ = some (.int .u64 h1) := hb0_2.cell 0
  have c0_1 : w2.cell? ⟨w.heap.size, 1, none⟩ = some (.int .u32 h2) := hb0_2.cell 1
  have c0_2 : w2.cell? ⟨w.heap.size, 2, none⟩ = some (.int .i64 h3) := hb0_2.cell 2
  have c0_3 : w2.cell? ⟨w.heap.size, 3, none⟩ = some (.int .i64 h4) := hb0_2.cell 3
  have z0 : w.heap.size < w2.heap.size := hb0_2.lt
  have n0 : w.heap.size ≠ w2.heap.size := by omega
  have c1_0 : w2.cell? ⟨w1.heap.size, 0, none⟩ = some (.int .u64 a1) := hb1_2.cell 0
  have c1_1 : w2.cell? ⟨w1.heap.size, 1, none⟩ = some (.int .u32 a2) := hb1_2.cell 1
  have c1_2 : w2.cell? ⟨w1.heap.size, 2, none⟩ = some (.int .i64 a3) := hb1_2.cell 2
  have c1_3 : w2.cell? ⟨w1.heap.size, 3, none⟩ = some (.int .i64 a4) := hb1_2.cell 3
  have z1 : w1.heap.size < w2.heap.size := hb1_2.lt
  have n1 : w1.heap.size ≠ w2.heap.size := by omega
  go_wp2_with fail
  refine (H3.out _).mono ?_
  rintro e w3 ⟨rfl, hq⟩
  have hb0_3 : Blk w3 w.heap.size 25 #[.int .u64 h1, .int .u32 h2, .int .i64 h3, .int .i64 h4] := Blk.same (hb0_2.alloc (.cells #[.int .u64 a1, .int .u32 a2, .int .i64 a3, .int .i64 a4] 25)) (hq.block _ ((hb0_2.alloc (.cells #[.int .u64 a1, .int .u32 a2, .int .i64 a3, .int .i64 a4] 25))).lt)
  have hb1_3 : Blk w3 w1.heap.size 25 #[.int .u64 a1, .int .u32 a2, .int .i64 a3, .int .i64 a4] := Blk.same (hb1_2.alloc (.cells #[.int .u64 a1, .int .u32 a2, .int .i64 a3, .int .i64 a4] 25)) (hq.block _ ((hb1_2.alloc (.cells #[.int .u64 a1, .int .u32 a2, .int .i64 a3, .int .i64 a4] 25))).lt)
  have hb2_3 : Blk w3 w2.heap.size 25 #[.int .u64 a1, .int .u32 a2, .int .i64 a3, .int .i64 a4] := Blk.same (Blk.new w2 25 #[.int .u64 a1, .int .u32 a2, .int .i64 a3, .int .i64 a4]) (hq.block _ ((Blk.new w2 25 #[.int .u64 a1, .int .u32 a2, .int .i64 a3, .int .i64 a4])).lt)
  have hB3 := b0 (ba hB2 _) hq
  clear hq hb0_2 hb1_2 hB2 c0_0 c0_1 c0_2 c0_3 n0 z0 c1_0 c1_1 c1_2 c1_3 n1 z1
  have c0_0 : w3.cell? ⟨w.heap.size, 0, none⟩ = some (.int .u64 h1) := hb0_3.cell 0
  have c0_1 : w3.cell? ⟨w.heap.size, 1, none⟩ = some (.int .u32 h2) := hb0_3.cell 1
  have c0_2 : w3.cell? ⟨w.heap.size, 2, none⟩ = some (.int .i64 h3) := hb0_3.cell 2
  have c0_3 : w3.cell? ⟨w.heap.size, 3, none⟩ = some (.int .i64 h4) := hb0_3.cell 3
  have z0 : w.heap.size < w3.heap.size := hb0_3.lt
  have n0 : w.heap.size ≠ w3.heap.size := by omega
  have c1_0 : w3.cell? ⟨w1.heap.size, 0, none⟩ = some (.int .u64 a1) := hb1_3.cell 0
  have c1_1 : w3.cell? ⟨w1.heap.size, 1, none⟩ = some (.int .u32 a2) := hb1_3.cell 1
  have c1_2 : w3.cell? ⟨w1.heap.size, 2, none⟩ = some (.int .i64 a3) := hb1_3.cell 2
  have c1_3 : w3.cell? ⟨w1.heap.size, 3, none⟩ = some (.int .i64 a4) := hb1_3.cell 3
  have z1 : w1.heap.size < w3.heap.size := hb1_3.lt
  have n1 : w1.heap.size ≠ w3.heap.size := by omega
  have c2_0 : w3.cell? ⟨w2.heap.size, 0, none⟩ = some (.int .u64 a1) := hb2_3.cell 0
  have c2_1 : w3.cell? ⟨w2.heap.size, 1, none⟩ = some (.int .u32 a2) := hb2_3.cell 1
  have c2_2 : w3.cell? ⟨w2.heap.size, 2, none⟩ = some (.int .i64 a3) := hb2_3.cell 2
  have c2_3 : w3.cell? ⟨w2.heap.size, 3, none⟩ = some (.int .i64 a4) := hb2_3.cell 3
  have z2 : w2.heap.size < w3.heap.size := hb2_3.lt
  have n2 : w2.heap.size ≠ w3.heap.size := by omega
  go_wp2_with fail
  refine (H4.out _).mono ?_
  rintro e w4 ⟨rfl, hq⟩
  have hb0_4 : Blk w4 w.heap.size 25 #[.int .u64 h1, .int .u32 h2, .int .i64 h3, .int .i64 h4] := Blk.same hb0_3 (hq.block _ (hb0_3).lt)
  have hb1_4 : Blk w4 w1.heap.size 25 #[.int .u64 a1, .int .u32 a2, .int .i64 a3, .int .i64 a4] := Blk.same hb1_3 (hq.block _ (hb1_3).lt)
  have hb2_4 : Blk w4 w2.heap.size 25 #[.int .u64 a1, .int .u32 a2, .int .i64 a3, .int .i64 a4] := Blk.same hb2_3 (hq.block _ (hb2_3).lt)
  have hB4 := b0 hB3 hq
  clear hq hb0_3 hb1_3 hb2_3 hB3 c0_0 c0_1 c0_2 c0_3 n0 z0 c1_0 c1_1 c1_2 c1_3 n1 z1 c2_0 c2_1 c2_2 c2_3 n2 z2
  have c0_0 : w4.cell? ⟨w.heap.size, 0, none⟩ = some (.int .u64 h1) := hb0_4.cell 0
  have c0_1 : w4.cell? ⟨w.heap.size, 1, none⟩ = some (.int .u32 h2) := hb0_4.cell 1
  have c0_2 : w4.cell? ⟨w.heap.size, 2, none⟩ = some (.int .i64 h3) := hb0_4.cell 2
  have c0_3 : w4.cell? ⟨w.heap.size, 3, none⟩ = some (.int .i64 h4) := hb0_4.cell 3
  have z0 : w.heap.size < w4.heap.size := hb0_4.lt
  have n0 : w.heap.size ≠ w4.heap.size := by omega
  have c1_0 : w4.cell? ⟨w1.heap.size, 0, none⟩ = some (.int .u64 a1) := hb1_4.cell 0
  have c1_1 : w4.cell? ⟨w1.heap.size, 1, none⟩ = some (.int .u32 a2) := hb1_4.cell 1
  have c1_2 : w4.cell? ⟨w1.heap.size, 2, none⟩ = some (.int .i64 a3) := hb1_4.cell 2
  have c1_3 : w4.cell? ⟨w1.heap.size, 3, none⟩ = some (.int .i64 a4) := hb1_4.cell 3
  have z1 : w1.heap.size < w4.heap.size := hb1_4.lt
  have n1 : w1.heap.size ≠ w4.heap.size := by omega
  have c2_0 : w4.cell? ⟨w2.heap.size, 0, none⟩ = some (.int .u64 a1) := hb2_4.cell 0
  have c2_1 : w4.cell? ⟨w2.heap.size, 1, none⟩ = some (.int .u32 a2) := hb2_4.cell 1
  have c2_2 : w4.cell? ⟨w2.heap.size, 2, none⟩ = some (.int .i64 a3) := hb2_4.cell 2
  have c2_3 : w4.cell? ⟨w2.heap.size, 3, none⟩ = some (.int .i64 a4) := hb2_4.cell 3
  have z2 : w2.heap.size < w4.heap.size := hb2_4.lt
  have n2 : w2.heap.size ≠ w4.heap.size := by omega
  go_wp2_with fail
  refine (HF.out _).mono ?_
  rintro e w5 ⟨rfl, hq⟩
  have hb0_5 : Blk w5 w.heap.size 25 #[.int .u64 h1, .int .u32 h2, .int .i64 h3, .int .i64 h4] := Blk.same hb0_4 (hq.block _ (hb0_4).lt)
  have hb1_5 : Blk w5 w1.heap.size 25 #[.int .u64 a1, .int .u32 a2, .int .i64 a3, .int .i64 a4] := Blk.same hb1_4 (hq.block _ (hb1_4).lt)
  have hb2_5 : Blk w5 w2.heap.size 25 #[.int .u64 a1, .int .u32 a2, .int .i64 a3, .int .i64 a4] := Blk.same hb2_4 (hq.block _ (hb2_4).lt)
  have hB5 := b0 hB4 hq
  clear hq hb0_4 hb1_4 hb2_4 hB4 c0_0 c0_1 c0_2 c0_3 n0 z0 c1_0 c1_1 c1_2 c1_3 n1 z1 c2_0 c2_1 c2_2 c2_3 n2 z2
  have c0_0 : w5.cell? ⟨w.heap.size, 0, none⟩ = some (.int .u64 h1) := hb0_5.cell 0
  have c0_1 : w5.cell? ⟨w.heap.size, 1, none⟩ = some (.int .u32 h2) := hb0_5.cell 1
  have c0_2 : w5.cell? ⟨w.heap.size, 2, none⟩ = some (.int .i64 h3) := hb0_5.cell 2
  have c0_3 : w5.cell? ⟨w.heap.size, 3, none⟩ = some (.int .i64 h4) := hb0_5.cell 3
  have z0 : w.heap.size < w5.heap.size := hb0_5.lt
  have n0 : w.heap.size ≠ w5.heap.size := by omega
  have c1_0 : w5.cell? ⟨w1.heap.size, 0, none⟩ = some (.int .u64 a1) := hb1_5.cell 0
  have c1_1 : w5.cell? ⟨w1.heap.size, 1, none⟩ = some (.int .u32 a2) := hb1_5.cell 1
  have c1_2 : w5.cell? ⟨w1.heap.size, 2, none⟩ = some (.int .i64 a3) := hb1_5.cell 2
  have c1_3 : w5.cell? ⟨w1.heap.size, 3, none⟩ = some (.int .i64 a4) := hb1_5.cell 3
  have z1 : w1.heap.size < w5.heap.size := hb1_5.lt
  have n1 : w1.heap.size ≠ w5.heap.size := by omega
  have c2_0 : w5.cell? ⟨w2.heap.size, 0, none⟩ = some (.int .u64 a1) := hb2_5.cell 0
  have c2_1 : w5.cell? ⟨w2.heap.size, 1, none⟩ = some (.int .u32 a2) := hb2_5.cell 1
  have c2_2 : w5.cell? ⟨w2.heap.size, 2, none⟩ = some (.int .i64 a3) := hb2_5.cell 2
  have c2_3 : w5.cell? ⟨w2.heap.size, 3, none⟩ = some (.int .i64 a4) := hb2_5.cell 3
  have z2 : w2.heap.size < w5.heap.size := hb2_5.lt
  have n2 : w2.heap.size ≠ w5.heap.size := by omega
  go_wp2_with fail
  go_ret
  exact ⟨rfl, hB5⟩
theorem descParses_any (s : ByteArray) (A L : Nat) (I F : Int) (hA : A < 18446744073709551616) (hL : L < 4294967296) (w : World) :
    Calls Try.prog 3 #[.string s, .agg #[.int .u64 (A : Int), .int .u32 (L : Int), .int .i64 I, .int .i64 F]] w fun e w' => e = .returned (.bool true) ∧ Below w.heap.size w w' := by
  by_cases h : s.size = 16
  · exact descParses_walk s _ _ _ _ _ _ _ _ _ _ _ w (parse_ok s h) (rparse_ok s h) (build_any A L I F hA hL) (rbuild_any A L I F hA hL) fixed_any
  · exact descParses_walk s _ _ _ _ _ _ _ _ _ _ _ w (parse_bad s h) (rparse_bad s h) (build_any A L I F hA hL) (rbuild_any A L I F hA hL) fixed_any

set_option maxRecDepth 100000 in
theorem descParses_lifted (os : Os) (started : os.Started) (H : Type) (enc : TypeId × Value → H) :
    ReturnsInHanded {} Try.checked os 3 .any (Rows.descParsesSpec.pre6 enc Try.prog Try.f3 Rows.descParsesRow.domain false) (Rows.descParsesSpec.post enc Try.prog Try.f3 false true false false) := by
  have e : Try.f3.params.toList = [9, 25] := by rw [Try.params3]
  refine law_of_walk (C := Try.checked) (tb := 4) H enc Try.own started (by kernel_rfl) Try.func3 Try.laidOut rfl rfl Try.underlying4 ?_ ?_
    (ChangeSpec.witness6 (enc := enc) (C := Try.checked) false ⟨#[], #[.string ByteArray.empty, .agg #[.int .u64 0, .int .u32 0, .int .i64 0, .int .i64 0]], []⟩ 8 (by kernel_rfl) (by kernel_rfl) (by kernel_rfl) (by kernel_rfl)) ?_
  · rw [e]
    intro t ht
    simp only [List.mem_cons, List.not_mem_nil, or_false] at ht
    rcases ht with rfl | rfl <;> exact ⟨by kernel_rfl, of_decide_eq_true (by kernel_rfl)⟩
  · intro ds hds
    rw [e] at hds
    match ds, hds with
    | [d0, d1], _ => rfl
  · intro W base args ds p hval0 hA0 hsz0
    have hval : ∀ (j : Nat) t v, Try.f3.params[j]? = some t → args[j]? = some v → Value.okWide Try.prog W .any base t v := hval0
    have hA : DataW.TrodAll enc Try.prog W 0 (fun _ => true) true Try.f3.params.toList args.toList ds p := hA0
    have hsz : (DataW.weightsEach Try.prog Try.f3.params.toList ds).all (· ≤ reachBytes) = true := hsz0
    rw [Try.params3] at hA hval hsz
    obtain ⟨v0, v1, d0, d1, p0, p1, rfl, rfl, rfl, h0, h1⟩ := trodAll_two hA
    obtain ⟨x0, rfl, rfl, rfl, _⟩ := open_string Try.underlying9 (hval 0 9 v0 rfl rfl) h0
    obtain ⟨A1, L1, I1, F1, rfl, a1, l1, i1, f1⟩ := open_desc (hval 1 25 v1 rfl rfl) h1
    have s0 := sized_string hsz (j := 0) (t := 9) rfl rfl
    simp only [reachBytes] at s0
    exact descParses_any x0 A1 L1 I1 F1 a1 l1 W

theorem descParses_holds : Rows.DescParsesSaid :=
  OpenClaim.holds_of_wide 3 Try.f3 rfl rfl rfl rfl rfl rfl rfl ⟨rfl, rfl, rfl, rfl, rfl⟩ rfl rfl rfl rfl rfl (by kernel_rfl) Try.func3 (by kernel_rfl)
    (of_decide_eq_true (by kernel_rfl)) (by unfold Func.isWrapper; first | (rw [if_pos (by decide +kernel)]; kernel_rfl) | (rw [if_neg (by decide +kernel)]; exact ⟨rfl, rfl⟩))
    (fun os started H enc _ => descParses_lifted os started H enc)
end Go.Proofs.Ytmipjmoemmgkiaa

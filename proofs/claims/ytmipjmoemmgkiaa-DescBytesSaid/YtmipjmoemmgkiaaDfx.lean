/-
  The calls that every law of the layer asks beside its own (fixed): true; no condition.
-/
import Derived.Test.YtmipjmoemmgkiaaDbd
import Derived.Test.YtmipjmoemmgkiaaDpa
namespace Go.Proofs.Ytmipjmoemmgkiaa
open Go.RowKit

theorem fx_b : desB 258 3 4 5 = (⟨#[2, 1, 0, 0, 0, 0, 0, 0, 3, 0, 0, 0, 4, 0, 5, 0]⟩ : ByteArray) := by decide +kernel
theorem fx_p : gn (⟨#[2, 1, 0, 0, 0, 0, 0, 0, 3, 0, 0, 0, 4, 0, 5, 0]⟩ : ByteArray) 0 8 = 258 ∧ gn (⟨#[2, 1, 0, 0, 0, 0, 0, 0, 3, 0, 0, 0, 4, 0, 5, 0]⟩ : ByteArray) 8 4 = 3 ∧ gn (⟨#[2, 1, 0, 0, 0, 0, 0, 0, 3, 0, 0, 0, 4, 0, 5, 0]⟩ : ByteArray) 12 2 = 4 ∧ gn (⟨#[2, 1, 0, 0, 0, 0, 0, 0, 3, 0, 0, 0, 4, 0, 5, 0]⟩ : ByteArray) 14 2 = 5 := by decide +kernel
theorem rest0 : Rest 0 := by unfold Rest; decide
theorem rest3 : Rest 3 := by unfold Rest; decide
def Z4 (g : Nat) (w : World) : Prop := Blk w g 25 #[.int .u64 258, .int .u32 3, .int .i64 4, .int .i64 5]
set_option maxHeartbeats 1600000 in
theorem fixed_walk (w : World)
    (A1 : ∀ W, Calls Try.prog 11 #[.agg #[.int .u64 258, .int .u32 3, .int .i64 4, .int .i64 5]] W fun e w' => e = .returned (.tuple #[.string (⟨#[2, 1, 0, 0, 0, 0, 0, 0, 3, 0, 0, 0, 4, 0, 5, 0]⟩ : ByteArray), .int .i64 0]) ∧ Below W.heap.size W w')
    (A2 : ∀ W, Calls Try.prog 9 #[.string (⟨#[2, 1, 0, 0, 0, 0, 0, 0, 3, 0, 0, 0, 4, 0, 5, 0]⟩ : ByteArray)] W fun e w' => e = .returned (.tuple #[.agg #[.int .u64 258, .int .u32 3, .int .i64 4, .int .i64 5], .int .i64 0]) ∧ Below W.heap.size W w')
    (A3 : ∀ W, Calls Try.prog 9 #[.string ⟨#[120]⟩] W fun e w' => e = .returned (.tuple #[.agg #[.int .u64 0, .int .u32 0, .int .i64 0, .int .i64 0], .int .i64 1]) ∧ Below W.heap.size W w')
    (A4 : ∀ W, Calls Try.prog 11 #[.agg #[.int .u64 0, .int .u32 0, .int .i64 65536, .int .i64 0]] W fun e w' => e = .returned (.tuple #[.string ⟨#[]⟩, .int .i64 1]) ∧ Below W.heap.size W w')
    (M1 : ∀ W, Calls Try.prog 18 #[.int .i64 0, .bool true, .bool false] W fun e w' => e = .returned (.int .i64 128) ∧ W = w')
    (M2 : ∀ W, Calls Try.prog 18 #[.int .i64 0, .bool false, .bool false] W fun e w' => e = .returned (.int .i64 32768) ∧ W = w')
    (M3 : ∀ W, Calls Try.prog 18 #[.int .i64 3, .bool true, .bool true] W fun e w' => e = .returned (.int .i64 32899) ∧ W = w')
    (V1 : ∀ W, Calls Try.prog 14 #[.int .i64 128, .bool true] W fun e w' => e = .returned (.bool true) ∧ W = w')
    (V2 : ∀ W, Calls Try.prog 14 #[.int .i64 0, .bool false] W fun e w' => e = .returned (.bool false) ∧ W = w')
    (U1 : ∀ W, Calls Try.prog 16 #[.int .i64 0, .bool false] W fun e w' => e = .returned (.bool true) ∧ W = w') :
    Calls Try.prog 13 #[] w fun e w' => e = .returned (.bool true) ∧ Below w.heap.size w w' := by
  have H1 := Lib.hid A1
  have H2 := Lib.hid A2
  have H3 := Lib.hid A3
  have H4 := Lib.hid A4
  have HM1 := Lib.hid M1
  have HM2 := Lib.hid M2
  have HM3 := Lib.hid M3
  have HV1 := Lib.hid V1
  have HV2 := Lib.hid V2
  have HU1 := Lib.hid U1
  clear A1 A2 A3 A4 M1 M2 M3 V1 V2 U1
  go_enter Try.func13, Try.ntmps13
  go_wp2_with fail
  refine (H1.out _).mono ?_
  rintro e w1 ⟨rfl, hq⟩
  have e1 := hq
  clear hq
  go_wp2_with fail
  refine (H2.out _).mono ?_
  rintro e w2 ⟨rfl, hq⟩
  have e2 := b0 e1 hq
  clear hq e1
  go_wp2_with fail
  refine (H3.out _).mono ?_
  rintro e w3 ⟨rfl, hq⟩
  have d3 := (Blk.new w2 25 #[.int .u64 258, .int .u32 3, .int .i64 4, .int .i64 5]).same (hq.block _ (by simp))
  have e3 := b0 (ba e2 _) hq
  clear hq e2
  go_wp2_with fail
  refine (H4.out _).mono ?_
  rintro e w4 ⟨rfl, hq⟩
  have d3a := d3.alloc (.cells #[.int .u64 0, .int .u32 0, .int .i64 0, .int .i64 0] 25)
  have d4 := d3a.same (hq.block _ d3a.lt)
  have e4 := b0 (ba e3 _) hq
  clear d3a
  clear hq e3 d3
  have c0 := d4.cell 0
  have c1 := d4.cell 1
  have c2 := d4.cell 2
  have c3 := d4.cell 3
  simp only [List.getElem?_toArray, List.getElem?_cons_zero, List.getElem?_cons_succ] at c0 c1 c2 c3
  clear d4
  go_wp2_with (first
    | (go_at_call 18; ((with_reducible refine (HM1.out _).mono ?_); rintro e w' ⟨rfl, rfl⟩))
    | (go_at_call 18; ((with_reducible refine (HM2.out _).mono ?_); rintro e w' ⟨rfl, rfl⟩))
    | (go_at_call 18; ((with_reducible refine (HM3.out _).mono ?_); rintro e w' ⟨rfl, rfl⟩))
    | (go_at_call 14; ((with_reducible refine (HV1.out _).mono ?_); rintro e w' ⟨rfl, rfl⟩))
    | (go_at_call 14; ((with_reducible refine (HV2.out _).mono ?_); rintro e w' ⟨rfl, rfl⟩))
    | (go_at_call 16; ((with_reducible refine (HU1.out _).mono ?_); rintro e w' ⟨rfl, rfl⟩)))
  go_ret
  exact ⟨rfl, e4⟩
theorem fixed_any (w : World) : Calls Try.prog 13 #[] w fun e w' => e = .returned (.bool true) ∧ Below w.heap.size w w' := by
  refine fixed_walk w (fun W => ?_) (fun W => ?_) (fun W => ?_) (fun W => ?_) (fun W => ?_) (fun W => ?_) (fun W => ?_) (fun W => ?_) (fun W => ?_) (fun W => ?_)
  · have h := build_ok 258 3 4 5 (by decide) (by decide) (by decide) (by decide) W
    rw [fx_b] at h
    exact h
  · have h := parse_ok (⟨#[2, 1, 0, 0, 0, 0, 0, 0, 3, 0, 0, 0, 4, 0, 5, 0]⟩ : ByteArray) rfl W
    rw [fx_p.1, fx_p.2.1, fx_p.2.2.1, fx_p.2.2.2] at h
    exact h
  · exact parse_bad ⟨#[120]⟩ (by decide) W
  · exact build_id 0 0 65536 0 W (by decide)
  · exact mark_any 0 rest0 false false true false W
  · exact mark_any 0 rest0 false false false false W
  · exact mark_any 3 rest3 false false true true W
  · exact avail_any 0 rest0 true false true W
  · exact avail_any 0 rest0 false false false W
  · exact used_any 0 rest0 false false false W
end Go.Proofs.Ytmipjmoemmgkiaa

/-
  For every input the law FlowHash returns true, and its arguments read afterwards as before; no condition beyond the form's own reach.
-/
import Derived.Test.YtpelohmondhiiaaMk
namespace Go.Proofs.Ytpelohmondhiiaa
open Go.Joins Go.ChangeShapes Go.WideShapes Go.ChangeAt Go.RowKit Go.Deep
open Go.ChangeMaps (open_string)

set_option maxRecDepth 100000 in
set_option maxHeartbeats 1600000 in
theorem flowHash_short (key : ByteArray) (k : Int) (x : ByteArray) (w : World) (h : x.size ≤ 100) (l : Int) (lx : ByteArray) (U V : Int)
    (A1 : ∀ W, Calls Try.prog 12 #[.string key, .agg #[.int .i64 k, .string x]] W fun e w' => e = .returned (.tuple #[.int .u32 U, .int .i64 V]) ∧ Below W.heap.size W w')
    (A2 : ∀ W, Calls Try.prog 13 #[.string key, .string x] W fun e w' => e = .returned (.tuple #[.int .u32 U, .int .i64 V]) ∧ W = w')
    (A3 : ∀ W, Calls Try.prog 14 #[.agg #[.int .i64 k, .string x]] W fun e w' => e = .returned (.agg #[.int .i64 l, .string lx]) ∧ Below W.heap.size W w')
    (A4 : ∀ W, Calls Try.prog 15 #[.agg #[.int .i64 k, .string x]] W fun e w' => e = .returned (.agg #[.int .i64 l, .string lx]) ∧ Below W.heap.size W w') :
    Calls Try.prog 4 #[.string key, .agg #[.int .i64 k, .string x]] w fun e w' => e = .returned (.bool true) ∧ Below w.heap.size w w' := by
  have H1 := Lib.hid A1
  have H2 := Lib.hid A2
  have H3 := Lib.hid A3
  have H4 := Lib.hid A4
  clear A1 A2 A3 A4
  go_enter Try.func4, Try.ntmps4
  go_wp2_with fail
  refine (H1.out _).mono ?_
  rintro e w1 ⟨rfl, hq⟩
  have h1 := (Held.new w 24 #[.int .i64 k, .string x]).next hq
  clear hq
  have c0 : w1.cell? ⟨w.heap.size, 0, none⟩ = some (.int .i64 k) := h1.blk.cell 0
  have c1 : w1.cell? ⟨w.heap.size, 1, none⟩ = some (.string x) := h1.blk.cell 1
  go_wp2_with fail
  refine (H2.out _).mono ?_
  rintro e w2 ⟨rfl, rfl⟩
  go_wp2_with fail
  have q0 := held2_here h1
  go_region_held (fun w' => (w'.cell? ⟨w.heap.size, 0, none⟩ = some (.int .i64 k) ∧ w'.cell? ⟨w.heap.size, 1, none⟩ = some (.string x)) ∧ Held w 24 #[.int .i64 k, .string x] w')
    (first | exact q0 | assumption | exact held2_on (by assumption) hq)
    (first
      | (go_at_call 9; ((with_reducible refine (fixed_any _).mono ?_); rintro e w' ⟨rfl, hq⟩))
      | (go_at_call 14; ((with_reducible refine (H3.out _).mono ?_); rintro e w' ⟨rfl, hq⟩))
      | (go_at_call 15; ((with_reducible refine (H4.out _).mono ?_); rintro e w' ⟨rfl, hq⟩)))
  all_goals
    rename_i hH
    have hB := hH.2.below
    go_wp2
    go_ret
    exact ⟨rfl, hB⟩
set_option maxRecDepth 100000 in
set_option maxHeartbeats 1600000 in
theorem flowHash_long (key : ByteArray) (k : Int) (y x : ByteArray) (w : World) (h : 100 < y.size) (ex : y.extract 0 100 = x) (l : Int) (lx : ByteArray) (U V : Int)
    (A1 : ∀ W, Calls Try.prog 12 #[.string key, .agg #[.int .i64 k, .string x]] W fun e w' => e = .returned (.tuple #[.int .u32 U, .int .i64 V]) ∧ Below W.heap.size W w')
    (A2 : ∀ W, Calls Try.prog 13 #[.string key, .string x] W fun e w' => e = .returned (.tuple #[.int .u32 U, .int .i64 V]) ∧ W = w')
    (A3 : ∀ W, Calls Try.prog 14 #[.agg #[.int .i64 k, .string x]] W fun e w' => e = .returned (.agg #[.int .i64 l, .string lx]) ∧ Below W.heap.size W w')
    (A4 : ∀ W, Calls Try.prog 15 #[.agg #[.int .i64 k, .string x]] W fun e w' => e = .returned (.agg #[.int .i64 l, .string lx]) ∧ Below W.heap.size W w') :
    Calls Try.prog 4 #[.string key, .agg #[.int .i64 k, .string y]] w fun e w' => e = .returned (.bool true) ∧ Below w.heap.size w w' := by
  have H1 := Lib.hid A1
  have H2 := Lib.hid A2
  have H3 := Lib.hid A3
  have H4 := Lib.hid A4
  clear A1 A2 A3 A4
  go_enter Try.func4, Try.ntmps4
  go_wp2_with fail
  refine (H1.out _).mono ?_
  rintro e w1 ⟨rfl, hq⟩
  have h1 := (Held.new w 24 #[.int .i64 k, .string x]).next hq
  clear hq
  have c0 : w1.cell? ⟨w.heap.size, 0, none⟩ = some (.int .i64 k) := h1.blk.cell 0
  have c1 : w1.cell? ⟨w.heap.size, 1, none⟩ = some (.string x) := h1.blk.cell 1
  go_wp2_with fail
  refine (H2.out _).mono ?_
  rintro e w2 ⟨rfl, rfl⟩
  go_wp2_with fail
  have q0 := held2_here h1
  go_region_held (fun w' => (w'.cell? ⟨w.heap.size, 0, none⟩ = some (.int .i64 k) ∧ w'.cell? ⟨w.heap.size, 1, none⟩ = some (.string x)) ∧ Held w 24 #[.int .i64 k, .string x] w')
    (first | exact q0 | assumption | exact held2_on (by assumption) hq)
    (first
      | (go_at_call 9; ((with_reducible refine (fixed_any _).mono ?_); rintro e w' ⟨rfl, hq⟩))
      | (go_at_call 14; ((with_reducible refine (H3.out _).mono ?_); rintro e w' ⟨rfl, hq⟩))
      | (go_at_call 15; ((with_reducible refine (H4.out _).mono ?_); rintro e w' ⟨rfl, hq⟩)))
  all_goals
    rename_i hH
    have hB := hH.2.below
    go_wp2
    go_ret
    exact ⟨rfl, hB⟩
theorem hashE_cases (key s : ByteArray) : ∃ U V : Int, hashE key s = .tuple #[.int .u32 U, .int .i64 V] := by
  unfold hashE
  split
  · exact ⟨_, _, rfl⟩
  · exact ⟨_, _, rfl⟩
theorem flowHash_all (key : ByteArray) (f : Fw) (w : World) :
    Calls Try.prog 4 #[.string key, .agg #[.int .i64 f.kind, .string f.key]] w fun e w' => e = .returned (.bool true) ∧ Below w.heap.size w w' := by
  obtain ⟨k, y⟩ := f
  have main : ∀ x : ByteArray, x.size ≤ 100 → ∃ U V l : Int, ∃ lx : ByteArray,
      (∀ W, Calls Try.prog 12 #[.string key, .agg #[.int .i64 k, .string x]] W fun e w' => e = .returned (.tuple #[.int .u32 U, .int .i64 V]) ∧ Below W.heap.size W w') ∧
      (∀ W, Calls Try.prog 13 #[.string key, .string x] W fun e w' => e = .returned (.tuple #[.int .u32 U, .int .i64 V]) ∧ W = w') ∧
      (∀ W, Calls Try.prog 14 #[.agg #[.int .i64 k, .string x]] W fun e w' => e = .returned (.agg #[.int .i64 l, .string lx]) ∧ Below W.heap.size W w') ∧
      (∀ W, Calls Try.prog 15 #[.agg #[.int .i64 k, .string x]] W fun e w' => e = .returned (.agg #[.int .i64 l, .string lx]) ∧ Below W.heap.size W w') := by
    intro x hx
    obtain ⟨U, V, hE⟩ := hashE_cases key x
    refine ⟨U, V, (lessV ⟨k, x⟩).kind, (lessV ⟨k, x⟩).key, fun W => ?_, fun W => ?_, less_any ⟨k, x⟩, rless_any ⟨k, x⟩⟩
    · have := flowHash_any key ⟨k, x⟩ W
      simp only [hE] at this
      exact this
    · have := hashr_any key x W (by omega)
      rw [hE] at this
      exact this
  by_cases h : y.size ≤ 100
  · obtain ⟨U, V, l, lx, A1, A2, A3, A4⟩ := main y h
    exact flowHash_short key k y w h l lx U V A1 A2 A3 A4
  · obtain ⟨U, V, l, lx, A1, A2, A3, A4⟩ := main (y.extract 0 100) (by rw [ByteArray.size_extract]; omega)
    exact flowHash_long key k y _ w (by omega) rfl l lx U V A1 A2 A3 A4

set_option maxRecDepth 100000 in
theorem flowHash_lifted (os : Os) (started : os.Started) (H : Type) (enc : TypeId × Value → H) :
    ReturnsInHanded {} Try.checked os 4 .any (Rows.flowHashSpec.pre6 enc Try.prog Try.f4 Rows.flowHashRow.domain false) (Rows.flowHashSpec.post enc Try.prog Try.f4 false true false false) := by
  have e : Try.f4.params.toList = [9, 24] := by rw [Try.params4]
  refine law_of_walk (C := Try.checked) (tb := 4) H enc Try.own started (by kernel_rfl) Try.func4 Try.laidOut rfl rfl Try.underlying4 ?_ ?_
    (ChangeSpec.witness6 (enc := enc) (C := Try.checked) false ⟨#[], #[.string ByteArray.empty, .agg #[.int .i64 0, .string ByteArray.empty]], []⟩ 8 (by kernel_rfl) (by kernel_rfl) (by kernel_rfl) (by kernel_rfl)) ?_
  · rw [e]
    intro t ht
    simp only [List.mem_cons, List.not_mem_nil, or_false] at ht
    rcases ht with rfl | rfl <;> exact ⟨by kernel_rfl, of_decide_eq_true (by kernel_rfl)⟩
  · intro ds hds
    rw [e] at hds
    match ds, hds with
    | [d0, d1], _ => rfl
  · intro W base args ds p hval0 hA0 hsz0
    have hval : ∀ (j : Nat) t v, Try.f4.params[j]? = some t → args[j]? = some v → Value.okWide Try.prog W .any base t v := hval0
    have hA : DataW.TrodAll enc Try.prog W 0 (fun _ => true) true Try.f4.params.toList args.toList ds p := hA0
    have hsz : (DataW.weightsEach Try.prog Try.f4.params.toList ds).all (· ≤ reachBytes) = true := hsz0
    rw [Try.params4] at hA hval hsz
    obtain ⟨v0, v1, d0, d1, p0, p1, rfl, rfl, rfl, h0, h1⟩ := trodAll_two hA
    obtain ⟨x0, rfl, rfl, rfl, _⟩ := open_string Try.underlying9 (hval 0 9 v0 rfl rfl) h0
    obtain ⟨x1, rfl, rfl, _⟩ := open_flow (hval 1 24 v1 rfl rfl) h1
    have s0 := sized_string hsz (j := 0) (t := 9) rfl rfl
    have s1 := flow_key_sized (j := 1) (f := x1) hsz rfl rfl
    simp only [reachBytes] at s0
    exact flowHash_all x0 x1 W

theorem flowHash_holds : Rows.FlowHashSaid :=
  OpenClaim.holds_of_wide 4 Try.f4 rfl rfl rfl rfl rfl rfl rfl ⟨rfl, rfl, rfl, rfl, rfl⟩ rfl rfl rfl rfl rfl (by kernel_rfl) Try.func4 (by kernel_rfl)
    (of_decide_eq_true (by kernel_rfl)) (by unfold Func.isWrapper; first | (rw [if_pos (by decide +kernel)]; kernel_rfl) | (rw [if_neg (by decide +kernel)]; exact ⟨rfl, rfl⟩))
    (fun os started H enc _ => flowHash_lifted os started H enc)
end Go.Proofs.Ytpelohmondhiiaa

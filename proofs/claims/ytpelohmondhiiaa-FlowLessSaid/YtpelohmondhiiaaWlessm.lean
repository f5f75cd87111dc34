/-
  For every input the law FlowLess returns true, and its arguments read afterwards as before; no condition beyond the form's own reach.
-/
import Derived.Test.YtpelohmondhiiaaMk
import Derived.Test.YtpelohmondhiiaaWhashm
namespace Go.Proofs.Ytpelohmondhiiaa
open Go.Joins Go.ChangeShapes Go.WideShapes Go.ChangeAt Go.RowKit Go.Deep
open Go.ChangeMaps (open_string)

set_option maxRecDepth 100000 in
set_option maxHeartbeats 1600000 in
theorem flowLess_ss (key : ByteArray) (k : Int) (x : ByteArray) (w : World) (h : x.size ≤ 60) (l : Int) (U V : Int)
    (A1 : ∀ W, Calls Try.prog 14 #[.agg #[.int .i64 k, .string x]] W fun e w' => e = .returned (.agg #[.int .i64 l, .string x]) ∧ Below W.heap.size W w')
    (A2 : ∀ W, Calls Try.prog 12 #[.string key, .agg #[.int .i64 l, .string x]] W fun e w' => e = .returned (.tuple #[.int .u32 U, .int .i64 V]) ∧ Below W.heap.size W w')
    (A3 : ∀ W, Calls Try.prog 13 #[.string key, .string x] W fun e w' => e = .returned (.tuple #[.int .u32 U, .int .i64 V]) ∧ W = w')
    (A4 : ∀ W, Calls Try.prog 14 #[.agg #[.int .i64 l, .string x]] W fun e w' => e = .returned (.agg #[.int .i64 l, .string x]) ∧ Below W.heap.size W w') :
    Calls Try.prog 7 #[.string key, .agg #[.int .i64 k, .string x]] w fun e w' => e = .returned (.bool true) ∧ Below w.heap.size w w' := by
  have H1 := Lib.hid A1
  have H2 := Lib.hid A2
  have H3 := Lib.hid A3
  have H4 := Lib.hid A4
  clear A1 A2 A3 A4
  go_enter Try.func7, Try.ntmps7
  go_wp2_with fail
  refine (H1.out _).mono ?_
  rintro e w1 ⟨rfl, hq⟩
  have h1 := (Held.new w 24 #[.int .i64 k, .string x]).next hq
  clear hq
  go_wp2_with fail
  refine (H2.out _).mono ?_
  rintro e w2 ⟨rfl, hq⟩
  have h2 : Held w1 24 #[.int .i64 l, .string x] w2 := (Held.new w1 24 #[.int .i64 l, .string x]).next hq
  have h3 : Blk w2 w.heap.size 24 #[.int .i64 k, .string x] := (h1.blk.alloc _).same (hq.block _ (by have := h1.blk.lt; simp; omega))
  clear hq
  have c0 : w2.cell? ⟨w1.heap.size, 0, none⟩ = some (.int .i64 l) := h2.blk.cell 0
  have c1 : w2.cell? ⟨w1.heap.size, 1, none⟩ = some (.string x) := h2.blk.cell 1
  have c3 : w2.cell? ⟨w.heap.size, 1, none⟩ = some (.string x) := h3.cell 1
  go_wp2_with fail
  refine (H3.out _).mono ?_
  rintro e w3 ⟨rfl, rfl⟩
  go_wp2_with fail
  have q0 := held2_here h2
  go_region_held (fun w' => (w'.cell? ⟨w1.heap.size, 0, none⟩ = some (.int .i64 l) ∧ w'.cell? ⟨w1.heap.size, 1, none⟩ = some (.string x)) ∧ Held w1 24 #[.int .i64 l, .string x] w')
    (first | exact q0 | assumption | exact held2_on (by assumption) hq)
    (first
      | (go_at_call 9; ((with_reducible refine (fixed_any _).mono ?_); rintro e w' ⟨rfl, hq⟩))
      | (go_at_call 14; ((with_reducible refine (H4.out _).mono ?_); rintro e w' ⟨rfl, hq⟩)))
  all_goals
    rename_i hH
    have hB := h1.below.trans (hH.2.below.mono h1.below.size)
    go_wp2
    go_ret
    exact ⟨rfl, hB⟩
set_option maxRecDepth 100000 in
set_option maxHeartbeats 1600000 in
theorem flowLess_sl (key : ByteArray) (k : Int) (x lx : ByteArray) (w : World) (h : x.size ≤ 60) (hl : lx.size < x.size) (el : x.extract 0 lx.size = lx) (l : Int) (U V : Int)
    (A1 : ∀ W, Calls Try.prog 14 #[.agg #[.int .i64 k, .string x]] W fun e w' => e = .returned (.agg #[.int .i64 l, .string lx]) ∧ Below W.heap.size W w')
    (A2 : ∀ W, Calls Try.prog 12 #[.string key, .agg #[.int .i64 l, .string lx]] W fun e w' => e = .returned (.tuple #[.int .u32 U, .int .i64 V]) ∧ Below W.heap.size W w')
    (A3 : ∀ W, Calls Try.prog 13 #[.string key, .string lx] W fun e w' => e = .returned (.tuple #[.int .u32 U, .int .i64 V]) ∧ W = w')
    (A4 : ∀ W, Calls Try.prog 14 #[.agg #[.int .i64 l, .string lx]] W fun e w' => e = .returned (.agg #[.int .i64 l, .string lx]) ∧ Below W.heap.size W w') :
    Calls Try.prog 7 #[.string key, .agg #[.int .i64 k, .string x]] w fun e w' => e = .returned (.bool true) ∧ Below w.heap.size w w' := by
  have H1 := Lib.hid A1
  have H2 := Lib.hid A2
  have H3 := Lib.hid A3
  have H4 := Lib.hid A4
  clear A1 A2 A3 A4
  go_enter Try.func7, Try.ntmps7
  go_wp2_with fail
  refine (H1.out _).mono ?_
  rintro e w1 ⟨rfl, hq⟩
  have h1 := (Held.new w 24 #[.int .i64 k, .string x]).next hq
  clear hq
  go_wp2_with fail
  refine (H2.out _).mono ?_
  rintro e w2 ⟨rfl, hq⟩
  have h2 : Held w1 24 #[.int .i64 l, .string lx] w2 := (Held.new w1 24 #[.int .i64 l, .string lx]).next hq
  have h3 : Blk w2 w.heap.size 24 #[.int .i64 k, .string x] := (h1.blk.alloc _).same (hq.block _ (by have := h1.blk.lt; simp; omega))
  clear hq
  have c0 : w2.cell? ⟨w1.heap.size, 0, none⟩ = some (.int .i64 l) := h2.blk.cell 0
  have c1 : w2.cell? ⟨w1.heap.size, 1, none⟩ = some (.string lx) := h2.blk.cell 1
  have c3 : w2.cell? ⟨w.heap.size, 1, none⟩ = some (.string x) := h3.cell 1
  go_wp2_with fail
  refine (H3.out _).mono ?_
  rintro e w3 ⟨rfl, rfl⟩
  go_wp2_with fail
  have q0 := held2_here h2
  go_region_held (fun w' => (w'.cell? ⟨w1.heap.size, 0, none⟩ = some (.int .i64 l) ∧ w'.cell? ⟨w1.heap.size, 1, none⟩ = some (.string lx)) ∧ Held w1 24 #[.int .i64 l, .string lx] w')
    (first | exact q0 | assumption | exact held2_on (by assumption) hq)
    (first
      | (go_at_call 9; ((with_reducible refine (fixed_any _).mono ?_); rintro e w' ⟨rfl, hq⟩))
      | (go_at_call 14; ((with_reducible refine (H4.out _).mono ?_); rintro e w' ⟨rfl, hq⟩)))
  all_goals
    rename_i hH
    have hB := h1.below.trans (hH.2.below.mono h1.below.size)
    go_wp2
    go_ret
    exact ⟨rfl, hB⟩
set_option maxRecDepth 100000 in
set_option maxHeartbeats 1600000 in
theorem flowLess_ls (key : ByteArray) (k : Int) (y x : ByteArray) (w : World) (h : 60 < y.size) (ex : y.extract 0 60 = x) (l : Int) (U V : Int)
    (A1 : ∀ W, Calls Try.prog 14 #[.agg #[.int .i64 k, .string x]] W fun e w' => e = .returned (.agg #[.int .i64 l, .string x]) ∧ Below W.heap.size W w')
    (A2 : ∀ W, Calls Try.prog 12 #[.string key, .agg #[.int .i64 l, .string x]] W fun e w' => e = .returned (.tuple #[.int .u32 U, .int .i64 V]) ∧ Below W.heap.size W w')
    (A3 : ∀ W, Calls Try.prog 13 #[.string key, .string x] W fun e w' => e = .returned (.tuple #[.int .u32 U, .int .i64 V]) ∧ W = w')
    (A4 : ∀ W, Calls Try.prog 14 #[.agg #[.int .i64 l, .string x]] W fun e w' => e = .returned (.agg #[.int .i64 l, .string x]) ∧ Below W.heap.size W w') :
    Calls Try.prog 7 #[.string key, .agg #[.int .i64 k, .string y]] w fun e w' => e = .returned (.bool true) ∧ Below w.heap.size w w' := by
  have H1 := Lib.hid A1
  have H2 := Lib.hid A2
  have H3 := Lib.hid A3
  have H4 := Lib.hid A4
  clear A1 A2 A3 A4
  go_enter Try.func7, Try.ntmps7
  go_wp2_with fail
  refine (H1.out _).mono ?_
  rintro e w1 ⟨rfl, hq⟩
  have h1 := (Held.new w 24 #[.int .i64 k, .string x]).next hq
  clear hq
  go_wp2_with fail
  refine (H2.out _).mono ?_
  rintro e w2 ⟨rfl, hq⟩
  have h2 : Held w1 24 #[.int .i64 l, .string x] w2 := (Held.new w1 24 #[.int .i64 l, .string x]).next hq
  have h3 : Blk w2 w.heap.size 24 #[.int .i64 k, .string x] := (h1.blk.alloc _).same (hq.block _ (by have := h1.blk.lt; simp; omega))
  clear hq
  have c0 : w2.cell? ⟨w1.heap.size, 0, none⟩ = some (.int .i64 l) := h2.blk.cell 0
  have c1 : w2.cell? ⟨w1.heap.size, 1, none⟩ = some (.string x) := h2.blk.cell 1
  have c3 : w2.cell? ⟨w.heap.size, 1, none⟩ = some (.string x) := h3.cell 1
  go_wp2_with fail
  refine (H3.out _).mono ?_
  rintro e w3 ⟨rfl, rfl⟩
  go_wp2_with fail
  have q0 := held2_here h2
  go_region_held (fun w' => (w'.cell? ⟨w1.heap.size, 0, none⟩ = some (.int .i64 l) ∧ w'.cell? ⟨w1.heap.size, 1, none⟩ = some (.string x)) ∧ Held w1 24 #[.int .i64 l, .string x] w')
    (first | exact q0 | assumption | exact held2_on (by assumption) hq)
    (first
      | (go_at_call 9; ((with_reducible refine (fixed_any _).mono ?_); rintro e w' ⟨rfl, hq⟩))
      | (go_at_call 14; ((with_reducible refine (H4.out _).mono ?_); rintro e w' ⟨rfl, hq⟩)))
  all_goals
    rename_i hH
    have hB := h1.below.trans (hH.2.below.mono h1.below.size)
    go_wp2
    go_ret
    exact ⟨rfl, hB⟩
set_option maxRecDepth 100000 in
set_option maxHeartbeats 1600000 in
theorem flowLess_ll (key : ByteArray) (k : Int) (y x lx : ByteArray) (w : World) (h : 60 < y.size) (ex : y.extract 0 60 = x) (hl : lx.size < x.size) (el : x.extract 0 lx.size = lx) (l : Int) (U V : Int)
    (A1 : ∀ W, Calls Try.prog 14 #[.agg #[.int .i64 k, .string x]] W fun e w' => e = .returned (.agg #[.int .i64 l, .string lx]) ∧ Below W.heap.size W w')
    (A2 : ∀ W, Calls Try.prog 12 #[.string key, .agg #[.int .i64 l, .string lx]] W fun e w' => e = .returned (.tuple #[.int .u32 U, .int .i64 V]) ∧ Below W.heap.size W w')
    (A3 : ∀ W, Calls Try.prog 13 #[.string key, .string lx] W fun e w' => e = .returned (.tuple #[.int .u32 U, .int .i64 V]) ∧ W = w')
    (A4 : ∀ W, Calls Try.prog 14 #[.agg #[.int .i64 l, .string lx]] W fun e w' => e = .returned (.agg #[.int .i64 l, .string lx]) ∧ Below W.heap.size W w') :
    Calls Try.prog 7 #[.string key, .agg #[.int .i64 k, .string y]] w fun e w' => e = .returned (.bool true) ∧ Below w.heap.size w w' := by
  have H1 := Lib.hid A1
  have H2 := Lib.hid A2
  have H3 := Lib.hid A3
  have H4 := Lib.hid A4
  clear A1 A2 A3 A4
  go_enter Try.func7, Try.ntmps7
  go_wp2_with fail
  refine (H1.out _).mono ?_
  rintro e w1 ⟨rfl, hq⟩
  have h1 := (Held.new w 24 #[.int .i64 k, .string x]).next hq
  clear hq
  go_wp2_with fail
  refine (H2.out _).mono ?_
  rintro e w2 ⟨rfl, hq⟩
  have h2 : Held w1 24 #[.int .i64 l, .string lx] w2 := (Held.new w1 24 #[.int .i64 l, .string lx]).next hq
  have h3 : Blk w2 w.heap.size 24 #[.int .i64 k, .string x] := (h1.blk.alloc _).same (hq.block _ (by have := h1.blk.lt; simp; omega))
  clear hq
  have c0 : w2.cell? ⟨w1.heap.size, 0, none⟩ = some (.int .i64 l) := h2.blk.cell 0
  have c1 : w2.cell? ⟨w1.heap.size, 1, none⟩ = some (.string lx) := h2.blk.cell 1
  have c3 : w2.cell? ⟨w.heap.size, 1, none⟩ = some (.string x) := h3.cell 1
  go_wp2_with fail
  refine (H3.out _).mono ?_
  rintro e w3 ⟨rfl, rfl⟩
  go_wp2_with fail
  have q0 := held2_here h2
  go_region_held (fun w' => (w'.cell? ⟨w1.heap.size, 0, none⟩ = some (.int .i64 l) ∧ w'.cell? ⟨w1.heap.size, 1, none⟩ = some (.string lx)) ∧ Held w1 24 #[.int .i64 l, .string lx] w')
    (first | exact q0 | assumption | exact held2_on (by assumption) hq)
    (first
      | (go_at_call 9; ((with_reducible refine (fixed_any _).mono ?_); rintro e w' ⟨rfl, hq⟩))
      | (go_at_call 14; ((with_reducible refine (H4.out _).mono ?_); rintro e w' ⟨rfl, hq⟩)))
  all_goals
    rename_i hH
    have hB := h1.below.trans (hH.2.below.mono h1.below.size)
    go_wp2
    go_ret
    exact ⟨rfl, hB⟩
theorem less_cut (f : Fw) : (lessV f).key = f.key ∨ ((lessV f).key.size < f.key.size ∧ f.key.extract 0 (lessV f).key.size = (lessV f).key) := by
  have main : ∀ n, f.key.extract 0 n = f.key ∨ ((f.key.extract 0 n).size < f.key.size ∧ f.key.extract 0 (f.key.extract 0 n).size = f.key.extract 0 n) := by
    intro n
    by_cases h : f.key.size ≤ n
    · exact .inl (cut_all _ _ h)
    · have e : (f.key.extract 0 n).size = n := by rw [ByteArray.size_extract]; omega
      exact .inr ⟨by omega, by rw [e]⟩
  unfold lessV
  split
  · exact main 8
  · split
    · exact main 32
    · exact .inl rfl
theorem less_less (f : Fw) : lessV (lessV f) = lessV f := by
  unfold lessV
  split
  · rw [if_neg (by simp), if_neg (by simp)]
  · split
    · rw [if_neg (by simp), if_neg (by simp)]
    · rfl
theorem flowLess_all (key : ByteArray) (f : Fw) (w : World) :
    Calls Try.prog 7 #[.string key, .agg #[.int .i64 f.kind, .string f.key]] w fun e w' => e = .returned (.bool true) ∧ Below w.heap.size w w' := by
  obtain ⟨k, y⟩ := f
  have main : ∀ x : ByteArray, x.size ≤ 60 → ∃ U V l : Int, ∃ lx : ByteArray, (lx = x ∨ (lx.size < x.size ∧ x.extract 0 lx.size = lx)) ∧
      (∀ W, Calls Try.prog 14 #[.agg #[.int .i64 k, .string x]] W fun e w' => e = .returned (.agg #[.int .i64 l, .string lx]) ∧ Below W.heap.size W w') ∧
      (∀ W, Calls Try.prog 12 #[.string key, .agg #[.int .i64 l, .string lx]] W fun e w' => e = .returned (.tuple #[.int .u32 U, .int .i64 V]) ∧ Below W.heap.size W w') ∧
      (∀ W, Calls Try.prog 13 #[.string key, .string lx] W fun e w' => e = .returned (.tuple #[.int .u32 U, .int .i64 V]) ∧ W = w') ∧
      (∀ W, Calls Try.prog 14 #[.agg #[.int .i64 l, .string lx]] W fun e w' => e = .returned (.agg #[.int .i64 l, .string lx]) ∧ Below W.heap.size W w') := by
    intro x hx
    obtain ⟨U, V, hE⟩ := hashE_cases key (lessV ⟨k, x⟩).key
    have hc := less_cut ⟨k, x⟩
    have hl : (lessV ⟨k, x⟩).key.size ≤ 60 := by
      rcases hc with h | h
      · rw [h]; exact hx
      · have := h.1; simp only at this; omega
    refine ⟨U, V, (lessV ⟨k, x⟩).kind, (lessV ⟨k, x⟩).key, hc, less_any ⟨k, x⟩, fun W => ?_, fun W => ?_, fun W => ?_⟩
    · have := flowHash_any key (lessV ⟨k, x⟩) W
      simp only [hE] at this
      exact this
    · have := hashr_any key (lessV ⟨k, x⟩).key W (by omega)
      rw [hE] at this
      exact this
    · have := less_any (lessV ⟨k, x⟩) W
      rw [less_less] at this
      exact this
  by_cases h : y.size ≤ 60
  · obtain ⟨U, V, l, lx, hc, A1, A2, A3, A4⟩ := main y h
    rcases hc with rfl | hc
    · exact flowLess_ss key k _ w h l U V A1 A2 A3 A4
    · exact flowLess_sl key k y lx w h hc.1 hc.2 l U V A1 A2 A3 A4
  · obtain ⟨U, V, l, lx, hc, A1, A2, A3, A4⟩ := main (y.extract 0 60) (by rw [ByteArray.size_extract]; omega)
    rcases hc with rfl | hc
    · exact flowLess_ls key k y _ w (by omega) rfl l U V A1 A2 A3 A4
    · exact flowLess_ll key k y _ lx w (by omega) rfl hc.1 hc.2 l U V A1 A2 A3 A4

set_option maxRecDepth 100000 in
theorem flowLess_lifted (os : Os) (started : os.Started) (H : Type) (enc : TypeId × Value → H) :
    ReturnsInHanded {} Try.checked os 7 .any (Rows.flowLessSpec.pre6 enc Try.prog Try.f7 Rows.flowLessRow.domain false) (Rows.flowLessSpec.post enc Try.prog Try.f7 false true false false) := by
  have e : Try.f7.params.toList = [9, 24] := by rw [Try.params7]
  refine law_of_walk (C := Try.checked) (tb := 4) H enc Try.own started (by kernel_rfl) Try.func7 Try.laidOut rfl rfl Try.underlying4 ?_ ?_
    (ChangeSpec.witness6 (enc := enc) (C := Try.checked) false ⟨#[], #[.string ByteArray.empty, .agg #[.int .i64 0, .string ByteArray.empty]], []⟩ 8 (by kernel_rfl) (by kernel_rfl) (by kernel_rfl) (by kernel_rfl)) ?_
  · rw [e]
    intro t ht
    simp only [List.mem_cons, List.not_mem_nil, or_false] at ht
    rcases ht with rfl | rfl <;> exact ⟨by kernel_rfl, of_decide_eq_true (by kernel_rfl)⟩
  · intro ds hds
    rw [e] at hds
    match ds, hds with
    | [d0, d1], _ => rfl
  · intro W base args ds p hval0 hA0 hsz0
    have hval : ∀ (j : Nat) t v, Try.f7.params[j]? = some t → args[j]? = some v → Value.okWide Try.prog W .any base t v := hval0
    have hA : DataW.TrodAll enc Try.prog W 0 (fun _ => true) true Try.f7.params.toList args.toList ds p := hA0
    have hsz : (DataW.weightsEach Try.prog Try.f7.params.toList ds).all (· ≤ reachBytes) = true := hsz0
    rw [Try.params7] at hA hval hsz
    obtain ⟨v0, v1, d0, d1, p0, p1, rfl, rfl, rfl, h0, h1⟩ := trodAll_two hA
    obtain ⟨x0, rfl, rfl, rfl, _⟩ := open_string Try.underlying9 (hval 0 9 v0 rfl rfl) h0
    obtain ⟨x1, rfl, rfl, _⟩ := open_flow (hval 1 24 v1 rfl rfl) h1
    have s0 := sized_string hsz (j := 0) (t := 9) rfl rfl
    have s1 := flow_key_sized (j := 1) (f := x1) hsz rfl rfl
    simp only [reachBytes] at s0
    exact flowLess_all x0 x1 W

theorem flowLess_holds : Rows.FlowLessSaid :=
  OpenClaim.holds_of_wide 7 Try.f7 rfl rfl rfl rfl rfl rfl rfl ⟨rfl, rfl, rfl, rfl, rfl⟩ rfl rfl rfl rfl rfl (by kernel_rfl) Try.func7 (by kernel_rfl)
    (of_decide_eq_true (by kernel_rfl)) (by unfold Func.isWrapper; first | (rw [if_pos (by decide +kernel)]; kernel_rfl) | (rw [if_neg (by decide +kernel)]; exact ⟨rfl, rfl⟩))
    (fun os started H enc _ => flowLess_lifted os started H enc)
end Go.Proofs.Ytpelohmondhiiaa

/-
  For every input the law SpotNeeds returns true, and its arguments read afterwards as before; no condition beyond the form's own reach.
-/
import Derived.Test.YtcofbaioflfehaaWfr
import Derived.Test.YtcofbaioflfehaaSfx
namespace Go.Proofs.Ytcofbaioflfehaa
open Go.Joins Go.ChangeShapes Go.WideShapes Go.ChangeAt Go.RowKit Go.Deep
open Go.ChangeMaps (open_string)

set_option maxRecDepth 100000 in
set_option maxHeartbeats 3200000 in
theorem spotNeeds_walk (o : Int) (u : Bool) (f a : Int) (b : Bool) (c : Int) (d : Bool) (k n : Int) (Q : Bool) (w : World)
    (A1 : ∀ W, Calls Try.prog 21 #[.agg #[.int .i64 o, .bool u, .int .i64 f], .agg #[.int .i64 a, .bool b], .agg #[.int .i64 c, .bool d], .int .i64 n] W fun e w' => e = .returned (.bool Q) ∧ Below W.heap.size W w')
    (A2 : ∀ W, Calls Try.prog 22 #[.agg #[.int .i64 o, .bool u, .int .i64 f], .agg #[.int .i64 a, .bool b], .agg #[.int .i64 c, .bool d], .int .i64 n] W fun e w' => e = .returned (.bool Q) ∧ Below W.heap.size W w')
    (AF : ∀ W, Calls Try.prog 14 #[] W fun e w' => e = .returned (.bool true) ∧ Below W.heap.size W w') :
    Calls Try.prog 5 #[.agg #[.int .i64 o, .bool u, .int .i64 f, .int .i64 a, .bool b, .int .i64 c, .bool d, .int .i64 k, .int .i64 n]] w fun e w' => e = .returned (.bool true) ∧ Below w.heap.size w w' := by
  have H1 := Lib.hid A1
  have H2 := Lib.hid A2
  have HF := Lib.hid AF
  clear A1 A2 AF
  have eQ : (Q == Q) = true := by cases Q <;> rfl
  go_enter Try.func5, Try.ntmps5
  go_wp2_with fail
  have c0 := (H9.new w 27 (.int .i64 o) (.bool u) (.int .i64 f) (.int .i64 a) (.bool b) (.int .i64 c) (.bool d) (.int .i64 k) (.int .i64 n)).drew
  unfold H9 at c0
  go_region_held3 (fun w' => (w'.cell? ⟨w.heap.size, 0, none⟩ = some (.int .i64 o) ∧ w'.cell? ⟨w.heap.size, 1, none⟩ = some (.bool u) ∧ w'.cell? ⟨w.heap.size, 2, none⟩ = some (.int .i64 f) ∧ w'.cell? ⟨w.heap.size, 3, none⟩ = some (.int .i64 a) ∧ w'.cell? ⟨w.heap.size, 4, none⟩ = some (.bool b) ∧ w'.cell? ⟨w.heap.size, 5, none⟩ = some (.int .i64 c) ∧ w'.cell? ⟨w.heap.size, 6, none⟩ = some (.bool d) ∧ w'.cell? ⟨w.heap.size, 7, none⟩ = some (.int .i64 k) ∧ w'.cell? ⟨w.heap.size, 8, none⟩ = some (.int .i64 n)) ∧ Held w 27 #[.int .i64 o, .bool u, .int .i64 f, .int .i64 a, .bool b, .int .i64 c, .bool d, .int .i64 k, .int .i64 n] w')
    (first | exact c0 | assumption | exact H9.next (by assumption) hq)
    (first
      | (go_at_call 14; ((with_reducible refine (HF.out _).mono ?_); rintro e w' ⟨rfl, hq⟩))
      | (go_at_call 21; ((with_reducible refine (H1.out _).mono ?_); rintro e w' ⟨rfl, hq⟩))
      | (go_at_call 22; ((with_reducible refine (H2.out _).mono ?_); rintro e w' ⟨rfl, hq⟩)))
  all_goals
    rename_i hH
    go_wp2
    go_ret
    exact ⟨rfl, hH.2.below⟩
theorem spotNeeds_any (o : Int) (u : Bool) (f a : Int) (b : Bool) (c : Int) (d : Bool) (k n : Int) (w : World) :
    Calls Try.prog 5 #[.agg #[.int .i64 o, .bool u, .int .i64 f, .int .i64 a, .bool b, .int .i64 c, .bool d, .int .i64 k, .int .i64 n]] w fun e w' => e = .returned (.bool true) ∧ Below w.heap.size w w' :=
  spotNeeds_walk o u f a b c d k n _ w (fun W => need_any o f a c n u b d W) (fun W => rneed_any o f a c n u b d W) fixed_any

set_option maxRecDepth 100000 in
theorem spotNeeds_lifted (os : Os) (started : os.Started) (H : Type) (enc : TypeId × Value → H) :
    ReturnsInHanded {} Try.checked os 5 .any (Rows.spotNeedsSpec.pre6 enc Try.prog Try.f5 Rows.spotNeedsRow.domain false) (Rows.spotNeedsSpec.post enc Try.prog Try.f5 false true false false) := by
  have e : Try.f5.params.toList = [27] := by rw [Try.params5]
  refine law_of_walk (C := Try.checked) (tb := 4) H enc Try.own started (by kernel_rfl) Try.func5 Try.laidOut rfl rfl Try.underlying4 ?_ ?_
    (ChangeSpec.witness6 (enc := enc) (C := Try.checked) false ⟨#[], #[.agg #[.int .i64 0, .bool false, .int .i64 0, .int .i64 0, .bool false, .int .i64 0, .bool false, .int .i64 0, .int .i64 0]], []⟩ 8 (by kernel_rfl) (by kernel_rfl) (by kernel_rfl) (by kernel_rfl)) ?_
  · rw [e]
    intro t ht
    simp only [List.mem_cons, List.not_mem_nil, or_false] at ht
    rcases ht with rfl <;> exact ⟨by kernel_rfl, of_decide_eq_true (by kernel_rfl)⟩
  · intro ds hds
    rw [e] at hds
    match ds, hds with
    | [d0], _ => rfl
  · intro W base args ds p hval0 hA0 hsz0
    have hval : ∀ (j : Nat) t v, Try.f5.params[j]? = some t → args[j]? = some v → Value.okWide Try.prog W .any base t v := hval0
    have hA : DataW.TrodAll enc Try.prog W 0 (fun _ => true) true Try.f5.params.toList args.toList ds p := hA0
    have hsz : (DataW.weightsEach Try.prog Try.f5.params.toList ds).all (· ≤ reachBytes) = true := hsz0
    rw [Try.params5] at hA hval hsz
    obtain ⟨v0, d0, rfl, rfl, h0⟩ := trodAll_one hA
    obtain ⟨O0, U0, F0, A0, B0, C0, E0, K0, N0, rfl, bo0, bf0, ba0, bc0, bk0, bn0⟩ := open_walk (hval 0 27 v0 rfl rfl) h0
    exact spotNeeds_any O0 U0 F0 A0 B0 C0 E0 K0 N0 W

theorem spotNeeds_holds : Rows.SpotNeedsSaid :=
  OpenClaim.holds_of_wide 5 Try.f5 rfl rfl rfl rfl rfl rfl rfl ⟨rfl, rfl, rfl, rfl, rfl⟩ rfl rfl rfl rfl rfl (by kernel_rfl) Try.func5 (by kernel_rfl)
    (of_decide_eq_true (by kernel_rfl)) (by unfold Func.isWrapper; first | (rw [if_pos (by decide +kernel)]; kernel_rfl) | (rw [if_neg (by decide +kernel)]; exact ⟨rfl, rfl⟩))
    (fun os started H enc _ => spotNeeds_lifted os started H enc)
end Go.Proofs.Ytcofbaioflfehaa

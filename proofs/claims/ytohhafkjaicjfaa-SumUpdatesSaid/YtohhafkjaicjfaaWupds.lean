/-
  For every input the law SumUpdates returns true, and its arguments read afterwards as before; no condition beyond the form's own reach.
-/
import Derived.Test.YtohhafkjaicjfaaLaw
import Derived.Test.YtohhafkjaicjfaaFixed
namespace Go.Proofs.Ytohhafkjaicjfaa
open Go.Joins Go.ChangeShapes Go.WideShapes Go.ChangeAt Go.RowKit Go.Deep
open Go.ChangeMaps (open_string)


set_option maxHeartbeats 400000 in
theorem sumUpdates_any (a b c : Int) (w : World) (a1 : 0 ≤ a) (a2 : a ≤ 65535) (b1 : 0 ≤ b) (b2 : b ≤ 65535) (c1 : 0 ≤ c) (c2 : c ≤ 65535) :
    Calls Try.prog 4 #[.int .u16 a, .int .u16 b, .int .u16 c] w fun e w' => e = .returned (.bool true) ∧ Below w.heap.size w w' := by
  go_enter Try.func4, Try.ntmps4
  go_wp2_with (first
    | (go_at_call 10; refine (fixed_any _).mono ?_; rintro e w1 ⟨rfl, hb1⟩)
    | (go_at_call 16; refine (upd_any _ _ _ _ a1 a2 b1 b2 c1 c2).mono ?_; rintro e w2 ⟨rfl, hb2⟩)
    | (go_at_call 17; refine (updr_any _ _ _ _ a1 a2 b1 b2 c1 c2).mono ?_; rintro e w3 ⟨rfl, rfl⟩)
    | (go_at_call 18; ((with_reducible refine (join_any a b c _ a1 a2 b1 b2).mono ?_); rintro e w4 ⟨rfl, hb4⟩))
    | (go_at_call 19; ((with_reducible refine (joinr_any a b c _ a1 a2 b1 b2).mono ?_); rintro e w5 ⟨rfl, rfl⟩))
    | (go_at_call 18; ((with_reducible refine (join_any a c (-b) _ a1 a2 c1 c2).mono ?_); rintro e w6 ⟨rfl, hb6⟩))
    | (go_at_call 19; ((with_reducible refine (joinr_any a c (-b) _ a1 a2 c1 c2).mono ?_); rintro e w7 ⟨rfl, rfl⟩)))
  go_ret
  refine ⟨rfl, ?_⟩
  have hz1 := hb1.size
  have hz2 := hb2.size
  have hz4 := hb4.size
  exact hb1.trans <| (hb2.mono (by omega)).trans <| (hb4.mono (by omega)).trans (hb6.mono (by omega))

set_option maxRecDepth 100000 in
theorem sumUpdates_lifted (os : Os) (started : os.Started) (H : Type) (enc : TypeId × Value → H) :
    ReturnsInHanded {} Try.checked os 4 .any (Rows.sumUpdatesSpec.pre6 enc Try.prog Try.f4 Rows.sumUpdatesRow.domain false) (Rows.sumUpdatesSpec.post enc Try.prog Try.f4 false true false false) := by
  have e : Try.f4.params.toList = [22, 22, 22] := by rw [Try.params4]
  refine law_of_walk (C := Try.checked) (tb := 4) H enc Try.own started (by kernel_rfl) Try.func4 Try.laidOut rfl rfl Try.underlying4 ?_ ?_
    (ChangeSpec.witness6 (enc := enc) (C := Try.checked) false ⟨#[], #[.int .u16 0, .int .u16 0, .int .u16 0], []⟩ 8 (by kernel_rfl) (by kernel_rfl) (by kernel_rfl) (by kernel_rfl)) ?_
  · rw [e]
    intro t ht
    simp only [List.mem_cons, List.not_mem_nil, or_false] at ht
    rcases ht with rfl | rfl | rfl <;> exact ⟨by kernel_rfl, of_decide_eq_true (by kernel_rfl)⟩
  · intro ds hds
    rw [e] at hds
    match ds, hds with
    | [d0, d1, d2], _ => rfl
  · intro W base args ds p hval0 hA0 hsz0
    have hval : ∀ (j : Nat) t v, Try.f4.params[j]? = some t → args[j]? = some v → Value.okWide Try.prog W .any base t v := hval0
    have hA : DataW.TrodAll enc Try.prog W 0 (fun _ => true) true Try.f4.params.toList args.toList ds p := hA0
    have hsz : (DataW.weightsEach Try.prog Try.f4.params.toList ds).all (· ≤ reachBytes) = true := hsz0
    rw [Try.params4] at hA hval hsz
    obtain ⟨v0, v1, v2, d0, d1, d2, p0, p1, p2, rfl, rfl, rfl, h0, h1, h2⟩ := trodAll_three hA
    obtain ⟨x0, rfl, rfl, rfl, k0⟩ := open_int Try.underlying22 (hval 0 22 v0 rfl rfl) h0
    have b0 := bounds_u16 k0
    obtain ⟨x1, rfl, rfl, rfl, k1⟩ := open_int Try.underlying22 (hval 1 22 v1 rfl rfl) h1
    have b1 := bounds_u16 k1
    obtain ⟨x2, rfl, rfl, rfl, k2⟩ := open_int Try.underlying22 (hval 2 22 v2 rfl rfl) h2
    have b2 := bounds_u16 k2
    clear hsz hsz0
    exact sumUpdates_any x0 x1 x2 W b0.1 b0.2 b1.1 b1.2 b2.1 b2.2

theorem sumUpdates_holds : Rows.SumUpdatesSaid :=
  OpenClaim.holds_of_wide 4 Try.f4 rfl rfl rfl rfl rfl rfl rfl ⟨rfl, rfl, rfl, rfl, rfl⟩ rfl rfl rfl rfl rfl (by kernel_rfl) Try.func4 (by kernel_rfl)
    (of_decide_eq_true (by kernel_rfl)) (by unfold Func.isWrapper; first | (rw [if_pos (by decide +kernel)]; kernel_rfl) | (rw [if_neg (by decide +kernel)]; exact ⟨rfl, rfl⟩))
    (fun os started H enc _ => sumUpdates_lifted os started H enc)
end Go.Proofs.Ytohhafkjaicjfaa

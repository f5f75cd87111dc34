/-
  For every input the law SumAgain returns true, and its arguments read afterwards as before; no condition beyond the form's own reach.
-/
import Derived.Test.YtohhafkjaicjfaaLaw
import Derived.Test.YtohhafkjaicjfaaFixed
namespace Go.Proofs.Ytohhafkjaicjfaa
open Go.Joins Go.ChangeShapes Go.WideShapes Go.ChangeAt Go.RowKit Go.Deep
open Go.ChangeMaps (open_string)


theorem upd_range (a b c : Int) (a1 : 0 ≤ a) (a2 : a ≤ 65535) (b1 : 0 ≤ b) (b2 : b ≤ 65535) (c1 : 0 ≤ c) (c2 : c ≤ 65535) : 0 ≤ upd a b c ∧ upd a b c ≤ 65535 := by
  unfold upd ones; split <;> split <;> omega
theorem upd_again (a b c : Int) (a1 : 0 ≤ a) (a2 : a ≤ 65535) (b1 : 0 ≤ b) (b2 : b ≤ 65535) (c1 : 0 ≤ c) (c2 : c ≤ 65535) : upd (upd a b c) c b = a ∨ (upd (upd a b c) c b ≠ a ∧ upd (upd a b c) c b % 65535 = 0 ∧ a % 65535 = 0) := by
  unfold upd ones; split <;> split <;> split <;> split <;> omega

set_option maxHeartbeats 400000 in
theorem sumAgain_any (a b c : Int) (w : World) (a1 : 0 ≤ a) (a2 : a ≤ 65535) (b1 : 0 ≤ b) (b2 : b ≤ 65535) (c1 : 0 ≤ c) (c2 : c ≤ 65535) :
    Calls Try.prog 9 #[.int .u16 a, .int .u16 b, .int .u16 c] w fun e w' => e = .returned (.bool true) ∧ Below w.heap.size w w' := by
  have hr := upd_range a b c a1 a2 b1 b2 c1 c2
  have hr2 := upd_range (upd a b c) c b hr.1 hr.2 c1 c2 b1 b2
  have G1 := Lib.hid (fun w => upd_any a b c w a1 a2 b1 b2 c1 c2)
  have G2 := Lib.hid (fun w => upd_any (upd a b c) c b w hr.1 hr.2 c1 c2 b1 b2)
  have ht := upd_again a b c a1 a2 b1 b2 c1 c2
  generalize upd (upd a b c) c b = y at *
  generalize upd a b c = x at *
  rcases ht with rfl | ⟨ht, hy, hz⟩
  · go_enter Try.func9, Try.ntmps9
    go_wp2_with (first
      | (go_at_call 16; ((with_reducible refine (G1.out _).mono ?_); rintro e w1 ⟨rfl, hb1⟩))
      | (go_at_call 16; ((with_reducible refine (G2.out _).mono ?_); rintro e w2 ⟨rfl, hb2⟩))
      | (go_at_call 10; refine (fixed_any _).mono ?_; rintro e w3 ⟨rfl, hb3⟩))
    go_ret
    refine ⟨rfl, ?_⟩
    have hz1 := hb1.size
    have hz2 := hb2.size
    exact hb1.trans <| (hb2.mono (by omega)).trans (hb3.mono (by omega))
  · have hy' : y.tmod 65535 = 0 := by rw [Int.tmod_eq_emod_of_nonneg (by omega)]; exact hy
    have hz' : a.tmod 65535 = 0 := by rw [Int.tmod_eq_emod_of_nonneg (by omega)]; exact hz
    go_enter Try.func9, Try.ntmps9
    go_wp2_with (first
      | (go_at_call 16; ((with_reducible refine (G1.out _).mono ?_); rintro e w1 ⟨rfl, hb1⟩))
      | (go_at_call 16; ((with_reducible refine (G2.out _).mono ?_); rintro e w2 ⟨rfl, hb2⟩))
      | (go_at_call 10; refine (fixed_any _).mono ?_; rintro e w3 ⟨rfl, hb3⟩))
    go_ret
    refine ⟨rfl, ?_⟩
    have hz1 := hb1.size
    have hz2 := hb2.size
    exact hb1.trans <| (hb2.mono (by omega)).trans (hb3.mono (by omega))

set_option maxRecDepth 100000 in
theorem sumAgain_lifted (os : Os) (started : os.Started) (H : Type) (enc : TypeId × Value → H) :
    ReturnsInHanded {} Try.checked os 9 .any (Rows.sumAgainSpec.pre6 enc Try.prog Try.f9 Rows.sumAgainRow.domain false) (Rows.sumAgainSpec.post enc Try.prog Try.f9 false true false false) := by
  have e : Try.f9.params.toList = [22, 22, 22] := by rw [Try.params9]
  refine law_of_walk (C := Try.checked) (tb := 4) H enc Try.own started (by kernel_rfl) Try.func9 Try.laidOut rfl rfl Try.underlying4 ?_ ?_
    (ChangeSpec.witness6 (enc := enc) (C := Try.checked) false ⟨#[], #[.int .u16 0, .int .u16 0, .int .u16 0], []⟩ 8 (by kernel_rfl) (by kernel_rfl) (by kernel_rfl) (by kernel_rfl)) ?_
  · rw [e]
    intro t ht
    simp only [List.mem_cons, List.not_mem_nil, or_false] at ht
    rcases ht with rfl | rfl | rfl <;> exact ⟨by kernel_rfl, of_decide_eq_true (by kernel_rfl)⟩
  · intro ds hds
    rw [e] at hds
    match ds, hds with
    | [d0, d1, d2], _ => rfl
  · intro W base args ds p hval0 hA0 hsz0
    have hval : ∀ (j : Nat) t v, Try.f9.params[j]? = some t → args[j]? = some v → Value.okWide Try.prog W .any base t v := hval0
    have hA : DataW.TrodAll enc Try.prog W 0 (fun _ => true) true Try.f9.params.toList args.toList ds p := hA0
    have hsz : (DataW.weightsEach Try.prog Try.f9.params.toList ds).all (· ≤ reachBytes) = true := hsz0
    rw [Try.params9] at hA hval hsz
    obtain ⟨v0, v1, v2, d0, d1, d2, p0, p1, p2, rfl, rfl, rfl, h0, h1, h2⟩ := trodAll_three hA
    obtain ⟨x0, rfl, rfl, rfl, k0⟩ := open_int Try.underlying22 (hval 0 22 v0 rfl rfl) h0
    have b0 := bounds_u16 k0
    obtain ⟨x1, rfl, rfl, rfl, k1⟩ := open_int Try.underlying22 (hval 1 22 v1 rfl rfl) h1
    have b1 := bounds_u16 k1
    obtain ⟨x2, rfl, rfl, rfl, k2⟩ := open_int Try.underlying22 (hval 2 22 v2 rfl rfl) h2
    have b2 := bounds_u16 k2
    clear hsz hsz0
    exact sumAgain_any x0 x1 x2 W b0.1 b0.2 b1.1 b1.2 b2.1 b2.2

theorem sumAgain_holds : Rows.SumAgainSaid :=
  OpenClaim.holds_of_wide 9 Try.f9 rfl rfl rfl rfl rfl rfl rfl ⟨rfl, rfl, rfl, rfl, rfl⟩ rfl rfl rfl rfl rfl (by kernel_rfl) Try.func9 (by kernel_rfl)
    (of_decide_eq_true (by kernel_rfl)) (by unfold Func.isWrapper; first | (rw [if_pos (by decide +kernel)]; kernel_rfl) | (rw [if_neg (by decide +kernel)]; exact ⟨rfl, rfl⟩))
    (fun os started H enc _ => sumAgain_lifted os started H enc)
end Go.Proofs.Ytohhafkjaicjfaa

/-
  For every input the law EthBuilds returns true, and its arguments read afterwards as before; no condition beyond the form's own reach.
-/
import Derived.Test.YtdfllobhcfajjaaLaw
import Derived.Test.YtdfllobhcfajjaaFixed
import Derived.Test.YtdfllobhcfajjaaFrame
namespace Go.Proofs.Ytdfllobhcfajjaa
open Go.Joins Go.ChangeShapes Go.WideShapes Go.ChangeAt Go.RowKit Go.Deep
open Go.ChangeMaps (open_string)

set_option maxRecDepth 100000 in
set_option maxHeartbeats 1600000 in
theorem ethBuilds_any (f : Fr) (w : World) (hb : f.b.size ≤ 140737488351232) :
    Calls Try.prog 4 #[.agg #[.string f.d, .string f.r, .int .i64 f.v, .int .i64 f.p, .int .i64 f.t, .string f.b]] w fun e w' => e = .returned (.bool true) ∧ Below w.heap.size w w' := by
  have P := fun W => build_any f W hb
  have R := fun W => refBuild_any f W hb
  generalize buildS f = S at *
  generalize buildE f = E at *
  obtain ⟨d, r, v, p, t, b⟩ := f
  have HP := Lib.hid P
  have HR := Lib.hid R
  clear P R
  go_enter Try.func4, Try.ntmps4
  go_wp2_with fail
  refine (HP.out _).mono ?_
  rintro e w1 ⟨rfl, hq⟩
  have h1 := (Six.new w d r v p t b).next hq
  obtain ⟨c0, c1, c2, c3, c4, c5, _⟩ := h1.cells
  have H1 := Lib.hid h1
  clear hq h1
  go_wp2_with fail
  refine (HR.out _).mono ?_
  rintro e w2 ⟨rfl, hq⟩
  have H2 := Lib.hid (H1.out.next hq)
  clear hq H1 c0 c1 c2 c3 c4 c5
  go_wp2_with fail
  refine (fixed_any _).mono ?_
  rintro e w3 ⟨rfl, hq⟩
  have H3 := Lib.hid (H2.out.next hq)
  clear hq H2
  go_wp2_with fail
  go_ret
  exact ⟨rfl, H3.out.below⟩

set_option maxRecDepth 100000 in
theorem ethBuilds_lifted (os : Os) (started : os.Started) (H : Type) (enc : TypeId × Value → H) :
    ReturnsInHanded {} Try.checked os 4 .any (Rows.ethBuildsSpec.pre6 enc Try.prog Try.f4 Rows.ethBuildsRow.domain false) (Rows.ethBuildsSpec.post enc Try.prog Try.f4 false true false false) := by
  have e : Try.f4.params.toList = [23] := by rw [Try.params4]
  refine law_of_walk (C := Try.checked) (tb := 4) H enc Try.own started (by kernel_rfl) Try.func4 Try.laidOut rfl rfl Try.underlying4 ?_ ?_
    (ChangeSpec.witness6 (enc := enc) (C := Try.checked) false ⟨#[], #[.agg #[.string ByteArray.empty, .string ByteArray.empty, .int .i64 0, .int .i64 0, .int .i64 0, .string ByteArray.empty]], []⟩ 8 (by kernel_rfl) (by kernel_rfl) (by kernel_rfl) (by kernel_rfl)) ?_
  · rw [e]
    intro t ht
    simp only [List.mem_cons, List.not_mem_nil, or_false] at ht
    rcases ht with rfl <;> exact ⟨by kernel_rfl, of_decide_eq_true (by kernel_rfl)⟩
  · intro ds hds
    rw [e] at hds
    match ds, hds with
    | [d0], _ => rfl
  · intro W base args ds p hval0 hA0 hsz0
    have hval : ∀ (j : Nat) t v, Try.f4.params[j]? = some t → args[j]? = some v → Value.okWide Try.prog W .any base t v := hval0
    have hA : DataW.TrodAll enc Try.prog W 0 (fun _ => true) true Try.f4.params.toList args.toList ds p := hA0
    have hsz : (DataW.weightsEach Try.prog Try.f4.params.toList ds).all (· ≤ reachBytes) = true := hsz0
    rw [Try.params4] at hA hval hsz
    obtain ⟨v0, d0, rfl, rfl, h0⟩ := trodAll_one hA
    obtain ⟨x0, rfl, rfl⟩ := open_eth (hval 0 23 v0 rfl rfl) h0
    have s0 := eth_sized (j := 0) (f := x0) hsz rfl rfl
    exact ethBuilds_any x0 W s0

theorem ethBuilds_holds : Rows.EthBuildsSaid :=
  OpenClaim.holds_of_wide 4 Try.f4 rfl rfl rfl rfl rfl rfl rfl ⟨rfl, rfl, rfl, rfl, rfl⟩ rfl rfl rfl rfl rfl (by kernel_rfl) Try.func4 (by kernel_rfl)
    (of_decide_eq_true (by kernel_rfl)) (by unfold Func.isWrapper; first | (rw [if_pos (by decide +kernel)]; kernel_rfl) | (rw [if_neg (by decide +kernel)]; exact ⟨rfl, rfl⟩))
    (fun os started H enc _ => ethBuilds_lifted os started H enc)
end Go.Proofs.Ytdfllobhcfajjaa

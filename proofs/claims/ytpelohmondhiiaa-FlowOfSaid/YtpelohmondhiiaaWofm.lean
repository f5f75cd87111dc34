/-
  For every input the law FlowOf returns true, and its arguments read afterwards as before; no condition beyond the form's own reach.
-/
import Derived.Test.YtpelohmondhiiaaMk
namespace Go.Proofs.Ytpelohmondhiiaa
open Go.Joins Go.ChangeShapes Go.WideShapes Go.ChangeAt Go.RowKit Go.Deep
open Go.ChangeMaps (open_string)

set_option maxRecDepth 100000 in
set_option maxHeartbeats 1600000 in
theorem flowOf_short (s : ByteArray) (w : World) (h : s.size ≤ 1600) :
    Calls Try.prog 3 #[.string s] w fun e w' => e = .returned (.bool true) ∧ Below w.heap.size w w' := by
  have O := fun W => of_any (s) W
  have R := fun W => rof_any (s) W
  unfold OfIs at O R
  generalize (ofV (s)).kind = K at *
  generalize (ofV (s)).key = Y at *
  have HO := Lib.hid O
  have HR := Lib.hid R
  clear O R
  go_enter Try.func3, Try.ntmps3
  go_wp2_with fail
  refine (fixed_any _).mono ?_
  rintro e w1 ⟨rfl, hq⟩
  have hB := hq
  clear hq
  go_wp2_with fail
  refine (HO.out _).mono ?_
  rintro e w2 ⟨rfl, hq⟩
  replace hB := hB.trans (hq.mono hB.size)
  clear hq
  go_wp2_with fail
  refine (HR.out _).mono ?_
  rintro e w3 ⟨rfl, hq⟩
  replace hB := hB.trans (hq.mono hB.size)
  clear hq
  go_wp2_with fail
  go_ret
  exact ⟨rfl, hB⟩
set_option maxRecDepth 100000 in
set_option maxHeartbeats 1600000 in
theorem flowOf_long (s : ByteArray) (w : World) (h : 1600 < s.size) :
    Calls Try.prog 3 #[.string s] w fun e w' => e = .returned (.bool true) ∧ Below w.heap.size w w' := by
  have O := fun W => of_any (s.extract 0 1600) W
  have R := fun W => rof_any (s.extract 0 1600) W
  unfold OfIs at O R
  generalize (ofV (s.extract 0 1600)).kind = K at *
  generalize (ofV (s.extract 0 1600)).key = Y at *
  have HO := Lib.hid O
  have HR := Lib.hid R
  clear O R
  go_enter Try.func3, Try.ntmps3
  go_wp2_with fail
  refine (fixed_any _).mono ?_
  rintro e w1 ⟨rfl, hq⟩
  have hB := hq
  clear hq
  go_wp2_with fail
  refine (HO.out _).mono ?_
  rintro e w2 ⟨rfl, hq⟩
  replace hB := hB.trans (hq.mono hB.size)
  clear hq
  go_wp2_with fail
  refine (HR.out _).mono ?_
  rintro e w3 ⟨rfl, hq⟩
  replace hB := hB.trans (hq.mono hB.size)
  clear hq
  go_wp2_with fail
  go_ret
  exact ⟨rfl, hB⟩
theorem flowOf_any (s : ByteArray) (w : World) :
    Calls Try.prog 3 #[.string s] w fun e w' => e = .returned (.bool true) ∧ Below w.heap.size w w' := by
  by_cases h : s.size ≤ 1600
  · exact flowOf_short s w h
  · exact flowOf_long s w (by omega)

set_option maxRecDepth 100000 in
theorem flowOf_lifted (os : Os) (started : os.Started) (H : Type) (enc : TypeId × Value → H) :
    ReturnsInHanded {} Try.checked os 3 .any (Rows.flowOfSpec.pre6 enc Try.prog Try.f3 Rows.flowOfRow.domain false) (Rows.flowOfSpec.post enc Try.prog Try.f3 false true false false) := by
  have e : Try.f3.params.toList = [9] := by rw [Try.params3]
  refine law_of_walk (C := Try.checked) (tb := 4) H enc Try.own started (by kernel_rfl) Try.func3 Try.laidOut rfl rfl Try.underlying4 ?_ ?_
    (ChangeSpec.witness6 (enc := enc) (C := Try.checked) false ⟨#[], #[.string ByteArray.empty], []⟩ 8 (by kernel_rfl) (by kernel_rfl) (by kernel_rfl) (by kernel_rfl)) ?_
  · rw [e]
    intro t ht
    simp only [List.mem_cons, List.not_mem_nil, or_false] at ht
    rcases ht with rfl <;> exact ⟨by kernel_rfl, of_decide_eq_true (by kernel_rfl)⟩
  · intro ds hds
    rw [e] at hds
    match ds, hds with
    | [d0], _ => rfl
  · intro W base args ds p hval0 hA0 hsz0
    have hval : ∀ (j : Nat) t v, Try.f3.params[j]? = some t → args[j]? = some v → Value.okWide Try.prog W .any base t v := hval0
    have hA : DataW.TrodAll enc Try.prog W 0 (fun _ => true) true Try.f3.params.toList args.toList ds p := hA0
    have hsz : (DataW.weightsEach Try.prog Try.f3.params.toList ds).all (· ≤ reachBytes) = true := hsz0
    rw [Try.params3] at hA hval hsz
    obtain ⟨v0, d0, rfl, rfl, h0⟩ := trodAll_one hA
    obtain ⟨x0, rfl, rfl, rfl, _⟩ := open_string Try.underlying9 (hval 0 9 v0 rfl rfl) h0
    have s0 := sized_string hsz (j := 0) (t := 9) rfl rfl
    simp only [reachBytes] at s0
    exact flowOf_any x0 W

theorem flowOf_holds : Rows.FlowOfSaid :=
  OpenClaim.holds_of_wide 3 Try.f3 rfl rfl rfl rfl rfl rfl rfl ⟨rfl, rfl, rfl, rfl, rfl⟩ rfl rfl rfl rfl rfl (by kernel_rfl) Try.func3 (by kernel_rfl)
    (of_decide_eq_true (by kernel_rfl)) (by unfold Func.isWrapper; first | (rw [if_pos (by decide +kernel)]; kernel_rfl) | (rw [if_neg (by decide +kernel)]; exact ⟨rfl, rfl⟩))
    (fun os started H enc _ => flowOf_lifted os started H enc)
end Go.Proofs.Ytpelohmondhiiaa

/-
  For every input the law EthTwo returns true, and its arguments read afterwards as before; no condition beyond the form's own reach.
-/
import Derived.Test.YtdfllobhcfajjaaLaw
import Derived.Test.YtdfllobhcfajjaaFixed
import Derived.Test.YtdfllobhcfajjaaBack
namespace Go.Proofs.Ytdfllobhcfajjaa
open Go.Joins Go.ChangeShapes Go.WideShapes Go.ChangeAt Go.RowKit Go.Deep
open Go.ChangeMaps (open_string)

set_option maxRecDepth 100000 in
set_option maxHeartbeats 1600000 in
theorem two_ok (s : ByteArray) (a b X Y N K : Int) (w : World) (hX : 0 ≤ X ∧ X < 65536) (hY : 0 ≤ Y ∧ Y < 65536) (eX : bits .and .i64 a 65535 = X) (eY : bits .and .i64 b 65535 = Y) (hN : 0 ≤ N ∧ N ≤ 4094) (hK : 0 ≤ K ∧ K ≤ 4094) (eN : X % 4095 = N) (eK : Y % 4095 = K) (h1 : tagE s N = 0) (h2 : tagE s K = 0) :
    Calls Try.prog 9 #[.string s, .int .i64 a, .int .i64 b] w fun e w' => e = .returned (.bool true) ∧ Below w.heap.size w w' := by
  have T1 := tag_any s N
  have T2 := tag_any s K
  have T3 := tag_any (tagT s N) K
  have T4 := tag_any (tagT s N) N
  obtain ⟨g1, g2⟩ := tag_tag (n := N) (k := K) h1 (.inl (by omega)) h2
  obtain ⟨g3, g4⟩ := tag_tag (n := N) (k := N) h1 (.inl (by omega)) h1
  rw [h1] at T1
  rw [h2] at T2
  rw [g1, g2] at T3
  rw [g3, g4] at T4
  generalize tagT s N = A at *
  generalize tagT s K = C at *
  have H1 := Lib.hid T1
  have H2 := Lib.hid T2
  have H3 := Lib.hid T3
  have H4 := Lib.hid T4
  clear T1 T2 T3 T4 g1 g2 g3 g4 h1 h2
  obtain ⟨hX0, hX1⟩ := hX
  obtain ⟨hY0, hY1⟩ := hY
  obtain ⟨hN0, hN1⟩ := hN
  obtain ⟨hK0, hK1⟩ := hK
  go_enter Try.func9, Try.ntmps9
  go_wp2_with fail
  refine (H1.out _).mono ?_
  rintro e w1 ⟨rfl, hB⟩
  go_wp2_with fail
  refine (H2.out _).mono ?_
  rintro e w2 ⟨rfl, hq⟩
  replace hB := hB.trans (hq.mono hB.size)
  clear hq
  go_wp2_with fail
  refine (H3.out _).mono ?_
  rintro e w3 ⟨rfl, hq⟩
  replace hB := hB.trans (hq.mono hB.size)
  clear hq
  go_wp2_with fail
  refine (H4.out _).mono ?_
  rintro e w4 ⟨rfl, hq⟩
  replace hB := hB.trans (hq.mono hB.size)
  clear hq
  go_wp2_with fail
  refine (fixed_any _).mono ?_
  rintro e w5 ⟨rfl, hq⟩
  replace hB := hB.trans (hq.mono hB.size)
  clear hq
  go_wp2_with fail
  go_ret
  exact ⟨rfl, hB⟩
set_option maxRecDepth 100000 in
set_option maxHeartbeats 1600000 in
theorem two_bad (s : ByteArray) (a b X Y N K : Int) (w : World) (hX : 0 ≤ X ∧ X < 65536) (hY : 0 ≤ Y ∧ Y < 65536) (eX : bits .and .i64 a 65535 = X) (eY : bits .and .i64 b 65535 = Y) (hN : 0 ≤ N ∧ N ≤ 4094) (hK : 0 ≤ K ∧ K ≤ 4094) (eN : X % 4095 = N) (eK : Y % 4095 = K) (h1 : (tagE s N != 0) = true) :
    Calls Try.prog 9 #[.string s, .int .i64 a, .int .i64 b] w fun e w' => e = .returned (.bool true) ∧ Below w.heap.size w w' := by
  have T1 := tag_any s N
  have T2 := tag_any s K
  rw [← tag_same s N K hN.1 hN.2 hK.1 hK.2] at T2
  generalize tagE s N = E at *
  generalize tagT s N = A at *
  generalize tagT s K = C at *
  have H1 := Lib.hid T1
  have H2 := Lib.hid T2
  clear T1 T2
  obtain ⟨hX0, hX1⟩ := hX
  obtain ⟨hY0, hY1⟩ := hY
  obtain ⟨hN0, hN1⟩ := hN
  obtain ⟨hK0, hK1⟩ := hK
  go_enter Try.func9, Try.ntmps9
  go_wp2_with fail
  refine (H1.out _).mono ?_
  rintro e w1 ⟨rfl, hB⟩
  go_wp2_with fail
  refine (H2.out _).mono ?_
  rintro e w2 ⟨rfl, hq⟩
  replace hB := hB.trans (hq.mono hB.size)
  clear hq
  go_wp2_with fail
  refine (fixed_any _).mono ?_
  rintro e w5 ⟨rfl, hq⟩
  replace hB := hB.trans (hq.mono hB.size)
  clear hq
  go_wp2_with fail
  go_ret
  exact ⟨rfl, hB⟩
theorem ethTwo_any (s : ByteArray) (a b : Int) (w : World) :
    Calls Try.prog 9 #[.string s, .int .i64 a, .int .i64 b] w fun e w' => e = .returned (.bool true) ∧ Below w.heap.size w w' := by
  obtain ⟨X, hX, eX⟩ := low16 a
  obtain ⟨Y, hY, eY⟩ := low16 b
  by_cases h : tagE s (X % 4095) = 0
  · exact two_ok s a b X Y _ _ w hX hY eX eY (by omega) (by omega) rfl rfl h ((tag_same s (X % 4095) (Y % 4095) (by omega) (by omega) (by omega) (by omega)).symm.trans h)
  · exact two_bad s a b X Y _ _ w hX hY eX eY (by omega) (by omega) rfl rfl (by simpa using h)

set_option maxRecDepth 100000 in
theorem ethTwo_lifted (os : Os) (started : os.Started) (H : Type) (enc : TypeId × Value → H) :
    ReturnsInHanded {} Try.checked os 9 .any (Rows.ethTwoSpec.pre6 enc Try.prog Try.f9 Rows.ethTwoRow.domain false) (Rows.ethTwoSpec.post enc Try.prog Try.f9 false true false false) := by
  have e : Try.f9.params.toList = [9, 3, 3] := by rw [Try.params9]
  refine law_of_walk (C := Try.checked) (tb := 4) H enc Try.own started (by kernel_rfl) Try.func9 Try.laidOut rfl rfl Try.underlying4 ?_ ?_
    (ChangeSpec.witness6 (enc := enc) (C := Try.checked) false ⟨#[], #[.string ByteArray.empty, .int .i64 0, .int .i64 0], []⟩ 8 (by kernel_rfl) (by kernel_rfl) (by kernel_rfl) (by kernel_rfl)) ?_
  · rw [e]
    intro t ht
    simp only [List.mem_cons, List.not_mem_nil, or_false] at ht
    rcases ht with rfl | rfl | rfl <;> exact ⟨by kernel_rfl, of_decide_eq_true (by kernel_rfl)⟩
  · intro ds hds
    rw [e] at hds
    match ds, hds with
    | [d0, d1, d2], _ => rfl
  · intro W base args ds p hval0 hA0 hsz0
    have hval : ∀ (j : Nat) t v, Try.f9.params[j]? = some t → args[j]? = some v → Value.okWide Try.prog W .any base t v := hval0
    have hA : DataW.TrodAll enc Try.prog W 0 (fun _ => true) true Try.f9.params.toList args.toList ds p := hA0
    have hsz : (DataW.weightsEach Try.prog Try.f9.params.toList ds).all (· ≤ reachBytes) = true := hsz0
    rw [Try.params9] at hA hval hsz
    obtain ⟨v0, v1, v2, d0, d1, d2, p0, p1, p2, rfl, rfl, rfl, h0, h1, h2⟩ := trodAll_three hA
    obtain ⟨x0, rfl, rfl, rfl, _⟩ := open_string Try.underlying9 (hval 0 9 v0 rfl rfl) h0
    obtain ⟨x1, rfl, rfl, rfl, k1⟩ := open_int Try.underlying3 (hval 1 3 v1 rfl rfl) h1
    obtain ⟨x2, rfl, rfl, rfl, k2⟩ := open_int Try.underlying3 (hval 2 3 v2 rfl rfl) h2
    have s0 := sized_string hsz (j := 0) (t := 9) rfl rfl
    simp only [reachBytes] at s0
    exact ethTwo_any x0 x1 x2 W

theorem ethTwo_holds : Rows.EthTwoSaid :=
  OpenClaim.holds_of_wide 9 Try.f9 rfl rfl rfl rfl rfl rfl rfl ⟨rfl, rfl, rfl, rfl, rfl⟩ rfl rfl rfl rfl rfl (by kernel_rfl) Try.func9 (by kernel_rfl)
    (of_decide_eq_true (by kernel_rfl)) (by unfold Func.isWrapper; first | (rw [if_pos (by decide +kernel)]; kernel_rfl) | (rw [if_neg (by decide +kernel)]; exact ⟨rfl, rfl⟩))
    (fun os started H enc _ => ethTwo_lifted os started H enc)
end Go.Proofs.Ytdfllobhcfajjaa

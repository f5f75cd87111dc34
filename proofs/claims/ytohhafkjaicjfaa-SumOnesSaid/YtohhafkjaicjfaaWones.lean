/-
  For every input the law SumOnes returns true, and its arguments read afterwards as before; no condition beyond the form's own reach.
-/
import Derived.Test.YtohhafkjaicjfaaLaw
import Derived.Test.YtohhafkjaicjfaaTwo
namespace Go.Proofs.Ytohhafkjaicjfaa
open Go.Joins Go.ChangeShapes Go.WideShapes Go.ChangeAt Go.RowKit Go.Deep
open Go.ChangeMaps (open_string)


/-- What the law asks of the four calls, of a string that is short enough. -/
theorem ones_calls (n : Int) (S : ByteArray) (h1 : 0 ≤ n) (h2 : n ≤ 65535) (hS : S.size ≤ 1000) :
    ∃ (A : Int) (T : ByteArray), 0 ≤ A ∧ A ≤ 65535 ∧ T.size = 2 ∧ strOfNums [n / 256, n % 256] = T ∧
      (∀ w, Calls Try.prog 11 #[.int .u16 n, .string S] w fun e w' => e = .returned (.int .u16 A) ∧ Below w.heap.size w w') ∧
      (∀ w, Calls Try.prog 11 #[.int .u16 0, .string (T ++ S)] w fun e w' => e = .returned (.int .u16 A) ∧ Below w.heap.size w w') ∧
      (∀ w, Calls Try.prog 11 #[.int .u16 (65535 - n), .string T] w fun e w' => e = .returned (.int .u16 65535) ∧ Below w.heap.size w w') ∧
      (∀ w, Calls Try.prog 18 #[.int .u16 n, .int .u16 (65535 - n), .int .i64 0] w fun e w' => e = .returned (.int .u16 65535) ∧ Below w.heap.size w w') := by
  have hT := word2_size n
  have hW := word2_wt n h1 h2
  refine ⟨onS n S, word2 n, (onS_range S n h1 h2).1, (onS_range S n h1 h2).2, hT, rfl, fun w => on_any n S w h1 h2 (by unfold maxLen; omega), fun w => ?_, fun w => ?_, fun w => ?_⟩
  · refine (on_any 0 _ w (by omega) (by omega) (by rw [cat_size, hT]; unfold maxLen; omega)).mono fun e w' ⟨he, hw⟩ => ⟨?_, hw⟩
    rw [he, onS_eq _ _ (by omega) (by omega), onS_eq _ _ h1 h2, wt_cat _ _ (by rw [hT]), hW, Int.zero_add]
  · refine (on_any _ _ w (by omega) (by omega) (by rw [hT]; unfold maxLen; omega)).mono fun e w' ⟨he, hw⟩ => ⟨?_, hw⟩
    rw [he, onS_eq _ _ (by omega) (by omega), hW, show 65535 - n + n = 65535 by omega]; rfl
  · refine (join_any _ _ _ w h1 h2 (by omega) (by omega)).mono fun e w' ⟨he, hw⟩ => ⟨?_, hw⟩
    rw [he, show join n (65535 - n) 0 = ones n (65535 - n) from rfl, ones, if_neg (by omega), show n + (65535 - n) = 65535 by omega]

set_option maxHeartbeats 400000 in
theorem sumOnes_any (n : Int) (s : ByteArray) (w : World) (h1 : 0 ≤ n) (h2 : n ≤ 65535) (hs : s.size ≤ 140737488351232) :
    Calls Try.prog 8 #[.int .u16 n, .string s] w fun e w' => e = .returned (.bool true) ∧ Below w.heap.size w w' := by
  by_cases hk : s.size ≤ 1000
  · obtain ⟨A, T, hA1, hA2, hT, eT, g1, g2, g3, g4⟩ := ones_calls n s h1 h2 hk
    have hcv := two_bytes w (n / 256) (n % 256)
    rw [eT] at hcv
    have G1 := Lib.hid g1
    have G2 := Lib.hid g2
    have G3 := Lib.hid g3
    have G4 := Lib.hid g4
    clear g1 g2 g3 g4
    go_enter Try.func8, Try.ntmps8
    go_wp2_with (first
      | (go_at_call 10; refine (fixed_any _).mono ?_; rintro e w1 ⟨rfl, hb1⟩)
      | (go_at_call 11; ((with_reducible refine (G1.out _).mono ?_); rintro e w2 ⟨rfl, hb2⟩))
      | (go_at_call 11; ((with_reducible refine (G2.out _).mono ?_); rintro e w3 ⟨rfl, hb3⟩))
      | (go_at_call 11; ((with_reducible refine (G3.out _).mono ?_); rintro e w4 ⟨rfl, hb4⟩))
      | (go_at_call 18; ((with_reducible refine (G4.out _).mono ?_); rintro e w5 ⟨rfl, hb5⟩)))
    go_ret
    refine ⟨rfl, ?_⟩
    have hz1 := hb1.size
    have hz2 := hb2.size
    have hz3 := hb3.size
    have hz4 := hb4.size
    simp at hz1
    exact ((Below.refl _ _).alloc (Nat.le_refl _) _).trans <| (hb1.mono (by simp)).trans <| (hb2.mono (by omega)).trans <| (hb3.mono (by omega)).trans <| (hb4.mono (by omega)).trans (hb5.mono (by omega))
  · obtain ⟨S, hS, eS⟩ : ∃ S : ByteArray, S.size = 1000 ∧ s.extract 0 1000 = S := ⟨_, cut_size s 1000 (by omega), rfl⟩
    obtain ⟨A, T, hA1, hA2, hT, eT, g1, g2, g3, g4⟩ := ones_calls n S h1 h2 (by omega)
    have hcv := two_bytes w (n / 256) (n % 256)
    rw [eT] at hcv
    have G1 := Lib.hid g1
    have G2 := Lib.hid g2
    have G3 := Lib.hid g3
    have G4 := Lib.hid g4
    clear g1 g2 g3 g4
    go_enter Try.func8, Try.ntmps8
    go_wp2_with (first
      | (go_at_call 10; refine (fixed_any _).mono ?_; rintro e w1 ⟨rfl, hb1⟩)
      | (go_at_call 11; ((with_reducible refine (G1.out _).mono ?_); rintro e w2 ⟨rfl, hb2⟩))
      | (go_at_call 11; ((with_reducible refine (G2.out _).mono ?_); rintro e w3 ⟨rfl, hb3⟩))
      | (go_at_call 11; ((with_reducible refine (G3.out _).mono ?_); rintro e w4 ⟨rfl, hb4⟩))
      | (go_at_call 18; ((with_reducible refine (G4.out _).mono ?_); rintro e w5 ⟨rfl, hb5⟩)))
    go_ret
    refine ⟨rfl, ?_⟩
    have hz1 := hb1.size
    have hz2 := hb2.size
    have hz3 := hb3.size
    have hz4 := hb4.size
    simp at hz1
    exact ((Below.refl _ _).alloc (Nat.le_refl _) _).trans <| (hb1.mono (by simp)).trans <| (hb2.mono (by omega)).trans <| (hb3.mono (by omega)).trans <| (hb4.mono (by omega)).trans (hb5.mono (by omega))

set_option maxRecDepth 100000 in
theorem sumOnes_lifted (os : Os) (started : os.Started) (H : Type) (enc : TypeId × Value → H) :
    ReturnsInHanded {} Try.checked os 8 .any (Rows.sumOnesSpec.pre6 enc Try.prog Try.f8 Rows.sumOnesRow.domain false) (Rows.sumOnesSpec.post enc Try.prog Try.f8 false true false false) := by
  have e : Try.f8.params.toList = [22, 9] := by rw [Try.params8]
  refine law_of_walk (C := Try.checked) (tb := 4) H enc Try.own started (by kernel_rfl) Try.func8 Try.laidOut rfl rfl Try.underlying4 ?_ ?_
    (ChangeSpec.witness6 (enc := enc) (C := Try.checked) false ⟨#[], #[.int .u16 0, .string ByteArray.empty], []⟩ 8 (by kernel_rfl) (by kernel_rfl) (by kernel_rfl) (by kernel_rfl)) ?_
  · rw [e]
    intro t ht
    simp only [List.mem_cons, List.not_mem_nil, or_false] at ht
    rcases ht with rfl | rfl <;> exact ⟨by kernel_rfl, of_decide_eq_true (by kernel_rfl)⟩
  · intro ds hds
    rw [e] at hds
    match ds, hds with
    | [d0, d1], _ => rfl
  · intro W base args ds p hval0 hA0 hsz0
    have hval : ∀ (j : Nat) t v, Try.f8.params[j]? = some t → args[j]? = some v → Value.okWide Try.prog W .any base t v := hval0
    have hA : DataW.TrodAll enc Try.prog W 0 (fun _ => true) true Try.f8.params.toList args.toList ds p := hA0
    have hsz : (DataW.weightsEach Try.prog Try.f8.params.toList ds).all (· ≤ reachBytes) = true := hsz0
    rw [Try.params8] at hA hval hsz
    obtain ⟨v0, v1, d0, d1, p0, p1, rfl, rfl, rfl, h0, h1⟩ := trodAll_two hA
    obtain ⟨x0, rfl, rfl, rfl, k0⟩ := open_int Try.underlying22 (hval 0 22 v0 rfl rfl) h0
    have b0 := bounds_u16 k0
    obtain ⟨x1, rfl, rfl, rfl, _⟩ := open_string Try.underlying9 (hval 1 9 v1 rfl rfl) h1
    have s1 := sized_string hsz (j := 1) (t := 9) rfl rfl
    simp only [reachBytes] at s1
    exact sumOnes_any x0 x1 W b0.1 b0.2 s1

theorem sumOnes_holds : Rows.SumOnesSaid :=
  OpenClaim.holds_of_wide 8 Try.f8 rfl rfl rfl rfl rfl rfl rfl ⟨rfl, rfl, rfl, rfl, rfl⟩ rfl rfl rfl rfl rfl (by kernel_rfl) Try.func8 (by kernel_rfl)
    (of_decide_eq_true (by kernel_rfl)) (by unfold Func.isWrapper; first | (rw [if_pos (by decide +kernel)]; kernel_rfl) | (rw [if_neg (by decide +kernel)]; exact ⟨rfl, rfl⟩))
    (fun os started H enc _ => sumOnes_lifted os started H enc)
end Go.Proofs.Ytohhafkjaicjfaa

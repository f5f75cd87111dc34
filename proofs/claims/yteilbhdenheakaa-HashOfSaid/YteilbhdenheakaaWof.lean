/-
  For every input the law HashOf returns true, and its arguments read afterwards as before; no condition beyond the form's own reach.
-/
import Derived.Test.YteilbhdenheakaaLaw
import Derived.Test.YteilbhdenheakaaFixed
namespace Go.Proofs.Yteilbhdenheakaa
open Go.Joins Go.ChangeShapes Go.WideShapes Go.ChangeAt Go.RowKit Go.Deep
open Go.ChangeMaps (open_string)

/-- Hash's answer, as two numbers. -/
theorem hashE_two (key s : ByteArray) : ∃ H E : Int, hashE key s = .tuple #[.int .u32 H, .int .i64 E] := by
  unfold hashE
  split
  · exact ⟨_, _, rfl⟩
  · exact ⟨_, _, rfl⟩

set_option maxHeartbeats 800000 in
theorem hashOf_any (key s : ByteArray) (bit : Int) (w : World) (hk : key.size ≤ 140737488351232) (hs : s.size ≤ 140737488351232) (h1 : -9223372036854775808 ≤ bit) (h2 : bit ≤ 9223372036854775807) :
    Calls Try.prog 3 #[.string key, .string s, .int .i64 bit] w fun e w' => e = .returned (.bool true) ∧ Below w.heap.size w w' := by
  by_cases ks : s.size ≤ 200
  · skip
    obtain ⟨H, E, hE⟩ := hashE_two key s
    have g7 : ∀ w, Calls Try.prog 7 #[.string key, .string s] w fun e w' => e = .returned (.tuple #[.int .u32 H, .int .i64 E]) ∧ Below w.heap.size w w' := fun w => by rw [← hE]; exact hash_any key s w
    have g8 : ∀ w, Calls Try.prog 8 #[.string key, .string s] w fun e w' => e = .returned (.tuple #[.int .u32 H, .int .i64 E]) ∧ w = w' := fun w => by rw [← hE]; exact hashr_any key s w (by omega)
    have G7 := Lib.hid g7
    have G8 := Lib.hid g8
    clear g7 g8 hE
    have hB := Below.refl w.heap.size w
    go_enter Try.func3, Try.ntmps3
    go_wp2_with (first
      | (go_at_call 9; refine (fixed_any _).mono ?_; rintro e w9 ⟨rfl, hq⟩; (first | replace hB := bl hB hq | replace hB := bl (bla hB _) hq); clear hq)
      | (go_at_call 7; ((with_reducible refine (G7.out _).mono ?_); rintro e w1 ⟨rfl, hq⟩; (first | replace hB := bl hB hq | replace hB := bl (bla hB _) hq); clear hq))
      | (go_at_call 8; ((with_reducible refine (G8.out _).mono ?_); rintro e w1 ⟨rfl, rfl⟩))
      | (go_at_call 10; refine (window_any key bit _ h1 h2).mono ?_; rintro e w1 ⟨rfl, rfl⟩)
      | (go_at_call 11; refine (windowr_any key bit _ hk).mono ?_; rintro e w1 ⟨rfl, rfl⟩))
    go_ret
    exact ⟨rfl, hB⟩
  · obtain ⟨S, hS, eS⟩ : ∃ S : ByteArray, S.size ≤ 200 ∧ s.extract 0 200 = S := ⟨_, by simp; omega, rfl⟩
    obtain ⟨H, E, hE⟩ := hashE_two key S
    have g7 : ∀ w, Calls Try.prog 7 #[.string key, .string S] w fun e w' => e = .returned (.tuple #[.int .u32 H, .int .i64 E]) ∧ Below w.heap.size w w' := fun w => by rw [← hE]; exact hash_any key S w
    have g8 : ∀ w, Calls Try.prog 8 #[.string key, .string S] w fun e w' => e = .returned (.tuple #[.int .u32 H, .int .i64 E]) ∧ w = w' := fun w => by rw [← hE]; exact hashr_any key S w (by omega)
    have G7 := Lib.hid g7
    have G8 := Lib.hid g8
    clear g7 g8 hE
    have hB := Below.refl w.heap.size w
    go_enter Try.func3, Try.ntmps3
    go_wp2_with (first
      | (go_at_call 9; refine (fixed_any _).mono ?_; rintro e w9 ⟨rfl, hq⟩; (first | replace hB := bl hB hq | replace hB := bl (bla hB _) hq); clear hq)
      | (go_at_call 7; ((with_reducible refine (G7.out _).mono ?_); rintro e w1 ⟨rfl, hq⟩; (first | replace hB := bl hB hq | replace hB := bl (bla hB _) hq); clear hq))
      | (go_at_call 8; ((with_reducible refine (G8.out _).mono ?_); rintro e w1 ⟨rfl, rfl⟩))
      | (go_at_call 10; refine (window_any key bit _ h1 h2).mono ?_; rintro e w1 ⟨rfl, rfl⟩)
      | (go_at_call 11; refine (windowr_any key bit _ hk).mono ?_; rintro e w1 ⟨rfl, rfl⟩))
    go_ret
    exact ⟨rfl, hB⟩

set_option maxRecDepth 100000 in
theorem hashOf_lifted (os : Os) (started : os.Started) (H : Type) (enc : TypeId × Value → H) :
    ReturnsInHanded {} Try.checked os 3 .any (Rows.hashOfSpec.pre6 enc Try.prog Try.f3 Rows.hashOfRow.domain false) (Rows.hashOfSpec.post enc Try.prog Try.f3 false true false false) := by
  have e : Try.f3.params.toList = [9, 9, 3] := by rw [Try.params3]
  refine law_of_walk (C := Try.checked) (tb := 4) H enc Try.own started (by kernel_rfl) Try.func3 Try.laidOut rfl rfl Try.underlying4 ?_ ?_
    (ChangeSpec.witness6 (enc := enc) (C := Try.checked) false ⟨#[], #[.string ByteArray.empty, .string ByteArray.empty, .int .i64 0], []⟩ 8 (by kernel_rfl) (by kernel_rfl) (by kernel_rfl) (by kernel_rfl)) ?_
  · rw [e]
    intro t ht
    simp only [List.mem_cons, List.not_mem_nil, or_false] at ht
    rcases ht with rfl | rfl | rfl <;> exact ⟨by kernel_rfl, of_decide_eq_true (by kernel_rfl)⟩
  · intro ds hds
    rw [e] at hds
    match ds, hds with
    | [d0, d1, d2], _ => rfl
  · intro W base args ds p hval0 hA0 hsz0
    have hval : ∀ (j : Nat) t v, Try.f3.params[j]? = some t → args[j]? = some v → Value.okWide Try.prog W .any base t v := hval0
    have hA : DataW.TrodAll enc Try.prog W 0 (fun _ => true) true Try.f3.params.toList args.toList ds p := hA0
    have hsz : (DataW.weightsEach Try.prog Try.f3.params.toList ds).all (· ≤ reachBytes) = true := hsz0
    rw [Try.params3] at hA hval hsz
    obtain ⟨v0, v1, v2, d0, d1, d2, p0, p1, p2, rfl, rfl, rfl, h0, h1, h2⟩ := trodAll_three hA
    obtain ⟨x0, rfl, rfl, rfl, _⟩ := open_string Try.underlying9 (hval 0 9 v0 rfl rfl) h0
    obtain ⟨x1, rfl, rfl, rfl, _⟩ := open_string Try.underlying9 (hval 1 9 v1 rfl rfl) h1
    obtain ⟨x2, rfl, rfl, rfl, k2⟩ := open_int Try.underlying3 (hval 2 3 v2 rfl rfl) h2
    have b2 := bounds_i64 k2
    have s0 := sized_string hsz (j := 0) (t := 9) rfl rfl
    have s1 := sized_string hsz (j := 1) (t := 9) rfl rfl
    simp only [reachBytes] at s0 s1
    exact hashOf_any x0 x1 x2 W s0 s1 b2.1 (by omega)

theorem hashOf_holds : Rows.HashOfSaid :=
  OpenClaim.holds_of_wide 3 Try.f3 rfl rfl rfl rfl rfl rfl rfl ⟨rfl, rfl, rfl, rfl, rfl⟩ rfl rfl rfl rfl rfl (by kernel_rfl) Try.func3 (by kernel_rfl)
    (of_decide_eq_true (by kernel_rfl)) (by unfold Func.isWrapper; first | (rw [if_pos (by decide +kernel)]; kernel_rfl) | (rw [if_neg (by decide +kernel)]; exact ⟨rfl, rfl⟩))
    (fun os started H enc _ => hashOf_lifted os started H enc)
end Go.Proofs.Yteilbhdenheakaa

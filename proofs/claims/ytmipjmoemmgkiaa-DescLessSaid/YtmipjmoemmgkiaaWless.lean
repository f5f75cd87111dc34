/-
  For every input the law DescLess returns true, and its arguments read afterwards as before; no condition beyond the form's own reach.
-/
import Derived.Test.YtmipjmoemmgkiaaWfr
import Derived.Test.YtmipjmoemmgkiaaDfx
namespace Go.Proofs.Ytmipjmoemmgkiaa
open Go.Joins Go.ChangeShapes Go.WideShapes Go.ChangeAt Go.RowKit Go.Deep
open Go.ChangeMaps (open_string)

set_option maxHeartbeats 1600000 in
theorem descLess_walk (n X A B C Q : Int) (wrap used : Bool) (w : World)
    (hn : bits .and .i64 n 65535 = X) (o1 : bits .xor .i64 X A = Q) (o2 : bits .andNot .i64 Q 32896 = 0) (o3 : decide (0 ≤ A) = true) (o4 : decide (A ≤ 65535) = true) (o5 : (B != A) = true) (o6 : (C != A) = true)
    (AF : ∀ W, Calls Try.prog 13 #[] W fun e w' => e = .returned (.bool true) ∧ Below W.heap.size W w')
    (A1 : ∀ W, Calls Try.prog 18 #[.int .i64 X, .bool wrap, .bool used] W fun e w' => e = .returned (.int .i64 A) ∧ W = w')
    (A2 : ∀ W, Calls Try.prog 18 #[.int .i64 A, .bool wrap, .bool used] W fun e w' => e = .returned (.int .i64 A) ∧ W = w')
    (A3 : ∀ W, Calls Try.prog 18 #[.int .i64 X, .bool (!wrap), .bool used] W fun e w' => e = .returned (.int .i64 B) ∧ W = w')
    (A4 : ∀ W, Calls Try.prog 18 #[.int .i64 X, .bool wrap, .bool (!used)] W fun e w' => e = .returned (.int .i64 C) ∧ W = w') :
    Calls Try.prog 8 #[.int .i64 n, .bool wrap, .bool used] w fun e w' => e = .returned (.bool true) ∧ Below w.heap.size w w' := by
  have HA1 := Lib.hid A1
  have HA2 := Lib.hid A2
  have HA3 := Lib.hid A3
  have HA4 := Lib.hid A4
  have HF := Lib.hid AF
  clear AF A1 A2 A3 A4
  go_enter Try.func8, Try.ntmps8
  go_wp2_with (first
    | (go_at_call 18; ((with_reducible refine (HA1.out _).mono ?_); rintro e w' ⟨rfl, rfl⟩))
    | (go_at_call 18; ((with_reducible refine (HA2.out _).mono ?_); rintro e w' ⟨rfl, rfl⟩))
    | (go_at_call 18; ((with_reducible refine (HA3.out _).mono ?_); rintro e w' ⟨rfl, rfl⟩))
    | (go_at_call 18; ((with_reducible refine (HA4.out _).mono ?_); rintro e w' ⟨rfl, rfl⟩)))
  refine (HF.out _).mono ?_
  rintro e w1 ⟨rfl, hq⟩
  go_wp2_with fail
  go_ret
  exact ⟨rfl, hq⟩
theorem descLess_any (n : Int) (wrap used : Bool) (w : World) :
    Calls Try.prog 8 #[.int .i64 n, .bool wrap, .bool used] w fun e w' => e = .returned (.bool true) ∧ Below w.heap.size w w' := by
  obtain ⟨K, hK, eK⟩ := low16 n
  obtain ⟨a, u, R, hR, rfl⟩ := split K hK
  have hl := mk_lt R hR wrap (wrap == used)
  have n1 : R + mk (!wrap) ((!wrap) == used) ≠ R + mk wrap (wrap == used) := by
    rw [ne_eq, mk_same]; cases wrap <;> simp
  have n2 : R + mk wrap (wrap == (!used)) ≠ R + mk wrap (wrap == used) := by
    rw [ne_eq, mk_same]; cases wrap <;> cases used <;> simp
  exact descLess_walk n _ _ _ _ _ wrap used w eK rfl (mk_xor R hR a u wrap (wrap == used)) (decide_eq_true (by omega)) (decide_eq_true (by omega)) (bne_iff_ne.2 (by omega)) (bne_iff_ne.2 (by omega)) fixed_any
    (fun W => mark_any R hR a u wrap used W) (fun W => mark_any R hR wrap (wrap == used) wrap used W) (fun W => mark_any R hR a u (!wrap) used W) (fun W => mark_any R hR a u wrap (!used) W)

set_option maxRecDepth 100000 in
theorem descLess_lifted (os : Os) (started : os.Started) (H : Type) (enc : TypeId × Value → H) :
    ReturnsInHanded {} Try.checked os 8 .any (Rows.descLessSpec.pre6 enc Try.prog Try.f8 Rows.descLessRow.domain false) (Rows.descLessSpec.post enc Try.prog Try.f8 false true false false) := by
  have e : Try.f8.params.toList = [3, 4, 4] := by rw [Try.params8]
  refine law_of_walk (C := Try.checked) (tb := 4) H enc Try.own started (by kernel_rfl) Try.func8 Try.laidOut rfl rfl Try.underlying4 ?_ ?_
    (ChangeSpec.witness6 (enc := enc) (C := Try.checked) false ⟨#[], #[.int .i64 0, .bool false, .bool false], []⟩ 8 (by kernel_rfl) (by kernel_rfl) (by kernel_rfl) (by kernel_rfl)) ?_
  · rw [e]
    intro t ht
    simp only [List.mem_cons, List.not_mem_nil, or_false] at ht
    rcases ht with rfl | rfl | rfl <;> exact ⟨by kernel_rfl, of_decide_eq_true (by kernel_rfl)⟩
  · intro ds hds
    rw [e] at hds
    match ds, hds with
    | [d0, d1, d2], _ => rfl
  · intro W base args ds p hval0 hA0 hsz0
    have hval : ∀ (j : Nat) t v, Try.f8.params[j]? = some t → args[j]? = some v → Value.okWide Try.prog W .any base t v := hval0
    have hA : DataW.TrodAll enc Try.prog W 0 (fun _ => true) true Try.f8.params.toList args.toList ds p := hA0
    have hsz : (DataW.weightsEach Try.prog Try.f8.params.toList ds).all (· ≤ reachBytes) = true := hsz0
    rw [Try.params8] at hA hval hsz
    obtain ⟨v0, v1, v2, d0, d1, d2, p0, p1, p2, rfl, rfl, rfl, h0, h1, h2⟩ := trodAll_three hA
    obtain ⟨x0, rfl, rfl, rfl, _⟩ := open_int Try.underlying3 (hval 0 3 v0 rfl rfl) h0
    obtain ⟨x1, rfl, rfl, rfl⟩ := open_bool Try.underlying4 (hval 1 4 v1 rfl rfl) h1
    obtain ⟨x2, rfl, rfl, rfl⟩ := open_bool Try.underlying4 (hval 2 4 v2 rfl rfl) h2
    exact descLess_any x0 x1 x2 W

theorem descLess_holds : Rows.DescLessSaid :=
  OpenClaim.holds_of_wide 8 Try.f8 rfl rfl rfl rfl rfl rfl rfl ⟨rfl, rfl, rfl, rfl, rfl⟩ rfl rfl rfl rfl rfl (by kernel_rfl) Try.func8 (by kernel_rfl)
    (of_decide_eq_true (by kernel_rfl)) (by unfold Func.isWrapper; first | (rw [if_pos (by decide +kernel)]; kernel_rfl) | (rw [if_neg (by decide +kernel)]; exact ⟨rfl, rfl⟩))
    (fun os started H enc _ => descLess_lifted os started H enc)
end Go.Proofs.Ytmipjmoemmgkiaa

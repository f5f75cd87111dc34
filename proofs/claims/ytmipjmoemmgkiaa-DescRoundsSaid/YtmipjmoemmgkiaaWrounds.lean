/-
  For every input the law DescRounds returns true, and its arguments read afterwards as before; no condition beyond the form's own reach.
-/
import Derived.Test.YtmipjmoemmgkiaaWfr
import Derived.Test.YtmipjmoemmgkiaaDfx
namespace Go.Proofs.Ytmipjmoemmgkiaa
open Go.Joins Go.ChangeShapes Go.WideShapes Go.ChangeAt Go.RowKit Go.Deep
open Go.ChangeMaps (open_string)

set_option maxHeartbeats 1600000 in
theorem descRounds_walk (n X A U O : Int) (wrap : Bool) (w : World)
    (hn : bits .and .i64 n 65535 = X) (o1 : bits .and .i64 X 32639 = O) (o2 : bits .and .i64 A 32639 = O) (o3 : bits .and .i64 U 32639 = O)
    (AF : ∀ W, Calls Try.prog 13 #[] W fun e w' => e = .returned (.bool true) ∧ Below W.heap.size W w')
    (A1 : ∀ W, Calls Try.prog 18 #[.int .i64 X, .bool wrap, .bool false] W fun e w' => e = .returned (.int .i64 A) ∧ W = w')
    (A2 : ∀ W, Calls Try.prog 18 #[.int .i64 X, .bool wrap, .bool true] W fun e w' => e = .returned (.int .i64 U) ∧ W = w')
    (A3 : ∀ W, Calls Try.prog 14 #[.int .i64 A, .bool wrap] W fun e w' => e = .returned (.bool true) ∧ W = w')
    (A4 : ∀ W, Calls Try.prog 16 #[.int .i64 A, .bool wrap] W fun e w' => e = .returned (.bool false) ∧ W = w')
    (A5 : ∀ W, Calls Try.prog 16 #[.int .i64 U, .bool wrap] W fun e w' => e = .returned (.bool true) ∧ W = w')
    (A6 : ∀ W, Calls Try.prog 14 #[.int .i64 U, .bool wrap] W fun e w' => e = .returned (.bool false) ∧ W = w')
    (A7 : ∀ W, Calls Try.prog 14 #[.int .i64 U, .bool (!wrap)] W fun e w' => e = .returned (.bool false) ∧ W = w')
    (A8 : ∀ W, Calls Try.prog 16 #[.int .i64 A, .bool (!wrap)] W fun e w' => e = .returned (.bool false) ∧ W = w')
    (A9 : ∀ W, Calls Try.prog 14 #[.int .i64 A, .bool (!wrap)] W fun e w' => e = .returned (.bool false) ∧ W = w')
    (B1 : ∀ W, Calls Try.prog 16 #[.int .i64 U, .bool (!wrap)] W fun e w' => e = .returned (.bool false) ∧ W = w')
    (B2 : ∀ W, Calls Try.prog 18 #[.int .i64 A, .bool wrap, .bool true] W fun e w' => e = .returned (.int .i64 U) ∧ W = w') :
    Calls Try.prog 6 #[.int .i64 n, .bool wrap] w fun e w' => e = .returned (.bool true) ∧ Below w.heap.size w w' := by
  have HA1 := Lib.hid A1
  have HA2 := Lib.hid A2
  have HA3 := Lib.hid A3
  have HA4 := Lib.hid A4
  have HA5 := Lib.hid A5
  have HA6 := Lib.hid A6
  have HA7 := Lib.hid A7
  have HA8 := Lib.hid A8
  have HA9 := Lib.hid A9
  have HB1 := Lib.hid B1
  have HB2 := Lib.hid B2
  have HF := Lib.hid AF
  clear AF A1 A2 A3 A4 A5 A6 A7 A8 A9 B1 B2
  go_enter Try.func6, Try.ntmps6
  go_wp2_with (first
    | (go_at_call 18; ((with_reducible refine (HA1.out _).mono ?_); rintro e w' ⟨rfl, rfl⟩))
    | (go_at_call 18; ((with_reducible refine (HA2.out _).mono ?_); rintro e w' ⟨rfl, rfl⟩)))
  refine (HF.out _).mono ?_
  rintro e w1 ⟨rfl, hq⟩
  go_wp2_with (first
    | (go_at_call 18; ((with_reducible refine (HA1.out _).mono ?_); rintro e w' ⟨rfl, rfl⟩))
    | (go_at_call 18; ((with_reducible refine (HA2.out _).mono ?_); rintro e w' ⟨rfl, rfl⟩))
    | (go_at_call 14; ((with_reducible refine (HA3.out _).mono ?_); rintro e w' ⟨rfl, rfl⟩))
    | (go_at_call 16; ((with_reducible refine (HA4.out _).mono ?_); rintro e w' ⟨rfl, rfl⟩))
    | (go_at_call 16; ((with_reducible refine (HA5.out _).mono ?_); rintro e w' ⟨rfl, rfl⟩))
    | (go_at_call 14; ((with_reducible refine (HA6.out _).mono ?_); rintro e w' ⟨rfl, rfl⟩))
    | (go_at_call 14; ((with_reducible refine (HA7.out _).mono ?_); rintro e w' ⟨rfl, rfl⟩))
    | (go_at_call 16; ((with_reducible refine (HA8.out _).mono ?_); rintro e w' ⟨rfl, rfl⟩))
    | (go_at_call 14; ((with_reducible refine (HA9.out _).mono ?_); rintro e w' ⟨rfl, rfl⟩))
    | (go_at_call 16; ((with_reducible refine (HB1.out _).mono ?_); rintro e w' ⟨rfl, rfl⟩))
    | (go_at_call 18; ((with_reducible refine (HB2.out _).mono ?_); rintro e w' ⟨rfl, rfl⟩)))
  go_ret
  exact ⟨rfl, hq⟩
theorem descRounds_any (n : Int) (wrap : Bool) (w : World) :
    Calls Try.prog 6 #[.int .i64 n, .bool wrap] w fun e w' => e = .returned (.bool true) ∧ Below w.heap.size w w' := by
  obtain ⟨K, hK, eK⟩ := low16 n
  obtain ⟨a, u, R, hR, rfl⟩ := split K hK
  have g1 : wrap = wrap ∧ (wrap == false) = !wrap := ⟨rfl, by cases wrap <;> rfl⟩
  have g2 : (wrap == true) = wrap := by cases wrap <;> rfl
  have M1 := fun W => mark_any R hR a u wrap false W
  have M2 := fun W => mark_any R hR a u wrap true W
  have V1 := fun W => avail_any R hR wrap (!wrap) wrap W
  have V2 := fun W => used_any R hR wrap (!wrap) wrap W
  have V3 := fun W => used_any R hR wrap wrap wrap W
  have V4 := fun W => avail_any R hR wrap wrap wrap W
  have V5 := fun W => avail_any R hR wrap wrap (!wrap) W
  have V6 := fun W => used_any R hR wrap (!wrap) (!wrap) W
  have V7 := fun W => avail_any R hR wrap (!wrap) (!wrap) W
  have V8 := fun W => used_any R hR wrap wrap (!wrap) W
  have M3 := fun W => mark_any R hR wrap (!wrap) wrap true W
  rw [g1.2] at M1
  rw [g2] at M2 M3
  have t1 : (wrap == wrap && (!wrap) != wrap) = true := by cases wrap <;> rfl
  have t2 : (wrap == wrap && (!wrap) == wrap) = false := by cases wrap <;> rfl
  have t3 : (wrap == wrap && wrap == wrap) = true := by cases wrap <;> rfl
  have t4 : (wrap == wrap && wrap != wrap) = false := by cases wrap <;> rfl
  have t5 : (wrap == (!wrap) && wrap != (!wrap)) = false := by cases wrap <;> rfl
  have t6 : (wrap == (!wrap) && (!wrap) == (!wrap)) = false := by cases wrap <;> rfl
  have t7 : (wrap == (!wrap) && (!wrap) != (!wrap)) = false := by cases wrap <;> rfl
  have t8 : (wrap == (!wrap) && wrap == (!wrap)) = false := by cases wrap <;> rfl
  rw [t1] at V1
  rw [t2] at V2
  rw [t3] at V3
  rw [t4] at V4
  rw [t5] at V5
  rw [t6] at V6
  rw [t7] at V7
  rw [t8] at V8
  exact descRounds_walk n _ _ _ _ wrap w eK (mk_others R hR a u) (mk_others R hR wrap (!wrap)) (mk_others R hR wrap wrap) fixed_any M1 M2 V1 V2 V3 V4 V5 V6 V7 V8 M3

set_option maxRecDepth 100000 in
theorem descRounds_lifted (os : Os) (started : os.Started) (H : Type) (enc : TypeId × Value → H) :
    ReturnsInHanded {} Try.checked os 6 .any (Rows.descRoundsSpec.pre6 enc Try.prog Try.f6 Rows.descRoundsRow.domain false) (Rows.descRoundsSpec.post enc Try.prog Try.f6 false true false false) := by
  have e : Try.f6.params.toList = [3, 4] := by rw [Try.params6]
  refine law_of_walk (C := Try.checked) (tb := 4) H enc Try.own started (by kernel_rfl) Try.func6 Try.laidOut rfl rfl Try.underlying4 ?_ ?_
    (ChangeSpec.witness6 (enc := enc) (C := Try.checked) false ⟨#[], #[.int .i64 0, .bool false], []⟩ 8 (by kernel_rfl) (by kernel_rfl) (by kernel_rfl) (by kernel_rfl)) ?_
  · rw [e]
    intro t ht
    simp only [List.mem_cons, List.not_mem_nil, or_false] at ht
    rcases ht with rfl | rfl <;> exact ⟨by kernel_rfl, of_decide_eq_true (by kernel_rfl)⟩
  · intro ds hds
    rw [e] at hds
    match ds, hds with
    | [d0, d1], _ => rfl
  · intro W base args ds p hval0 hA0 hsz0
    have hval : ∀ (j : Nat) t v, Try.f6.params[j]? = some t → args[j]? = some v → Value.okWide Try.prog W .any base t v := hval0
    have hA : DataW.TrodAll enc Try.prog W 0 (fun _ => true) true Try.f6.params.toList args.toList ds p := hA0
    have hsz : (DataW.weightsEach Try.prog Try.f6.params.toList ds).all (· ≤ reachBytes) = true := hsz0
    rw [Try.params6] at hA hval hsz
    obtain ⟨v0, v1, d0, d1, p0, p1, rfl, rfl, rfl, h0, h1⟩ := trodAll_two hA
    obtain ⟨x0, rfl, rfl, rfl, _⟩ := open_int Try.underlying3 (hval 0 3 v0 rfl rfl) h0
    obtain ⟨x1, rfl, rfl, rfl⟩ := open_bool Try.underlying4 (hval 1 4 v1 rfl rfl) h1
    exact descRounds_any x0 x1 W

theorem descRounds_holds : Rows.DescRoundsSaid :=
  OpenClaim.holds_of_wide 6 Try.f6 rfl rfl rfl rfl rfl rfl rfl ⟨rfl, rfl, rfl, rfl, rfl⟩ rfl rfl rfl rfl rfl (by kernel_rfl) Try.func6 (by kernel_rfl)
    (of_decide_eq_true (by kernel_rfl)) (by unfold Func.isWrapper; first | (rw [if_pos (by decide +kernel)]; kernel_rfl) | (rw [if_neg (by decide +kernel)]; exact ⟨rfl, rfl⟩))
    (fun os started H enc _ => descRounds_lifted os started H enc)
end Go.Proofs.Ytmipjmoemmgkiaa

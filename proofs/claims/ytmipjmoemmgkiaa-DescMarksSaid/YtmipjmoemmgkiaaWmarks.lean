/-
  For every input the law DescMarks returns true, and its arguments read afterwards as before; no condition beyond the form's own reach.
-/
import Derived.Test.YtmipjmoemmgkiaaWfr
import Derived.Test.YtmipjmoemmgkiaaDfx
namespace Go.Proofs.Ytmipjmoemmgkiaa
open Go.Joins Go.ChangeShapes Go.WideShapes Go.ChangeAt Go.RowKit Go.Deep
open Go.ChangeMaps (open_string)

set_option maxHeartbeats 1600000 in
theorem descMarks_walk (n X Y : Int) (wrap used p q : Bool) (w : World)
    (hn : bits .and .i64 n 65535 = X)
    (AF : ∀ W, Calls Try.prog 13 #[] W fun e w' => e = .returned (.bool true) ∧ Below W.heap.size W w')
    (A1 : ∀ W, Calls Try.prog 14 #[.int .i64 X, .bool wrap] W fun e w' => e = .returned (.bool p) ∧ W = w')
    (A2 : ∀ W, Calls Try.prog 15 #[.int .i64 X, .bool wrap] W fun e w' => e = .returned (.bool p) ∧ W = w')
    (A3 : ∀ W, Calls Try.prog 16 #[.int .i64 X, .bool wrap] W fun e w' => e = .returned (.bool q) ∧ W = w')
    (A4 : ∀ W, Calls Try.prog 17 #[.int .i64 X, .bool wrap] W fun e w' => e = .returned (.bool q) ∧ W = w')
    (A5 : ∀ W, Calls Try.prog 18 #[.int .i64 X, .bool wrap, .bool used] W fun e w' => e = .returned (.int .i64 Y) ∧ W = w')
    (A6 : ∀ W, Calls Try.prog 19 #[.int .i64 X, .bool wrap, .bool used] W fun e w' => e = .returned (.int .i64 Y) ∧ W = w') :
    Calls Try.prog 4 #[.int .i64 n, .bool wrap, .bool used] w fun e w' => e = .returned (.bool true) ∧ Below w.heap.size w w' := by
  have HA1 := Lib.hid A1
  have HA2 := Lib.hid A2
  have HA3 := Lib.hid A3
  have HA4 := Lib.hid A4
  have HA5 := Lib.hid A5
  have HA6 := Lib.hid A6
  have HF := Lib.hid AF
  clear AF A1 A2 A3 A4 A5 A6
  go_enter Try.func4, Try.ntmps4
  go_wp2_with fail
  refine (HF.out _).mono ?_
  rintro e w1 ⟨rfl, hq⟩
  go_wp2_with (first
    | (go_at_call 14; ((with_reducible refine (HA1.out _).mono ?_); rintro e w' ⟨rfl, rfl⟩))
    | (go_at_call 15; ((with_reducible refine (HA2.out _).mono ?_); rintro e w' ⟨rfl, rfl⟩))
    | (go_at_call 16; ((with_reducible refine (HA3.out _).mono ?_); rintro e w' ⟨rfl, rfl⟩))
    | (go_at_call 17; ((with_reducible refine (HA4.out _).mono ?_); rintro e w' ⟨rfl, rfl⟩))
    | (go_at_call 18; ((with_reducible refine (HA5.out _).mono ?_); rintro e w' ⟨rfl, rfl⟩))
    | (go_at_call 19; ((with_reducible refine (HA6.out _).mono ?_); rintro e w' ⟨rfl, rfl⟩)))
  go_ret
  exact ⟨rfl, hq⟩
theorem descMarks_any (n : Int) (wrap used : Bool) (w : World) :
    Calls Try.prog 4 #[.int .i64 n, .bool wrap, .bool used] w fun e w' => e = .returned (.bool true) ∧ Below w.heap.size w w' := by
  obtain ⟨K, hK, eK⟩ := low16 n
  obtain ⟨a, u, R, hR, rfl⟩ := split K hK
  exact descMarks_walk n _ _ wrap used _ _ w eK fixed_any (fun W => avail_any R hR a u wrap W) (fun W => ravail_any R hR a u wrap W) (fun W => used_any R hR a u wrap W) (fun W => rused_any R hR a u wrap W)
    (fun W => mark_any R hR a u wrap used W) (fun W => rmark_any R hR a u wrap used W)

set_option maxRecDepth 100000 in
theorem descMarks_lifted (os : Os) (started : os.Started) (H : Type) (enc : TypeId × Value → H) :
    ReturnsInHanded {} Try.checked os 4 .any (Rows.descMarksSpec.pre6 enc Try.prog Try.f4 Rows.descMarksRow.domain false) (Rows.descMarksSpec.post enc Try.prog Try.f4 false true false false) := by
  have e : Try.f4.params.toList = [3, 4, 4] := by rw [Try.params4]
  refine law_of_walk (C := Try.checked) (tb := 4) H enc Try.own started (by kernel_rfl) Try.func4 Try.laidOut rfl rfl Try.underlying4 ?_ ?_
    (ChangeSpec.witness6 (enc := enc) (C := Try.checked) false ⟨#[], #[.int .i64 0, .bool false, .bool false], []⟩ 8 (by kernel_rfl) (by kernel_rfl) (by kernel_rfl) (by kernel_rfl)) ?_
  · rw [e]
    intro t ht
    simp only [List.mem_cons, List.not_mem_nil, or_false] at ht
    rcases ht with rfl | rfl | rfl <;> exact ⟨by kernel_rfl, of_decide_eq_true (by kernel_rfl)⟩
  · intro ds hds
    rw [e] at hds
    match ds, hds with
    | [d0, d1, d2], _ => rfl
  · intro W base args ds p hval0 hA0 hsz0
    have hval : ∀ (j : Nat) t v, Try.f4.params[j]? = some t → args[j]? = some v → Value.okWide Try.prog W .any base t v := hval0
    have hA : DataW.TrodAll enc Try.prog W 0 (fun _ => true) true Try.f4.params.toList args.toList ds p := hA0
    have hsz : (DataW.weightsEach Try.prog Try.f4.params.toList ds).all (· ≤ reachBytes) = true := hsz0
    rw [Try.params4] at hA hval hsz
    obtain ⟨v0, v1, v2, d0, d1, d2, p0, p1, p2, rfl, rfl, rfl, h0, h1, h2⟩ := trodAll_three hA
    obtain ⟨x0, rfl, rfl, rfl, _⟩ := open_int Try.underlying3 (hval 0 3 v0 rfl rfl) h0
    obtain ⟨x1, rfl, rfl, rfl⟩ := open_bool Try.underlying4 (hval 1 4 v1 rfl rfl) h1
    obtain ⟨x2, rfl, rfl, rfl⟩ := open_bool Try.underlying4 (hval 2 4 v2 rfl rfl) h2
    exact descMarks_any x0 x1 x2 W

theorem descMarks_holds : Rows.DescMarksSaid :=
  OpenClaim.holds_of_wide 4 Try.f4 rfl rfl rfl rfl rfl rfl rfl ⟨rfl, rfl, rfl, rfl, rfl⟩ rfl rfl rfl rfl rfl (by kernel_rfl) Try.func4 (by kernel_rfl)
    (of_decide_eq_true (by kernel_rfl)) (by unfold Func.isWrapper; first | (rw [if_pos (by decide +kernel)]; kernel_rfl) | (rw [if_neg (by decide +kernel)]; exact ⟨rfl, rfl⟩))
    (fun os started H enc _ => descMarks_lifted os started H enc)
end Go.Proofs.Ytmipjmoemmgkiaa

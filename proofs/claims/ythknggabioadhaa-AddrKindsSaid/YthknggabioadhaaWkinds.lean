/-
  For every input the law AddrKinds returns true, and its arguments read afterwards as before; no condition beyond the form's own reach.
-/
import Derived.Test.YthknggabioadhaaLaw
import Derived.Test.YthknggabioadhaaFixed
namespace Go.Proofs.Ythknggabioadhaa
open Go.Joins Go.ChangeShapes Go.WideShapes Go.ChangeAt Go.RowKit Go.Deep
open Go.ChangeMaps (open_string)


set_option maxRecDepth 100000 in
set_option maxHeartbeats 1000000 in
theorem addrKinds_any (a : ByteArray) (n : Int) (w : World) :
    Calls Try.prog 4 #[.string a, .int .i64 n] w fun e w' => e = .returned (.bool true) ∧ Below w.heap.size w w' := by
  have hB := Below.refl w.heap.size w
  obtain ⟨K, eK⟩ : ∃ K, kindV a = K := ⟨_, rfl⟩
  obtain ⟨P, eP⟩ : ∃ P, portS n = P := ⟨_, rfl⟩
  obtain ⟨V, eV⟩ : ∃ V, byV a = V := ⟨_, rfl⟩
  have G1 := Lib.hid (fun w => kind_any a w)
  have G2 := Lib.hid (fun w => kindr_any a w)
  have G3 := Lib.hid (fun w => port_any n w)
  have G4 := Lib.hid (fun w => portr_any n w)
  have G5 := Lib.hid (fun w => by_any a w)
  have G6 := Lib.hid (fun w => byr_any a w)
  rw [eK] at G1 G2
  rw [eP] at G3 G4
  rw [eV] at G5 G6
  clear eK eP eV
  go_enter Try.func4, Try.ntmps4
  go_wp2_with (first
    | (go_at_call 13; ((with_reducible refine (G1.out _).mono ?_); rintro e w1 ⟨rfl, rfl⟩))
    | (go_at_call 14; ((with_reducible refine (G2.out _).mono ?_); rintro e w1 ⟨rfl, rfl⟩))
    | (go_at_call 15; ((with_reducible refine (G3.out _).mono ?_); rintro e w1 ⟨rfl, hq⟩; replace hB := bl hB hq; clear hq))
    | (go_at_call 16; ((with_reducible refine (G4.out _).mono ?_); rintro e w1 ⟨rfl, hq⟩; replace hB := bl hB hq; clear hq))
    | (go_at_call 17; ((with_reducible refine (G5.out _).mono ?_); rintro e w1 ⟨rfl, hq⟩; replace hB := bl hB hq; clear hq))
    | (go_at_call 18; ((with_reducible refine (G6.out _).mono ?_); rintro e w1 ⟨rfl, hq⟩; replace hB := bl hB hq; clear hq))
    | (go_at_call 12; ((with_reducible refine (fixed_any _).mono ?_); rintro e w1 ⟨rfl, hq⟩; replace hB := bl hB hq; clear hq)))
  go_ret
  exact ⟨rfl, hB⟩

set_option maxRecDepth 100000 in
theorem addrKinds_lifted (os : Os) (started : os.Started) (H : Type) (enc : TypeId × Value → H) :
    ReturnsInHanded {} Try.checked os 4 .any (Rows.addrKindsSpec.pre6 enc Try.prog Try.f4 Rows.addrKindsRow.domain false) (Rows.addrKindsSpec.post enc Try.prog Try.f4 false true false false) := by
  have e : Try.f4.params.toList = [9, 3] := by rw [Try.params4]
  refine law_of_walk (C := Try.checked) (tb := 4) H enc Try.own started (by kernel_rfl) Try.func4 Try.laidOut rfl rfl Try.underlying4 ?_ ?_
    (ChangeSpec.witness6 (enc := enc) (C := Try.checked) false ⟨#[], #[.string ByteArray.empty, .int .i64 0], []⟩ 8 (by kernel_rfl) (by kernel_rfl) (by kernel_rfl) (by kernel_rfl)) ?_
  · rw [e]
    intro t ht
    simp only [List.mem_cons, List.not_mem_nil, or_false] at ht
    rcases ht with rfl | rfl <;> exact ⟨by kernel_rfl, of_decide_eq_true (by kernel_rfl)⟩
  · intro ds hds
    rw [e] at hds
    match ds, hds with
    | [d0, d1], _ => rfl
  · intro W base args ds p hval0 hA0 hsz0
    have hval : ∀ (j : Nat) t v, Try.f4.params[j]? = some t → args[j]? = some v → Value.okWide Try.prog W .any base t v := hval0
    have hA : DataW.TrodAll enc Try.prog W 0 (fun _ => true) true Try.f4.params.toList args.toList ds p := hA0
    have hsz : (DataW.weightsEach Try.prog Try.f4.params.toList ds).all (· ≤ reachBytes) = true := hsz0
    rw [Try.params4] at hA hval hsz
    obtain ⟨v0, v1, d0, d1, p0, p1, rfl, rfl, rfl, h0, h1⟩ := trodAll_two hA
    obtain ⟨x0, rfl, rfl, rfl, _⟩ := open_string Try.underlying9 (hval 0 9 v0 rfl rfl) h0
    obtain ⟨x1, rfl, rfl, rfl, k1⟩ := open_int Try.underlying3 (hval 1 3 v1 rfl rfl) h1
    have b1 := bounds_i64 k1
    have s0 := sized_string hsz (j := 0) (t := 9) rfl rfl
    simp only [reachBytes] at s0
    exact addrKinds_any x0 x1 W

theorem addrKinds_holds : Rows.AddrKindsSaid :=
  OpenClaim.holds_of_wide 4 Try.f4 rfl rfl rfl rfl rfl rfl rfl ⟨rfl, rfl, rfl, rfl, rfl⟩ rfl rfl rfl rfl rfl (by kernel_rfl) Try.func4 (by kernel_rfl)
    (of_decide_eq_true (by kernel_rfl)) (by unfold Func.isWrapper; first | (rw [if_pos (by decide +kernel)]; kernel_rfl) | (rw [if_neg (by decide +kernel)]; exact ⟨rfl, rfl⟩))
    (fun os started H enc _ => addrKinds_lifted os started H enc)
end Go.Proofs.Ythknggabioadhaa

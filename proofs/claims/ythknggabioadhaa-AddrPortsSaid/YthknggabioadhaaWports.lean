/-
  For every input the law AddrPorts returns true, and its arguments read afterwards as before; no condition beyond the form's own reach.
-/
import Derived.Test.YthknggabioadhaaLaw
import Derived.Test.YthknggabioadhaaFixed
import Derived.Laws.BitsAllLaws
namespace Go.Proofs.Ythknggabioadhaa
open Go.Joins Go.ChangeShapes Go.WideShapes Go.ChangeAt Go.RowKit Go.Deep
open Go.ChangeMaps (open_string)


theorem low15 (n : Int) : ∃ X : Nat, X < 16 ∧ bits .and .i64 n 15 = (X : Int) := by
  have e : (BitVec.ofInt 64 15).toNat = 2 ^ 4 - 1 := by decide
  have h : bits .and .i64 n 15 = IntKind.i64.wrap (((BitVec.ofInt 64 n).toNat % 2 ^ 4 : Nat) : Int) := by
    show IntKind.i64.wrap (((BitVec.ofInt 64 n &&& BitVec.ofInt 64 15).toNat : Nat) : Int) = _
    rw [BitVec.toNat_and, e, Nat.and_two_pow_sub_one_eq_mod]
  have hb : (BitVec.ofInt 64 n).toNat % 2 ^ 4 < 16 := Nat.mod_lt _ (by decide)
  rw [IntWalk.i64_in _ (by omega)] at h
  exact ⟨_, hb, h⟩
theorem port_kind (X : Nat) (h : X < 16) : kindV (portS X) = 1 ∧ byV (portS X) = X ∧ byV (portS X ++ ⟨#[0]⟩) = -1 ∧ (portS X).size = 6 := by
  have e : ∀ j : Fin 16, kindV (portS (j.val : Int)) = 1 ∧ byV (portS (j.val : Int)) = (j.val : Int) ∧ byV (portS (j.val : Int) ++ ⟨#[0]⟩) = -1 ∧ (portS (j.val : Int)).size = 6 := by decide +kernel
  exact e ⟨X, h⟩
theorem port_eq (X Y : Nat) (hX : X < 16) (hY : Y < 16) : ((portS X).toList == (portS Y).toList) = ((X : Int) == (Y : Int)) := by
  by_cases h : X = Y
  · subst h; simp
  · have e : portS X ≠ portS Y := by
      intro e
      have h1 := (port_kind X hX).2.1
      rw [e, (port_kind Y hY).2.1] at h1
      omega
    rw [str_ne e]
    symm
    rw [beq_eq_false_iff_ne]
    omega
set_option maxRecDepth 100000 in
set_option maxHeartbeats 1000000 in
theorem addrPorts_any (a b : Int) (w : World) :
    Calls Try.prog 6 #[.int .i64 a, .int .i64 b] w fun e w' => e = .returned (.bool true) ∧ Below w.heap.size w w' := by
  have hB := Below.refl w.heap.size w
  obtain ⟨X, hX, eX⟩ := low15 a
  obtain ⟨Y, hY, eY⟩ := low15 b
  obtain ⟨k1, k2, k3, k4⟩ := port_kind X hX
  have k5 := port_eq X Y hX hY
  have G1 := Lib.hid (fun w => port_any X w)
  have G2 := Lib.hid (fun w => port_any Y w)
  have G3 := Lib.hid (fun w => kind_any (portS X) w)
  have G4 := Lib.hid (fun w => by_any (portS X) w)
  have G5 := Lib.hid (fun w => by_any (portS X ++ ⟨#[0]⟩) w)
  rw [k1] at G3
  rw [k2] at G4
  rw [k3] at G5
  have k6 : (portS X).size ≤ 6 := by omega
  clear k1 k2 k3 k4
  obtain ⟨P, eP⟩ : ∃ P, portS X = P := ⟨_, rfl⟩
  obtain ⟨Q, eQ⟩ : ∃ Q, portS Y = Q := ⟨_, rfl⟩
  rw [eP] at G1 G3 G4 G5 k5 k6
  rw [eQ] at G2 k5
  clear eP eQ
  by_cases hXY : X = Y
  · have GG := Lib.hid (show ∀ w, _ from G2.out)
    have d : ((X : Int) == (Y : Int)) = true := by rw [hXY]; simp
    rw [d] at k5
    have H := Lib.hid hXY
    clear hXY
    go_enter Try.func6, Try.ntmps6
    go_wp2_with (first
      | (go_at_call 15; ((with_reducible refine (G1.out _).mono ?_); rintro e w1 ⟨rfl, hq⟩; replace hB := bl hB hq; clear hq))
      | (go_at_call 15; ((with_reducible refine (G2.out _).mono ?_); rintro e w1 ⟨rfl, hq⟩; replace hB := bl hB hq; clear hq))
      | (go_at_call 13; ((with_reducible refine (G3.out _).mono ?_); rintro e w1 ⟨rfl, rfl⟩))
      | (go_at_call 17; ((with_reducible refine (G4.out _).mono ?_); rintro e w1 ⟨rfl, hq⟩; replace hB := bl hB hq; clear hq))
      | (go_at_call 17; ((with_reducible refine (G5.out _).mono ?_); rintro e w1 ⟨rfl, hq⟩; replace hB := bl hB hq; clear hq))
      | (go_at_call 12; ((with_reducible refine (fixed_any _).mono ?_); rintro e w1 ⟨rfl, hq⟩; replace hB := bl hB hq; clear hq)))
    go_ret
    exact ⟨rfl, hB⟩
  · have d : ((X : Int) == (Y : Int)) = false := by rw [beq_eq_false_iff_ne]; omega
    rw [d] at k5
    clear hXY
    go_enter Try.func6, Try.ntmps6
    go_wp2_with (first
      | (go_at_call 15; ((with_reducible refine (G1.out _).mono ?_); rintro e w1 ⟨rfl, hq⟩; replace hB := bl hB hq; clear hq))
      | (go_at_call 15; ((with_reducible refine (G2.out _).mono ?_); rintro e w1 ⟨rfl, hq⟩; replace hB := bl hB hq; clear hq))
      | (go_at_call 13; ((with_reducible refine (G3.out _).mono ?_); rintro e w1 ⟨rfl, rfl⟩))
      | (go_at_call 17; ((with_reducible refine (G4.out _).mono ?_); rintro e w1 ⟨rfl, hq⟩; replace hB := bl hB hq; clear hq))
      | (go_at_call 17; ((with_reducible refine (G5.out _).mono ?_); rintro e w1 ⟨rfl, hq⟩; replace hB := bl hB hq; clear hq))
      | (go_at_call 12; ((with_reducible refine (fixed_any _).mono ?_); rintro e w1 ⟨rfl, hq⟩; replace hB := bl hB hq; clear hq)))
    go_ret
    exact ⟨rfl, hB⟩

set_option maxRecDepth 100000 in
theorem addrPorts_lifted (os : Os) (started : os.Started) (H : Type) (enc : TypeId × Value → H) :
    ReturnsInHanded {} Try.checked os 6 .any (Rows.addrPortsSpec.pre6 enc Try.prog Try.f6 Rows.addrPortsRow.domain false) (Rows.addrPortsSpec.post enc Try.prog Try.f6 false true false false) := by
  have e : Try.f6.params.toList = [3, 3] := by rw [Try.params6]
  refine law_of_walk (C := Try.checked) (tb := 4) H enc Try.own started (by kernel_rfl) Try.func6 Try.laidOut rfl rfl Try.underlying4 ?_ ?_
    (ChangeSpec.witness6 (enc := enc) (C := Try.checked) false ⟨#[], #[.int .i64 0, .int .i64 0], []⟩ 8 (by kernel_rfl) (by kernel_rfl) (by kernel_rfl) (by kernel_rfl)) ?_
  · rw [e]
    intro t ht
    simp only [List.mem_cons, List.not_mem_nil, or_false] at ht
    rcases ht with rfl | rfl <;> exact ⟨by kernel_rfl, of_decide_eq_true (by kernel_rfl)⟩
  · intro ds hds
    rw [e] at hds
    match ds, hds with
    | [d0, d1], _ => rfl
  · intro W base args ds p hval0 hA0 hsz0
    have hval : ∀ (j : Nat) t v, Try.f6.params[j]? = some t → args[j]? = some v → Value.okWide Try.prog W .any base t v := hval0
    have hA : DataW.TrodAll enc Try.prog W 0 (fun _ => true) true Try.f6.params.toList args.toList ds p := hA0
    have hsz : (DataW.weightsEach Try.prog Try.f6.params.toList ds).all (· ≤ reachBytes) = true := hsz0
    rw [Try.params6] at hA hval hsz
    obtain ⟨v0, v1, d0, d1, p0, p1, rfl, rfl, rfl, h0, h1⟩ := trodAll_two hA
    obtain ⟨x0, rfl, rfl, rfl, k0⟩ := open_int Try.underlying3 (hval 0 3 v0 rfl rfl) h0
    have b0 := bounds_i64 k0
    obtain ⟨x1, rfl, rfl, rfl, k1⟩ := open_int Try.underlying3 (hval 1 3 v1 rfl rfl) h1
    have b1 := bounds_i64 k1
    clear hsz hsz0
    exact addrPorts_any x0 x1 W

theorem addrPorts_holds : Rows.AddrPortsSaid :=
  OpenClaim.holds_of_wide 6 Try.f6 rfl rfl rfl rfl rfl rfl rfl ⟨rfl, rfl, rfl, rfl, rfl⟩ rfl rfl rfl rfl rfl (by kernel_rfl) Try.func6 (by kernel_rfl)
    (of_decide_eq_true (by kernel_rfl)) (by unfold Func.isWrapper; first | (rw [if_pos (by decide +kernel)]; kernel_rfl) | (rw [if_neg (by decide +kernel)]; exact ⟨rfl, rfl⟩))
    (fun os started H enc _ => addrPorts_lifted os started H enc)
end Go.Proofs.Ythknggabioadhaa

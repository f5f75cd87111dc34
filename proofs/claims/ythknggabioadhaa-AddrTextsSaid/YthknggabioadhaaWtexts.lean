/-
  For every input the law AddrTexts returns true, and its arguments read afterwards as before; no condition beyond the form's own reach.
-/
import Derived.Test.YthknggabioadhaaLaw
import Derived.Test.YthknggabioadhaaFixed
namespace Go.Proofs.Ythknggabioadhaa
open Go.Joins Go.ChangeShapes Go.WideShapes Go.ChangeAt Go.RowKit Go.Deep
open Go.ChangeMaps (open_string)


set_option maxRecDepth 100000 in
set_option maxHeartbeats 1000000 in
theorem addrTexts_any (a s : ByteArray) (w : World) :
    Calls Try.prog 3 #[.string a, .string s] w fun e w' => e = .returned (.bool true) ∧ Below w.heap.size w w' := by
  have hB := Below.refl w.heap.size w
  obtain ⟨A, eA⟩ : ∃ A, printS a = A := ⟨_, rfl⟩
  obtain ⟨E, eE⟩ : ∃ E, printE a = E := ⟨_, rfl⟩
  obtain ⟨C, eC⟩ : ∃ C, parseS s = C := ⟨_, rfl⟩
  obtain ⟨F, eF⟩ : ∃ F, parseE s = F := ⟨_, rfl⟩
  have G1 := Lib.hid (fun w => print_any a w)
  have G2 := Lib.hid (fun w => printr_any a w)
  have G3 := Lib.hid (fun w => parse_any s w)
  have G4 := Lib.hid (fun w => parser_any s w)
  rw [eA, eE] at G1 G2
  rw [eC, eF] at G3 G4
  clear eA eE eC eF
  go_enter Try.func3, Try.ntmps3
  go_wp2_with (first
    | (go_at_call 8; ((with_reducible refine (G1.out _).mono ?_); rintro e w1 ⟨rfl, hq⟩; replace hB := bl hB hq; clear hq))
    | (go_at_call 9; ((with_reducible refine (G2.out _).mono ?_); rintro e w1 ⟨rfl, hq⟩; replace hB := bl hB hq; clear hq))
    | (go_at_call 10; ((with_reducible refine (G3.out _).mono ?_); rintro e w1 ⟨rfl, hq⟩; replace hB := bl hB hq; clear hq))
    | (go_at_call 11; ((with_reducible refine (G4.out _).mono ?_); rintro e w1 ⟨rfl, hq⟩; replace hB := bl hB hq; clear hq))
    | (go_at_call 12; ((with_reducible refine (fixed_any _).mono ?_); rintro e w1 ⟨rfl, hq⟩; replace hB := bl hB hq; clear hq)))
  go_ret
  exact ⟨rfl, hB⟩

set_option maxRecDepth 100000 in
theorem addrTexts_lifted (os : Os) (started : os.Started) (H : Type) (enc : TypeId × Value → H) :
    ReturnsInHanded {} Try.checked os 3 .any (Rows.addrTextsSpec.pre6 enc Try.prog Try.f3 Rows.addrTextsRow.domain false) (Rows.addrTextsSpec.post enc Try.prog Try.f3 false true false false) := by
  have e : Try.f3.params.toList = [9, 9] := by rw [Try.params3]
  refine law_of_walk (C := Try.checked) (tb := 4) H enc Try.own started (by kernel_rfl) Try.func3 Try.laidOut rfl rfl Try.underlying4 ?_ ?_
    (ChangeSpec.witness6 (enc := enc) (C := Try.checked) false ⟨#[], #[.string ByteArray.empty, .string ByteArray.empty], []⟩ 8 (by kernel_rfl) (by kernel_rfl) (by kernel_rfl) (by kernel_rfl)) ?_
  · rw [e]
    intro t ht
    simp only [List.mem_cons, List.not_mem_nil, or_false] at ht
    rcases ht with rfl | rfl <;> exact ⟨by kernel_rfl, of_decide_eq_true (by kernel_rfl)⟩
  · intro ds hds
    rw [e] at hds
    match ds, hds with
    | [d0, d1], _ => rfl
  · intro W base args ds p hval0 hA0 hsz0
    have hval : ∀ (j : Nat) t v, Try.f3.params[j]? = some t → args[j]? = some v → Value.okWide Try.prog W .any base t v := hval0
    have hA : DataW.TrodAll enc Try.prog W 0 (fun _ => true) true Try.f3.params.toList args.toList ds p := hA0
    have hsz : (DataW.weightsEach Try.prog Try.f3.params.toList ds).all (· ≤ reachBytes) = true := hsz0
    rw [Try.params3] at hA hval hsz
    obtain ⟨v0, v1, d0, d1, p0, p1, rfl, rfl, rfl, h0, h1⟩ := trodAll_two hA
    obtain ⟨x0, rfl, rfl, rfl, _⟩ := open_string Try.underlying9 (hval 0 9 v0 rfl rfl) h0
    obtain ⟨x1, rfl, rfl, rfl, _⟩ := open_string Try.underlying9 (hval 1 9 v1 rfl rfl) h1
    have s0 := sized_string hsz (j := 0) (t := 9) rfl rfl
    have s1 := sized_string hsz (j := 1) (t := 9) rfl rfl
    simp only [reachBytes] at s0 s1
    exact addrTexts_any x0 x1 W

theorem addrTexts_holds : Rows.AddrTextsSaid :=
  OpenClaim.holds_of_wide 3 Try.f3 rfl rfl rfl rfl rfl rfl rfl ⟨rfl, rfl, rfl, rfl, rfl⟩ rfl rfl rfl rfl rfl (by kernel_rfl) Try.func3 (by kernel_rfl)
    (of_decide_eq_true (by kernel_rfl)) (by unfold Func.isWrapper; first | (rw [if_pos (by decide +kernel)]; kernel_rfl) | (rw [if_neg (by decide +kernel)]; exact ⟨rfl, rfl⟩))
    (fun os started H enc _ => addrTexts_lifted os started H enc)
end Go.Proofs.Ythknggabioadhaa

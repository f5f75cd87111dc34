/-
  For every input the law AddrBack returns true, and its arguments read afterwards as before; no condition beyond the form's own reach.
-/
import Derived.Test.YthknggabioadhaaLaw
import Derived.Test.YthknggabioadhaaFixed
namespace Go.Proofs.Ythknggabioadhaa
open Go.Joins Go.ChangeShapes Go.WideShapes Go.ChangeAt Go.RowKit Go.Deep
open Go.ChangeMaps (open_string)


/-- What the law asks of a text. -/
def Said (s M : ByteArray) (E : Int) : Prop :=
  (∀ w, Calls Try.prog 10 #[.string s] w fun e w' => e = .returned (.tuple #[.string M, .int .i64 E]) ∧ Below w.heap.size w w') ∧
  ((E = 0 ∧ ∀ w, Calls Try.prog 8 #[.string M] w fun e w' => e = .returned (.tuple #[.string s, .int .i64 0]) ∧ Below w.heap.size w w') ∨ (E = 50 ∧ M = ⟨#[]⟩))
theorem said (s : ByteArray) : ∃ M E, Said s M E := by
  refine ⟨parseS s, parseE s, fun w => parse_any s w, ?_⟩
  by_cases h : parseE s = 0
  · refine .inl ⟨h, fun w => ?_⟩
    have h1 := print_any (parseS s) w
    rw [(print_parse s h).1, (print_parse s h).2] at h1
    exact h1
  · have hg : ¬ (s.size = 17 ∧ goodB s 6 = true) := fun g => h (if_pos g)
    exact .inr ⟨if_neg hg, if_neg hg⟩
theorem addr_text (a : ByteArray) (h : a.size = 6) : ∃ A, printS a = A ∧ (∀ w, Calls Try.prog 8 #[.string a] w fun e w' => e = .returned (.tuple #[.string A, .int .i64 0]) ∧ Below w.heap.size w w') ∧
    (∀ w, Calls Try.prog 10 #[.string A] w fun e w' => e = .returned (.tuple #[.string a, .int .i64 0]) ∧ Below w.heap.size w w') := by
  refine ⟨_, rfl, fun w => ?_, fun w => ?_⟩
  · have h1 := print_any a w
    rw [show printE a = 0 from if_pos h] at h1
    exact h1
  · have h1 := parse_any (printS a) w
    rw [(parse_print a h).1, (parse_print a h).2] at h1
    exact h1
theorem no_text (a : ByteArray) (h : a.size ≠ 6) : ∀ w, Calls Try.prog 8 #[.string a] w fun e w' => e = .returned (.tuple #[.string ⟨#[]⟩, .int .i64 1]) ∧ Below w.heap.size w w' := by
  intro w
  have h1 := print_any a w
  rw [show printS a = ⟨#[]⟩ from if_neg h, show printE a = 1 from if_neg h] at h1
  exact h1
set_option maxRecDepth 100000 in
set_option maxHeartbeats 4000000 in
theorem addrBack_any (a b s : ByteArray) (w : World) :
    Calls Try.prog 5 #[.string a, .string b, .string s] w fun e w' => e = .returned (.bool true) ∧ Below w.heap.size w w' := by
  have hB := Below.refl w.heap.size w
  obtain ⟨M, E, g4, g5⟩ := said s
  have G4 := Lib.hid g4
  clear g4
  by_cases ha : a.size = 6
  · obtain ⟨A, eA, g1, g3⟩ := addr_text a ha
    have G1 := Lib.hid g1
    have G3 := Lib.hid g3
    clear g1 g3
    by_cases hb : b.size = 6
    · obtain ⟨T, eT, g2, _⟩ := addr_text b hb
      have G2 := Lib.hid g2
      clear g2
      by_cases hab : a = b
      · subst hab
        obtain rfl : A = T := by rw [← eA, ← eT]
        clear eA eT ha hb
        rcases g5 with ⟨rfl, g5⟩ | ⟨rfl, rfl⟩
        · have G5 := Lib.hid g5
          clear g5
          go_enter Try.func5, Try.ntmps5
          go_wp2_with (first
            | (go_at_call 8; ((with_reducible refine (G1.out _).mono ?_); rintro e w1 ⟨rfl, hq⟩; replace hB := bl hB hq; clear hq))
            | (go_at_call 8; ((with_reducible refine (G2.out _).mono ?_); rintro e w1 ⟨rfl, hq⟩; replace hB := bl hB hq; clear hq))
            | (go_at_call 8; ((with_reducible refine (G5.out _).mono ?_); rintro e w1 ⟨rfl, hq⟩; replace hB := bl hB hq; clear hq))
            | (go_at_call 10; ((with_reducible refine (G3.out _).mono ?_); rintro e w1 ⟨rfl, hq⟩; replace hB := bl hB hq; clear hq))
            | (go_at_call 10; ((with_reducible refine (G4.out _).mono ?_); rintro e w1 ⟨rfl, hq⟩; replace hB := bl hB hq; clear hq))
            | (go_at_call 12; ((with_reducible refine (fixed_any _).mono ?_); rintro e w1 ⟨rfl, hq⟩; replace hB := bl hB hq; clear hq)))
          go_ret
          exact ⟨rfl, hB⟩
        · go_enter Try.func5, Try.ntmps5
          go_wp2_with (first
            | (go_at_call 8; ((with_reducible refine (G1.out _).mono ?_); rintro e w1 ⟨rfl, hq⟩; replace hB := bl hB hq; clear hq))
            | (go_at_call 8; ((with_reducible refine (G2.out _).mono ?_); rintro e w1 ⟨rfl, hq⟩; replace hB := bl hB hq; clear hq))
            | (go_at_call 10; ((with_reducible refine (G3.out _).mono ?_); rintro e w1 ⟨rfl, hq⟩; replace hB := bl hB hq; clear hq))
            | (go_at_call 10; ((with_reducible refine (G4.out _).mono ?_); rintro e w1 ⟨rfl, hq⟩; replace hB := bl hB hq; clear hq))
            | (go_at_call 12; ((with_reducible refine (fixed_any _).mono ?_); rintro e w1 ⟨rfl, hq⟩; replace hB := bl hB hq; clear hq)))
          go_ret
          exact ⟨rfl, hB⟩
      · have e1 := str_ne hab
        have e2 : (A.toList == T.toList) = false := str_ne (fun e => hab (print_inj a b ha hb (by rw [eA, eT, e])))
        clear eA eT ha hb hab
        rcases g5 with ⟨rfl, g5⟩ | ⟨rfl, rfl⟩
        · have G5 := Lib.hid g5
          clear g5
          go_enter Try.func5, Try.ntmps5
          go_wp2_with (first
            | (go_at_call 8; ((with_reducible refine (G1.out _).mono ?_); rintro e w1 ⟨rfl, hq⟩; replace hB := bl hB hq; clear hq))
            | (go_at_call 8; ((with_reducible refine (G2.out _).mono ?_); rintro e w1 ⟨rfl, hq⟩; replace hB := bl hB hq; clear hq))
            | (go_at_call 8; ((with_reducible refine (G5.out _).mono ?_); rintro e w1 ⟨rfl, hq⟩; replace hB := bl hB hq; clear hq))
            | (go_at_call 10; ((with_reducible refine (G3.out _).mono ?_); rintro e w1 ⟨rfl, hq⟩; replace hB := bl hB hq; clear hq))
            | (go_at_call 10; ((with_reducible refine (G4.out _).mono ?_); rintro e w1 ⟨rfl, hq⟩; replace hB := bl hB hq; clear hq))
            | (go_at_call 12; ((with_reducible refine (fixed_any _).mono ?_); rintro e w1 ⟨rfl, hq⟩; replace hB := bl hB hq; clear hq)))
          go_ret
          exact ⟨rfl, hB⟩
        · go_enter Try.func5, Try.ntmps5
          go_wp2_with (first
            | (go_at_call 8; ((with_reducible refine (G1.out _).mono ?_); rintro e w1 ⟨rfl, hq⟩; replace hB := bl hB hq; clear hq))
            | (go_at_call 8; ((with_reducible refine (G2.out _).mono ?_); rintro e w1 ⟨rfl, hq⟩; replace hB := bl hB hq; clear hq))
            | (go_at_call 10; ((with_reducible refine (G3.out _).mono ?_); rintro e w1 ⟨rfl, hq⟩; replace hB := bl hB hq; clear hq))
            | (go_at_call 10; ((with_reducible refine (G4.out _).mono ?_); rintro e w1 ⟨rfl, hq⟩; replace hB := bl hB hq; clear hq))
            | (go_at_call 12; ((with_reducible refine (fixed_any _).mono ?_); rintro e w1 ⟨rfl, hq⟩; replace hB := bl hB hq; clear hq)))
          go_ret
          exact ⟨rfl, hB⟩
    · have G2 := Lib.hid (no_text b hb)
      clear eA ha hb
      rcases g5 with ⟨rfl, g5⟩ | ⟨rfl, rfl⟩
      · have G5 := Lib.hid g5
        clear g5
        go_enter Try.func5, Try.ntmps5
        go_wp2_with (first
          | (go_at_call 8; ((with_reducible refine (G1.out _).mono ?_); rintro e w1 ⟨rfl, hq⟩; replace hB := bl hB hq; clear hq))
          | (go_at_call 8; ((with_reducible refine (G2.out _).mono ?_); rintro e w1 ⟨rfl, hq⟩; replace hB := bl hB hq; clear hq))
          | (go_at_call 8; ((with_reducible refine (G5.out _).mono ?_); rintro e w1 ⟨rfl, hq⟩; replace hB := bl hB hq; clear hq))
          | (go_at_call 10; ((with_reducible refine (G3.out _).mono ?_); rintro e w1 ⟨rfl, hq⟩; replace hB := bl hB hq; clear hq))
          | (go_at_call 10; ((with_reducible refine (G4.out _).mono ?_); rintro e w1 ⟨rfl, hq⟩; replace hB := bl hB hq; clear hq))
          | (go_at_call 12; ((with_reducible refine (fixed_any _).mono ?_); rintro e w1 ⟨rfl, hq⟩; replace hB := bl hB hq; clear hq)))
        go_ret
        exact ⟨rfl, hB⟩
      · go_enter Try.func5, Try.ntmps5
        go_wp2_with (first
          | (go_at_call 8; ((with_reducible refine (G1.out _).mono ?_); rintro e w1 ⟨rfl, hq⟩; replace hB := bl hB hq; clear hq))
          | (go_at_call 8; ((with_reducible refine (G2.out _).mono ?_); rintro e w1 ⟨rfl, hq⟩; replace hB := bl hB hq; clear hq))
          | (go_at_call 10; ((with_reducible refine (G3.out _).mono ?_); rintro e w1 ⟨rfl, hq⟩; replace hB := bl hB hq; clear hq))
          | (go_at_call 10; ((with_reducible refine (G4.out _).mono ?_); rintro e w1 ⟨rfl, hq⟩; replace hB := bl hB hq; clear hq))
          | (go_at_call 12; ((with_reducible refine (fixed_any _).mono ?_); rintro e w1 ⟨rfl, hq⟩; replace hB := bl hB hq; clear hq)))
        go_ret
        exact ⟨rfl, hB⟩
  · have G1 := Lib.hid (no_text a ha)
    obtain ⟨T, F, g2⟩ : ∃ T F, ∀ w, Calls Try.prog 8 #[.string b] w fun e w' => e = .returned (.tuple #[.string T, .int .i64 F]) ∧ Below w.heap.size w w' := ⟨_, _, fun w => print_any b w⟩
    have G2 := Lib.hid g2
    clear g2 ha
    rcases g5 with ⟨rfl, g5⟩ | ⟨rfl, rfl⟩
    · have G5 := Lib.hid g5
      clear g5
      go_enter Try.func5, Try.ntmps5
      go_wp2_with (first
        | (go_at_call 8; ((with_reducible refine (G1.out _).mono ?_); rintro e w1 ⟨rfl, hq⟩; replace hB := bl hB hq; clear hq))
        | (go_at_call 8; ((with_reducible refine (G2.out _).mono ?_); rintro e w1 ⟨rfl, hq⟩; replace hB := bl hB hq; clear hq))
        | (go_at_call 8; ((with_reducible refine (G5.out _).mono ?_); rintro e w1 ⟨rfl, hq⟩; replace hB := bl hB hq; clear hq))
        | (go_at_call 10; ((with_reducible refine (G4.out _).mono ?_); rintro e w1 ⟨rfl, hq⟩; replace hB := bl hB hq; clear hq))
        | (go_at_call 12; ((with_reducible refine (fixed_any _).mono ?_); rintro e w1 ⟨rfl, hq⟩; replace hB := bl hB hq; clear hq)))
      go_ret
      exact ⟨rfl, hB⟩
    · go_enter Try.func5, Try.ntmps5
      go_wp2_with (first
        | (go_at_call 8; ((with_reducible refine (G1.out _).mono ?_); rintro e w1 ⟨rfl, hq⟩; replace hB := bl hB hq; clear hq))
        | (go_at_call 8; ((with_reducible refine (G2.out _).mono ?_); rintro e w1 ⟨rfl, hq⟩; replace hB := bl hB hq; clear hq))
        | (go_at_call 10; ((with_reducible refine (G4.out _).mono ?_); rintro e w1 ⟨rfl, hq⟩; replace hB := bl hB hq; clear hq))
        | (go_at_call 12; ((with_reducible refine (fixed_any _).mono ?_); rintro e w1 ⟨rfl, hq⟩; replace hB := bl hB hq; clear hq)))
      go_ret
      exact ⟨rfl, hB⟩

set_option maxRecDepth 100000 in
theorem addrBack_lifted (os : Os) (started : os.Started) (H : Type) (enc : TypeId × Value → H) :
    ReturnsInHanded {} Try.checked os 5 .any (Rows.addrBackSpec.pre6 enc Try.prog Try.f5 Rows.addrBackRow.domain false) (Rows.addrBackSpec.post enc Try.prog Try.f5 false true false false) := by
  have e : Try.f5.params.toList = [9, 9, 9] := by rw [Try.params5]
  refine law_of_walk (C := Try.checked) (tb := 4) H enc Try.own started (by kernel_rfl) Try.func5 Try.laidOut rfl rfl Try.underlying4 ?_ ?_
    (ChangeSpec.witness6 (enc := enc) (C := Try.checked) false ⟨#[], #[.string ByteArray.empty, .string ByteArray.empty, .string ByteArray.empty], []⟩ 8 (by kernel_rfl) (by kernel_rfl) (by kernel_rfl) (by kernel_rfl)) ?_
  · rw [e]
    intro t ht
    simp only [List.mem_cons, List.not_mem_nil, or_false] at ht
    rcases ht with rfl | rfl | rfl <;> exact ⟨by kernel_rfl, of_decide_eq_true (by kernel_rfl)⟩
  · intro ds hds
    rw [e] at hds
    match ds, hds with
    | [d0, d1, d2], _ => rfl
  · intro W base args ds p hval0 hA0 hsz0
    have hval : ∀ (j : Nat) t v, Try.f5.params[j]? = some t → args[j]? = some v → Value.okWide Try.prog W .any base t v := hval0
    have hA : DataW.TrodAll enc Try.prog W 0 (fun _ => true) true Try.f5.params.toList args.toList ds p := hA0
    have hsz : (DataW.weightsEach Try.prog Try.f5.params.toList ds).all (· ≤ reachBytes) = true := hsz0
    rw [Try.params5] at hA hval hsz
    obtain ⟨v0, v1, v2, d0, d1, d2, p0, p1, p2, rfl, rfl, rfl, h0, h1, h2⟩ := trodAll_three hA
    obtain ⟨x0, rfl, rfl, rfl, _⟩ := open_string Try.underlying9 (hval 0 9 v0 rfl rfl) h0
    obtain ⟨x1, rfl, rfl, rfl, _⟩ := open_string Try.underlying9 (hval 1 9 v1 rfl rfl) h1
    obtain ⟨x2, rfl, rfl, rfl, _⟩ := open_string Try.underlying9 (hval 2 9 v2 rfl rfl) h2
    have s0 := sized_string hsz (j := 0) (t := 9) rfl rfl
    have s1 := sized_string hsz (j := 1) (t := 9) rfl rfl
    have s2 := sized_string hsz (j := 2) (t := 9) rfl rfl
    simp only [reachBytes] at s0 s1 s2
    exact addrBack_any x0 x1 x2 W

theorem addrBack_holds : Rows.AddrBackSaid :=
  OpenClaim.holds_of_wide 5 Try.f5 rfl rfl rfl rfl rfl rfl rfl ⟨rfl, rfl, rfl, rfl, rfl⟩ rfl rfl rfl rfl rfl (by kernel_rfl) Try.func5 (by kernel_rfl)
    (of_decide_eq_true (by kernel_rfl)) (by unfold Func.isWrapper; first | (rw [if_pos (by decide +kernel)]; kernel_rfl) | (rw [if_neg (by decide +kernel)]; exact ⟨rfl, rfl⟩))
    (fun os started H enc _ => addrBack_lifted os started H enc)
end Go.Proofs.Ythknggabioadhaa

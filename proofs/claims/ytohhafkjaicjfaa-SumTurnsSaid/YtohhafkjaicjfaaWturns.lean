/-
  For every input the law SumTurns returns true, and its arguments read afterwards as before; no condition beyond the form's own reach.
-/
import Derived.Test.YtohhafkjaicjfaaLaw
import Derived.Test.YtohhafkjaicjfaaTwo
import Derived.Deep.RegionHeld3
namespace Go.Proofs.Ytohhafkjaicjfaa
open Go.Joins Go.ChangeShapes Go.WideShapes Go.ChangeAt Go.RowKit Go.Deep
open Go.ChangeMaps (open_string)


theorem low16 (n : Int) : ∃ X : Int, 0 ≤ X ∧ X < 65536 ∧ bits .and .i64 n 65535 = X := by
  have e : (BitVec.ofInt 64 65535).toNat = 2 ^ 16 - 1 := by decide
  have h : bits .and .i64 n 65535 = IntKind.i64.wrap (((BitVec.ofInt 64 n).toNat % 2 ^ 16 : Nat) : Int) := by
    show IntKind.i64.wrap (((BitVec.ofInt 64 n &&& BitVec.ofInt 64 65535).toNat : Nat) : Int) = _
    rw [BitVec.toNat_and, e, Nat.and_two_pow_sub_one_eq_mod]
  have hb : (BitVec.ofInt 64 n).toNat % 2 ^ 16 < 65536 := Nat.mod_lt _ (by decide)
  rw [IntWalk.i64_in _ (by omega)] at h
  exact ⟨_, by omega, by omega, h⟩
theorem wt_two (S : ByteArray) (q : Nat) (h : 2 * q + 1 < S.size) :
    (S.extract (2 * q) (2 * q + 2)).size = 2 ∧ wt true (S.extract (2 * q) (2 * q + 2)).data.toList + wt true (S.data.toList.drop (2 * (q + 1))) = wt true (S.data.toList.drop (2 * q)) := by
  have hl : S.data.toList.length = S.size := rfl
  have e1 : (S.extract (2 * q) (2 * q + 2)).data.toList = (S.data.toList.drop (2 * q)).take 2 := by
    rw [ByteArray.data_extract, Array.toList_extract, List.extract_eq_take_drop]; congr 1; omega
  constructor
  · show (S.extract (2 * q) (2 * q + 2)).data.toList.length = 2
    rw [e1, List.length_take, List.length_drop]; omega
  · have e2 : S.data.toList.drop (2 * (q + 1)) = (S.data.toList.drop (2 * q)).drop 2 := by rw [List.drop_drop]; congr 1
    have e3 := wt_append true ((S.data.toList.drop (2 * q)).take 2) ((S.data.toList.drop (2 * q)).drop 2)
    rw [List.take_append_drop, List.length_take, List.length_drop, if_pos (by omega)] at e3
    rw [e1, e2, e3]
theorem on_wt (A B : ByteArray) (h : wt true A.data.toList = wt true B.data.toList) : onS 0 A = onS 0 B := by
  rw [onS_eq _ _ (by omega) (by omega), onS_eq _ _ (by omega) (by omega), h]
theorem on_same (A : ByteArray) (Z : Int) (h : onS 0 A = Z) (hA : A.size ≤ 2000) (w : World) :
    Calls Try.prog 11 #[.int .u16 0, .string A] w fun e w' => e = .returned (.int .u16 Z) ∧ Below w.heap.size w w' := by
  subst h
  exact on_any 0 A w (by omega) (by omega) (by unfold maxLen; omega)
theorem on_none (A : ByteArray) (w : World) (h : A = ⟨#[]⟩ ∨ A = ⟨#[0, 0, 0]⟩) :
    Calls Try.prog 11 #[.int .u16 0, .string A] w fun e w' => e = .returned (.int .u16 0) ∧ Below w.heap.size w w' := by
  rcases h with rfl | rfl
  · exact on_same _ _ rfl (by decide) w
  · exact on_same _ _ (by decide +kernel) (by decide) w
/-- What the law asks of its calls, of a string of whole words. -/
theorem turns_calls (S : ByteArray) (j : Nat) (hS : S.size ≤ 1000) (he : S.size % 2 = 0) (h : j * 2 ≤ S.size) :
    ∃ (Z : Int) (R E : ByteArray), 0 ≤ Z ∧ Z ≤ 65535 ∧ S.extract (j * 2) S.size ++ S.extract 0 (j * 2) = R ∧ S ++ ⟨#[0, 0, 0]⟩ = E ∧
      (∀ w, Calls Try.prog 11 #[.int .u16 0, .string S] w fun e w' => e = .returned (.int .u16 Z) ∧ Below w.heap.size w w') ∧
      (∀ w, Calls Try.prog 11 #[.int .u16 0, .string R] w fun e w' => e = .returned (.int .u16 Z) ∧ Below w.heap.size w w') ∧
      (∀ w, Calls Try.prog 11 #[.int .u16 0, .string E] w fun e w' => e = .returned (.int .u16 Z) ∧ Below w.heap.size w w') ∧
      (∀ t : ByteArray, t.size = S.size → wt true t.data.toList = wt true S.data.toList → ∀ w, Calls Try.prog 11 #[.int .u16 0, .string t] w fun e w' => e = .returned (.int .u16 Z) ∧ Below w.heap.size w w') := by
  have hl : S.data.toList.length = S.size := rfl
  have rS := onS_range S 0 (by omega) (by omega)
  have s1 : (S.extract (j * 2) S.size).size = S.size - j * 2 := by simp
  have s2 : (S.extract 0 (j * 2)).size = j * 2 := cut_size S _ h
  refine ⟨onS 0 S, S.extract (j * 2) S.size ++ S.extract 0 (j * 2), S ++ ⟨#[0, 0, 0]⟩, rS.1, rS.2, rfl, rfl, on_same S _ rfl (by omega), on_same _ _ (on_wt _ _ ?_) (by rw [cat_size, s1, s2]; omega), on_same _ _ (on_wt _ _ ?_) ?_,
    fun t ht hw => on_same t _ (on_wt _ _ hw) (by omega)⟩
  · rw [wt_cat _ _ (by rw [s1]; omega), rest_list, cut_list]
    have e3 := wt_append true (S.data.toList.take (j * 2)) (S.data.toList.drop (j * 2))
    rw [List.take_append_drop, List.length_take, if_pos (by omega)] at e3
    omega
  · rw [wt_cat _ _ he]
    show _ + wt true [0, 0, 0] = _
    simp [wt]
  · rw [cat_size]; show S.size + 3 ≤ 2000; omega

set_option maxHeartbeats 1600000 in
theorem sumTurns_any (s : ByteArray) (m : Int) (w : World) (hs : s.size ≤ 140737488351232) :
    Calls Try.prog 6 #[.string s, .int .i64 m] w fun e w' => e = .returned (.bool true) ∧ Below w.heap.size w w' := by
  obtain ⟨X, hX1, hX2, eX⟩ := low16 m
  by_cases hk : s.size ≤ 1000
  · obtain ⟨S, hS, he, eS⟩ : ∃ S : ByteArray, S.size ≤ 1000 ∧ S.size % 2 = 0 ∧ s.extract 0 (s.size / 2 * 2) = S := ⟨_, by rw [cut_size s _ (by omega)]; omega, by rw [cut_size s _ (by omega)]; omega, rfl⟩
    by_cases h0 : S.size = 0
    · have hB := Below.refl w.heap.size w
      obtain rfl : S = ⟨#[]⟩ := by
        obtain ⟨d⟩ := S
        have : d.size = 0 := h0
        rw [Array.eq_empty_of_size_eq_zero this]
      go_enter Try.func6, Try.ntmps6
      go_wp2_with fail
      refine wp_loop_rounds 1 ?_
      rw [rounds_succ]
      go_wp2_with fail
      go_region_held3 (fun w' => Below w.heap.size w w') (first | exact hB | assumption | exact hB.drew | exact bl (by assumption) hq)
        (first
          | (go_at_call 10; refine (fixed_any _).mono ?_; rintro e w' ⟨rfl, hq⟩)
          | (go_at_call 11; refine (on_none _ _ (by first | exact Or.inl rfl | exact Or.inr rfl)).mono ?_; rintro e w' ⟨rfl, hq⟩))
      go_wp2
      go_ret
      rename_i hH
      exact ⟨rfl, hH⟩
    · obtain ⟨j, hj, ej⟩ : ∃ j : Nat, j * 2 + 1 < S.size ∧ X.tmod ((S.size : Int) / 2) = j := by
        have p : 0 < (S.size : Int) / 2 := by omega
        have p1 := Int.emod_nonneg X (show (S.size : Int) / 2 ≠ 0 by omega)
        have p2 := Int.emod_lt_of_pos X p
        exact ⟨(X % ((S.size : Int) / 2)).toNat, by omega, by rw [Int.tmod_eq_emod_of_nonneg hX1]; omega⟩
      obtain ⟨Z, R, E, z1, z2, eR, eE, g1, g2, g3, g4⟩ := turns_calls S j hS he (by omega)
      have G1 := Lib.hid g1
      have G2 := Lib.hid g2
      have G3 := Lib.hid g3
      have G4 := Lib.hid g4
      have HR := Lib.hid eR
      have HE := Lib.hid eE
      clear g1 g2 g3 g4 eR eE
      have hq0 : ¬ (S.size : Int) / 2 = 0 := by omega
      go_enter Try.func6, Try.ntmps6
      go_wp2_with fail
      try simp only [eS]
      go_loop [6, 7] (fun v i => ∃ (p : Nat) (t : ByteArray), 2 * p ≤ S.size ∧ i = .int .i64 (2 * (p : Int) - 2) ∧ v = .string t ∧ t.size = S.size - 2 * p ∧ wt true t.data.toList = wt true (S.data.toList.drop (2 * p))) (fun _ i => (intOf i + 2).toNat)
      case atStart => exact ⟨S.size / 2, ⟨#[]⟩, by omega, by go_num, rfl, by show 0 = _; omega, by rw [List.drop_eq_nil_of_le (by show S.size ≤ _; omega)]⟩
      case round =>
        obtain ⟨p, t, hp, rfl, rfl, ht, hw⟩ := hrel
        cases p with
        | succ q =>
          rw [show 2 * ((q + 1 : Nat) : Int) - 2 = 2 * (q : Int) by omega]
          obtain ⟨u1, u2⟩ := wt_two S q (by omega)
          go_wp2
          go_round
          case rel =>
            refine ⟨q, t ++ S.extract (2 * q) (2 * q + 2), by omega, by go_num, rfl, by rw [cat_size, u1]; omega, ?_⟩
            rw [wt_cat _ _ (by omega), hw, ← u2]; omega
          case measure => simp [intOf]; omega
        | zero =>
          have hw0 : wt true t.data.toList = wt true S.data.toList := by simpa using hw
          have G4' := Lib.hid (G4.out t (by omega) hw0)
          have hB := Below.refl w.heap.size w
          have q1 : ((j : Int) * 2).toNat = j * 2 := by omega
          have q2 : (j : Int) * 2 ≤ S.size := by omega
          have q3 : (0 : Int) ≤ (j : Int) * 2 := by omega
          have q4 : j * 2 ≤ S.size := by omega
          obtain ⟨A1, eA1⟩ : ∃ A1, S.extract (j * 2) S.size = A1 := ⟨_, rfl⟩
          obtain ⟨A2, eA2⟩ : ∃ A2, S.extract 0 (j * 2) = A2 := ⟨_, rfl⟩
          have n1 : A1.size ≤ 1000 := by rw [← eA1]; simp; omega
          have n2 : A2.size ≤ 1000 := by rw [← eA2, cut_size S _ (by omega)]; omega
          have c1 : ¬ 9223372036854775807 < A1.size + A2.size := by omega
          have c2 : ¬ 9223372036854775807 < S.size + ByteArray.size ⟨#[0, 0, 0]⟩ := by show ¬ _ < S.size + 3; omega
          have c3 : ¬ 9223372036854775807 < S.size + 3 := by omega
          have eR := HR.out
          rw [eA1, eA2] at eR
          have eE := HE.out
          go_wp2_with fail
          go_region_held3 (fun w' => Below w.heap.size w w') (first | exact hB | assumption | exact hB.drew | exact bl (by assumption) hq)
            (first
              | (go_at_call 10; refine (fixed_any _).mono ?_; rintro e w' ⟨rfl, hq⟩)
              | (go_at_call 11; ((with_reducible refine (G1.out _).mono ?_); rintro e w' ⟨rfl, hq⟩))
              | (go_at_call 11; ((with_reducible refine (G2.out _).mono ?_); rintro e w' ⟨rfl, hq⟩))
              | (go_at_call 11; ((with_reducible refine (G3.out _).mono ?_); rintro e w' ⟨rfl, hq⟩))
              | (go_at_call 11; ((with_reducible refine (G4'.out _).mono ?_); rintro e w' ⟨rfl, hq⟩)))
          go_wp2
          go_ret
          rename_i hH
          exact ⟨rfl, hH⟩
  · obtain ⟨S, hS, he, h0, eS⟩ : ∃ S : ByteArray, S.size ≤ 1000 ∧ S.size % 2 = 0 ∧ ¬ S.size = 0 ∧ s.extract 0 1000 = S := ⟨_, by rw [cut_size s _ (by omega)]; omega, by rw [cut_size s _ (by omega)], by rw [cut_size s _ (by omega)]; decide, rfl⟩
    · obtain ⟨j, hj, ej⟩ : ∃ j : Nat, j * 2 + 1 < S.size ∧ X.tmod ((S.size : Int) / 2) = j := by
        have p : 0 < (S.size : Int) / 2 := by omega
        have p1 := Int.emod_nonneg X (show (S.size : Int) / 2 ≠ 0 by omega)
        have p2 := Int.emod_lt_of_pos X p
        exact ⟨(X % ((S.size : Int) / 2)).toNat, by omega, by rw [Int.tmod_eq_emod_of_nonneg hX1]; omega⟩
      obtain ⟨Z, R, E, z1, z2, eR, eE, g1, g2, g3, g4⟩ := turns_calls S j hS he (by omega)
      have G1 := Lib.hid g1
      have G2 := Lib.hid g2
      have G3 := Lib.hid g3
      have G4 := Lib.hid g4
      have HR := Lib.hid eR
      have HE := Lib.hid eE
      clear g1 g2 g3 g4 eR eE
      have hq0 : ¬ (S.size : Int) / 2 = 0 := by omega
      go_enter Try.func6, Try.ntmps6
      go_wp2_with fail
      try simp only [eS]
      go_loop [6, 7] (fun v i => ∃ (p : Nat) (t : ByteArray), 2 * p ≤ S.size ∧ i = .int .i64 (2 * (p : Int) - 2) ∧ v = .string t ∧ t.size = S.size - 2 * p ∧ wt true t.data.toList = wt true (S.data.toList.drop (2 * p))) (fun _ i => (intOf i + 2).toNat)
      case atStart => exact ⟨S.size / 2, ⟨#[]⟩, by omega, by go_num, rfl, by show 0 = _; omega, by rw [List.drop_eq_nil_of_le (by show S.size ≤ _; omega)]⟩
      case round =>
        obtain ⟨p, t, hp, rfl, rfl, ht, hw⟩ := hrel
        cases p with
        | succ q =>
          rw [show 2 * ((q + 1 : Nat) : Int) - 2 = 2 * (q : Int) by omega]
          obtain ⟨u1, u2⟩ := wt_two S q (by omega)
          go_wp2
          go_round
          case rel =>
            refine ⟨q, t ++ S.extract (2 * q) (2 * q + 2), by omega, by go_num, rfl, by rw [cat_size, u1]; omega, ?_⟩
            rw [wt_cat _ _ (by omega), hw, ← u2]; omega
          case measure => simp [intOf]; omega
        | zero =>
          have hw0 : wt true t.data.toList = wt true S.data.toList := by simpa using hw
          have G4' := Lib.hid (G4.out t (by omega) hw0)
          have hB := Below.refl w.heap.size w
          have q1 : ((j : Int) * 2).toNat = j * 2 := by omega
          have q2 : (j : Int) * 2 ≤ S.size := by omega
          have q3 : (0 : Int) ≤ (j : Int) * 2 := by omega
          have q4 : j * 2 ≤ S.size := by omega
          obtain ⟨A1, eA1⟩ : ∃ A1, S.extract (j * 2) S.size = A1 := ⟨_, rfl⟩
          obtain ⟨A2, eA2⟩ : ∃ A2, S.extract 0 (j * 2) = A2 := ⟨_, rfl⟩
          have n1 : A1.size ≤ 1000 := by rw [← eA1]; simp; omega
          have n2 : A2.size ≤ 1000 := by rw [← eA2, cut_size S _ (by omega)]; omega
          have c1 : ¬ 9223372036854775807 < A1.size + A2.size := by omega
          have c2 : ¬ 9223372036854775807 < S.size + ByteArray.size ⟨#[0, 0, 0]⟩ := by show ¬ _ < S.size + 3; omega
          have c3 : ¬ 9223372036854775807 < S.size + 3 := by omega
          have eR := HR.out
          rw [eA1, eA2] at eR
          have eE := HE.out
          go_wp2_with fail
          go_region_held3 (fun w' => Below w.heap.size w w') (first | exact hB | assumption | exact hB.drew | exact bl (by assumption) hq)
            (first
              | (go_at_call 10; refine (fixed_any _).mono ?_; rintro e w' ⟨rfl, hq⟩)
              | (go_at_call 11; ((with_reducible refine (G1.out _).mono ?_); rintro e w' ⟨rfl, hq⟩))
              | (go_at_call 11; ((with_reducible refine (G2.out _).mono ?_); rintro e w' ⟨rfl, hq⟩))
              | (go_at_call 11; ((with_reducible refine (G3.out _).mono ?_); rintro e w' ⟨rfl, hq⟩))
              | (go_at_call 11; ((with_reducible refine (G4'.out _).mono ?_); rintro e w' ⟨rfl, hq⟩)))
          go_wp2
          go_ret
          rename_i hH
          exact ⟨rfl, hH⟩

set_option maxRecDepth 100000 in
theorem sumTurns_lifted (os : Os) (started : os.Started) (H : Type) (enc : TypeId × Value → H) :
    ReturnsInHanded {} Try.checked os 6 .any (Rows.sumTurnsSpec.pre6 enc Try.prog Try.f6 Rows.sumTurnsRow.domain false) (Rows.sumTurnsSpec.post enc Try.prog Try.f6 false true false false) := by
  have e : Try.f6.params.toList = [9, 3] := by rw [Try.params6]
  refine law_of_walk (C := Try.checked) (tb := 4) H enc Try.own started (by kernel_rfl) Try.func6 Try.laidOut rfl rfl Try.underlying4 ?_ ?_
    (ChangeSpec.witness6 (enc := enc) (C := Try.checked) false ⟨#[], #[.string ByteArray.empty, .int .i64 0], []⟩ 8 (by kernel_rfl) (by kernel_rfl) (by kernel_rfl) (by kernel_rfl)) ?_
  · rw [e]
    intro t ht
    simp only [List.mem_cons, List.not_mem_nil, or_false] at ht
    rcases ht with rfl | rfl <;> exact ⟨by kernel_rfl, of_decide_eq_true (by kernel_rfl)⟩
  · intro ds hds
    rw [e] at hds
    match ds, hds with
    | [d0, d1], _ => rfl
  · intro W base args ds p hval0 hA0 hsz0
    have hval : ∀ (j : Nat) t v, Try.f6.params[j]? = some t → args[j]? = some v → Value.okWide Try.prog W .any base t v := hval0
    have hA : DataW.TrodAll enc Try.prog W 0 (fun _ => true) true Try.f6.params.toList args.toList ds p := hA0
    have hsz : (DataW.weightsEach Try.prog Try.f6.params.toList ds).all (· ≤ reachBytes) = true := hsz0
    rw [Try.params6] at hA hval hsz
    obtain ⟨v0, v1, d0, d1, p0, p1, rfl, rfl, rfl, h0, h1⟩ := trodAll_two hA
    obtain ⟨x0, rfl, rfl, rfl, _⟩ := open_string Try.underlying9 (hval 0 9 v0 rfl rfl) h0
    obtain ⟨x1, rfl, rfl, rfl, k1⟩ := open_int Try.underlying3 (hval 1 3 v1 rfl rfl) h1
    have s0 := sized_string hsz (j := 0) (t := 9) rfl rfl
    simp only [reachBytes] at s0
    exact sumTurns_any x0 x1 W s0

theorem sumTurns_holds : Rows.SumTurnsSaid :=
  OpenClaim.holds_of_wide 6 Try.f6 rfl rfl rfl rfl rfl rfl rfl ⟨rfl, rfl, rfl, rfl, rfl⟩ rfl rfl rfl rfl rfl (by kernel_rfl) Try.func6 (by kernel_rfl)
    (of_decide_eq_true (by kernel_rfl)) (by unfold Func.isWrapper; first | (rw [if_pos (by decide +kernel)]; kernel_rfl) | (rw [if_neg (by decide +kernel)]; exact ⟨rfl, rfl⟩))
    (fun os started H enc _ => sumTurns_lifted os started H enc)
end Go.Proofs.Ytohhafkjaicjfaa

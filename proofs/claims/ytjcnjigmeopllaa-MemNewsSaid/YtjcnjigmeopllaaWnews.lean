/-
  For every input the law MemNews returns true, and its arguments read afterwards as before; no condition beyond the form's own reach.
-/
import Derived.Test.YtjcnjigmeopllaaZero
namespace Go.Proofs.Ytjcnjigmeopllaa
open Go.Joins Go.ChangeShapes Go.WideShapes Go.ChangeAt Go.RowKit Go.Deep

set_option maxHeartbeats 1000000 in
/-- the document's own New -/
theorem newr_ok (n : Nat) (w : World) (h1 : 64 ≤ n) (h2 : n ≤ 1048576) :
    Calls Try.prog 10 #[.int .i64 n] w fun e w' => ∃ p, e = .returned (.tuple #[.pointer p, .int .i64 0]) ∧ Below w.heap.size w w' := by
  obtain ⟨i0, hi, hz0, hz1, hz2⟩ := info_parts Try.info5
  have HI := Lib.hid hi
  have HZ0 := Lib.hid hz0
  have HZ1 := Lib.hid hz1
  have HZ2 := Lib.hid hz2
  clear hi hz0 hz1 hz2
  go_enter Try.func10, Try.ntmps10
  go_wp2_with (at_make; refine wpList_make_full _ rfl _ _ 32 rfl w.heap.size 5 i0 (.int .u8 0) 1 Try.underlying32 HI.out HZ0.out HZ1.out .i64 .i64 n n n rfl rfl rfl rfl (by rw [HZ2.out]; omega) (by unfold maxLen; omega) (Nat.le_refl _) ?_; intro w1 hrow hgrow; have hcv := (Row.zero hrow).text n; rw [List.length_replicate] at hcv; have hB : Below w.heap.size w w1 := (Below.refl _ _).grown hgrow (Nat.le_refl _) (by simp); clear hrow hgrow)
  go_ret2
  exact ⟨_, rfl, bla hB _⟩
theorem newr_bad (n : Int) (w : World) (h : n < 64 ∨ 1048576 < n) :
    Calls Try.prog 10 #[.int .i64 n] w fun e w' => e = .returned (.tuple #[.pointer none, .int .i64 40]) ∧ w = w' := by
  rcases h with h | h
  · go_enter Try.func10, Try.ntmps10
    go_wp2
    go_ret2
    exact ⟨rfl, rfl⟩
  · have h' : ¬ n < 64 := by omega
    go_enter Try.func10, Try.ntmps10
    go_wp2
    go_ret2
    exact ⟨rfl, rfl⟩
/-- a region that draws, in the order of the text: every operation yields one value in every world of a class, and leaves one of it -/
theorem region_class {P : Program} {id : Nat} {Q : Exit → Act → World → Prop} {a : Act} {w : World} {l : List Oper} (C : World → Prop) (hm : P.follows .mixedOrders = true) (hB : Region.lexB .any l.toArray = true) (hC : C w.drew)
    (h : wpQuiet P l.toArray C (fun a' => ∀ w', C w' → Q .normal a' w') l a) : (Code.region id l.toArray true).wp P Q a w :=
  wp_region_quiet (C := C) hm hB hC (by simpa using h)
set_option maxHeartbeats 1600000 in
theorem news_bad (n k : Int) (w : World) (h : n < 64 ∨ 1048576 < n) (hk : k < 64 ∨ 1048576 < k) (hmin : (n ≤ 1048577 ∧ k = n) ∨ (1048577 < n ∧ k = 1048577)) :
    Calls Try.prog 3 #[.int .i64 n] w fun e w' => e = .returned (.bool true) ∧ Below w.heap.size w w' := by
  have N1 := Lib.hid (fun w => new_bad n w h)
  have N2 := Lib.hid (fun w => newr_bad k w hk)
  clear h hk
  rcases hmin with ⟨hn, rfl⟩ | ⟨hn, rfl⟩
  all_goals
    go_enter Try.func3, Try.ntmps3
    go_wp2_with (first
      | (go_at_call 9; ((with_reducible refine (N1.out _).mono ?_); rintro e w1 ⟨rfl, rfl⟩))
      | (go_at_call 10; ((with_reducible refine (N2.out _).mono ?_); rintro e w1 ⟨rfl, rfl⟩)))
    refine region_class (Below w.heap.size w) (by kernel_rfl) (by kernel_rfl) (Below.refl _ _).drew ?_
    repeat (first
      | go_big_quiet_skip
      | (go_big_quiet_want; go_big_quiet_op; first
        | go_big_quiet_on
        | (refine ⟨_, fun _ _ => rfl, ?_⟩; go_big_quiet_on)
        | (apply Exists.intro; refine ⟨?_, ?_⟩; · (intro wq hC; go_at_call 11; exact (fixed_any _).mono fun e w' h => ⟨h.1, bl hC h.2⟩)
           go_big_quiet_on)))
    refine wpQuiet_nil ?_
    intro w2 hB
    go_wp2
    go_ret
    exact ⟨rfl, hB⟩
set_option maxHeartbeats 1600000 in
theorem news_great (n : Nat) (w : World) (h1 : 5000 < n) (h2 : n ≤ 1048576) :
    Calls Try.prog 3 #[.int .i64 n] w fun e w' => e = .returned (.bool true) ∧ Below w.heap.size w w' := by
  have N1 := Lib.hid (new_ok n w (by omega) (by omega))
  have N2 := Lib.hid (fun w => newr_ok n w (by omega) (by omega))
  have Z1 := Lib.hid (fun g w1 (h : M w g (List.replicate n 0) 0 [] w1) => by have := one_size h; rw [List.length_replicate] at this; exact this)
  have d1 : decide ((5000 : Int) < (n : Int)) = true := decide_eq_true (by omega)
  go_enter Try.func3, Try.ntmps3
  go_wp2_with (first
    | (go_at_call 9; ((with_reducible refine N1.out.mono ?_); rintro e w1 ⟨g, rfl, hM⟩))
    | (go_at_call 10; ((with_reducible refine (N2.out _).mono ?_); rintro e w2 ⟨p, rfl, hq⟩; replace hM := hM.below hq; clear hq)))
  refine region_class (M w g (List.replicate n 0) 0 []) (by kernel_rfl) (by kernel_rfl) hM.drew ?_
  repeat (first
      | go_big_quiet_skip
      | (go_big_quiet_want; go_big_quiet_op; first
        | go_big_quiet_on
        | (refine ⟨_, fun _ _ => rfl, ?_⟩; go_big_quiet_on)
        | (apply Exists.intro; refine ⟨?_, ?_⟩; · (intro wq hC; first | (go_at_call 11; exact (fixed_any _).mono fun e w' h => ⟨h.1, hC.below h.2⟩) | (go_at_call 12; exact (Z1.out _ _ hC).mono fun e w' h => ⟨h.1, h.2 ▸ hC⟩))
           go_big_quiet_on)))
  refine wpQuiet_nil ?_
  intro w3 hM3
  go_wp2
  go_ret
  exact ⟨rfl, hM3.under⟩
set_option maxHeartbeats 1600000 in
theorem news_small (n : Nat) (w : World) (h1 : 64 ≤ n) (h2 : n ≤ 5000) :
    Calls Try.prog 3 #[.int .i64 n] w fun e w' => e = .returned (.bool true) ∧ Below w.heap.size w w' := by
  obtain ⟨X, hX, eX⟩ : ∃ X, X.length = n ∧ List.replicate n (0 : UInt8) = X := ⟨_, List.length_replicate .., rfl⟩
  have n1 := new_ok n w (by omega) (by omega)
  rw [eX] at n1
  have N1 := Lib.hid n1
  have N2 := Lib.hid (fun w => newr_ok n w (by omega) (by omega))
  have Z1 := Lib.hid (fun g w1 (h : M w g X 0 [] w1) => by have := one_size h; rw [hX] at this; exact this)
  have i1 : ∀ g w1, M w g X 0 [] w1 → Calls Try.prog 13 #[.pointer (some ⟨g, 0, none⟩)] w1 fun e w' => e = .returned (.string (zeroS n)) ∧ w1 = w' := fun g w1 h => by
    have := one_image h
    rw [← eX] at this; exact this
  obtain ⟨Zc, m1, m2⟩ := zero_made n (by omega)
  obtain ⟨m3, m4⟩ := zero_forms m2
  obtain ⟨Z, eZ⟩ : ∃ Z, zeroS n = Z := ⟨_, rfl⟩
  rw [eZ] at m3 i1
  have I1 := Lib.hid i1
  have M1 := Lib.hid m1
  have M3 := Lib.hid m3
  have d1 : decide ((5000 : Int) < (n : Int)) = false := decide_eq_false (by omega)
  clear n1 i1 m1 m2 m3 m4 eX eZ hX
  go_enter Try.func3, Try.ntmps3
  go_wp2_with (first
    | (go_at_call 9; ((with_reducible refine N1.out.mono ?_); rintro e w1 ⟨g, rfl, hM⟩))
    | (go_at_call 10; ((with_reducible refine (N2.out _).mono ?_); rintro e w2 ⟨p, rfl, hq⟩; replace hM := hM.below hq; clear hq)))
  have m1 := M1.out
  have m3 := M3.out
  go_region_held (fun w' => M w g X 0 [] w') (first | assumption | exact hM.drew | exact M.below (by assumption) hq | exact M.below (by assumption) (bla (Below.refl _ _) _))
    (first
      | (go_at_call 11; refine (fixed_any _).mono ?_; rintro e w' ⟨rfl, hq⟩)
      | (go_at_call 12; refine (Z1.out _ _ (by assumption)).mono ?_; rintro e w' ⟨rfl, rfl⟩)
      | (go_at_call 13; refine (I1.out _ _ (by assumption)).mono ?_; rintro e w' ⟨rfl, rfl⟩))
  all_goals
    rename_i hH
    go_wp2
    go_ret
    exact ⟨rfl, hH.under⟩
theorem memNews_any (n : Int) (w : World) :
    Calls Try.prog 3 #[.int .i64 n] w fun e w' => e = .returned (.bool true) ∧ Below w.heap.size w w' := by
  by_cases h1 : 64 ≤ n
  · obtain ⟨k, rfl⟩ := Int.eq_ofNat_of_zero_le (show 0 ≤ n by omega)
    by_cases h2 : k ≤ 5000
    · exact news_small k w (by omega) h2
    · by_cases h3 : k ≤ 1048576
      · exact news_great k w (by omega) h3
      · by_cases h4 : k = 1048577
        · exact news_bad k k w (.inr (by omega)) (.inr (by omega)) (.inl ⟨by omega, rfl⟩)
        · exact news_bad k 1048577 w (.inr (by omega)) (.inr (by omega)) (.inr ⟨by omega, rfl⟩)
  · exact news_bad n n w (.inl (by omega)) (.inl (by omega)) (.inl ⟨by omega, rfl⟩)

set_option maxRecDepth 100000 in
theorem memNews_lifted (os : Os) (started : os.Started) (H : Type) (enc : TypeId × Value → H) :
    ReturnsInHanded {} Try.checked os 3 .any (Rows.memNewsSpec.pre6 enc Try.prog Try.f3 Rows.memNewsRow.domain false) (Rows.memNewsSpec.post enc Try.prog Try.f3 false true false false) := by
  have e : Try.f3.params.toList = [3] := by rw [Try.params3]
  refine law_of_walk (C := Try.checked) (tb := 4) H enc Try.own started (by kernel_rfl) Try.func3 Try.laidOut rfl rfl Try.underlying4 ?_ ?_
    (ChangeSpec.witness6 (enc := enc) (C := Try.checked) false ⟨#[], #[.int .i64 0], []⟩ 8 (by kernel_rfl) (by kernel_rfl) (by kernel_rfl) (by kernel_rfl)) ?_
  · rw [e]
    intro t ht
    simp only [List.mem_cons, List.not_mem_nil, or_false] at ht
    rcases ht with rfl <;> exact ⟨by kernel_rfl, of_decide_eq_true (by kernel_rfl)⟩
  · intro ds hds
    rw [e] at hds
    match ds, hds with
    | [d0], _ => rfl
  · intro W base args ds p hval0 hA0 hsz0
    have hval : ∀ (j : Nat) t v, Try.f3.params[j]? = some t → args[j]? = some v → Value.okWide Try.prog W .any base t v := hval0
    have hA : DataW.TrodAll enc Try.prog W 0 (fun _ => true) true Try.f3.params.toList args.toList ds p := hA0
    have hsz : (DataW.weightsEach Try.prog Try.f3.params.toList ds).all (· ≤ reachBytes) = true := hsz0
    rw [Try.params3] at hA hval hsz
    obtain ⟨v0, d0, rfl, rfl, h0⟩ := trodAll_one hA
    obtain ⟨x0, rfl, rfl, rfl, k0⟩ := open_int Try.underlying3 (hval 0 3 v0 rfl rfl) h0
    clear hsz hsz0
    exact memNews_any x0 W

theorem memNews_holds : Rows.MemNewsSaid :=
  OpenClaim.holds_of_wide 3 Try.f3 rfl rfl rfl rfl rfl rfl rfl ⟨rfl, rfl, rfl, rfl, rfl⟩ rfl rfl rfl rfl rfl (by kernel_rfl) Try.func3 (by kernel_rfl)
    (of_decide_eq_true (by kernel_rfl)) (by unfold Func.isWrapper; first | (rw [if_pos (by decide +kernel)]; kernel_rfl) | (rw [if_neg (by decide +kernel)]; exact ⟨rfl, rfl⟩))
    (fun os started H enc _ => memNews_lifted os started H enc)
end Go.Proofs.Ytjcnjigmeopllaa

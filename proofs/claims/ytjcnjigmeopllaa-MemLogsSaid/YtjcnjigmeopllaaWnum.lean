/-
  For every input the law MemNumbers returns true, and its arguments read afterwards as before; no condition beyond the form's own reach.
-/
import Derived.Test.YtjcnjigmeopllaaZero
namespace Go.Proofs.Ytjcnjigmeopllaa
open Go.Joins Go.ChangeShapes Go.WideShapes Go.ChangeAt Go.RowKit Go.Deep

set_option maxHeartbeats 1600000 in
/-- where the store is refused -/
theorem numbers_no (a n v : Int) (w : World) (E : Int) (hE2 : (E != 0) = true)
    (hs : ∀ g w1, M w g (List.replicate 200 0) 0 [] w1 → Calls Try.prog 18 #[.pointer (some ⟨g, 0, none⟩), .int .i64 a, .int .i64 n, .int .u64 v] w1 fun e w' => e = .returned (.int .i64 E) ∧ M w g (List.replicate 200 0) 0 [] w') :
    Calls Try.prog 5 #[.int .i64 a, .int .i64 n, .int .u64 v] w fun e w' => e = .returned (.bool true) ∧ Below w.heap.size w w' := by
  have n1 : ∀ w, Calls Try.prog 9 #[.int .i64 200] w fun e w' => ∃ g, e = .returned (.tuple #[.pointer (some ⟨g, 0, none⟩), .int .i64 0]) ∧ M w g (List.replicate 200 0) 0 [] w' := fun w => new_ok 200 w (by omega) (by omega)
  have i1 : ∀ g w1 W, M w g (List.replicate 200 0) 0 [] w1 → Below w1.heap.size w1 W → Calls Try.prog 13 #[.pointer (some ⟨g, 0, none⟩)] W fun e w' => e = .returned (.string (zeroS 200)) ∧ W = w' := fun g w1 W h hb => one_image (h.below hb)
  obtain ⟨X, eX⟩ : ∃ X, List.replicate 200 (0 : UInt8) = X := ⟨_, rfl⟩
  obtain ⟨Zc, m1, m2⟩ := zero_made 200 (by omega)
  obtain ⟨m3, m4⟩ := zero_forms m2
  obtain ⟨Z, eZ⟩ : ∃ Z, zeroS 200 = Z := ⟨_, rfl⟩
  rw [eX] at hs n1 i1
  rw [eZ] at m3 m4 i1
  have N1 := Lib.hid n1
  have S1 := Lib.hid hs
  have I1 := Lib.hid i1
  have m1' : ∀ W : World, (Instr.makeSlice 32 (.int .i64 200) (.int .i64 200)).run Try.prog W = .ok (.slice (some ⟨W.heap.size, 0, none⟩) 200 200) (W.alloc (.cells Zc 5)) := m1
  have M1 := Lib.hid m1'
  have M3 := Lib.hid m3
  have M4 := Lib.hid m4
  clear n1 hs i1 m1 m1' m2 m3 m4 eX eZ
  go_enter Try.func5, Try.ntmps5
  go_wp2_with (first
    | (go_at_call 9; ((with_reducible refine (N1.out _).mono ?_); rintro e w1 ⟨g, rfl, hM⟩))
    | (go_at_call 18; ((with_reducible refine (S1.out _ _ hM).mono ?_); rintro e w2 ⟨rfl, hM1⟩; clear hM)))
  have m1 := M1.out
  have m3 := M3.out
  have m4 := M4.out
  go_region_with (first
    | (go_at_call 13; ((first | refine (I1.out _ _ _ hM1 (Below.refl _ _).drew).mono ?_ | refine (I1.out _ _ _ hM1 (bla (Below.refl _ _) _).drew).mono ?_); rintro e w' ⟨rfl, rfl⟩))
    | (go_at_call 11; refine (fixed_any _).mono ?_; rintro e w9 ⟨rfl, hq⟩))
  all_goals
    have hB := bl (bla hM1.under _).drew hq
    clear m1 m3 m4 hq
    go_wp2
    go_ret
    exact ⟨rfl, hB⟩

theorem note_length (lg : List Acc) (x : Acc) : (note lg x).length ≤ lg.length + 1 := by
  unfold note; split <;> simp
theorem u64_low (v : Nat) (hv : v < 18446744073709551616) : bits .and .u64 (v : Int) 255 = ((v % 256 : Nat) : Int) := by
  have h : bits .and .u64 (v : Int) 255 = IntKind.u64.wrap (((BitVec.ofInt 64 (v : Int)).toNat % 2 ^ 8 : Nat) : Int) := by
    show IntKind.u64.wrap (((BitVec.ofInt 64 (v : Int) &&& BitVec.ofInt 64 255).toNat : Nat) : Int) = _
    rw [BitVec.toNat_and, show (BitVec.ofInt 64 255).toNat = 2 ^ 8 - 1 by decide, Nat.and_two_pow_sub_one_eq_mod]
  have hn : (BitVec.ofInt 64 (v : Int)).toNat = v := by
    rw [BitVec.toNat_ofInt]
    omega
  rw [h, hn]
  exact IntWalk.u64_in _ (by omega)
theorem over_drop (xs : List UInt8) (a : Nat) (s : ByteArray) (h : a + s.size ≤ xs.length) : (over xs a s).drop a = s.data.toList ++ xs.drop (a + s.size) := by
  have hl : (xs.take a).length = a := by simp; omega
  unfold over
  rw [List.append_assoc, List.drop_append, hl, Nat.sub_self, List.drop_zero, List.drop_eq_nil_of_le (by omega), List.nil_append]
theorem over_read (xs : List UInt8) (a : Nat) (s : ByteArray) (h : a + s.size ≤ xs.length) : ((over xs a s).drop a).take s.size = s.data.toList := by
  rw [over_drop xs a s h]
  exact List.take_left
theorem num_read (xs : List UInt8) (a n v : Nat) (hv : v < 256 ^ n) (h : a + n ≤ xs.length) : val (((over xs a (numS v n)).drop a).take n) = v := by
  have hz := numS_size v n
  have := over_read xs a (numS v n) (by omega)
  rw [hz] at this
  rw [this]
  show val (digs v n) = v
  rw [val_digs, Nat.mod_eq_of_lt hv]
theorem num_low (xs : List UInt8) (a n v : Nat) (h1 : 1 ≤ n) (h : a + n ≤ xs.length) : val (((over xs a (numS v n)).drop a).take 1) = v % 256 := by
  have hz := numS_size v n
  rw [over_drop xs a (numS v n) (by omega)]
  obtain ⟨m, rfl⟩ : ∃ m, n = m + 1 := ⟨n - 1, by omega⟩
  show val (((UInt8.ofNat v :: digs (v / 256) m) ++ xs.drop (a + (numS v (m + 1)).size)).take 1) = _
  simp [val]
set_option maxHeartbeats 1600000 in
theorem numbers_ok (a n v : Nat) (w : World) (hw : Word n) (hv : v < 256 ^ n) (hv2 : v < 18446744073709551616) (hn : a + n ≤ 200) :
    Calls Try.prog 5 #[.int .i64 a, .int .i64 n, .int .u64 v] w fun e w' => e = .returned (.bool true) ∧ Below w.heap.size w w' := by
  have n1 : ∀ w, Calls Try.prog 9 #[.int .i64 200] w fun e w' => ∃ g, e = .returned (.tuple #[.pointer (some ⟨g, 0, none⟩), .int .i64 0]) ∧ M w g (List.replicate 200 0) 0 [] w' := fun w => new_ok 200 w (by omega) (by omega)
  obtain ⟨X, hX, eX⟩ : ∃ X, X.length = 200 ∧ List.replicate 200 (0 : UInt8) = X := ⟨_, List.length_replicate .., rfl⟩
  rw [eX] at n1
  obtain ⟨Y, hY, eY⟩ : ∃ Y, Y.length = 200 ∧ over X a (numS v n) = Y := ⟨_, by rw [over_length _ _ _ (by rw [numS_size]; omega)]; exact hX, rfl⟩
  have hr := num_read X a n v hv (by omega)
  have hr1 := num_low X a n v hw.le.1 (by omega)
  rw [eY] at hr hr1
  have s1 : ∀ g w1, M w g X 0 [] w1 → Calls Try.prog 18 #[.pointer (some ⟨g, 0, none⟩), .int .i64 a, .int .i64 n, .int .u64 v] w1 fun e w' => e = .returned (.int .i64 0) ∧ ∃ L : List Acc, L.length ≤ 1 ∧ M w g Y 0 L w' := fun g w1 h => by
    refine (one_store h a n v (by simp) hw hv (by omega)).mono fun e w' ⟨he, hM⟩ => ⟨he, _, ?_, eY ▸ hM⟩
    exact note_length [] _
  have l1 : ∀ g w1 (L : List Acc), L.length ≤ 1 → M w g Y 0 L w1 → Calls Try.prog 19 #[.pointer (some ⟨g, 0, none⟩), .int .i64 a, .int .i64 n] w1 fun e w' => e = .returned (.tuple #[.int .u64 v, .int .i64 0]) ∧ ∃ L : List Acc, L.length ≤ 2 ∧ M w g Y 0 L w' := fun g w1 L hL h => by
    have := one_load h a n (by omega) hw (by omega)
    rw [hr] at this
    refine this.mono fun e w' ⟨he, hM⟩ => ⟨he, _, ?_, hM⟩
    exact Nat.le_trans (note_length L _) (by omega)
  have l2 : ∀ g w1 (L : List Acc), L.length ≤ 2 → M w g Y 0 L w1 → Calls Try.prog 19 #[.pointer (some ⟨g, 0, none⟩), .int .i64 a, .int .i64 1] w1 fun e w' => e = .returned (.tuple #[.int .u64 ((v % 256 : Nat) : Int), .int .i64 0]) ∧ ∃ L : List Acc, M w g Y 0 L w' := fun g w1 L hL h => by
    have := one_load h a 1 (by omega) (.inl rfl) (by have := hw.le; omega)
    rw [hr1] at this
    exact this.mono fun e w' ⟨he, hM⟩ => ⟨he, _, hM⟩
  obtain ⟨V, eV⟩ : ∃ V : Nat, v % 256 = V := ⟨_, rfl⟩
  have hand := u64_low v hv2
  rw [eV] at hand l2
  have N1 := Lib.hid n1
  have S1 := Lib.hid s1
  have L1 := Lib.hid l1
  have L2 := Lib.hid l2
  clear n1 s1 l1 l2 eX eY hX hY hr hr1 eV hw hv
  go_enter Try.func5, Try.ntmps5
  go_wp2_with (first
    | (go_at_call 9; ((with_reducible refine (N1.out _).mono ?_); rintro e w1 ⟨g, rfl, hM⟩))
    | (go_at_call 18; ((with_reducible refine (S1.out _ _ hM).mono ?_); rintro e w2 ⟨rfl, La, hLa, hM1⟩; clear hM))
    | (go_at_call 19; ((with_reducible refine (L1.out _ _ _ hLa hM1).mono ?_); rintro e w3 ⟨rfl, Lb, hLb, hM2⟩; clear hM1 hLa))
    | (go_at_call 19; ((with_reducible refine (L2.out _ _ _ hLb hM2).mono ?_); rintro e w4 ⟨rfl, Lc, hM3⟩; have hB := hM3.under; clear hM2 hLb hM3))
    | (go_at_call 11; refine (fixed_any _).mono ?_; rintro e w9 ⟨rfl, hq⟩; replace hB := bl hB hq; clear hq))
  go_ret
  exact ⟨rfl, hB⟩
theorem memNumbers_any (a n v : Int) (w : World) (h0 : 0 ≤ v) (hv : v < 18446744073709551616) :
    Calls Try.prog 5 #[.int .i64 a, .int .i64 n, .int .u64 v] w fun e w' => e = .returned (.bool true) ∧ Below w.heap.size w w' := by
  by_cases hw : n = 1 ∨ n = 2 ∨ n = 4 ∨ n = 8
  · obtain ⟨k, rfl⟩ := Int.eq_ofNat_of_zero_le (show 0 ≤ n by omega)
    obtain ⟨u, rfl⟩ := Int.eq_ofNat_of_zero_le h0
    have hk : Word k := by unfold Word; omega
    have hp := pow_cast k
    by_cases h1 : u < 256 ^ k
    · by_cases h2 : 0 ≤ a ∧ a + k ≤ 200
      · obtain ⟨b, rfl⟩ := Int.eq_ofNat_of_zero_le h2.1
        exact numbers_ok b k u w hk h1 (by omega) (by omega)
      · exact numbers_no a k u w 41 rfl (fun g w1 h => one_store_at h a k u hk h1 (by rw [List.length_replicate]; omega))
    · exact numbers_no a k u w 1 rfl (fun g w1 h => (store_great a k u w1 hk (by omega) (by omega)).mono fun e w' ⟨he, hw'⟩ => ⟨he, hw' ▸ h⟩)
  · exact numbers_no a n v w 1 rfl (fun g w1 h => (store_word a n v w1 hw).mono fun e w' ⟨he, hw'⟩ => ⟨he, hw' ▸ h⟩)

set_option maxRecDepth 100000 in
theorem memNumbers_lifted (os : Os) (started : os.Started) (H : Type) (enc : TypeId × Value → H) :
    ReturnsInHanded {} Try.checked os 5 .any (Rows.memNumbersSpec.pre6 enc Try.prog Try.f5 Rows.memNumbersRow.domain false) (Rows.memNumbersSpec.post enc Try.prog Try.f5 false true false false) := by
  have e : Try.f5.params.toList = [3, 3, 34] := by rw [Try.params5]
  refine law_of_walk (C := Try.checked) (tb := 4) H enc Try.own started (by kernel_rfl) Try.func5 Try.laidOut rfl rfl Try.underlying4 ?_ ?_
    (ChangeSpec.witness6 (enc := enc) (C := Try.checked) false ⟨#[], #[.int .i64 0, .int .i64 0, .int .u64 0], []⟩ 8 (by kernel_rfl) (by kernel_rfl) (by kernel_rfl) (by kernel_rfl)) ?_
  · rw [e]
    intro t ht
    simp only [List.mem_cons, List.not_mem_nil, or_false] at ht
    rcases ht with rfl | rfl | rfl <;> exact ⟨by kernel_rfl, of_decide_eq_true (by kernel_rfl)⟩
  · intro ds hds
    rw [e] at hds
    match ds, hds with
    | [d0, d1, d2], _ => rfl
  · intro W base args ds p hval0 hA0 hsz0
    have hval : ∀ (j : Nat) t v, Try.f5.params[j]? = some t → args[j]? = some v → Value.okWide Try.prog W .any base t v := hval0
    have hA : DataW.TrodAll enc Try.prog W 0 (fun _ => true) true Try.f5.params.toList args.toList ds p := hA0
    have hsz : (DataW.weightsEach Try.prog Try.f5.params.toList ds).all (· ≤ reachBytes) = true := hsz0
    rw [Try.params5] at hA hval hsz
    obtain ⟨v0, v1, v2, d0, d1, d2, p0, p1, p2, rfl, rfl, rfl, h0, h1, h2⟩ := trodAll_three hA
    obtain ⟨x0, rfl, rfl, rfl, k0⟩ := open_int Try.underlying3 (hval 0 3 v0 rfl rfl) h0
    obtain ⟨x1, rfl, rfl, rfl, k1⟩ := open_int Try.underlying3 (hval 1 3 v1 rfl rfl) h1
    obtain ⟨x2, rfl, rfl, rfl, k2⟩ := open_int Try.underlying34 (hval 2 34 v2 rfl rfl) h2
    have b2 := bounds_u64 k2
    exact memNumbers_any x0 x1 x2 W (by omega) (by omega)

theorem memNumbers_holds : Rows.MemNumbersSaid :=
  OpenClaim.holds_of_wide 5 Try.f5 rfl rfl rfl rfl rfl rfl rfl ⟨rfl, rfl, rfl, rfl, rfl⟩ rfl rfl rfl rfl rfl (by kernel_rfl) Try.func5 (by kernel_rfl)
    (of_decide_eq_true (by kernel_rfl)) (by unfold Func.isWrapper; first | (rw [if_pos (by decide +kernel)]; kernel_rfl) | (rw [if_neg (by decide +kernel)]; exact ⟨rfl, rfl⟩))
    (fun os started H enc _ => memNumbers_lifted os started H enc)
end Go.Proofs.Ytjcnjigmeopllaa

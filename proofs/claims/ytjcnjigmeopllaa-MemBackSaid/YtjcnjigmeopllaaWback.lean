/-
  For every input the law MemBack returns true, and its arguments read afterwards as before; no condition beyond the form's own reach.
-/
import Derived.Test.YtjcnjigmeopllaaBack
import Derived.Test.YtjcnjigmeopllaaFrame
namespace Go.Proofs.Ytjcnjigmeopllaa
open Go.Joins Go.ChangeShapes Go.WideShapes Go.ChangeAt Go.RowKit Go.Deep
open Go.ChangeMaps (open_string)

set_option maxRecDepth 100000 in
set_option maxHeartbeats 2000000 in
theorem back_no_a (image s : ByteArray) (k at_ n v : Int) (w : World) (hi : image.size ≤ 140737488351232) (hsz : s.size ≤ 140737488351232) (hs : image.size ≤ 64) (hno : ¬ (0 ≤ at_ ∧ at_ + s.size ≤ 64)) :
    Calls Try.prog 4 #[.string image, .agg #[.int .i64 k, .int .i64 at_, .int .i64 n, .int .u64 v, .string s]] w fun e w' => e = .returned (.bool true) ∧ Below w.heap.size w w' := by
  obtain ⟨X0, X, hX, N1, V1, O1, I1⟩ := back_calls (w.alloc (.cells #[.int .i64 k, .int .i64 at_, .int .i64 n, .int .u64 v, .string s] 36)) 64 image (by omega) (by omega) (by omega)
  have hz : (txt X).size = 64 := by rw [txt_size]; exact hX
  have n1 : Calls Try.prog 9 #[.int .i64 64] (w.alloc (.cells #[.int .i64 k, .int .i64 at_, .int .i64 n, .int .u64 v, .string s] 36)) fun e w' => ∃ g, e = .returned (.tuple #[.pointer (some ⟨g, 0, none⟩), .int .i64 0]) ∧ M (w.alloc (.cells #[.int .i64 k, .int .i64 at_, .int .i64 n, .int .u64 v, .string s] 36)) g X0 0 [] w' := N1.out
  replace N1 := Lib.hid n1
  clear n1
  have V2 : Hid (∀ g w1, M (w.alloc (.cells #[.int .i64 k, .int .i64 at_, .int .i64 n, .int .u64 v, .string s] 36)) g X 0 [] w1 → Calls Try.prog 14 #[.pointer (some ⟨g, 0, none⟩), .int .i64 at_, .string s] w1 fun e w' => e = .returned (.int .i64 41) ∧ w1 = w') :=
    fun g w1 h => one_write_at h at_ s (by unfold maxLen; omega) (by rw [hX]; omega)
  obtain ⟨WAS, eW⟩ : ∃ WAS, txt X = WAS := ⟨_, rfl⟩
  have i1 := fun g w1 L (h : M (w.alloc (.cells #[.int .i64 k, .int .i64 at_, .int .i64 n, .int .u64 v, .string s] 36)) g X 0 L w1) => I1.out g w1 L X h
  rw [eW] at hz i1
  have J1 := Lib.hid i1
  have HX := Lib.hid hX
  clear i1 eW hno hX
  go_enter Try.func4, Try.ntmps4
  go_wp2_with (first
    | (go_at_call 9; ((with_reducible refine N1.out.mono ?_); rintro e w1 ⟨g, rfl, hM⟩))
    | (go_at_call 14; ((with_reducible refine (V1.out _ _ hM).mono ?_); rintro e w2 ⟨rfl, La, hLa, hM1⟩; clear hM))
    | (go_at_call 15; ((with_reducible refine (O1.out _ _ _ (Nat.le_succ_of_le hLa) _ hM1).mono ?_); rintro e w3 ⟨A, cap, rfl, _, hM2, _⟩; clear hM1 hLa; obtain ⟨c1, c4⟩ := box_cells hM2.under))
    | (go_at_call 13; ((with_reducible refine (J1.out _ _ _ hM2).mono ?_); rintro e w4 ⟨rfl, rfl⟩))
    | (go_at_call 14; ((with_reducible refine (V2.out _ _ hM2).mono ?_); rintro e w4 ⟨rfl, rfl⟩))
    | (go_at_call 15; ((with_reducible refine (O1.out _ _ _ (by simp) _ hM2).mono ?_); rintro e w5 ⟨A2, cap2, rfl, _, hM3, _⟩; have hB := box_under hM3.under; clear hM2 hM3 c1 c4))
    | (go_at_call 11; refine (fixed_any _).mono ?_; rintro e w9 ⟨rfl, hq⟩; replace hB := bl hB hq; clear hq))
  go_ret
  exact ⟨rfl, hB⟩
set_option maxRecDepth 100000 in
set_option maxHeartbeats 2000000 in
theorem back_no_b (image s : ByteArray) (k at_ n v : Int) (w : World) (hi : image.size ≤ 140737488351232) (hsz : s.size ≤ 140737488351232) (hs0 : 64 < image.size) (hs : image.size ≤ 2000) (hno : ¬ (0 ≤ at_ ∧ at_ + s.size ≤ image.size)) :
    Calls Try.prog 4 #[.string image, .agg #[.int .i64 k, .int .i64 at_, .int .i64 n, .int .u64 v, .string s]] w fun e w' => e = .returned (.bool true) ∧ Below w.heap.size w w' := by
  obtain ⟨X0, X, hX, N1, V1, O1, I1⟩ := back_calls (w.alloc (.cells #[.int .i64 k, .int .i64 at_, .int .i64 n, .int .u64 v, .string s] 36)) image.size image (by omega) (by omega) (by omega)
  have hz : (txt X).size = image.size := by rw [txt_size]; exact hX
  have n1 : Calls Try.prog 9 #[.int .i64 image.size] (w.alloc (.cells #[.int .i64 k, .int .i64 at_, .int .i64 n, .int .u64 v, .string s] 36)) fun e w' => ∃ g, e = .returned (.tuple #[.pointer (some ⟨g, 0, none⟩), .int .i64 0]) ∧ M (w.alloc (.cells #[.int .i64 k, .int .i64 at_, .int .i64 n, .int .u64 v, .string s] 36)) g X0 0 [] w' := N1.out
  replace N1 := Lib.hid n1
  clear n1
  have V2 : Hid (∀ g w1, M (w.alloc (.cells #[.int .i64 k, .int .i64 at_, .int .i64 n, .int .u64 v, .string s] 36)) g X 0 [] w1 → Calls Try.prog 14 #[.pointer (some ⟨g, 0, none⟩), .int .i64 at_, .string s] w1 fun e w' => e = .returned (.int .i64 41) ∧ w1 = w') :=
    fun g w1 h => one_write_at h at_ s (by unfold maxLen; omega) (by rw [hX]; omega)
  obtain ⟨WAS, eW⟩ : ∃ WAS, txt X = WAS := ⟨_, rfl⟩
  have i1 := fun g w1 L (h : M (w.alloc (.cells #[.int .i64 k, .int .i64 at_, .int .i64 n, .int .u64 v, .string s] 36)) g X 0 L w1) => I1.out g w1 L X h
  rw [eW] at hz i1
  have J1 := Lib.hid i1
  have HX := Lib.hid hX
  clear i1 eW hno hX
  go_enter Try.func4, Try.ntmps4
  go_wp2_with (first
    | (go_at_call 9; ((with_reducible refine N1.out.mono ?_); rintro e w1 ⟨g, rfl, hM⟩))
    | (go_at_call 14; ((with_reducible refine (V1.out _ _ hM).mono ?_); rintro e w2 ⟨rfl, La, hLa, hM1⟩; clear hM))
    | (go_at_call 15; ((with_reducible refine (O1.out _ _ _ (Nat.le_succ_of_le hLa) _ hM1).mono ?_); rintro e w3 ⟨A, cap, rfl, _, hM2, _⟩; clear hM1 hLa; obtain ⟨c1, c4⟩ := box_cells hM2.under))
    | (go_at_call 13; ((with_reducible refine (J1.out _ _ _ hM2).mono ?_); rintro e w4 ⟨rfl, rfl⟩))
    | (go_at_call 14; ((with_reducible refine (V2.out _ _ hM2).mono ?_); rintro e w4 ⟨rfl, rfl⟩))
    | (go_at_call 15; ((with_reducible refine (O1.out _ _ _ (by simp) _ hM2).mono ?_); rintro e w5 ⟨A2, cap2, rfl, _, hM3, _⟩; have hB := box_under hM3.under; clear hM2 hM3 c1 c4))
    | (go_at_call 11; refine (fixed_any _).mono ?_; rintro e w9 ⟨rfl, hq⟩; replace hB := bl hB hq; clear hq))
  go_ret
  exact ⟨rfl, hB⟩
set_option maxRecDepth 100000 in
set_option maxHeartbeats 2000000 in
theorem back_no_c (image s : ByteArray) (k at_ n v : Int) (w : World) (hi : image.size ≤ 140737488351232) (hsz : s.size ≤ 140737488351232) (hs : 2000 < image.size) (hno : ¬ (0 ≤ at_ ∧ at_ + s.size ≤ 2000)) :
    Calls Try.prog 4 #[.string image, .agg #[.int .i64 k, .int .i64 at_, .int .i64 n, .int .u64 v, .string s]] w fun e w' => e = .returned (.bool true) ∧ Below w.heap.size w w' := by
  obtain ⟨I, hI, eI⟩ : ∃ I : ByteArray, I.size = 2000 ∧ image.extract 0 2000 = I := ⟨_, by simp; omega, rfl⟩
  obtain ⟨X0, X, hX, N1, V1, O1, I1⟩ := back_calls (w.alloc (.cells #[.int .i64 k, .int .i64 at_, .int .i64 n, .int .u64 v, .string s] 36)) 2000 I (by omega) (by omega) (by omega)
  have hz : (txt X).size = 2000 := by rw [txt_size]; exact hX
  have n1 : Calls Try.prog 9 #[.int .i64 2000] (w.alloc (.cells #[.int .i64 k, .int .i64 at_, .int .i64 n, .int .u64 v, .string s] 36)) fun e w' => ∃ g, e = .returned (.tuple #[.pointer (some ⟨g, 0, none⟩), .int .i64 0]) ∧ M (w.alloc (.cells #[.int .i64 k, .int .i64 at_, .int .i64 n, .int .u64 v, .string s] 36)) g X0 0 [] w' := N1.out
  replace N1 := Lib.hid n1
  clear n1
  have V2 : Hid (∀ g w1, M (w.alloc (.cells #[.int .i64 k, .int .i64 at_, .int .i64 n, .int .u64 v, .string s] 36)) g X 0 [] w1 → Calls Try.prog 14 #[.pointer (some ⟨g, 0, none⟩), .int .i64 at_, .string s] w1 fun e w' => e = .returned (.int .i64 41) ∧ w1 = w') :=
    fun g w1 h => one_write_at h at_ s (by unfold maxLen; omega) (by rw [hX]; omega)
  obtain ⟨WAS, eW⟩ : ∃ WAS, txt X = WAS := ⟨_, rfl⟩
  have i1 := fun g w1 L (h : M (w.alloc (.cells #[.int .i64 k, .int .i64 at_, .int .i64 n, .int .u64 v, .string s] 36)) g X 0 L w1) => I1.out g w1 L X h
  rw [eW] at hz i1
  have J1 := Lib.hid i1
  have HX := Lib.hid hX
  clear i1 eW hno hX
  go_enter Try.func4, Try.ntmps4
  go_wp2_with (first
    | (go_at_call 9; ((with_reducible refine N1.out.mono ?_); rintro e w1 ⟨g, rfl, hM⟩))
    | (go_at_call 14; ((with_reducible refine (V1.out _ _ hM).mono ?_); rintro e w2 ⟨rfl, La, hLa, hM1⟩; clear hM))
    | (go_at_call 15; ((with_reducible refine (O1.out _ _ _ (Nat.le_succ_of_le hLa) _ hM1).mono ?_); rintro e w3 ⟨A, cap, rfl, _, hM2, _⟩; clear hM1 hLa; obtain ⟨c1, c4⟩ := box_cells hM2.under))
    | (go_at_call 13; ((with_reducible refine (J1.out _ _ _ hM2).mono ?_); rintro e w4 ⟨rfl, rfl⟩))
    | (go_at_call 14; ((with_reducible refine (V2.out _ _ hM2).mono ?_); rintro e w4 ⟨rfl, rfl⟩))
    | (go_at_call 15; ((with_reducible refine (O1.out _ _ _ (by simp) _ hM2).mono ?_); rintro e w5 ⟨A2, cap2, rfl, _, hM3, _⟩; have hB := box_under hM3.under; clear hM2 hM3 c1 c4))
    | (go_at_call 11; refine (fixed_any _).mono ?_; rintro e w9 ⟨rfl, hq⟩; replace hB := bl hB hq; clear hq))
  go_ret
  exact ⟨rfl, hB⟩
set_option maxRecDepth 100000 in
set_option maxHeartbeats 4000000 in
theorem back_yes_ae (image s : ByteArray) (k : Int) (a : Nat) (n v : Int) (w : World) (hi : image.size ≤ 140737488351232) (hs : image.size ≤ 64) (ha : a + s.size ≤ 64) (he : s.size = 0) :
    Calls Try.prog 4 #[.string image, .agg #[.int .i64 k, .int .i64 (a : Int), .int .i64 n, .int .u64 v, .string s]] w fun e w' => e = .returned (.bool true) ∧ Below w.heap.size w w' := by
  obtain ⟨X0, X, hX, N1, V1, O1, I1⟩ := back_calls (w.alloc (.cells #[.int .i64 k, .int .i64 (a : Int), .int .i64 n, .int .u64 v, .string s] 36)) 64 image (by omega) (by omega) (by omega)
  have hz : (txt X).size = 64 := by rw [txt_size]; exact hX
  have n1 : Calls Try.prog 9 #[.int .i64 64] (w.alloc (.cells #[.int .i64 k, .int .i64 (a : Int), .int .i64 n, .int .u64 v, .string s] 36)) fun e w' => ∃ g, e = .returned (.tuple #[.pointer (some ⟨g, 0, none⟩), .int .i64 0]) ∧ M (w.alloc (.cells #[.int .i64 k, .int .i64 (a : Int), .int .i64 n, .int .u64 v, .string s] 36)) g X0 0 [] w' := N1.out
  replace N1 := Lib.hid n1
  clear n1
  obtain ⟨Y, L1, hYz, e1, e2, e3, V3, R1⟩ := written_calls (w.alloc (.cells #[.int .i64 k, .int .i64 (a : Int), .int .i64 n, .int .u64 v, .string s] 36)) 64 X a s hX ha [] (.inl ⟨he, rfl⟩)
  obtain ⟨WAS, eW⟩ : ∃ WAS, txt X = WAS := ⟨_, rfl⟩
  obtain ⟨NOW, eN⟩ : ∃ NOW, txt Y = NOW := ⟨_, rfl⟩
  have i1 := fun g w1 L (h : M (w.alloc (.cells #[.int .i64 k, .int .i64 (a : Int), .int .i64 n, .int .u64 v, .string s] 36)) g X 0 L w1) => I1.out g w1 L X h
  have i2 := fun g w1 L (h : M (w.alloc (.cells #[.int .i64 k, .int .i64 (a : Int), .int .i64 n, .int .u64 v, .string s] 36)) g Y 0 L w1) => I1.out g w1 L Y h
  rw [eW] at hz i1
  rw [eN] at i2 hYz
  rw [eW, eN] at e1 e2
  rw [eN] at e3
  obtain ⟨P, eP⟩ : ∃ P, WAS.extract 0 a = P := ⟨_, rfl⟩
  obtain ⟨R, eR⟩ : ∃ R, WAS.extract (a + s.size) 64 = R := ⟨_, rfl⟩
  rw [eP] at e1
  rw [eR] at e2
  have J1 := Lib.hid i1
  have J2 := Lib.hid i2
  have O3 := Lib.hid (fun g w1 (h : M (w.alloc (.cells #[.int .i64 k, .int .i64 (a : Int), .int .i64 n, .int .u64 v, .string s] 36)) g Y 0 [] w1) => O1.out g w1 [] (by simp) Y h)
  have E1 := Lib.hid e1
  have E2 := Lib.hid e2
  have E3 := Lib.hid e3
  have EP := Lib.hid eP
  have ER := Lib.hid eR
  have HY := Lib.hid hYz
  have he1 : ((s.size : Int) == 0) = true := by simp [he]
  have HE := Lib.hid he
  clear i1 i2 eW eN hX e1 e2 e3 eP eR hYz he
  go_enter Try.func4, Try.ntmps4
  go_wp2_with (first
    | (go_at_call 9; ((with_reducible refine N1.out.mono ?_); rintro e w1 ⟨g, rfl, hM⟩))
    | (go_at_call 14; ((with_reducible refine (V1.out _ _ hM).mono ?_); rintro e w2 ⟨rfl, La, hLa, hM1⟩; clear hM))
    | (go_at_call 15; ((with_reducible refine (O1.out _ _ _ (Nat.le_succ_of_le hLa) _ hM1).mono ?_); rintro e w3 ⟨A, cap, rfl, _, hM2, _⟩; clear hM1 hLa; obtain ⟨c1, c4⟩ := box_cells hM2.under))
    | (go_at_call 13; ((with_reducible refine (J1.out _ _ _ hM2).mono ?_); rintro e w4 ⟨rfl, rfl⟩))
    | (go_at_call 14; ((with_reducible refine (V3.out _ _ hM2).mono ?_); rintro e w4 ⟨rfl, hM3⟩; clear c1 c4 hM2; obtain ⟨c1, c4⟩ := box_cells hM3.under))
    | (go_at_call 13; ((with_reducible refine (J2.out _ _ _ hM3).mono ?_); rintro e w5 ⟨rfl, rfl⟩)))
  have q1 : a ≤ 64 := by omega
  have q2 : (0 : Int) ≤ (a : Int) + s.size := by omega
  have q3 : (a : Int) + s.size ≤ (64 : Int) := by omega
  have q4 : ¬ ((64 : Int) - s.size < a) := by omega
  have q5 : decide ((64 : Int) - s.size < a) = false := decide_eq_false q4
  have q6 : decide ((a : Int) < 0) = false := decide_eq_false (by omega)
  have q7 : IntKind.i64.wrap ((a : Int) + s.size) = (a : Int) + s.size := IntWalk.i64_in _ (by omega)
  have q8 : IntKind.i64.wrap ((64 : Int) - s.size) = (64 : Int) - s.size := IntWalk.i64_in _ (by omega)
  have q9 : ((a : Int) + s.size).toNat = a + s.size := by omega
  have q0 : (a : Int) ≤ (64 : Int) := by omega
  have hYz := HY.out
  have e1 := E1.out
  have e2 := E2.out
  have e3 := E3.out
  have eP := EP.out
  have eR := ER.out
  go_quiet (fail)
  clear q2 q3 q4 q5 q6 q7 q8 q9 q0 hYz e1 e2 e3 eP eR c1 c4
  replace hM3 := hM3.below (below_drewN (Below.refl _ _) nq)
  obtain ⟨c1, c4⟩ := box_cells hM3.under
  go_wp2_with (first
    | (go_at_call 16; ((with_reducible refine (R1.out _ _ hM3).mono ?_); rintro e w5 ⟨rfl, hM4⟩; clear hM3 c1 c4; obtain ⟨c1, c4⟩ := box_cells hM4.under))
    | (go_at_call 15; ((with_reducible refine (O3.out _ _ hM4).mono ?_); clear c1 c4; rintro e w6 ⟨A2, cap2, rfl, hA, hM5, _⟩; clear hM4; obtain ⟨c1, c4⟩ := box_cells hM5.under; clear hA))
    | (go_at_call 11; refine (fixed_any _).mono ?_; rintro e w9 ⟨rfl, hq⟩; replace hM5 := hM5.below hq; clear hq))
  go_ret
  exact ⟨rfl, box_under hM5.under⟩
set_option maxRecDepth 100000 in
set_option maxHeartbeats 4000000 in
theorem back_yes_af (image s : ByteArray) (k : Int) (a : Nat) (n v : Int) (w : World) (hi : image.size ≤ 140737488351232) (hs : image.size ≤ 64) (ha : a + s.size ≤ 64) (he : s.size ≠ 0) :
    Calls Try.prog 4 #[.string image, .agg #[.int .i64 k, .int .i64 (a : Int), .int .i64 n, .int .u64 v, .string s]] w fun e w' => e = .returned (.bool true) ∧ Below w.heap.size w w' := by
  obtain ⟨X0, X, hX, N1, V1, O1, I1⟩ := back_calls (w.alloc (.cells #[.int .i64 k, .int .i64 (a : Int), .int .i64 n, .int .u64 v, .string s] 36)) 64 image (by omega) (by omega) (by omega)
  have hz : (txt X).size = 64 := by rw [txt_size]; exact hX
  have n1 : Calls Try.prog 9 #[.int .i64 64] (w.alloc (.cells #[.int .i64 k, .int .i64 (a : Int), .int .i64 n, .int .u64 v, .string s] 36)) fun e w' => ∃ g, e = .returned (.tuple #[.pointer (some ⟨g, 0, none⟩), .int .i64 0]) ∧ M (w.alloc (.cells #[.int .i64 k, .int .i64 (a : Int), .int .i64 n, .int .u64 v, .string s] 36)) g X0 0 [] w' := N1.out
  replace N1 := Lib.hid n1
  clear n1
  obtain ⟨Y, L1, hYz, e1, e2, e3, V3, R1⟩ := written_calls (w.alloc (.cells #[.int .i64 k, .int .i64 (a : Int), .int .i64 n, .int .u64 v, .string s] 36)) 64 X a s hX ha [⟨0, (a : Int), (s.size : Int), true⟩, ⟨0, (a : Int), (s.size : Int), false⟩] (.inr ⟨he, rfl⟩)
  obtain ⟨WAS, eW⟩ : ∃ WAS, txt X = WAS := ⟨_, rfl⟩
  obtain ⟨NOW, eN⟩ : ∃ NOW, txt Y = NOW := ⟨_, rfl⟩
  have i1 := fun g w1 L (h : M (w.alloc (.cells #[.int .i64 k, .int .i64 (a : Int), .int .i64 n, .int .u64 v, .string s] 36)) g X 0 L w1) => I1.out g w1 L X h
  have i2 := fun g w1 L (h : M (w.alloc (.cells #[.int .i64 k, .int .i64 (a : Int), .int .i64 n, .int .u64 v, .string s] 36)) g Y 0 L w1) => I1.out g w1 L Y h
  rw [eW] at hz i1
  rw [eN] at i2 hYz
  rw [eW, eN] at e1 e2
  rw [eN] at e3
  obtain ⟨P, eP⟩ : ∃ P, WAS.extract 0 a = P := ⟨_, rfl⟩
  obtain ⟨R, eR⟩ : ∃ R, WAS.extract (a + s.size) 64 = R := ⟨_, rfl⟩
  rw [eP] at e1
  rw [eR] at e2
  have J1 := Lib.hid i1
  have J2 := Lib.hid i2
  have O3 := Lib.hid (fun g w1 (h : M (w.alloc (.cells #[.int .i64 k, .int .i64 (a : Int), .int .i64 n, .int .u64 v, .string s] 36)) g Y 0 [⟨0, (a : Int), (s.size : Int), true⟩, ⟨0, (a : Int), (s.size : Int), false⟩] w1) => O1.out g w1 [⟨0, (a : Int), (s.size : Int), true⟩, ⟨0, (a : Int), (s.size : Int), false⟩] (by simp) Y h)
  have E1 := Lib.hid e1
  have E2 := Lib.hid e2
  have E3 := Lib.hid e3
  have EP := Lib.hid eP
  have ER := Lib.hid eR
  have HY := Lib.hid hYz
  have he1 : ((s.size : Int) == 0) = false := by simp [he]
  have HE := Lib.hid he
  clear i1 i2 eW eN hX e1 e2 e3 eP eR hYz he
  go_enter Try.func4, Try.ntmps4
  go_wp2_with (first
    | (go_at_call 9; ((with_reducible refine N1.out.mono ?_); rintro e w1 ⟨g, rfl, hM⟩))
    | (go_at_call 14; ((with_reducible refine (V1.out _ _ hM).mono ?_); rintro e w2 ⟨rfl, La, hLa, hM1⟩; clear hM))
    | (go_at_call 15; ((with_reducible refine (O1.out _ _ _ (Nat.le_succ_of_le hLa) _ hM1).mono ?_); rintro e w3 ⟨A, cap, rfl, _, hM2, _⟩; clear hM1 hLa; obtain ⟨c1, c4⟩ := box_cells hM2.under))
    | (go_at_call 13; ((with_reducible refine (J1.out _ _ _ hM2).mono ?_); rintro e w4 ⟨rfl, rfl⟩))
    | (go_at_call 14; ((with_reducible refine (V3.out _ _ hM2).mono ?_); rintro e w4 ⟨rfl, hM3⟩; clear c1 c4 hM2; obtain ⟨c1, c4⟩ := box_cells hM3.under))
    | (go_at_call 13; ((with_reducible refine (J2.out _ _ _ hM3).mono ?_); rintro e w5 ⟨rfl, rfl⟩)))
  have q1 : a ≤ 64 := by omega
  have q2 : (0 : Int) ≤ (a : Int) + s.size := by omega
  have q3 : (a : Int) + s.size ≤ (64 : Int) := by omega
  have q4 : ¬ ((64 : Int) - s.size < a) := by omega
  have q5 : decide ((64 : Int) - s.size < a) = false := decide_eq_false q4
  have q6 : decide ((a : Int) < 0) = false := decide_eq_false (by omega)
  have q7 : IntKind.i64.wrap ((a : Int) + s.size) = (a : Int) + s.size := IntWalk.i64_in _ (by omega)
  have q8 : IntKind.i64.wrap ((64 : Int) - s.size) = (64 : Int) - s.size := IntWalk.i64_in _ (by omega)
  have q9 : ((a : Int) + s.size).toNat = a + s.size := by omega
  have q0 : (a : Int) ≤ (64 : Int) := by omega
  have hYz := HY.out
  have e1 := E1.out
  have e2 := E2.out
  have e3 := E3.out
  have eP := EP.out
  have eR := ER.out
  go_quiet (fail)
  clear q2 q3 q4 q5 q6 q7 q8 q9 q0 hYz e1 e2 e3 eP eR c1 c4
  replace hM3 := hM3.below (below_drewN (Below.refl _ _) nq)
  obtain ⟨c1, c4⟩ := box_cells hM3.under
  go_wp2_with (first
    | (go_at_call 16; ((with_reducible refine (R1.out _ _ hM3).mono ?_); rintro e w5 ⟨rfl, hM4⟩; clear hM3 c1 c4; obtain ⟨c1, c4⟩ := box_cells hM4.under))
    | (go_at_call 15; ((with_reducible refine (O3.out _ _ hM4).mono ?_); clear c1 c4; rintro e w6 ⟨A2, cap2, rfl, hA, hM5, _⟩; clear hM4; obtain ⟨c1, c4⟩ := box_cells hM5.under; have HA := Lib.hid (same_two _ _ A2 cap2 w6 hA); clear hA))
    | (go_at_call 17; ((with_reducible refine HA.out.mono ?_); rintro e w7 ⟨rfl, hq⟩; replace hM5 := hM5.below hq; clear hq HA c1 c4))
    | (go_at_call 11; refine (fixed_any _).mono ?_; rintro e w9 ⟨rfl, hq⟩; replace hM5 := hM5.below hq; clear hq))
  go_ret
  exact ⟨rfl, box_under hM5.under⟩
set_option maxRecDepth 100000 in
set_option maxHeartbeats 4000000 in
theorem back_yes_be (image s : ByteArray) (k : Int) (a : Nat) (n v : Int) (w : World) (hi : image.size ≤ 140737488351232) (hs0 : 64 < image.size) (hs : image.size ≤ 2000) (ha : a + s.size ≤ image.size) (he : s.size = 0) :
    Calls Try.prog 4 #[.string image, .agg #[.int .i64 k, .int .i64 (a : Int), .int .i64 n, .int .u64 v, .string s]] w fun e w' => e = .returned (.bool true) ∧ Below w.heap.size w w' := by
  obtain ⟨X0, X, hX, N1, V1, O1, I1⟩ := back_calls (w.alloc (.cells #[.int .i64 k, .int .i64 (a : Int), .int .i64 n, .int .u64 v, .string s] 36)) image.size image (by omega) (by omega) (by omega)
  have hz : (txt X).size = image.size := by rw [txt_size]; exact hX
  have n1 : Calls Try.prog 9 #[.int .i64 image.size] (w.alloc (.cells #[.int .i64 k, .int .i64 (a : Int), .int .i64 n, .int .u64 v, .string s] 36)) fun e w' => ∃ g, e = .returned (.tuple #[.pointer (some ⟨g, 0, none⟩), .int .i64 0]) ∧ M (w.alloc (.cells #[.int .i64 k, .int .i64 (a : Int), .int .i64 n, .int .u64 v, .string s] 36)) g X0 0 [] w' := N1.out
  replace N1 := Lib.hid n1
  clear n1
  obtain ⟨Y, L1, hYz, e1, e2, e3, V3, R1⟩ := written_calls (w.alloc (.cells #[.int .i64 k, .int .i64 (a : Int), .int .i64 n, .int .u64 v, .string s] 36)) image.size X a s hX ha [] (.inl ⟨he, rfl⟩)
  obtain ⟨WAS, eW⟩ : ∃ WAS, txt X = WAS := ⟨_, rfl⟩
  obtain ⟨NOW, eN⟩ : ∃ NOW, txt Y = NOW := ⟨_, rfl⟩
  have i1 := fun g w1 L (h : M (w.alloc (.cells #[.int .i64 k, .int .i64 (a : Int), .int .i64 n, .int .u64 v, .string s] 36)) g X 0 L w1) => I1.out g w1 L X h
  have i2 := fun g w1 L (h : M (w.alloc (.cells #[.int .i64 k, .int .i64 (a : Int), .int .i64 n, .int .u64 v, .string s] 36)) g Y 0 L w1) => I1.out g w1 L Y h
  rw [eW] at hz i1
  rw [eN] at i2 hYz
  rw [eW, eN] at e1 e2
  rw [eN] at e3
  obtain ⟨P, eP⟩ : ∃ P, WAS.extract 0 a = P := ⟨_, rfl⟩
  obtain ⟨R, eR⟩ : ∃ R, WAS.extract (a + s.size) image.size = R := ⟨_, rfl⟩
  rw [eP] at e1
  rw [eR] at e2
  have J1 := Lib.hid i1
  have J2 := Lib.hid i2
  have O3 := Lib.hid (fun g w1 (h : M (w.alloc (.cells #[.int .i64 k, .int .i64 (a : Int), .int .i64 n, .int .u64 v, .string s] 36)) g Y 0 [] w1) => O1.out g w1 [] (by simp) Y h)
  have E1 := Lib.hid e1
  have E2 := Lib.hid e2
  have E3 := Lib.hid e3
  have EP := Lib.hid eP
  have ER := Lib.hid eR
  have HY := Lib.hid hYz
  have he1 : ((s.size : Int) == 0) = true := by simp [he]
  have HE := Lib.hid he
  clear i1 i2 eW eN hX e1 e2 e3 eP eR hYz he
  go_enter Try.func4, Try.ntmps4
  go_wp2_with (first
    | (go_at_call 9; ((with_reducible refine N1.out.mono ?_); rintro e w1 ⟨g, rfl, hM⟩))
    | (go_at_call 14; ((with_reducible refine (V1.out _ _ hM).mono ?_); rintro e w2 ⟨rfl, La, hLa, hM1⟩; clear hM))
    | (go_at_call 15; ((with_reducible refine (O1.out _ _ _ (Nat.le_succ_of_le hLa) _ hM1).mono ?_); rintro e w3 ⟨A, cap, rfl, _, hM2, _⟩; clear hM1 hLa; obtain ⟨c1, c4⟩ := box_cells hM2.under))
    | (go_at_call 13; ((with_reducible refine (J1.out _ _ _ hM2).mono ?_); rintro e w4 ⟨rfl, rfl⟩))
    | (go_at_call 14; ((with_reducible refine (V3.out _ _ hM2).mono ?_); rintro e w4 ⟨rfl, hM3⟩; clear c1 c4 hM2; obtain ⟨c1, c4⟩ := box_cells hM3.under))
    | (go_at_call 13; ((with_reducible refine (J2.out _ _ _ hM3).mono ?_); rintro e w5 ⟨rfl, rfl⟩)))
  have q1 : a ≤ image.size := by omega
  have q2 : (0 : Int) ≤ (a : Int) + s.size := by omega
  have q3 : (a : Int) + s.size ≤ (image.size : Int) := by omega
  have q4 : ¬ ((image.size : Int) - s.size < a) := by omega
  have q5 : decide ((image.size : Int) - s.size < a) = false := decide_eq_false q4
  have q6 : decide ((a : Int) < 0) = false := decide_eq_false (by omega)
  have q7 : IntKind.i64.wrap ((a : Int) + s.size) = (a : Int) + s.size := IntWalk.i64_in _ (by omega)
  have q8 : IntKind.i64.wrap ((image.size : Int) - s.size) = (image.size : Int) - s.size := IntWalk.i64_in _ (by omega)
  have q9 : ((a : Int) + s.size).toNat = a + s.size := by omega
  have q0 : (a : Int) ≤ (image.size : Int) := by omega
  have hYz := HY.out
  have e1 := E1.out
  have e2 := E2.out
  have e3 := E3.out
  have eP := EP.out
  have eR := ER.out
  go_quiet (fail)
  clear q2 q3 q4 q5 q6 q7 q8 q9 q0 hYz e1 e2 e3 eP eR c1 c4
  replace hM3 := hM3.below (below_drewN (Below.refl _ _) nq)
  obtain ⟨c1, c4⟩ := box_cells hM3.under
  go_wp2_with (first
    | (go_at_call 16; ((with_reducible refine (R1.out _ _ hM3).mono ?_); rintro e w5 ⟨rfl, hM4⟩; clear hM3 c1 c4; obtain ⟨c1, c4⟩ := box_cells hM4.under))
    | (go_at_call 15; ((with_reducible refine (O3.out _ _ hM4).mono ?_); clear c1 c4; rintro e w6 ⟨A2, cap2, rfl, hA, hM5, _⟩; clear hM4; obtain ⟨c1, c4⟩ := box_cells hM5.under; clear hA))
    | (go_at_call 11; refine (fixed_any _).mono ?_; rintro e w9 ⟨rfl, hq⟩; replace hM5 := hM5.below hq; clear hq))
  go_ret
  exact ⟨rfl, box_under hM5.under⟩
set_option maxRecDepth 100000 in
set_option maxHeartbeats 4000000 in
theorem back_yes_bf (image s : ByteArray) (k : Int) (a : Nat) (n v : Int) (w : World) (hi : image.size ≤ 140737488351232) (hs0 : 64 < image.size) (hs : image.size ≤ 2000) (ha : a + s.size ≤ image.size) (he : s.size ≠ 0) :
    Calls Try.prog 4 #[.string image, .agg #[.int .i64 k, .int .i64 (a : Int), .int .i64 n, .int .u64 v, .string s]] w fun e w' => e = .returned (.bool true) ∧ Below w.heap.size w w' := by
  obtain ⟨X0, X, hX, N1, V1, O1, I1⟩ := back_calls (w.alloc (.cells #[.int .i64 k, .int .i64 (a : Int), .int .i64 n, .int .u64 v, .string s] 36)) image.size image (by omega) (by omega) (by omega)
  have hz : (txt X).size = image.size := by rw [txt_size]; exact hX
  have n1 : Calls Try.prog 9 #[.int .i64 image.size] (w.alloc (.cells #[.int .i64 k, .int .i64 (a : Int), .int .i64 n, .int .u64 v, .string s] 36)) fun e w' => ∃ g, e = .returned (.tuple #[.pointer (some ⟨g, 0, none⟩), .int .i64 0]) ∧ M (w.alloc (.cells #[.int .i64 k, .int .i64 (a : Int), .int .i64 n, .int .u64 v, .string s] 36)) g X0 0 [] w' := N1.out
  replace N1 := Lib.hid n1
  clear n1
  obtain ⟨Y, L1, hYz, e1, e2, e3, V3, R1⟩ := written_calls (w.alloc (.cells #[.int .i64 k, .int .i64 (a : Int), .int .i64 n, .int .u64 v, .string s] 36)) image.size X a s hX ha [⟨0, (a : Int), (s.size : Int), true⟩, ⟨0, (a : Int), (s.size : Int), false⟩] (.inr ⟨he, rfl⟩)
  obtain ⟨WAS, eW⟩ : ∃ WAS, txt X = WAS := ⟨_, rfl⟩
  obtain ⟨NOW, eN⟩ : ∃ NOW, txt Y = NOW := ⟨_, rfl⟩
  have i1 := fun g w1 L (h : M (w.alloc (.cells #[.int .i64 k, .int .i64 (a : Int), .int .i64 n, .int .u64 v, .string s] 36)) g X 0 L w1) => I1.out g w1 L X h
  have i2 := fun g w1 L (h : M (w.alloc (.cells #[.int .i64 k, .int .i64 (a : Int), .int .i64 n, .int .u64 v, .string s] 36)) g Y 0 L w1) => I1.out g w1 L Y h
  rw [eW] at hz i1
  rw [eN] at i2 hYz
  rw [eW, eN] at e1 e2
  rw [eN] at e3
  obtain ⟨P, eP⟩ : ∃ P, WAS.extract 0 a = P := ⟨_, rfl⟩
  obtain ⟨R, eR⟩ : ∃ R, WAS.extract (a + s.size) image.size = R := ⟨_, rfl⟩
  rw [eP] at e1
  rw [eR] at e2
  have J1 := Lib.hid i1
  have J2 := Lib.hid i2
  have O3 := Lib.hid (fun g w1 (h : M (w.alloc (.cells #[.int .i64 k, .int .i64 (a : Int), .int .i64 n, .int .u64 v, .string s] 36)) g Y 0 [⟨0, (a : Int), (s.size : Int), true⟩, ⟨0, (a : Int), (s.size : Int), false⟩] w1) => O1.out g w1 [⟨0, (a : Int), (s.size : Int), true⟩, ⟨0, (a : Int), (s.size : Int), false⟩] (by simp) Y h)
  have E1 := Lib.hid e1
  have E2 := Lib.hid e2
  have E3 := Lib.hid e3
  have EP := Lib.hid eP
  have ER := Lib.hid eR
  have HY := Lib.hid hYz
  have he1 : ((s.size : Int) == 0) = false := by simp [he]
  have HE := Lib.hid he
  clear i1 i2 eW eN hX e1 e2 e3 eP eR hYz he
  go_enter Try.func4, Try.ntmps4
  go_wp2_with (first
    | (go_at_call 9; ((with_reducible refine N1.out.mono ?_); rintro e w1 ⟨g, rfl, hM⟩))
    | (go_at_call 14; ((with_reducible refine (V1.out _ _ hM).mono ?_); rintro e w2 ⟨rfl, La, hLa, hM1⟩; clear hM))
    | (go_at_call 15; ((with_reducible refine (O1.out _ _ _ (Nat.le_succ_of_le hLa) _ hM1).mono ?_); rintro e w3 ⟨A, cap, rfl, _, hM2, _⟩; clear hM1 hLa; obtain ⟨c1, c4⟩ := box_cells hM2.under))
    | (go_at_call 13; ((with_reducible refine (J1.out _ _ _ hM2).mono ?_); rintro e w4 ⟨rfl, rfl⟩))
    | (go_at_call 14; ((with_reducible refine (V3.out _ _ hM2).mono ?_); rintro e w4 ⟨rfl, hM3⟩; clear c1 c4 hM2; obtain ⟨c1, c4⟩ := box_cells hM3.under))
    | (go_at_call 13; ((with_reducible refine (J2.out _ _ _ hM3).mono ?_); rintro e w5 ⟨rfl, rfl⟩)))
  have q1 : a ≤ image.size := by omega
  have q2 : (0 : Int) ≤ (a : Int) + s.size := by omega
  have q3 : (a : Int) + s.size ≤ (image.size : Int) := by omega
  have q4 : ¬ ((image.size : Int) - s.size < a) := by omega
  have q5 : decide ((image.size : Int) - s.size < a) = false := decide_eq_false q4
  have q6 : decide ((a : Int) < 0) = false := decide_eq_false (by omega)
  have q7 : IntKind.i64.wrap ((a : Int) + s.size) = (a : Int) + s.size := IntWalk.i64_in _ (by omega)
  have q8 : IntKind.i64.wrap ((image.size : Int) - s.size) = (image.size : Int) - s.size := IntWalk.i64_in _ (by omega)
  have q9 : ((a : Int) + s.size).toNat = a + s.size := by omega
  have q0 : (a : Int) ≤ (image.size : Int) := by omega
  have hYz := HY.out
  have e1 := E1.out
  have e2 := E2.out
  have e3 := E3.out
  have eP := EP.out
  have eR := ER.out
  go_quiet (fail)
  clear q2 q3 q4 q5 q6 q7 q8 q9 q0 hYz e1 e2 e3 eP eR c1 c4
  replace hM3 := hM3.below (below_drewN (Below.refl _ _) nq)
  obtain ⟨c1, c4⟩ := box_cells hM3.under
  go_wp2_with (first
    | (go_at_call 16; ((with_reducible refine (R1.out _ _ hM3).mono ?_); rintro e w5 ⟨rfl, hM4⟩; clear hM3 c1 c4; obtain ⟨c1, c4⟩ := box_cells hM4.under))
    | (go_at_call 15; ((with_reducible refine (O3.out _ _ hM4).mono ?_); clear c1 c4; rintro e w6 ⟨A2, cap2, rfl, hA, hM5, _⟩; clear hM4; obtain ⟨c1, c4⟩ := box_cells hM5.under; have HA := Lib.hid (same_two _ _ A2 cap2 w6 hA); clear hA))
    | (go_at_call 17; ((with_reducible refine HA.out.mono ?_); rintro e w7 ⟨rfl, hq⟩; replace hM5 := hM5.below hq; clear hq HA c1 c4))
    | (go_at_call 11; refine (fixed_any _).mono ?_; rintro e w9 ⟨rfl, hq⟩; replace hM5 := hM5.below hq; clear hq))
  go_ret
  exact ⟨rfl, box_under hM5.under⟩
set_option maxRecDepth 100000 in
set_option maxHeartbeats 4000000 in
theorem back_yes_ce (image s : ByteArray) (k : Int) (a : Nat) (n v : Int) (w : World) (hi : image.size ≤ 140737488351232) (hs : 2000 < image.size) (ha : a + s.size ≤ 2000) (he : s.size = 0) :
    Calls Try.prog 4 #[.string image, .agg #[.int .i64 k, .int .i64 (a : Int), .int .i64 n, .int .u64 v, .string s]] w fun e w' => e = .returned (.bool true) ∧ Below w.heap.size w w' := by
  obtain ⟨I, hI, eI⟩ : ∃ I : ByteArray, I.size = 2000 ∧ image.extract 0 2000 = I := ⟨_, by simp; omega, rfl⟩
  obtain ⟨X0, X, hX, N1, V1, O1, I1⟩ := back_calls (w.alloc (.cells #[.int .i64 k, .int .i64 (a : Int), .int .i64 n, .int .u64 v, .string s] 36)) 2000 I (by omega) (by omega) (by omega)
  have hz : (txt X).size = 2000 := by rw [txt_size]; exact hX
  have n1 : Calls Try.prog 9 #[.int .i64 2000] (w.alloc (.cells #[.int .i64 k, .int .i64 (a : Int), .int .i64 n, .int .u64 v, .string s] 36)) fun e w' => ∃ g, e = .returned (.tuple #[.pointer (some ⟨g, 0, none⟩), .int .i64 0]) ∧ M (w.alloc (.cells #[.int .i64 k, .int .i64 (a : Int), .int .i64 n, .int .u64 v, .string s] 36)) g X0 0 [] w' := N1.out
  replace N1 := Lib.hid n1
  clear n1
  obtain ⟨Y, L1, hYz, e1, e2, e3, V3, R1⟩ := written_calls (w.alloc (.cells #[.int .i64 k, .int .i64 (a : Int), .int .i64 n, .int .u64 v, .string s] 36)) 2000 X a s hX ha [] (.inl ⟨he, rfl⟩)
  obtain ⟨WAS, eW⟩ : ∃ WAS, txt X = WAS := ⟨_, rfl⟩
  obtain ⟨NOW, eN⟩ : ∃ NOW, txt Y = NOW := ⟨_, rfl⟩
  have i1 := fun g w1 L (h : M (w.alloc (.cells #[.int .i64 k, .int .i64 (a : Int), .int .i64 n, .int .u64 v, .string s] 36)) g X 0 L w1) => I1.out g w1 L X h
  have i2 := fun g w1 L (h : M (w.alloc (.cells #[.int .i64 k, .int .i64 (a : Int), .int .i64 n, .int .u64 v, .string s] 36)) g Y 0 L w1) => I1.out g w1 L Y h
  rw [eW] at hz i1
  rw [eN] at i2 hYz
  rw [eW, eN] at e1 e2
  rw [eN] at e3
  obtain ⟨P, eP⟩ : ∃ P, WAS.extract 0 a = P := ⟨_, rfl⟩
  obtain ⟨R, eR⟩ : ∃ R, WAS.extract (a + s.size) 2000 = R := ⟨_, rfl⟩
  rw [eP] at e1
  rw [eR] at e2
  have J1 := Lib.hid i1
  have J2 := Lib.hid i2
  have O3 := Lib.hid (fun g w1 (h : M (w.alloc (.cells #[.int .i64 k, .int .i64 (a : Int), .int .i64 n, .int .u64 v, .string s] 36)) g Y 0 [] w1) => O1.out g w1 [] (by simp) Y h)
  have E1 := Lib.hid e1
  have E2 := Lib.hid e2
  have E3 := Lib.hid e3
  have EP := Lib.hid eP
  have ER := Lib.hid eR
  have HY := Lib.hid hYz
  have he1 : ((s.size : Int) == 0) = true := by simp [he]
  have HE := Lib.hid he
  clear i1 i2 eW eN hX e1 e2 e3 eP eR hYz he
  go_enter Try.func4, Try.ntmps4
  go_wp2_with (first
    | (go_at_call 9; ((with_reducible refine N1.out.mono ?_); rintro e w1 ⟨g, rfl, hM⟩))
    | (go_at_call 14; ((with_reducible refine (V1.out _ _ hM).mono ?_); rintro e w2 ⟨rfl, La, hLa, hM1⟩; clear hM))
    | (go_at_call 15; ((with_reducible refine (O1.out _ _ _ (Nat.le_succ_of_le hLa) _ hM1).mono ?_); rintro e w3 ⟨A, cap, rfl, _, hM2, _⟩; clear hM1 hLa; obtain ⟨c1, c4⟩ := box_cells hM2.under))
    | (go_at_call 13; ((with_reducible refine (J1.out _ _ _ hM2).mono ?_); rintro e w4 ⟨rfl, rfl⟩))
    | (go_at_call 14; ((with_reducible refine (V3.out _ _ hM2).mono ?_); rintro e w4 ⟨rfl, hM3⟩; clear c1 c4 hM2; obtain ⟨c1, c4⟩ := box_cells hM3.under))
    | (go_at_call 13; ((with_reducible refine (J2.out _ _ _ hM3).mono ?_); rintro e w5 ⟨rfl, rfl⟩)))
  have q1 : a ≤ 2000 := by omega
  have q2 : (0 : Int) ≤ (a : Int) + s.size := by omega
  have q3 : (a : Int) + s.size ≤ (2000 : Int) := by omega
  have q4 : ¬ ((2000 : Int) - s.size < a) := by omega
  have q5 : decide ((2000 : Int) - s.size < a) = false := decide_eq_false q4
  have q6 : decide ((a : Int) < 0) = false := decide_eq_false (by omega)
  have q7 : IntKind.i64.wrap ((a : Int) + s.size) = (a : Int) + s.size := IntWalk.i64_in _ (by omega)
  have q8 : IntKind.i64.wrap ((2000 : Int) - s.size) = (2000 : Int) - s.size := IntWalk.i64_in _ (by omega)
  have q9 : ((a : Int) + s.size).toNat = a + s.size := by omega
  have q0 : (a : Int) ≤ (2000 : Int) := by omega
  have hYz := HY.out
  have e1 := E1.out
  have e2 := E2.out
  have e3 := E3.out
  have eP := EP.out
  have eR := ER.out
  go_quiet (fail)
  clear q2 q3 q4 q5 q6 q7 q8 q9 q0 hYz e1 e2 e3 eP eR c1 c4
  replace hM3 := hM3.below (below_drewN (Below.refl _ _) nq)
  obtain ⟨c1, c4⟩ := box_cells hM3.under
  go_wp2_with (first
    | (go_at_call 16; ((with_reducible refine (R1.out _ _ hM3).mono ?_); rintro e w5 ⟨rfl, hM4⟩; clear hM3 c1 c4; obtain ⟨c1, c4⟩ := box_cells hM4.under))
    | (go_at_call 15; ((with_reducible refine (O3.out _ _ hM4).mono ?_); clear c1 c4; rintro e w6 ⟨A2, cap2, rfl, hA, hM5, _⟩; clear hM4; obtain ⟨c1, c4⟩ := box_cells hM5.under; clear hA))
    | (go_at_call 11; refine (fixed_any _).mono ?_; rintro e w9 ⟨rfl, hq⟩; replace hM5 := hM5.below hq; clear hq))
  go_ret
  exact ⟨rfl, box_under hM5.under⟩
set_option maxRecDepth 100000 in
set_option maxHeartbeats 4000000 in
theorem back_yes_cf (image s : ByteArray) (k : Int) (a : Nat) (n v : Int) (w : World) (hi : image.size ≤ 140737488351232) (hs : 2000 < image.size) (ha : a + s.size ≤ 2000) (he : s.size ≠ 0) :
    Calls Try.prog 4 #[.string image, .agg #[.int .i64 k, .int .i64 (a : Int), .int .i64 n, .int .u64 v, .string s]] w fun e w' => e = .returned (.bool true) ∧ Below w.heap.size w w' := by
  obtain ⟨I, hI, eI⟩ : ∃ I : ByteArray, I.size = 2000 ∧ image.extract 0 2000 = I := ⟨_, by simp; omega, rfl⟩
  obtain ⟨X0, X, hX, N1, V1, O1, I1⟩ := back_calls (w.alloc (.cells #[.int .i64 k, .int .i64 (a : Int), .int .i64 n, .int .u64 v, .string s] 36)) 2000 I (by omega) (by omega) (by omega)
  have hz : (txt X).size = 2000 := by rw [txt_size]; exact hX
  have n1 : Calls Try.prog 9 #[.int .i64 2000] (w.alloc (.cells #[.int .i64 k, .int .i64 (a : Int), .int .i64 n, .int .u64 v, .string s] 36)) fun e w' => ∃ g, e = .returned (.tuple #[.pointer (some ⟨g, 0, none⟩), .int .i64 0]) ∧ M (w.alloc (.cells #[.int .i64 k, .int .i64 (a : Int), .int .i64 n, .int .u64 v, .string s] 36)) g X0 0 [] w' := N1.out
  replace N1 := Lib.hid n1
  clear n1
  obtain ⟨Y, L1, hYz, e1, e2, e3, V3, R1⟩ := written_calls (w.alloc (.cells #[.int .i64 k, .int .i64 (a : Int), .int .i64 n, .int .u64 v, .string s] 36)) 2000 X a s hX ha [⟨0, (a : Int), (s.size : Int), true⟩, ⟨0, (a : Int), (s.size : Int), false⟩] (.inr ⟨he, rfl⟩)
  obtain ⟨WAS, eW⟩ : ∃ WAS, txt X = WAS := ⟨_, rfl⟩
  obtain ⟨NOW, eN⟩ : ∃ NOW, txt Y = NOW := ⟨_, rfl⟩
  have i1 := fun g w1 L (h : M (w.alloc (.cells #[.int .i64 k, .int .i64 (a : Int), .int .i64 n, .int .u64 v, .string s] 36)) g X 0 L w1) => I1.out g w1 L X h
  have i2 := fun g w1 L (h : M (w.alloc (.cells #[.int .i64 k, .int .i64 (a : Int), .int .i64 n, .int .u64 v, .string s] 36)) g Y 0 L w1) => I1.out g w1 L Y h
  rw [eW] at hz i1
  rw [eN] at i2 hYz
  rw [eW, eN] at e1 e2
  rw [eN] at e3
  obtain ⟨P, eP⟩ : ∃ P, WAS.extract 0 a = P := ⟨_, rfl⟩
  obtain ⟨R, eR⟩ : ∃ R, WAS.extract (a + s.size) 2000 = R := ⟨_, rfl⟩
  rw [eP] at e1
  rw [eR] at e2
  have J1 := Lib.hid i1
  have J2 := Lib.hid i2
  have O3 := Lib.hid (fun g w1 (h : M (w.alloc (.cells #[.int .i64 k, .int .i64 (a : Int), .int .i64 n, .int .u64 v, .string s] 36)) g Y 0 [⟨0, (a : Int), (s.size : Int), true⟩, ⟨0, (a : Int), (s.size : Int), false⟩] w1) => O1.out g w1 [⟨0, (a : Int), (s.size : Int), true⟩, ⟨0, (a : Int), (s.size : Int), false⟩] (by simp) Y h)
  have E1 := Lib.hid e1
  have E2 := Lib.hid e2
  have E3 := Lib.hid e3
  have EP := Lib.hid eP
  have ER := Lib.hid eR
  have HY := Lib.hid hYz
  have he1 : ((s.size : Int) == 0) = false := by simp [he]
  have HE := Lib.hid he
  clear i1 i2 eW eN hX e1 e2 e3 eP eR hYz he
  go_enter Try.func4, Try.ntmps4
  go_wp2_with (first
    | (go_at_call 9; ((with_reducible refine N1.out.mono ?_); rintro e w1 ⟨g, rfl, hM⟩))
    | (go_at_call 14; ((with_reducible refine (V1.out _ _ hM).mono ?_); rintro e w2 ⟨rfl, La, hLa, hM1⟩; clear hM))
    | (go_at_call 15; ((with_reducible refine (O1.out _ _ _ (Nat.le_succ_of_le hLa) _ hM1).mono ?_); rintro e w3 ⟨A, cap, rfl, _, hM2, _⟩; clear hM1 hLa; obtain ⟨c1, c4⟩ := box_cells hM2.under))
    | (go_at_call 13; ((with_reducible refine (J1.out _ _ _ hM2).mono ?_); rintro e w4 ⟨rfl, rfl⟩))
    | (go_at_call 14; ((with_reducible refine (V3.out _ _ hM2).mono ?_); rintro e w4 ⟨rfl, hM3⟩; clear c1 c4 hM2; obtain ⟨c1, c4⟩ := box_cells hM3.under))
    | (go_at_call 13; ((with_reducible refine (J2.out _ _ _ hM3).mono ?_); rintro e w5 ⟨rfl, rfl⟩)))
  have q1 : a ≤ 2000 := by omega
  have q2 : (0 : Int) ≤ (a : Int) + s.size := by omega
  have q3 : (a : Int) + s.size ≤ (2000 : Int) := by omega
  have q4 : ¬ ((2000 : Int) - s.size < a) := by omega
  have q5 : decide ((2000 : Int) - s.size < a) = false := decide_eq_false q4
  have q6 : decide ((a : Int) < 0) = false := decide_eq_false (by omega)
  have q7 : IntKind.i64.wrap ((a : Int) + s.size) = (a : Int) + s.size := IntWalk.i64_in _ (by omega)
  have q8 : IntKind.i64.wrap ((2000 : Int) - s.size) = (2000 : Int) - s.size := IntWalk.i64_in _ (by omega)
  have q9 : ((a : Int) + s.size).toNat = a + s.size := by omega
  have q0 : (a : Int) ≤ (2000 : Int) := by omega
  have hYz := HY.out
  have e1 := E1.out
  have e2 := E2.out
  have e3 := E3.out
  have eP := EP.out
  have eR := ER.out
  go_quiet (fail)
  clear q2 q3 q4 q5 q6 q7 q8 q9 q0 hYz e1 e2 e3 eP eR c1 c4
  replace hM3 := hM3.below (below_drewN (Below.refl _ _) nq)
  obtain ⟨c1, c4⟩ := box_cells hM3.under
  go_wp2_with (first
    | (go_at_call 16; ((with_reducible refine (R1.out _ _ hM3).mono ?_); rintro e w5 ⟨rfl, hM4⟩; clear hM3 c1 c4; obtain ⟨c1, c4⟩ := box_cells hM4.under))
    | (go_at_call 15; ((with_reducible refine (O3.out _ _ hM4).mono ?_); clear c1 c4; rintro e w6 ⟨A2, cap2, rfl, hA, hM5, _⟩; clear hM4; obtain ⟨c1, c4⟩ := box_cells hM5.under; have HA := Lib.hid (same_two _ _ A2 cap2 w6 hA); clear hA))
    | (go_at_call 17; ((with_reducible refine HA.out.mono ?_); rintro e w7 ⟨rfl, hq⟩; replace hM5 := hM5.below hq; clear hq HA c1 c4))
    | (go_at_call 11; refine (fixed_any _).mono ?_; rintro e w9 ⟨rfl, hq⟩; replace hM5 := hM5.below hq; clear hq))
  go_ret
  exact ⟨rfl, box_under hM5.under⟩
theorem memBack_any (image s : ByteArray) (k at_ n v : Int) (w : World) (hi : image.size ≤ 140737488351232) (hs : s.size ≤ 140737488351232) :
    Calls Try.prog 4 #[.string image, .agg #[.int .i64 k, .int .i64 at_, .int .i64 n, .int .u64 v, .string s]] w fun e w' => e = .returned (.bool true) ∧ Below w.heap.size w w' := by
  by_cases c1 : image.size ≤ 64
  · by_cases h : 0 ≤ at_ ∧ at_ + s.size ≤ 64
    · obtain ⟨a, rfl⟩ := Int.eq_ofNat_of_zero_le h.1
      by_cases he : s.size = 0
      · exact back_yes_ae image s k a n v w hi c1 (by omega) he
      · exact back_yes_af image s k a n v w hi c1 (by omega) he
    · exact back_no_a image s k at_ n v w hi hs c1 h
  · by_cases c2 : image.size ≤ 2000
    · by_cases h : 0 ≤ at_ ∧ at_ + s.size ≤ image.size
      · obtain ⟨a, rfl⟩ := Int.eq_ofNat_of_zero_le h.1
        by_cases he : s.size = 0
        · exact back_yes_be image s k a n v w hi (by omega) c2 (by omega) he
        · exact back_yes_bf image s k a n v w hi (by omega) c2 (by omega) he
      · exact back_no_b image s k at_ n v w hi hs (by omega) c2 h
    · by_cases h : 0 ≤ at_ ∧ at_ + s.size ≤ 2000
      · obtain ⟨a, rfl⟩ := Int.eq_ofNat_of_zero_le h.1
        by_cases he : s.size = 0
        · exact back_yes_ce image s k a n v w hi (by omega) (by omega) he
        · exact back_yes_cf image s k a n v w hi (by omega) (by omega) he
      · exact back_no_c image s k at_ n v w hi hs (by omega) h

set_option maxRecDepth 100000 in
theorem memBack_lifted (os : Os) (started : os.Started) (H : Type) (enc : TypeId × Value → H) :
    ReturnsInHanded {} Try.checked os 4 .any (Rows.memBackSpec.pre6 enc Try.prog Try.f4 Rows.memBackRow.domain false) (Rows.memBackSpec.post enc Try.prog Try.f4 false true false false) := by
  have e : Try.f4.params.toList = [9, 36] := by rw [Try.params4]
  refine law_of_walk (C := Try.checked) (tb := 4) H enc Try.own started (by kernel_rfl) Try.func4 Try.laidOut rfl rfl Try.underlying4 ?_ ?_
    (ChangeSpec.witness6 (enc := enc) (C := Try.checked) false ⟨#[], #[.string ByteArray.empty, .agg #[.int .i64 0, .int .i64 0, .int .i64 0, .int .u64 0, .string ByteArray.empty]], []⟩ 8 (by kernel_rfl) (by kernel_rfl) (by kernel_rfl) (by kernel_rfl)) ?_
  · rw [e]
    intro t ht
    simp only [List.mem_cons, List.not_mem_nil, or_false] at ht
    rcases ht with rfl | rfl <;> exact ⟨by kernel_rfl, of_decide_eq_true (by kernel_rfl)⟩
  · intro ds hds
    rw [e] at hds
    match ds, hds with
    | [d0, d1], _ => rfl
  · intro W base args ds p hval0 hA0 hsz0
    have hval : ∀ (j : Nat) t v, Try.f4.params[j]? = some t → args[j]? = some v → Value.okWide Try.prog W .any base t v := hval0
    have hA : DataW.TrodAll enc Try.prog W 0 (fun _ => true) true Try.f4.params.toList args.toList ds p := hA0
    have hsz : (DataW.weightsEach Try.prog Try.f4.params.toList ds).all (· ≤ reachBytes) = true := hsz0
    rw [Try.params4] at hA hval hsz
    obtain ⟨v0, v1, d0, d1, p0, p1, rfl, rfl, rfl, h0, h1⟩ := trodAll_two hA
    obtain ⟨x0, rfl, rfl, rfl, _⟩ := open_string Try.underlying9 (hval 0 9 v0 rfl rfl) h0
    obtain ⟨k, a, n, u, s, rfl, rfl, _⟩ := open_op (hval 1 36 v1 rfl rfl) h1
    have s0 := sized_string hsz (j := 0) (t := 9) rfl rfl
    have hm : s.data.toList.length ∈ DataW.weightsEach Try.prog [9, 36] [(DataW.lit (.string x0.data.toList) : DataW H), DataW.agg [(DataW.lit (.int .i64 k) : DataW H), .lit (.int .i64 a), .lit (.int .i64 n), .lit (.int .u64 u), .lit (.string s.data.toList)]] := by
      refine DataW.weights_mem_each (j := 1) (t := 36) rfl rfl _ ?_
      simp only [DataW.weights, Try.underlying36]
      exact DataW.weights_mem_each (j := 4) (t := 9) rfl rfl _ (by simp [DataW.weights])
    have hlen : s.data.toList.length ≤ reachBytes := of_decide_eq_true (List.all_eq_true.1 hsz _ hm)
    simp only [reachBytes] at s0 hlen
    exact memBack_any x0 s k a n u W s0 hlen

theorem memBack_holds : Rows.MemBackSaid :=
  OpenClaim.holds_of_wide 4 Try.f4 rfl rfl rfl rfl rfl rfl rfl ⟨rfl, rfl, rfl, rfl, rfl⟩ rfl rfl rfl rfl rfl (by kernel_rfl) Try.func4 (by kernel_rfl)
    (of_decide_eq_true (by kernel_rfl)) (by unfold Func.isWrapper; first | (rw [if_pos (by decide +kernel)]; kernel_rfl) | (rw [if_neg (by decide +kernel)]; exact ⟨rfl, rfl⟩))
    (fun os started H enc _ => memBack_lifted os started H enc)
end Go.Proofs.Ytjcnjigmeopllaa

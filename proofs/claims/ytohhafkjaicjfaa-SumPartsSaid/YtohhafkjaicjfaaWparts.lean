/-
  For every input the law SumParts returns true, and its arguments read afterwards as before; no condition beyond the form's own reach.
-/
import Derived.Test.YtohhafkjaicjfaaLaw
import Derived.Test.YtohhafkjaicjfaaTwo
namespace Go.Proofs.Ytohhafkjaicjfaa
open Go.Joins Go.ChangeShapes Go.WideShapes Go.ChangeAt Go.RowKit Go.Deep
open Go.ChangeMaps (open_string)


/-- What the law asks of its calls, of two strings that are short enough. -/
theorem parts_calls (A B : ByteArray) (hA : A.size ≤ 2000) (hB : B.size ≤ 2000) :
    ∃ Z P Q : Int,
      (∀ w, Calls Try.prog 11 #[.int .u16 0, .string (A ++ B)] w fun e w' => e = .returned (.int .u16 Z) ∧ Below w.heap.size w w') ∧
      (∀ w, Calls Try.prog 11 #[.int .u16 0, .string A] w fun e w' => e = .returned (.int .u16 P) ∧ Below w.heap.size w w') ∧
      (∀ w, Calls Try.prog 11 #[.int .u16 0, .string B] w fun e w' => e = .returned (.int .u16 Q) ∧ Below w.heap.size w w') ∧
      (∀ w, Calls Try.prog 18 #[.int .u16 P, .int .u16 Q, .int .i64 A.size] w fun e w' => e = .returned (.int .u16 Z) ∧ Below w.heap.size w w') ∧
      (A.size % 2 = 0 → ∃ (M : Int) (T : ByteArray), 0 ≤ M ∧ M ≤ 65535 ∧ T.size = 2 ∧ strOfNums [M / 256, M % 256] = T ∧
        (∀ w, Calls Try.prog 13 #[.string A] w fun e w' => e = .returned (.int .u16 M) ∧ Below w.heap.size w w') ∧
        (∀ w, Calls Try.prog 11 #[.int .u16 P, .string B] w fun e w' => e = .returned (.int .u16 Z) ∧ Below w.heap.size w w') ∧
        (∀ w, Calls Try.prog 15 #[.string (A ++ T)] w fun e w' => e = .returned (.bool true) ∧ Below w.heap.size w w')) := by
  have rA := onS_range A 0 (by omega) (by omega)
  have rB := onS_range B 0 (by omega) (by omega)
  have lA : A.data.toList.length = A.size := rfl
  refine ⟨onS 0 (A ++ B), onS 0 A, onS 0 B, fun w => on_any 0 _ w (by omega) (by omega) (by rw [cat_size]; unfold maxLen; omega), fun w => on_any 0 _ w (by omega) (by omega) (by unfold maxLen; omega),
    fun w => on_any 0 _ w (by omega) (by omega) (by unfold maxLen; omega), fun w => ?_, fun h => ⟨65535 - onS 0 A, word2 (65535 - onS 0 A), by omega, by omega, word2_size _, rfl, fun w => sum_any A w (by unfold maxLen; omega), fun w => ?_, fun w => ?_⟩⟩
  · refine (join_any _ _ _ w rA.1 rA.2 rB.1 rB.2).mono fun e w' ⟨he, hw⟩ => ⟨?_, hw⟩
    have hj := join_sums A.data.toList B.data.toList
    rw [lA, ← cat_list] at hj
    rw [he]; exact congrArg (fun z => Ending.returned (.int .u16 z)) hj
  · refine (on_any _ B w rA.1 rA.2 (by unfold maxLen; omega)).mono fun e w' ⟨he, hw⟩ => ⟨?_, hw⟩
    rw [he, onS_eq _ _ rA.1 rA.2, onS_eq (A ++ B) _ (by omega) (by omega), onS_eq A _ (by omega) (by omega), wt_cat _ _ h, Int.zero_add, Int.zero_add, canon_add _ _ (wt_nonneg _ _) (wt_nonneg _ _)]
  · refine (right_any _ w (by rw [cat_size, word2_size]; unfold maxLen; omega)).mono fun e w' ⟨he, hw⟩ => ⟨?_, hw⟩
    have hW := word2_wt (65535 - onS 0 A) (by omega) (by omega)
    have n1 := wt_nonneg true A.data.toList
    have : onS 0 (A ++ word2 (65535 - onS 0 A)) = 65535 := by
      rw [onS_eq _ _ (by omega) (by omega), wt_cat _ _ h, hW, onS_eq A _ (by omega) (by omega), Int.zero_add, Int.zero_add]
      generalize wt true A.data.toList = x at *
      unfold canon
      split <;> split <;> omega
    rw [he, this]; rfl

set_option maxHeartbeats 1600000 in
theorem sumParts_any (a b : ByteArray) (w : World) (ha : a.size ≤ 140737488351232) (hb : b.size ≤ 140737488351232) :
    Calls Try.prog 5 #[.string a, .string b] w fun e w' => e = .returned (.bool true) ∧ Below w.heap.size w w' := by
  by_cases ka : a.size ≤ 2000
  · by_cases kb : b.size ≤ 2000
    · skip
      obtain ⟨Z, P, Q, g1, g2, g3, g4, g5⟩ := parts_calls a b ka kb
      have G1 := Lib.hid g1
      have G2 := Lib.hid g2
      have G3 := Lib.hid g3
      have G4 := Lib.hid g4
      clear g1 g2 g3 g4
      by_cases he : a.size % 2 = 0
      · obtain ⟨M, T, hM1, hM2, hT, eT, g5, g6, g7⟩ := g5 he
        have hcv : ∀ W : World, (convert 32 9 (.slice (some ⟨W.heap.size, 0, none⟩) 2 2)).run Try.prog (W.alloc (.cells #[.int .u8 (M / 256), .int .u8 (M % 256)] 5)) = .ok (.string T) (W.alloc (.cells #[.int .u8 (M / 256), .int .u8 (M % 256)] 5)) := fun W => by rw [two_bytes, eT]
        have G5 := Lib.hid g5
        have G6 := Lib.hid g6
        have G7 := Lib.hid g7
        clear g5 g6 g7 eT
        have hB := Below.refl w.heap.size w
        go_enter Try.func5, Try.ntmps5
        go_wp2_with (first
          | (go_at_call 10; refine (fixed_any _).mono ?_; rintro e w9 ⟨rfl, hq⟩; (first | replace hB := bl hB hq | replace hB := bl (bla hB _) hq); clear hq)
          | (go_at_call 11; ((with_reducible refine (G1.out _).mono ?_); rintro e w1 ⟨rfl, hq⟩; (first | replace hB := bl hB hq | replace hB := bl (bla hB _) hq); clear hq))
          | (go_at_call 11; ((with_reducible refine (G2.out _).mono ?_); rintro e w2 ⟨rfl, hq⟩; (first | replace hB := bl hB hq | replace hB := bl (bla hB _) hq); clear hq))
          | (go_at_call 11; ((with_reducible refine (G3.out _).mono ?_); rintro e w3 ⟨rfl, hq⟩; (first | replace hB := bl hB hq | replace hB := bl (bla hB _) hq); clear hq))
          | (go_at_call 18; ((with_reducible refine (G4.out _).mono ?_); rintro e w4 ⟨rfl, hq⟩; (first | replace hB := bl hB hq | replace hB := bl (bla hB _) hq); clear hq))
          | (go_at_call 13; ((with_reducible refine (G5.out _).mono ?_); rintro e w5 ⟨rfl, hq⟩; (first | replace hB := bl hB hq | replace hB := bl (bla hB _) hq); clear hq))
          | (go_at_call 11; ((with_reducible refine (G6.out _).mono ?_); rintro e w6 ⟨rfl, hq⟩; (first | replace hB := bl hB hq | replace hB := bl (bla hB _) hq); clear hq))
          | (go_at_call 15; ((with_reducible refine (G7.out _).mono ?_); rintro e w7 ⟨rfl, hq⟩; (first | replace hB := bl hB hq | replace hB := bl (bla hB _) hq); clear hq)))
        go_ret
        exact ⟨rfl, hB⟩
      · clear g5
        have hB := Below.refl w.heap.size w
        go_enter Try.func5, Try.ntmps5
        go_wp2_with (first
          | (go_at_call 10; refine (fixed_any _).mono ?_; rintro e w9 ⟨rfl, hq⟩; (first | replace hB := bl hB hq | replace hB := bl (bla hB _) hq); clear hq)
          | (go_at_call 11; ((with_reducible refine (G1.out _).mono ?_); rintro e w1 ⟨rfl, hq⟩; (first | replace hB := bl hB hq | replace hB := bl (bla hB _) hq); clear hq))
          | (go_at_call 11; ((with_reducible refine (G2.out _).mono ?_); rintro e w2 ⟨rfl, hq⟩; (first | replace hB := bl hB hq | replace hB := bl (bla hB _) hq); clear hq))
          | (go_at_call 11; ((with_reducible refine (G3.out _).mono ?_); rintro e w3 ⟨rfl, hq⟩; (first | replace hB := bl hB hq | replace hB := bl (bla hB _) hq); clear hq))
          | (go_at_call 18; ((with_reducible refine (G4.out _).mono ?_); rintro e w4 ⟨rfl, hq⟩; (first | replace hB := bl hB hq | replace hB := bl (bla hB _) hq); clear hq)))
        go_ret
        exact ⟨rfl, hB⟩
    · skip
      obtain ⟨B, hB, eB⟩ : ∃ B : ByteArray, B.size ≤ 2000 ∧ b.extract 0 2000 = B := ⟨_, by rw [cut_size b 2000 (by omega)]; omega, rfl⟩
      obtain ⟨Z, P, Q, g1, g2, g3, g4, g5⟩ := parts_calls a B ka hB
      have G1 := Lib.hid g1
      have G2 := Lib.hid g2
      have G3 := Lib.hid g3
      have G4 := Lib.hid g4
      clear g1 g2 g3 g4
      by_cases he : a.size % 2 = 0
      · obtain ⟨M, T, hM1, hM2, hT, eT, g5, g6, g7⟩ := g5 he
        have hcv : ∀ W : World, (convert 32 9 (.slice (some ⟨W.heap.size, 0, none⟩) 2 2)).run Try.prog (W.alloc (.cells #[.int .u8 (M / 256), .int .u8 (M % 256)] 5)) = .ok (.string T) (W.alloc (.cells #[.int .u8 (M / 256), .int .u8 (M % 256)] 5)) := fun W => by rw [two_bytes, eT]
        have G5 := Lib.hid g5
        have G6 := Lib.hid g6
        have G7 := Lib.hid g7
        clear g5 g6 g7 eT
        have hB := Below.refl w.heap.size w
        go_enter Try.func5, Try.ntmps5
        go_wp2_with (first
          | (go_at_call 10; refine (fixed_any _).mono ?_; rintro e w9 ⟨rfl, hq⟩; (first | replace hB := bl hB hq | replace hB := bl (bla hB _) hq); clear hq)
          | (go_at_call 11; ((with_reducible refine (G1.out _).mono ?_); rintro e w1 ⟨rfl, hq⟩; (first | replace hB := bl hB hq | replace hB := bl (bla hB _) hq); clear hq))
          | (go_at_call 11; ((with_reducible refine (G2.out _).mono ?_); rintro e w2 ⟨rfl, hq⟩; (first | replace hB := bl hB hq | replace hB := bl (bla hB _) hq); clear hq))
          | (go_at_call 11; ((with_reducible refine (G3.out _).mono ?_); rintro e w3 ⟨rfl, hq⟩; (first | replace hB := bl hB hq | replace hB := bl (bla hB _) hq); clear hq))
          | (go_at_call 18; ((with_reducible refine (G4.out _).mono ?_); rintro e w4 ⟨rfl, hq⟩; (first | replace hB := bl hB hq | replace hB := bl (bla hB _) hq); clear hq))
          | (go_at_call 13; ((with_reducible refine (G5.out _).mono ?_); rintro e w5 ⟨rfl, hq⟩; (first | replace hB := bl hB hq | replace hB := bl (bla hB _) hq); clear hq))
          | (go_at_call 11; ((with_reducible refine (G6.out _).mono ?_); rintro e w6 ⟨rfl, hq⟩; (first | replace hB := bl hB hq | replace hB := bl (bla hB _) hq); clear hq))
          | (go_at_call 15; ((with_reducible refine (G7.out _).mono ?_); rintro e w7 ⟨rfl, hq⟩; (first | replace hB := bl hB hq | replace hB := bl (bla hB _) hq); clear hq)))
        go_ret
        exact ⟨rfl, hB⟩
      · clear g5
        have hB := Below.refl w.heap.size w
        go_enter Try.func5, Try.ntmps5
        go_wp2_with (first
          | (go_at_call 10; refine (fixed_any _).mono ?_; rintro e w9 ⟨rfl, hq⟩; (first | replace hB := bl hB hq | replace hB := bl (bla hB _) hq); clear hq)
          | (go_at_call 11; ((with_reducible refine (G1.out _).mono ?_); rintro e w1 ⟨rfl, hq⟩; (first | replace hB := bl hB hq | replace hB := bl (bla hB _) hq); clear hq))
          | (go_at_call 11; ((with_reducible refine (G2.out _).mono ?_); rintro e w2 ⟨rfl, hq⟩; (first | replace hB := bl hB hq | replace hB := bl (bla hB _) hq); clear hq))
          | (go_at_call 11; ((with_reducible refine (G3.out _).mono ?_); rintro e w3 ⟨rfl, hq⟩; (first | replace hB := bl hB hq | replace hB := bl (bla hB _) hq); clear hq))
          | (go_at_call 18; ((with_reducible refine (G4.out _).mono ?_); rintro e w4 ⟨rfl, hq⟩; (first | replace hB := bl hB hq | replace hB := bl (bla hB _) hq); clear hq)))
        go_ret
        exact ⟨rfl, hB⟩
  · by_cases kb : b.size ≤ 2000
    · skip
      obtain ⟨A, hA, eA⟩ : ∃ A : ByteArray, A.size ≤ 2000 ∧ a.extract 0 2000 = A := ⟨_, by rw [cut_size a 2000 (by omega)]; omega, rfl⟩
      obtain ⟨Z, P, Q, g1, g2, g3, g4, g5⟩ := parts_calls A b hA kb
      have G1 := Lib.hid g1
      have G2 := Lib.hid g2
      have G3 := Lib.hid g3
      have G4 := Lib.hid g4
      clear g1 g2 g3 g4
      by_cases he : A.size % 2 = 0
      · obtain ⟨M, T, hM1, hM2, hT, eT, g5, g6, g7⟩ := g5 he
        have hcv : ∀ W : World, (convert 32 9 (.slice (some ⟨W.heap.size, 0, none⟩) 2 2)).run Try.prog (W.alloc (.cells #[.int .u8 (M / 256), .int .u8 (M % 256)] 5)) = .ok (.string T) (W.alloc (.cells #[.int .u8 (M / 256), .int .u8 (M % 256)] 5)) := fun W => by rw [two_bytes, eT]
        have G5 := Lib.hid g5
        have G6 := Lib.hid g6
        have G7 := Lib.hid g7
        clear g5 g6 g7 eT
        have hB := Below.refl w.heap.size w
        go_enter Try.func5, Try.ntmps5
        go_wp2_with (first
          | (go_at_call 10; refine (fixed_any _).mono ?_; rintro e w9 ⟨rfl, hq⟩; (first | replace hB := bl hB hq | replace hB := bl (bla hB _) hq); clear hq)
          | (go_at_call 11; ((with_reducible refine (G1.out _).mono ?_); rintro e w1 ⟨rfl, hq⟩; (first | replace hB := bl hB hq | replace hB := bl (bla hB _) hq); clear hq))
          | (go_at_call 11; ((with_reducible refine (G2.out _).mono ?_); rintro e w2 ⟨rfl, hq⟩; (first | replace hB := bl hB hq | replace hB := bl (bla hB _) hq); clear hq))
          | (go_at_call 11; ((with_reducible refine (G3.out _).mono ?_); rintro e w3 ⟨rfl, hq⟩; (first | replace hB := bl hB hq | replace hB := bl (bla hB _) hq); clear hq))
          | (go_at_call 18; ((with_reducible refine (G4.out _).mono ?_); rintro e w4 ⟨rfl, hq⟩; (first | replace hB := bl hB hq | replace hB := bl (bla hB _) hq); clear hq))
          | (go_at_call 13; ((with_reducible refine (G5.out _).mono ?_); rintro e w5 ⟨rfl, hq⟩; (first | replace hB := bl hB hq | replace hB := bl (bla hB _) hq); clear hq))
          | (go_at_call 11; ((with_reducible refine (G6.out _).mono ?_); rintro e w6 ⟨rfl, hq⟩; (first | replace hB := bl hB hq | replace hB := bl (bla hB _) hq); clear hq))
          | (go_at_call 15; ((with_reducible refine (G7.out _).mono ?_); rintro e w7 ⟨rfl, hq⟩; (first | replace hB := bl hB hq | replace hB := bl (bla hB _) hq); clear hq)))
        go_ret
        exact ⟨rfl, hB⟩
      · clear g5
        have hB := Below.refl w.heap.size w
        go_enter Try.func5, Try.ntmps5
        go_wp2_with (first
          | (go_at_call 10; refine (fixed_any _).mono ?_; rintro e w9 ⟨rfl, hq⟩; (first | replace hB := bl hB hq | replace hB := bl (bla hB _) hq); clear hq)
          | (go_at_call 11; ((with_reducible refine (G1.out _).mono ?_); rintro e w1 ⟨rfl, hq⟩; (first | replace hB := bl hB hq | replace hB := bl (bla hB _) hq); clear hq))
          | (go_at_call 11; ((with_reducible refine (G2.out _).mono ?_); rintro e w2 ⟨rfl, hq⟩; (first | replace hB := bl hB hq | replace hB := bl (bla hB _) hq); clear hq))
          | (go_at_call 11; ((with_reducible refine (G3.out _).mono ?_); rintro e w3 ⟨rfl, hq⟩; (first | replace hB := bl hB hq | replace hB := bl (bla hB _) hq); clear hq))
          | (go_at_call 18; ((with_reducible refine (G4.out _).mono ?_); rintro e w4 ⟨rfl, hq⟩; (first | replace hB := bl hB hq | replace hB := bl (bla hB _) hq); clear hq)))
        go_ret
        exact ⟨rfl, hB⟩
    · skip
      obtain ⟨A, hA, eA⟩ : ∃ A : ByteArray, A.size ≤ 2000 ∧ a.extract 0 2000 = A := ⟨_, by rw [cut_size a 2000 (by omega)]; omega, rfl⟩
      obtain ⟨B, hB, eB⟩ : ∃ B : ByteArray, B.size ≤ 2000 ∧ b.extract 0 2000 = B := ⟨_, by rw [cut_size b 2000 (by omega)]; omega, rfl⟩
      obtain ⟨Z, P, Q, g1, g2, g3, g4, g5⟩ := parts_calls A B hA hB
      have G1 := Lib.hid g1
      have G2 := Lib.hid g2
      have G3 := Lib.hid g3
      have G4 := Lib.hid g4
      clear g1 g2 g3 g4
      by_cases he : A.size % 2 = 0
      · obtain ⟨M, T, hM1, hM2, hT, eT, g5, g6, g7⟩ := g5 he
        have hcv : ∀ W : World, (convert 32 9 (.slice (some ⟨W.heap.size, 0, none⟩) 2 2)).run Try.prog (W.alloc (.cells #[.int .u8 (M / 256), .int .u8 (M % 256)] 5)) = .ok (.string T) (W.alloc (.cells #[.int .u8 (M / 256), .int .u8 (M % 256)] 5)) := fun W => by rw [two_bytes, eT]
        have G5 := Lib.hid g5
        have G6 := Lib.hid g6
        have G7 := Lib.hid g7
        clear g5 g6 g7 eT
        have hB := Below.refl w.heap.size w
        go_enter Try.func5, Try.ntmps5
        go_wp2_with (first
          | (go_at_call 10; refine (fixed_any _).mono ?_; rintro e w9 ⟨rfl, hq⟩; (first | replace hB := bl hB hq | replace hB := bl (bla hB _) hq); clear hq)
          | (go_at_call 11; ((with_reducible refine (G1.out _).mono ?_); rintro e w1 ⟨rfl, hq⟩; (first | replace hB := bl hB hq | replace hB := bl (bla hB _) hq); clear hq))
          | (go_at_call 11; ((with_reducible refine (G2.out _).mono ?_); rintro e w2 ⟨rfl, hq⟩; (first | replace hB := bl hB hq | replace hB := bl (bla hB _) hq); clear hq))
          | (go_at_call 11; ((with_reducible refine (G3.out _).mono ?_); rintro e w3 ⟨rfl, hq⟩; (first | replace hB := bl hB hq | replace hB := bl (bla hB _) hq); clear hq))
          | (go_at_call 18; ((with_reducible refine (G4.out _).mono ?_); rintro e w4 ⟨rfl, hq⟩; (first | replace hB := bl hB hq | replace hB := bl (bla hB _) hq); clear hq))
          | (go_at_call 13; ((with_reducible refine (G5.out _).mono ?_); rintro e w5 ⟨rfl, hq⟩; (first | replace hB := bl hB hq | replace hB := bl (bla hB _) hq); clear hq))
          | (go_at_call 11; ((with_reducible refine (G6.out _).mono ?_); rintro e w6 ⟨rfl, hq⟩; (first | replace hB := bl hB hq | replace hB := bl (bla hB _) hq); clear hq))
          | (go_at_call 15; ((with_reducible refine (G7.out _).mono ?_); rintro e w7 ⟨rfl, hq⟩; (first | replace hB := bl hB hq | replace hB := bl (bla hB _) hq); clear hq)))
        go_ret
        exact ⟨rfl, hB⟩
      · clear g5
        have hB := Below.refl w.heap.size w
        go_enter Try.func5, Try.ntmps5
        go_wp2_with (first
          | (go_at_call 10; refine (fixed_any _).mono ?_; rintro e w9 ⟨rfl, hq⟩; (first | replace hB := bl hB hq | replace hB := bl (bla hB _) hq); clear hq)
          | (go_at_call 11; ((with_reducible refine (G1.out _).mono ?_); rintro e w1 ⟨rfl, hq⟩; (first | replace hB := bl hB hq | replace hB := bl (bla hB _) hq); clear hq))
          | (go_at_call 11; ((with_reducible refine (G2.out _).mono ?_); rintro e w2 ⟨rfl, hq⟩; (first | replace hB := bl hB hq | replace hB := bl (bla hB _) hq); clear hq))
          | (go_at_call 11; ((with_reducible refine (G3.out _).mono ?_); rintro e w3 ⟨rfl, hq⟩; (first | replace hB := bl hB hq | replace hB := bl (bla hB _) hq); clear hq))
          | (go_at_call 18; ((with_reducible refine (G4.out _).mono ?_); rintro e w4 ⟨rfl, hq⟩; (first | replace hB := bl hB hq | replace hB := bl (bla hB _) hq); clear hq)))
        go_ret
        exact ⟨rfl, hB⟩

set_option maxRecDepth 100000 in
theorem sumParts_lifted (os : Os) (started : os.Started) (H : Type) (enc : TypeId × Value → H) :
    ReturnsInHanded {} Try.checked os 5 .any (Rows.sumPartsSpec.pre6 enc Try.prog Try.f5 Rows.sumPartsRow.domain false) (Rows.sumPartsSpec.post enc Try.prog Try.f5 false true false false) := by
  have e : Try.f5.params.toList = [9, 9] := by rw [Try.params5]
  refine law_of_walk (C := Try.checked) (tb := 4) H enc Try.own started (by kernel_rfl) Try.func5 Try.laidOut rfl rfl Try.underlying4 ?_ ?_
    (ChangeSpec.witness6 (enc := enc) (C := Try.checked) false ⟨#[], #[.string ByteArray.empty, .string ByteArray.empty], []⟩ 8 (by kernel_rfl) (by kernel_rfl) (by kernel_rfl) (by kernel_rfl)) ?_
  · rw [e]
    intro t ht
    simp only [List.mem_cons, List.not_mem_nil, or_false] at ht
    rcases ht with rfl | rfl <;> exact ⟨by kernel_rfl, of_decide_eq_true (by kernel_rfl)⟩
  · intro ds hds
    rw [e] at hds
    match ds, hds with
    | [d0, d1], _ => rfl
  · intro W base args ds p hval0 hA0 hsz0
    have hval : ∀ (j : Nat) t v, Try.f5.params[j]? = some t → args[j]? = some v → Value.okWide Try.prog W .any base t v := hval0
    have hA : DataW.TrodAll enc Try.prog W 0 (fun _ => true) true Try.f5.params.toList args.toList ds p := hA0
    have hsz : (DataW.weightsEach Try.prog Try.f5.params.toList ds).all (· ≤ reachBytes) = true := hsz0
    rw [Try.params5] at hA hval hsz
    obtain ⟨v0, v1, d0, d1, p0, p1, rfl, rfl, rfl, h0, h1⟩ := trodAll_two hA
    obtain ⟨x0, rfl, rfl, rfl, _⟩ := open_string Try.underlying9 (hval 0 9 v0 rfl rfl) h0
    obtain ⟨x1, rfl, rfl, rfl, _⟩ := open_string Try.underlying9 (hval 1 9 v1 rfl rfl) h1
    have s0 := sized_string hsz (j := 0) (t := 9) rfl rfl
    have s1 := sized_string hsz (j := 1) (t := 9) rfl rfl
    simp only [reachBytes] at s0 s1
    exact sumParts_any x0 x1 W s0 s1

theorem sumParts_holds : Rows.SumPartsSaid :=
  OpenClaim.holds_of_wide 5 Try.f5 rfl rfl rfl rfl rfl rfl rfl ⟨rfl, rfl, rfl, rfl, rfl⟩ rfl rfl rfl rfl rfl (by kernel_rfl) Try.func5 (by kernel_rfl)
    (of_decide_eq_true (by kernel_rfl)) (by unfold Func.isWrapper; first | (rw [if_pos (by decide +kernel)]; kernel_rfl) | (rw [if_neg (by decide +kernel)]; exact ⟨rfl, rfl⟩))
    (fun os started H enc _ => sumParts_lifted os started H enc)
end Go.Proofs.Ytohhafkjaicjfaa

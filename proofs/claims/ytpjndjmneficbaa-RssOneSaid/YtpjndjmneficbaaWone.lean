/-
  RssOne: a frame's queue is one of those there are; a tag makes no difference to it: whatever the rules, the bytes and the tag.
-/
import Derived.Test.YtpjndjmneficbaaWfr
import Derived.Test.YtpjndjmneficbaaRch
import Derived.Test.YtpjndjmneficbaaRfx
import Derived.Test.YtpjndjmneficbaaBack
import Derived.Test.YtpjndjmneficbaaRog
namespace Go.Proofs.Ytpjndjmneficbaa
open Go.Joins Go.ChangeShapes Go.WideShapes Go.ChangeAt Go.RowKit Go.Deep
open Go.ChangeMaps (open_string)

set_option maxRecDepth 100000 in
set_option maxHeartbeats 1600000 in
theorem rssOne_a_s (k : Int) (A : Option Addr) (c : Nat) (L : List Int) (x : ByteArray) (d : Int) (n : Nat) (y S T : ByteArray) (vl X V : Int) (e1 : bits .and .i64 vl 65535 = X) (e2 : Int.tmod X 4095 = V) (hs : S.size ≤ 1400) (v : Nat → Int) (hv : ∀ j : Nat, 1 ≤ j → j ≤ 8 → 0 ≤ v j ∧ v j < j) (w : World)
    (AB : ∀ W, Below w.heap.size w W → Calls Try.prog 10 #[.agg #[.int .i64 k, .slice A L.length c, .string x, .int .i64 d]] W fun e w' => e = .returned (.agg #[.int .i64 k, .slice A n c, .string y, .int .i64 d]) ∧ Below W.heap.size W w')
    (A19 : ∀ W, Calls Try.prog 19 #[.string S, .int .i64 V] W fun e w' => e = .returned (.tuple #[.string T, .int .i64 0]) ∧ Below W.heap.size W w')
    (A1 : ∀ j : Nat, ∀ W, Below w.heap.size w W → Calls Try.prog 17 #[.agg #[.int .i64 k, .slice A n c, .string y, .int .i64 d], .string S, .int .i64 j] W fun e w' => e = .returned (.int .i64 (v j)) ∧ Below W.heap.size W w')
    (A2 : ∀ j : Nat, ∀ W, Below w.heap.size w W → Calls Try.prog 17 #[.agg #[.int .i64 k, .slice A n c, .string y, .int .i64 d], .string T, .int .i64 j] W fun e w' => e = .returned (.int .i64 (v j)) ∧ Below W.heap.size W w') :
    Calls Try.prog 5 #[.agg #[.int .i64 k, .slice A L.length c, .string x, .int .i64 d], .string S, .int .i64 vl] w fun e w' => e = .returned (.bool true) ∧ Below w.heap.size w w' := by
  have HB := Lib.hid AB
  have H19 := Lib.hid A19
  have H1 := Lib.hid A1
  have HV := Lib.hid hv
  have H2 := Lib.hid A2
  clear A2
  clear AB A19 A1 hv
  have es : S.extract 0 S.size = S := cut_own S
  go_enter Try.func5, Try.ntmps5
  go_wp2_with fail
  refine (HB.out _ ((Below.refl _ _).alloc (Nat.le_refl _) _)).mono ?_
  rintro e w1 ⟨rfl, hq⟩
  have h1 := (Held.new w 24 #[.int .i64 k, .slice A L.length c, .string x, .int .i64 d]).next hq
  clear hq
  have z0 := h1.blk.frozen 0
  have z1 := h1.blk.frozen 1
  have z2 := h1.blk.frozen 2
  have z3 := h1.blk.frozen 3
  have c0 := h1.blk.cell 0
  have c1 := h1.blk.cell 1
  have c2 := h1.blk.cell 2
  have c3 := h1.blk.cell 3
  simp only [List.getElem?_toArray, List.getElem?_cons_zero, List.getElem?_cons_succ] at c0 c1 c2 c3
  have h2 := h1.set4 (.int .i64 k) (.slice A n c) (.string y) (.int .i64 d)
  obtain ⟨w2, hw2⟩ : ∃ w2, ((((w1.setCell ⟨w.heap.size, 0, none⟩ (.int .i64 k)).setCell ⟨w.heap.size, 1, none⟩ (.slice A n c)).setCell ⟨w.heap.size, 2, none⟩ (.string y)).setCell ⟨w.heap.size, 3, none⟩ (.int .i64 d)) = w2 := ⟨_, rfl⟩
  rw [hw2] at h2
  have HW := Lib.hid hw2
  clear hw2 h1
  go_wp2_with (rw [HW.out]; clear z0 z1 z2 z3 c0 c1 c2 c3 HW)
  refine (H19.out _).mono ?_
  rintro e w3 ⟨rfl, hq⟩
  have h4 := h2.next hq
  clear hq h2 e1 e2
  go_wp2_with fail
  go_loopw [9] (fun i wr => ∃ j : Nat, 1 ≤ j ∧ j ≤ 9 ∧ i = .int .i64 j ∧ Held w 24 #[.int .i64 k, .slice A n c, .string y, .int .i64 d] wr) (fun i _ => 9 - (intOf i).toNat)
  case atStart => exact ⟨1, by omega, by omega, rfl, h4⟩
  case round =>
    obtain ⟨j, hj1, hj2, rfl, h5⟩ := hrel
    clear h4
    by_cases hlt : j ≤ 8
    · have g1 : (j : Int) ≤ 8 := by omega
      have HK1 := Lib.hid (H1.out j)
      have HK2 := Lib.hid (H2.out j)
      obtain ⟨g2, g3⟩ := HV.out j hj1 hlt
      generalize v j = z at *
      have c0 := h5.blk.cell 0
      have c1 := h5.blk.cell 1
      have c2 := h5.blk.cell 2
      have c3 := h5.blk.cell 3
      simp only [List.getElem?_toArray, List.getElem?_cons_zero, List.getElem?_cons_succ] at c0 c1 c2 c3
      go_wp2_with fail
      refine (HK1.out _ h5.below).mono ?_
      rintro e w6 ⟨rfl, hq⟩
      have h6 := h5.next hq
      clear hq h5 c0 c1 c2 c3
      have c0 := h6.blk.cell 0
      have c1 := h6.blk.cell 1
      have c2 := h6.blk.cell 2
      have c3 := h6.blk.cell 3
      simp only [List.getElem?_toArray, List.getElem?_cons_zero, List.getElem?_cons_succ] at c0 c1 c2 c3
      go_wp2_with fail
      refine (HK2.out _ h6.below).mono ?_
      rintro e w7 ⟨rfl, hq⟩
      have h7 := h6.next hq
      clear hq h6 c0 c1 c2 c3
      go_wp2_with fail
      go_roundw
      case rel => exact ⟨j + 1, by omega, by omega, by go_num, h7⟩
      case measure => simp [intOf]; omega
    · have g1 : ¬ (j : Int) ≤ 8 := by omega
      go_wp2_with fail
      refine (fixed_any _).mono ?_
      rintro e w6 ⟨rfl, hq⟩
      have h6 := h5.next hq
      go_wp2_with fail
      go_ret
      exact ⟨rfl, h6.below⟩
set_option maxRecDepth 100000 in
set_option maxHeartbeats 1600000 in
theorem rssOne_a_l (k : Int) (A : Option Addr) (c : Nat) (L : List Int) (x : ByteArray) (d : Int) (n : Nat) (y S T : ByteArray) (vl X V : Int) (e1 : bits .and .i64 vl 65535 = X) (e2 : Int.tmod X 4095 = V) (s : ByteArray) (es : s.extract 0 1400 = S) (hs : 1400 < s.size) (v : Nat → Int) (hv : ∀ j : Nat, 1 ≤ j → j ≤ 8 → 0 ≤ v j ∧ v j < j) (w : World)
    (AB : ∀ W, Below w.heap.size w W → Calls Try.prog 10 #[.agg #[.int .i64 k, .slice A L.length c, .string x, .int .i64 d]] W fun e w' => e = .returned (.agg #[.int .i64 k, .slice A n c, .string y, .int .i64 d]) ∧ Below W.heap.size W w')
    (A19 : ∀ W, Calls Try.prog 19 #[.string S, .int .i64 V] W fun e w' => e = .returned (.tuple #[.string T, .int .i64 0]) ∧ Below W.heap.size W w')
    (A1 : ∀ j : Nat, ∀ W, Below w.heap.size w W → Calls Try.prog 17 #[.agg #[.int .i64 k, .slice A n c, .string y, .int .i64 d], .string S, .int .i64 j] W fun e w' => e = .returned (.int .i64 (v j)) ∧ Below W.heap.size W w')
    (A2 : ∀ j : Nat, ∀ W, Below w.heap.size w W → Calls Try.prog 17 #[.agg #[.int .i64 k, .slice A n c, .string y, .int .i64 d], .string T, .int .i64 j] W fun e w' => e = .returned (.int .i64 (v j)) ∧ Below W.heap.size W w') :
    Calls Try.prog 5 #[.agg #[.int .i64 k, .slice A L.length c, .string x, .int .i64 d], .string s, .int .i64 vl] w fun e w' => e = .returned (.bool true) ∧ Below w.heap.size w w' := by
  have HB := Lib.hid AB
  have H19 := Lib.hid A19
  have H1 := Lib.hid A1
  have HV := Lib.hid hv
  have H2 := Lib.hid A2
  clear A2
  clear AB A19 A1 hv
  have hs2 : ¬ s.size ≤ 1400 := by omega
  go_enter Try.func5, Try.ntmps5
  go_wp2_with fail
  refine (HB.out _ ((Below.refl _ _).alloc (Nat.le_refl _) _)).mono ?_
  rintro e w1 ⟨rfl, hq⟩
  have h1 := (Held.new w 24 #[.int .i64 k, .slice A L.length c, .string x, .int .i64 d]).next hq
  clear hq
  have z0 := h1.blk.frozen 0
  have z1 := h1.blk.frozen 1
  have z2 := h1.blk.frozen 2
  have z3 := h1.blk.frozen 3
  have c0 := h1.blk.cell 0
  have c1 := h1.blk.cell 1
  have c2 := h1.blk.cell 2
  have c3 := h1.blk.cell 3
  simp only [List.getElem?_toArray, List.getElem?_cons_zero, List.getElem?_cons_succ] at c0 c1 c2 c3
  have h2 := h1.set4 (.int .i64 k) (.slice A n c) (.string y) (.int .i64 d)
  obtain ⟨w2, hw2⟩ : ∃ w2, ((((w1.setCell ⟨w.heap.size, 0, none⟩ (.int .i64 k)).setCell ⟨w.heap.size, 1, none⟩ (.slice A n c)).setCell ⟨w.heap.size, 2, none⟩ (.string y)).setCell ⟨w.heap.size, 3, none⟩ (.int .i64 d)) = w2 := ⟨_, rfl⟩
  rw [hw2] at h2
  have HW := Lib.hid hw2
  clear hw2 h1
  go_wp2_with (rw [HW.out]; clear z0 z1 z2 z3 c0 c1 c2 c3 HW)
  refine (H19.out _).mono ?_
  rintro e w3 ⟨rfl, hq⟩
  have h4 := h2.next hq
  clear hq h2 e1 e2
  go_wp2_with fail
  go_loopw [9] (fun i wr => ∃ j : Nat, 1 ≤ j ∧ j ≤ 9 ∧ i = .int .i64 j ∧ Held w 24 #[.int .i64 k, .slice A n c, .string y, .int .i64 d] wr) (fun i _ => 9 - (intOf i).toNat)
  case atStart => exact ⟨1, by omega, by omega, rfl, h4⟩
  case round =>
    obtain ⟨j, hj1, hj2, rfl, h5⟩ := hrel
    clear h4
    by_cases hlt : j ≤ 8
    · have g1 : (j : Int) ≤ 8 := by omega
      have HK1 := Lib.hid (H1.out j)
      have HK2 := Lib.hid (H2.out j)
      obtain ⟨g2, g3⟩ := HV.out j hj1 hlt
      generalize v j = z at *
      have c0 := h5.blk.cell 0
      have c1 := h5.blk.cell 1
      have c2 := h5.blk.cell 2
      have c3 := h5.blk.cell 3
      simp only [List.getElem?_toArray, List.getElem?_cons_zero, List.getElem?_cons_succ] at c0 c1 c2 c3
      go_wp2_with fail
      refine (HK1.out _ h5.below).mono ?_
      rintro e w6 ⟨rfl, hq⟩
      have h6 := h5.next hq
      clear hq h5 c0 c1 c2 c3
      have c0 := h6.blk.cell 0
      have c1 := h6.blk.cell 1
      have c2 := h6.blk.cell 2
      have c3 := h6.blk.cell 3
      simp only [List.getElem?_toArray, List.getElem?_cons_zero, List.getElem?_cons_succ] at c0 c1 c2 c3
      go_wp2_with fail
      refine (HK2.out _ h6.below).mono ?_
      rintro e w7 ⟨rfl, hq⟩
      have h7 := h6.next hq
      clear hq h6 c0 c1 c2 c3
      go_wp2_with fail
      go_roundw
      case rel => exact ⟨j + 1, by omega, by omega, by go_num, h7⟩
      case measure => simp [intOf]; omega
    · have g1 : ¬ (j : Int) ≤ 8 := by omega
      go_wp2_with fail
      refine (fixed_any _).mono ?_
      rintro e w6 ⟨rfl, hq⟩
      have h6 := h5.next hq
      go_wp2_with fail
      go_ret
      exact ⟨rfl, h6.below⟩
set_option maxRecDepth 100000 in
set_option maxHeartbeats 1600000 in
theorem rssOne_b_s (k : Int) (A : Option Addr) (c : Nat) (L : List Int) (x : ByteArray) (d : Int) (n : Nat) (y S T : ByteArray) (vl X V : Int) (e1 : bits .and .i64 vl 65535 = X) (e2 : Int.tmod X 4095 = V) (E : Int) (hE : (E == 0) = false) (hs : S.size ≤ 1400) (v : Nat → Int) (hv : ∀ j : Nat, 1 ≤ j → j ≤ 8 → 0 ≤ v j ∧ v j < j) (w : World)
    (AB : ∀ W, Below w.heap.size w W → Calls Try.prog 10 #[.agg #[.int .i64 k, .slice A L.length c, .string x, .int .i64 d]] W fun e w' => e = .returned (.agg #[.int .i64 k, .slice A n c, .string y, .int .i64 d]) ∧ Below W.heap.size W w')
    (A19 : ∀ W, Calls Try.prog 19 #[.string S, .int .i64 V] W fun e w' => e = .returned (.tuple #[.string T, .int .i64 E]) ∧ Below W.heap.size W w')
    (A1 : ∀ j : Nat, ∀ W, Below w.heap.size w W → Calls Try.prog 17 #[.agg #[.int .i64 k, .slice A n c, .string y, .int .i64 d], .string S, .int .i64 j] W fun e w' => e = .returned (.int .i64 (v j)) ∧ Below W.heap.size W w') :
    Calls Try.prog 5 #[.agg #[.int .i64 k, .slice A L.length c, .string x, .int .i64 d], .string S, .int .i64 vl] w fun e w' => e = .returned (.bool true) ∧ Below w.heap.size w w' := by
  have HB := Lib.hid AB
  have H19 := Lib.hid A19
  have H1 := Lib.hid A1
  have HV := Lib.hid hv
  clear AB A19 A1 hv
  have es : S.extract 0 S.size = S := cut_own S
  go_enter Try.func5, Try.ntmps5
  go_wp2_with fail
  refine (HB.out _ ((Below.refl _ _).alloc (Nat.le_refl _) _)).mono ?_
  rintro e w1 ⟨rfl, hq⟩
  have h1 := (Held.new w 24 #[.int .i64 k, .slice A L.length c, .string x, .int .i64 d]).next hq
  clear hq
  have z0 := h1.blk.frozen 0
  have z1 := h1.blk.frozen 1
  have z2 := h1.blk.frozen 2
  have z3 := h1.blk.frozen 3
  have c0 := h1.blk.cell 0
  have c1 := h1.blk.cell 1
  have c2 := h1.blk.cell 2
  have c3 := h1.blk.cell 3
  simp only [List.getElem?_toArray, List.getElem?_cons_zero, List.getElem?_cons_succ] at c0 c1 c2 c3
  have h2 := h1.set4 (.int .i64 k) (.slice A n c) (.string y) (.int .i64 d)
  obtain ⟨w2, hw2⟩ : ∃ w2, ((((w1.setCell ⟨w.heap.size, 0, none⟩ (.int .i64 k)).setCell ⟨w.heap.size, 1, none⟩ (.slice A n c)).setCell ⟨w.heap.size, 2, none⟩ (.string y)).setCell ⟨w.heap.size, 3, none⟩ (.int .i64 d)) = w2 := ⟨_, rfl⟩
  rw [hw2] at h2
  have HW := Lib.hid hw2
  clear hw2 h1
  go_wp2_with (rw [HW.out]; clear z0 z1 z2 z3 c0 c1 c2 c3 HW)
  refine (H19.out _).mono ?_
  rintro e w3 ⟨rfl, hq⟩
  have h4 := h2.next hq
  clear hq h2 e1 e2
  go_wp2_with fail
  go_loopw [9] (fun i wr => ∃ j : Nat, 1 ≤ j ∧ j ≤ 9 ∧ i = .int .i64 j ∧ Held w 24 #[.int .i64 k, .slice A n c, .string y, .int .i64 d] wr) (fun i _ => 9 - (intOf i).toNat)
  case atStart => exact ⟨1, by omega, by omega, rfl, h4⟩
  case round =>
    obtain ⟨j, hj1, hj2, rfl, h5⟩ := hrel
    clear h4
    by_cases hlt : j ≤ 8
    · have g1 : (j : Int) ≤ 8 := by omega
      have HK1 := Lib.hid (H1.out j)
      obtain ⟨g2, g3⟩ := HV.out j hj1 hlt
      generalize v j = z at *
      have c0 := h5.blk.cell 0
      have c1 := h5.blk.cell 1
      have c2 := h5.blk.cell 2
      have c3 := h5.blk.cell 3
      simp only [List.getElem?_toArray, List.getElem?_cons_zero, List.getElem?_cons_succ] at c0 c1 c2 c3
      go_wp2_with fail
      refine (HK1.out _ h5.below).mono ?_
      rintro e w6 ⟨rfl, hq⟩
      have h6 := h5.next hq
      clear hq h5 c0 c1 c2 c3
      go_wp2_with fail
      go_roundw
      case rel => exact ⟨j + 1, by omega, by omega, by go_num, h6⟩
      case measure => simp [intOf]; omega
    · have g1 : ¬ (j : Int) ≤ 8 := by omega
      go_wp2_with fail
      refine (fixed_any _).mono ?_
      rintro e w6 ⟨rfl, hq⟩
      have h6 := h5.next hq
      go_wp2_with fail
      go_ret
      exact ⟨rfl, h6.below⟩
set_option maxRecDepth 100000 in
set_option maxHeartbeats 1600000 in
theorem rssOne_b_l (k : Int) (A : Option Addr) (c : Nat) (L : List Int) (x : ByteArray) (d : Int) (n : Nat) (y S T : ByteArray) (vl X V : Int) (e1 : bits .and .i64 vl 65535 = X) (e2 : Int.tmod X 4095 = V) (E : Int) (hE : (E == 0) = false) (s : ByteArray) (es : s.extract 0 1400 = S) (hs : 1400 < s.size) (v : Nat → Int) (hv : ∀ j : Nat, 1 ≤ j → j ≤ 8 → 0 ≤ v j ∧ v j < j) (w : World)
    (AB : ∀ W, Below w.heap.size w W → Calls Try.prog 10 #[.agg #[.int .i64 k, .slice A L.length c, .string x, .int .i64 d]] W fun e w' => e = .returned (.agg #[.int .i64 k, .slice A n c, .string y, .int .i64 d]) ∧ Below W.heap.size W w')
    (A19 : ∀ W, Calls Try.prog 19 #[.string S, .int .i64 V] W fun e w' => e = .returned (.tuple #[.string T, .int .i64 E]) ∧ Below W.heap.size W w')
    (A1 : ∀ j : Nat, ∀ W, Below w.heap.size w W → Calls Try.prog 17 #[.agg #[.int .i64 k, .slice A n c, .string y, .int .i64 d], .string S, .int .i64 j] W fun e w' => e = .returned (.int .i64 (v j)) ∧ Below W.heap.size W w') :
    Calls Try.prog 5 #[.agg #[.int .i64 k, .slice A L.length c, .string x, .int .i64 d], .string s, .int .i64 vl] w fun e w' => e = .returned (.bool true) ∧ Below w.heap.size w w' := by
  have HB := Lib.hid AB
  have H19 := Lib.hid A19
  have H1 := Lib.hid A1
  have HV := Lib.hid hv
  clear AB A19 A1 hv
  have hs2 : ¬ s.size ≤ 1400 := by omega
  go_enter Try.func5, Try.ntmps5
  go_wp2_with fail
  refine (HB.out _ ((Below.refl _ _).alloc (Nat.le_refl _) _)).mono ?_
  rintro e w1 ⟨rfl, hq⟩
  have h1 := (Held.new w 24 #[.int .i64 k, .slice A L.length c, .string x, .int .i64 d]).next hq
  clear hq
  have z0 := h1.blk.frozen 0
  have z1 := h1.blk.frozen 1
  have z2 := h1.blk.frozen 2
  have z3 := h1.blk.frozen 3
  have c0 := h1.blk.cell 0
  have c1 := h1.blk.cell 1
  have c2 := h1.blk.cell 2
  have c3 := h1.blk.cell 3
  simp only [List.getElem?_toArray, List.getElem?_cons_zero, List.getElem?_cons_succ] at c0 c1 c2 c3
  have h2 := h1.set4 (.int .i64 k) (.slice A n c) (.string y) (.int .i64 d)
  obtain ⟨w2, hw2⟩ : ∃ w2, ((((w1.setCell ⟨w.heap.size, 0, none⟩ (.int .i64 k)).setCell ⟨w.heap.size, 1, none⟩ (.slice A n c)).setCell ⟨w.heap.size, 2, none⟩ (.string y)).setCell ⟨w.heap.size, 3, none⟩ (.int .i64 d)) = w2 := ⟨_, rfl⟩
  rw [hw2] at h2
  have HW := Lib.hid hw2
  clear hw2 h1
  go_wp2_with (rw [HW.out]; clear z0 z1 z2 z3 c0 c1 c2 c3 HW)
  refine (H19.out _).mono ?_
  rintro e w3 ⟨rfl, hq⟩
  have h4 := h2.next hq
  clear hq h2 e1 e2
  go_wp2_with fail
  go_loopw [9] (fun i wr => ∃ j : Nat, 1 ≤ j ∧ j ≤ 9 ∧ i = .int .i64 j ∧ Held w 24 #[.int .i64 k, .slice A n c, .string y, .int .i64 d] wr) (fun i _ => 9 - (intOf i).toNat)
  case atStart => exact ⟨1, by omega, by omega, rfl, h4⟩
  case round =>
    obtain ⟨j, hj1, hj2, rfl, h5⟩ := hrel
    clear h4
    by_cases hlt : j ≤ 8
    · have g1 : (j : Int) ≤ 8 := by omega
      have HK1 := Lib.hid (H1.out j)
      obtain ⟨g2, g3⟩ := HV.out j hj1 hlt
      generalize v j = z at *
      have c0 := h5.blk.cell 0
      have c1 := h5.blk.cell 1
      have c2 := h5.blk.cell 2
      have c3 := h5.blk.cell 3
      simp only [List.getElem?_toArray, List.getElem?_cons_zero, List.getElem?_cons_succ] at c0 c1 c2 c3
      go_wp2_with fail
      refine (HK1.out _ h5.below).mono ?_
      rintro e w6 ⟨rfl, hq⟩
      have h6 := h5.next hq
      clear hq h5 c0 c1 c2 c3
      go_wp2_with fail
      go_roundw
      case rel => exact ⟨j + 1, by omega, by omega, by go_num, h6⟩
      case measure => simp [intOf]; omega
    · have g1 : ¬ (j : Int) ≤ 8 := by omega
      go_wp2_with fail
      refine (fixed_any _).mono ?_
      rintro e w6 ⟨rfl, hq⟩
      have h6 := h5.next hq
      go_wp2_with fail
      go_ret
      exact ⟨rfl, h6.below⟩
theorem of_tagged {s : ByteArray} {n : Int} (h : tagE s n = 0) : ofV (tagT s n) = ofV s := by
  have h1 := (tag_is h).1
  obtain ⟨q1, q2⟩ := tag_parse h
  have hb : (parseF (tagT s n)).b = (parseF s).b := by rw [q2]; rfl
  have ht : (parseF (tagT s n)).t = (parseF s).t := by rw [q2]; rfl
  have ho : ofOk (tagT s n) ↔ ofOk s := by
    unfold ofOk
    rw [q1, h1, hb, ht]
  unfold ofV
  by_cases hk : ofOk s
  · rw [if_pos hk, if_pos (ho.2 hk), hb]
  · rw [if_neg hk, if_neg (fun x => hk (ho.1 x))]
theorem elemV_pos {L : List Int} (h : L.all quB = true) (x y : ByteArray) : 0 ≤ elemV L x y := by
  unfold elemV
  rw [List.getD_eq_getElem?_getD]
  by_cases hi : hashV x y % L.length < L.length
  · rw [List.getElem?_eq_getElem hi]
    have := (List.all_eq_true.1 h) _ (List.getElem_mem hi)
    simp only [quB, Bool.and_eq_true, decide_eq_true_eq] at this
    exact this.1
  · rw [List.getElem?_eq_none (by omega)]
    exact Int.le_refl 0
theorem chooseV_range (k : Int) (L : List Int) (x : ByteArray) (d : Int) (s : ByteArray) (q : Int) (h : 1 ≤ q) : 0 ≤ chooseV k L x d s q ∧ chooseV k L x d s q < q := by
  unfold chooseV
  split
  · rename_i hr
    obtain ⟨_, _, _, _, _, hd, hL⟩ := rules_parts hr.1
    have hz : 0 ≤ queueV k L x d (ofV s) := by
      unfold queueV
      split
      · exact elemV_pos hL _ _
      · split
        · exact elemV_pos hL _ _
        · simp only [quB, Bool.and_eq_true, decide_eq_true_eq] at hd
          exact hd.1
    split
    · exact ⟨hz, by assumption⟩
    · omega
  · omega
theorem chooseV_same (k : Int) (L : List Int) (x : ByteArray) (d : Int) (s t : ByteArray) (h : ofV s = ofV t) (q : Int) : chooseV k L x d s q = chooseV k L x d t q := by unfold chooseV; rw [h]
theorem one_cut (k : Int) (A : Option Addr) (c : Nat) (L : List Int) (x : ByteArray) (d : Int) (w : World) (hT : Tin A c L w) (S : ByteArray) (V : Int) (P : Prop)
    (Ha : ∀ (v : Nat → Int) (T : ByteArray), (∀ j : Nat, 1 ≤ j → j ≤ 8 → 0 ≤ v j ∧ v j < j) →
      (∀ W, Calls Try.prog 19 #[.string S, .int .i64 V] W fun e w' => e = .returned (.tuple #[.string T, .int .i64 0]) ∧ Below W.heap.size W w') →
      (∀ j : Nat, ∀ W, Below w.heap.size w W → Calls Try.prog 17 #[.agg #[.int .i64 k, .slice A (L.take 300).length c, .string (x.extract 0 60), .int .i64 d], .string S, .int .i64 j] W fun e w' => e = .returned (.int .i64 (v j)) ∧ Below W.heap.size W w') →
      (∀ j : Nat, ∀ W, Below w.heap.size w W → Calls Try.prog 17 #[.agg #[.int .i64 k, .slice A (L.take 300).length c, .string (x.extract 0 60), .int .i64 d], .string T, .int .i64 j] W fun e w' => e = .returned (.int .i64 (v j)) ∧ Below W.heap.size W w') → P)
    (Hb : ∀ (v : Nat → Int) (T : ByteArray) (E : Int), (E == 0) = false → (∀ j : Nat, 1 ≤ j → j ≤ 8 → 0 ≤ v j ∧ v j < j) →
      (∀ W, Calls Try.prog 19 #[.string S, .int .i64 V] W fun e w' => e = .returned (.tuple #[.string T, .int .i64 E]) ∧ Below W.heap.size W w') →
      (∀ j : Nat, ∀ W, Below w.heap.size w W → Calls Try.prog 17 #[.agg #[.int .i64 k, .slice A (L.take 300).length c, .string (x.extract 0 60), .int .i64 d], .string S, .int .i64 j] W fun e w' => e = .returned (.int .i64 (v j)) ∧ Below W.heap.size W w') → P) : P := by
  have C := fun (S : ByteArray) (j : Nat) W (hb : Below w.heap.size w W) => chs_any k A c (L.take 300) (x.extract 0 60) d S j W ((hT.1.take 300).below hb)
  have R : ∀ j : Nat, 1 ≤ j → j ≤ 8 → 0 ≤ chooseV k (L.take 300) (x.extract 0 60) d S j ∧ chooseV k (L.take 300) (x.extract 0 60) d S j < j := fun j h _ => chooseV_range k _ _ d S j (by omega)
  by_cases hE : tagE S V = 0
  · have A2 := C (tagT S V)
    simp only [chooseV_same k (L.take 300) (x.extract 0 60) d _ _ (of_tagged hE)] at A2
    exact Ha (fun j => chooseV k (L.take 300) (x.extract 0 60) d S j) (tagT S V) R (fun W => by have := tag_any S V W; rw [hE] at this; exact this) (C S) A2
  · exact Hb (fun j => chooseV k (L.take 300) (x.extract 0 60) d S j) (tagT S V) (tagE S V) (beq_eq_false_iff_ne.2 hE) R (fun W => tag_any S V W) (C S)
theorem rssOne_any (k : Int) (A : Option Addr) (c : Nat) (L : List Int) (x : ByteArray) (d : Int) (s : ByteArray) (vl : Int) (w : World) (hT : Tin A c L w) :
    Calls Try.prog 5 #[.agg #[.int .i64 k, .slice A L.length c, .string x, .int .i64 d], .string s, .int .i64 vl] w fun e w' => e = .returned (.bool true) ∧ Below w.heap.size w w' := by
  have AB := fun W (hb : Below w.heap.size w W) => bound_any k d A c L x W ⟨hT.1.below hb, hT.2⟩
  obtain ⟨X, _, e1⟩ := low16 vl
  obtain ⟨V, e2⟩ : ∃ V, Int.tmod X 4095 = V := ⟨_, rfl⟩
  by_cases hs : s.size ≤ 1400
  · exact one_cut k A c L x d w hT s V _
      (fun v T hv A19 A1 A2 => rssOne_a_s k A c L x d _ _ s T vl X V e1 e2 hs v hv w AB A19 A1 A2)
      (fun v T E hE hv A19 A1 => rssOne_b_s k A c L x d _ _ s T vl X V e1 e2 E hE hs v hv w AB A19 A1)
  · exact one_cut k A c L x d w hT (s.extract 0 1400) V _
      (fun v T hv A19 A1 A2 => rssOne_a_l k A c L x d _ _ _ T vl X V e1 e2 s rfl (by omega) v hv w AB A19 A1 A2)
      (fun v T E hE hv A19 A1 => rssOne_b_l k A c L x d _ _ _ T vl X V e1 e2 E hE s rfl (by omega) v hv w AB A19 A1)

set_option maxRecDepth 100000 in
theorem rssOne_lifted (os : Os) (started : os.Started) (H : Type) (enc : TypeId × Value → H) :
    ReturnsInHanded {} Try.checked os 5 .any (Rows.rssOneSpec.pre6 enc Try.prog Try.f5 Rows.rssOneRow.domain false) (Rows.rssOneSpec.post enc Try.prog Try.f5 false true false false) := by
  have e : Try.f5.params.toList = [24, 9, 3] := by rw [Try.params5]
  refine law_of_walk (C := Try.checked) (tb := 4) H enc Try.own started (by kernel_rfl) Try.func5 Try.laidOut rfl rfl Try.underlying4 ?_ ?_
    (ChangeSpec.witness6 (enc := enc) (C := Try.checked) false ⟨#[], #[.agg #[.int .i64 0, .slice none 0 0, .string ByteArray.empty, .int .i64 0], .string ByteArray.empty, .int .i64 0], []⟩ 8 (by kernel_rfl) (by kernel_rfl) (by kernel_rfl) (by kernel_rfl)) ?_
  · rw [e]
    intro t ht
    simp only [List.mem_cons, List.not_mem_nil, or_false] at ht
    rcases ht with rfl | rfl | rfl <;> exact ⟨by kernel_rfl, of_decide_eq_true (by kernel_rfl)⟩
  · intro ds hds
    rw [e] at hds
    match ds, hds with
    | [d0, d1, d2], _ => rfl
  · intro W base args ds p hval0 hA0 hsz0
    have hval : ∀ (j : Nat) t v, Try.f5.params[j]? = some t → args[j]? = some v → Value.okWide Try.prog W .any base t v := hval0
    have hA : DataW.TrodAll enc Try.prog W 0 (fun _ => true) true Try.f5.params.toList args.toList ds p := hA0
    have hsz : (DataW.weightsEach Try.prog Try.f5.params.toList ds).all (· ≤ reachBytes) = true := hsz0
    rw [Try.params5] at hA hval hsz
    obtain ⟨v0, v1, v2, d0, d1, d2, p0, p1, p2, rfl, rfl, rfl, h0, h1, h2⟩ := trodAll_three hA
    obtain ⟨k, A, c, L, x, dv, rfl, hT, hk, hd⟩ := open_rss (hval 0 24 v0 rfl rfl) h0
    obtain ⟨x1, rfl, rfl, rfl, _⟩ := open_string Try.underlying9 (hval 1 9 v1 rfl rfl) h1
    obtain ⟨x2, rfl, rfl, rfl, k2⟩ := open_int Try.underlying3 (hval 2 3 v2 rfl rfl) h2
    have i2 := bounds_i64 k2
    have s1 := sized_string hsz (j := 1) (t := 9) rfl rfl
    simp only [reachBytes] at s1
    exact rssOne_any k A c L x dv x1 x2 W hT

theorem rssOne_holds : Rows.RssOneSaid :=
  OpenClaim.holds_of_wide 5 Try.f5 rfl rfl rfl rfl rfl rfl rfl ⟨rfl, rfl, rfl, rfl, rfl⟩ rfl rfl rfl rfl rfl (by kernel_rfl) Try.func5 (by kernel_rfl)
    (of_decide_eq_true (by kernel_rfl)) (by unfold Func.isWrapper; first | (rw [if_pos (by decide +kernel)]; kernel_rfl) | (rw [if_neg (by decide +kernel)]; exact ⟨rfl, rfl⟩))
    (fun os started H enc _ => rssOne_lifted os started H enc)
end Go.Proofs.Ytpjndjmneficbaa

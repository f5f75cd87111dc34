/-
  RssSame: frames of one flow go to one queue, whatever the rules and the bytes.
-/
import Derived.Test.YtpjndjmneficbaaWfr
import Derived.Test.YtpjndjmneficbaaRch
import Derived.Test.YtpjndjmneficbaaRfx
namespace Go.Proofs.Ytpjndjmneficbaa
open Go.Joins Go.ChangeShapes Go.WideShapes Go.ChangeAt Go.RowKit Go.Deep
open Go.ChangeMaps (open_string)

set_option maxRecDepth 100000 in
set_option maxHeartbeats 1600000 in
theorem rssSame_a_ss (k : Int) (A : Option Addr) (c : Nat) (L : List Int) (x : ByteArray) (d : Int) (n : Nat) (y S T : ByteArray) (fk : Int) (fy : ByteArray) (gk : Int) (gy : ByteArray) (hs : S.size ≤ 1600) (ht : T.size ≤ 1600)  (e1 : (fk == gk) = false) (w : World)
    (AB : ∀ W, Below w.heap.size w W → Calls Try.prog 10 #[.agg #[.int .i64 k, .slice A L.length c, .string x, .int .i64 d]] W fun e w' => e = .returned (.agg #[.int .i64 k, .slice A n c, .string y, .int .i64 d]) ∧ Below W.heap.size W w')
    (AS : ∀ W, Calls Try.prog 20 #[.string S] W fun e w' => e = .returned (.agg #[.int .i64 fk, .string fy]) ∧ Below W.heap.size W w')
    (AT : ∀ W, Calls Try.prog 20 #[.string T] W fun e w' => e = .returned (.agg #[.int .i64 gk, .string gy]) ∧ Below W.heap.size W w') :
    Calls Try.prog 9 #[.agg #[.int .i64 k, .slice A L.length c, .string x, .int .i64 d], .string S, .string T] w fun e w' => e = .returned (.bool true) ∧ Below w.heap.size w w' := by
  have HB := Lib.hid AB
  have HS := Lib.hid AS
  have HT := Lib.hid AT
  clear AB AS AT
  have es : S.extract 0 S.size = S := cut_own S
  have et : T.extract 0 T.size = T := cut_own T
  go_enter Try.func9, Try.ntmps9
  go_wp2_with fail
  refine (HB.out _ ((Below.refl _ _).alloc (Nat.le_refl _) _)).mono ?_
  rintro e w1 ⟨rfl, hq⟩
  have h1 := (Held.new w 24 #[.int .i64 k, .slice A L.length c, .string x, .int .i64 d]).next hq
  clear hq
  have z0 := h1.blk.frozen 0
  have z1 := h1.blk.frozen 1
  have z2 := h1.blk.frozen 2
  have z3 := h1.blk.frozen 3
  have c0 := h1.blk.cell 0
  have c1 := h1.blk.cell 1
  have c2 := h1.blk.cell 2
  have c3 := h1.blk.cell 3
  simp only [List.getElem?_toArray, List.getElem?_cons_zero, List.getElem?_cons_succ] at c0 c1 c2 c3
  have h2 := h1.set4 (.int .i64 k) (.slice A n c) (.string y) (.int .i64 d)
  obtain ⟨w2, hw2⟩ : ∃ w2, ((((w1.setCell ⟨w.heap.size, 0, none⟩ (.int .i64 k)).setCell ⟨w.heap.size, 1, none⟩ (.slice A n c)).setCell ⟨w.heap.size, 2, none⟩ (.string y)).setCell ⟨w.heap.size, 3, none⟩ (.int .i64 d)) = w2 := ⟨_, rfl⟩
  rw [hw2] at h2
  have HW := Lib.hid hw2
  clear hw2 h1
  go_wp2_with (rw [HW.out]; clear z0 z1 z2 z3 c0 c1 c2 c3 HW)
  refine (HS.out _).mono ?_
  rintro e w3 ⟨rfl, hq⟩
  have h3 := h2.next hq
  clear hq h2
  go_wp2_with fail
  refine (HT.out _).mono ?_
  rintro e w4 ⟨rfl, hq⟩
  have h4 := h3.next hq
  clear hq h3
  go_wp2_with fail
  refine (fixed_any _).mono ?_
  rintro e w6 ⟨rfl, hq⟩
  have h6 := h4.next hq
  go_wp2_with fail
  go_ret
  exact ⟨rfl, h6.below⟩
set_option maxRecDepth 100000 in
set_option maxHeartbeats 1600000 in
theorem rssSame_a_sl (k : Int) (A : Option Addr) (c : Nat) (L : List Int) (x : ByteArray) (d : Int) (n : Nat) (y S T : ByteArray) (fk : Int) (fy : ByteArray) (gk : Int) (gy : ByteArray) (hs : S.size ≤ 1600) (t : ByteArray) (et : t.extract 0 1600 = T) (ht : 1600 < t.size)  (e1 : (fk == gk) = false) (w : World)
    (AB : ∀ W, Below w.heap.size w W → Calls Try.prog 10 #[.agg #[.int .i64 k, .slice A L.length c, .string x, .int .i64 d]] W fun e w' => e = .returned (.agg #[.int .i64 k, .slice A n c, .string y, .int .i64 d]) ∧ Below W.heap.size W w')
    (AS : ∀ W, Calls Try.prog 20 #[.string S] W fun e w' => e = .returned (.agg #[.int .i64 fk, .string fy]) ∧ Below W.heap.size W w')
    (AT : ∀ W, Calls Try.prog 20 #[.string T] W fun e w' => e = .returned (.agg #[.int .i64 gk, .string gy]) ∧ Below W.heap.size W w') :
    Calls Try.prog 9 #[.agg #[.int .i64 k, .slice A L.length c, .string x, .int .i64 d], .string S, .string t] w fun e w' => e = .returned (.bool true) ∧ Below w.heap.size w w' := by
  have HB := Lib.hid AB
  have HS := Lib.hid AS
  have HT := Lib.hid AT
  clear AB AS AT
  have es : S.extract 0 S.size = S := cut_own S
  have ht2 : ¬ t.size ≤ 1600 := by omega
  go_enter Try.func9, Try.ntmps9
  go_wp2_with fail
  refine (HB.out _ ((Below.refl _ _).alloc (Nat.le_refl _) _)).mono ?_
  rintro e w1 ⟨rfl, hq⟩
  have h1 := (Held.new w 24 #[.int .i64 k, .slice A L.length c, .string x, .int .i64 d]).next hq
  clear hq
  have z0 := h1.blk.frozen 0
  have z1 := h1.blk.frozen 1
  have z2 := h1.blk.frozen 2
  have z3 := h1.blk.frozen 3
  have c0 := h1.blk.cell 0
  have c1 := h1.blk.cell 1
  have c2 := h1.blk.cell 2
  have c3 := h1.blk.cell 3
  simp only [List.getElem?_toArray, List.getElem?_cons_zero, List.getElem?_cons_succ] at c0 c1 c2 c3
  have h2 := h1.set4 (.int .i64 k) (.slice A n c) (.string y) (.int .i64 d)
  obtain ⟨w2, hw2⟩ : ∃ w2, ((((w1.setCell ⟨w.heap.size, 0, none⟩ (.int .i64 k)).setCell ⟨w.heap.size, 1, none⟩ (.slice A n c)).setCell ⟨w.heap.size, 2, none⟩ (.string y)).setCell ⟨w.heap.size, 3, none⟩ (.int .i64 d)) = w2 := ⟨_, rfl⟩
  rw [hw2] at h2
  have HW := Lib.hid hw2
  clear hw2 h1
  go_wp2_with (rw [HW.out]; clear z0 z1 z2 z3 c0 c1 c2 c3 HW)
  refine (HS.out _).mono ?_
  rintro e w3 ⟨rfl, hq⟩
  have h3 := h2.next hq
  clear hq h2
  go_wp2_with fail
  refine (HT.out _).mono ?_
  rintro e w4 ⟨rfl, hq⟩
  have h4 := h3.next hq
  clear hq h3
  go_wp2_with fail
  refine (fixed_any _).mono ?_
  rintro e w6 ⟨rfl, hq⟩
  have h6 := h4.next hq
  go_wp2_with fail
  go_ret
  exact ⟨rfl, h6.below⟩
set_option maxRecDepth 100000 in
set_option maxHeartbeats 1600000 in
theorem rssSame_a_ls (k : Int) (A : Option Addr) (c : Nat) (L : List Int) (x : ByteArray) (d : Int) (n : Nat) (y S T : ByteArray) (fk : Int) (fy : ByteArray) (gk : Int) (gy : ByteArray) (s : ByteArray) (es : s.extract 0 1600 = S) (hs : 1600 < s.size) (ht : T.size ≤ 1600)  (e1 : (fk == gk) = false) (w : World)
    (AB : ∀ W, Below w.heap.size w W → Calls Try.prog 10 #[.agg #[.int .i64 k, .slice A L.length c, .string x, .int .i64 d]] W fun e w' => e = .returned (.agg #[.int .i64 k, .slice A n c, .string y, .int .i64 d]) ∧ Below W.heap.size W w')
    (AS : ∀ W, Calls Try.prog 20 #[.string S] W fun e w' => e = .returned (.agg #[.int .i64 fk, .string fy]) ∧ Below W.heap.size W w')
    (AT : ∀ W, Calls Try.prog 20 #[.string T] W fun e w' => e = .returned (.agg #[.int .i64 gk, .string gy]) ∧ Below W.heap.size W w') :
    Calls Try.prog 9 #[.agg #[.int .i64 k, .slice A L.length c, .string x, .int .i64 d], .string s, .string T] w fun e w' => e = .returned (.bool true) ∧ Below w.heap.size w w' := by
  have HB := Lib.hid AB
  have HS := Lib.hid AS
  have HT := Lib.hid AT
  clear AB AS AT
  have hs2 : ¬ s.size ≤ 1600 := by omega
  have et : T.extract 0 T.size = T := cut_own T
  go_enter Try.func9, Try.ntmps9
  go_wp2_with fail
  refine (HB.out _ ((Below.refl _ _).alloc (Nat.le_refl _) _)).mono ?_
  rintro e w1 ⟨rfl, hq⟩
  have h1 := (Held.new w 24 #[.int .i64 k, .slice A L.length c, .string x, .int .i64 d]).next hq
  clear hq
  have z0 := h1.blk.frozen 0
  have z1 := h1.blk.frozen 1
  have z2 := h1.blk.frozen 2
  have z3 := h1.blk.frozen 3
  have c0 := h1.blk.cell 0
  have c1 := h1.blk.cell 1
  have c2 := h1.blk.cell 2
  have c3 := h1.blk.cell 3
  simp only [List.getElem?_toArray, List.getElem?_cons_zero, List.getElem?_cons_succ] at c0 c1 c2 c3
  have h2 := h1.set4 (.int .i64 k) (.slice A n c) (.string y) (.int .i64 d)
  obtain ⟨w2, hw2⟩ : ∃ w2, ((((w1.setCell ⟨w.heap.size, 0, none⟩ (.int .i64 k)).setCell ⟨w.heap.size, 1, none⟩ (.slice A n c)).setCell ⟨w.heap.size, 2, none⟩ (.string y)).setCell ⟨w.heap.size, 3, none⟩ (.int .i64 d)) = w2 := ⟨_, rfl⟩
  rw [hw2] at h2
  have HW := Lib.hid hw2
  clear hw2 h1
  go_wp2_with (rw [HW.out]; clear z0 z1 z2 z3 c0 c1 c2 c3 HW)
  refine (HS.out _).mono ?_
  rintro e w3 ⟨rfl, hq⟩
  have h3 := h2.next hq
  clear hq h2
  go_wp2_with fail
  refine (HT.out _).mono ?_
  rintro e w4 ⟨rfl, hq⟩
  have h4 := h3.next hq
  clear hq h3
  go_wp2_with fail
  refine (fixed_any _).mono ?_
  rintro e w6 ⟨rfl, hq⟩
  have h6 := h4.next hq
  go_wp2_with fail
  go_ret
  exact ⟨rfl, h6.below⟩
set_option maxRecDepth 100000 in
set_option maxHeartbeats 1600000 in
theorem rssSame_a_ll (k : Int) (A : Option Addr) (c : Nat) (L : List Int) (x : ByteArray) (d : Int) (n : Nat) (y S T : ByteArray) (fk : Int) (fy : ByteArray) (gk : Int) (gy : ByteArray) (s : ByteArray) (es : s.extract 0 1600 = S) (hs : 1600 < s.size) (t : ByteArray) (et : t.extract 0 1600 = T) (ht : 1600 < t.size)  (e1 : (fk == gk) = false) (w : World)
    (AB : ∀ W, Below w.heap.size w W → Calls Try.prog 10 #[.agg #[.int .i64 k, .slice A L.length c, .string x, .int .i64 d]] W fun e w' => e = .returned (.agg #[.int .i64 k, .slice A n c, .string y, .int .i64 d]) ∧ Below W.heap.size W w')
    (AS : ∀ W, Calls Try.prog 20 #[.string S] W fun e w' => e = .returned (.agg #[.int .i64 fk, .string fy]) ∧ Below W.heap.size W w')
    (AT : ∀ W, Calls Try.prog 20 #[.string T] W fun e w' => e = .returned (.agg #[.int .i64 gk, .string gy]) ∧ Below W.heap.size W w') :
    Calls Try.prog 9 #[.agg #[.int .i64 k, .slice A L.length c, .string x, .int .i64 d], .string s, .string t] w fun e w' => e = .returned (.bool true) ∧ Below w.heap.size w w' := by
  have HB := Lib.hid AB
  have HS := Lib.hid AS
  have HT := Lib.hid AT
  clear AB AS AT
  have hs2 : ¬ s.size ≤ 1600 := by omega
  have ht2 : ¬ t.size ≤ 1600 := by omega
  go_enter Try.func9, Try.ntmps9
  go_wp2_with fail
  refine (HB.out _ ((Below.refl _ _).alloc (Nat.le_refl _) _)).mono ?_
  rintro e w1 ⟨rfl, hq⟩
  have h1 := (Held.new w 24 #[.int .i64 k, .slice A L.length c, .string x, .int .i64 d]).next hq
  clear hq
  have z0 := h1.blk.frozen 0
  have z1 := h1.blk.frozen 1
  have z2 := h1.blk.frozen 2
  have z3 := h1.blk.frozen 3
  have c0 := h1.blk.cell 0
  have c1 := h1.blk.cell 1
  have c2 := h1.blk.cell 2
  have c3 := h1.blk.cell 3
  simp only [List.getElem?_toArray, List.getElem?_cons_zero, List.getElem?_cons_succ] at c0 c1 c2 c3
  have h2 := h1.set4 (.int .i64 k) (.slice A n c) (.string y) (.int .i64 d)
  obtain ⟨w2, hw2⟩ : ∃ w2, ((((w1.setCell ⟨w.heap.size, 0, none⟩ (.int .i64 k)).setCell ⟨w.heap.size, 1, none⟩ (.slice A n c)).setCell ⟨w.heap.size, 2, none⟩ (.string y)).setCell ⟨w.heap.size, 3, none⟩ (.int .i64 d)) = w2 := ⟨_, rfl⟩
  rw [hw2] at h2
  have HW := Lib.hid hw2
  clear hw2 h1
  go_wp2_with (rw [HW.out]; clear z0 z1 z2 z3 c0 c1 c2 c3 HW)
  refine (HS.out _).mono ?_
  rintro e w3 ⟨rfl, hq⟩
  have h3 := h2.next hq
  clear hq h2
  go_wp2_with fail
  refine (HT.out _).mono ?_
  rintro e w4 ⟨rfl, hq⟩
  have h4 := h3.next hq
  clear hq h3
  go_wp2_with fail
  refine (fixed_any _).mono ?_
  rintro e w6 ⟨rfl, hq⟩
  have h6 := h4.next hq
  go_wp2_with fail
  go_ret
  exact ⟨rfl, h6.below⟩
set_option maxRecDepth 100000 in
set_option maxHeartbeats 1600000 in
theorem rssSame_b_ss (k : Int) (A : Option Addr) (c : Nat) (L : List Int) (x : ByteArray) (d : Int) (n : Nat) (y S T : ByteArray) (fk : Int) (fy : ByteArray) (gy : ByteArray) (hs : S.size ≤ 1600) (ht : T.size ≤ 1600)  (e1 : (fy.toList == gy.toList) = false) (w : World)
    (AB : ∀ W, Below w.heap.size w W → Calls Try.prog 10 #[.agg #[.int .i64 k, .slice A L.length c, .string x, .int .i64 d]] W fun e w' => e = .returned (.agg #[.int .i64 k, .slice A n c, .string y, .int .i64 d]) ∧ Below W.heap.size W w')
    (AS : ∀ W, Calls Try.prog 20 #[.string S] W fun e w' => e = .returned (.agg #[.int .i64 fk, .string fy]) ∧ Below W.heap.size W w')
    (AT : ∀ W, Calls Try.prog 20 #[.string T] W fun e w' => e = .returned (.agg #[.int .i64 fk, .string gy]) ∧ Below W.heap.size W w') :
    Calls Try.prog 9 #[.agg #[.int .i64 k, .slice A L.length c, .string x, .int .i64 d], .string S, .string T] w fun e w' => e = .returned (.bool true) ∧ Below w.heap.size w w' := by
  have HB := Lib.hid AB
  have HS := Lib.hid AS
  have HT := Lib.hid AT
  clear AB AS AT
  have es : S.extract 0 S.size = S := cut_own S
  have et : T.extract 0 T.size = T := cut_own T
  go_enter Try.func9, Try.ntmps9
  go_wp2_with fail
  refine (HB.out _ ((Below.refl _ _).alloc (Nat.le_refl _) _)).mono ?_
  rintro e w1 ⟨rfl, hq⟩
  have h1 := (Held.new w 24 #[.int .i64 k, .slice A L.length c, .string x, .int .i64 d]).next hq
  clear hq
  have z0 := h1.blk.frozen 0
  have z1 := h1.blk.frozen 1
  have z2 := h1.blk.frozen 2
  have z3 := h1.blk.frozen 3
  have c0 := h1.blk.cell 0
  have c1 := h1.blk.cell 1
  have c2 := h1.blk.cell 2
  have c3 := h1.blk.cell 3
  simp only [List.getElem?_toArray, List.getElem?_cons_zero, List.getElem?_cons_succ] at c0 c1 c2 c3
  have h2 := h1.set4 (.int .i64 k) (.slice A n c) (.string y) (.int .i64 d)
  obtain ⟨w2, hw2⟩ : ∃ w2, ((((w1.setCell ⟨w.heap.size, 0, none⟩ (.int .i64 k)).setCell ⟨w.heap.size, 1, none⟩ (.slice A n c)).setCell ⟨w.heap.size, 2, none⟩ (.string y)).setCell ⟨w.heap.size, 3, none⟩ (.int .i64 d)) = w2 := ⟨_, rfl⟩
  rw [hw2] at h2
  have HW := Lib.hid hw2
  clear hw2 h1
  go_wp2_with (rw [HW.out]; clear z0 z1 z2 z3 c0 c1 c2 c3 HW)
  refine (HS.out _).mono ?_
  rintro e w3 ⟨rfl, hq⟩
  have h3 := h2.next hq
  clear hq h2
  go_wp2_with fail
  refine (HT.out _).mono ?_
  rintro e w4 ⟨rfl, hq⟩
  have h4 := h3.next hq
  clear hq h3
  go_wp2_with fail
  refine (fixed_any _).mono ?_
  rintro e w6 ⟨rfl, hq⟩
  have h6 := h4.next hq
  go_wp2_with fail
  go_ret
  exact ⟨rfl, h6.below⟩
set_option maxRecDepth 100000 in
set_option maxHeartbeats 1600000 in
theorem rssSame_b_sl (k : Int) (A : Option Addr) (c : Nat) (L : List Int) (x : ByteArray) (d : Int) (n : Nat) (y S T : ByteArray) (fk : Int) (fy : ByteArray) (gy : ByteArray) (hs : S.size ≤ 1600) (t : ByteArray) (et : t.extract 0 1600 = T) (ht : 1600 < t.size)  (e1 : (fy.toList == gy.toList) = false) (w : World)
    (AB : ∀ W, Below w.heap.size w W → Calls Try.prog 10 #[.agg #[.int .i64 k, .slice A L.length c, .string x, .int .i64 d]] W fun e w' => e = .returned (.agg #[.int .i64 k, .slice A n c, .string y, .int .i64 d]) ∧ Below W.heap.size W w')
    (AS : ∀ W, Calls Try.prog 20 #[.string S] W fun e w' => e = .returned (.agg #[.int .i64 fk, .string fy]) ∧ Below W.heap.size W w')
    (AT : ∀ W, Calls Try.prog 20 #[.string T] W fun e w' => e = .returned (.agg #[.int .i64 fk, .string gy]) ∧ Below W.heap.size W w') :
    Calls Try.prog 9 #[.agg #[.int .i64 k, .slice A L.length c, .string x, .int .i64 d], .string S, .string t] w fun e w' => e = .returned (.bool true) ∧ Below w.heap.size w w' := by
  have HB := Lib.hid AB
  have HS := Lib.hid AS
  have HT := Lib.hid AT
  clear AB AS AT
  have es : S.extract 0 S.size = S := cut_own S
  have ht2 : ¬ t.size ≤ 1600 := by omega
  go_enter Try.func9, Try.ntmps9
  go_wp2_with fail
  refine (HB.out _ ((Below.refl _ _).alloc (Nat.le_refl _) _)).mono ?_
  rintro e w1 ⟨rfl, hq⟩
  have h1 := (Held.new w 24 #[.int .i64 k, .slice A L.length c, .string x, .int .i64 d]).next hq
  clear hq
  have z0 := h1.blk.frozen 0
  have z1 := h1.blk.frozen 1
  have z2 := h1.blk.frozen 2
  have z3 := h1.blk.frozen 3
  have c0 := h1.blk.cell 0
  have c1 := h1.blk.cell 1
  have c2 := h1.blk.cell 2
  have c3 := h1.blk.cell 3
  simp only [List.getElem?_toArray, List.getElem?_cons_zero, List.getElem?_cons_succ] at c0 c1 c2 c3
  have h2 := h1.set4 (.int .i64 k) (.slice A n c) (.string y) (.int .i64 d)
  obtain ⟨w2, hw2⟩ : ∃ w2, ((((w1.setCell ⟨w.heap.size, 0, none⟩ (.int .i64 k)).setCell ⟨w.heap.size, 1, none⟩ (.slice A n c)).setCell ⟨w.heap.size, 2, none⟩ (.string y)).setCell ⟨w.heap.size, 3, none⟩ (.int .i64 d)) = w2 := ⟨_, rfl⟩
  rw [hw2] at h2
  have HW := Lib.hid hw2
  clear hw2 h1
  go_wp2_with (rw [HW.out]; clear z0 z1 z2 z3 c0 c1 c2 c3 HW)
  refine (HS.out _).mono ?_
  rintro e w3 ⟨rfl, hq⟩
  have h3 := h2.next hq
  clear hq h2
  go_wp2_with fail
  refine (HT.out _).mono ?_
  rintro e w4 ⟨rfl, hq⟩
  have h4 := h3.next hq
  clear hq h3
  go_wp2_with fail
  refine (fixed_any _).mono ?_
  rintro e w6 ⟨rfl, hq⟩
  have h6 := h4.next hq
  go_wp2_with fail
  go_ret
  exact ⟨rfl, h6.below⟩
set_option maxRecDepth 100000 in
set_option maxHeartbeats 1600000 in
theorem rssSame_b_ls (k : Int) (A : Option Addr) (c : Nat) (L : List Int) (x : ByteArray) (d : Int) (n : Nat) (y S T : ByteArray) (fk : Int) (fy : ByteArray) (gy : ByteArray) (s : ByteArray) (es : s.extract 0 1600 = S) (hs : 1600 < s.size) (ht : T.size ≤ 1600)  (e1 : (fy.toList == gy.toList) = false) (w : World)
    (AB : ∀ W, Below w.heap.size w W → Calls Try.prog 10 #[.agg #[.int .i64 k, .slice A L.length c, .string x, .int .i64 d]] W fun e w' => e = .returned (.agg #[.int .i64 k, .slice A n c, .string y, .int .i64 d]) ∧ Below W.heap.size W w')
    (AS : ∀ W, Calls Try.prog 20 #[.string S] W fun e w' => e = .returned (.agg #[.int .i64 fk, .string fy]) ∧ Below W.heap.size W w')
    (AT : ∀ W, Calls Try.prog 20 #[.string T] W fun e w' => e = .returned (.agg #[.int .i64 fk, .string gy]) ∧ Below W.heap.size W w') :
    Calls Try.prog 9 #[.agg #[.int .i64 k, .slice A L.length c, .string x, .int .i64 d], .string s, .string T] w fun e w' => e = .returned (.bool true) ∧ Below w.heap.size w w' := by
  have HB := Lib.hid AB
  have HS := Lib.hid AS
  have HT := Lib.hid AT
  clear AB AS AT
  have hs2 : ¬ s.size ≤ 1600 := by omega
  have et : T.extract 0 T.size = T := cut_own T
  go_enter Try.func9, Try.ntmps9
  go_wp2_with fail
  refine (HB.out _ ((Below.refl _ _).alloc (Nat.le_refl _) _)).mono ?_
  rintro e w1 ⟨rfl, hq⟩
  have h1 := (Held.new w 24 #[.int .i64 k, .slice A L.length c, .string x, .int .i64 d]).next hq
  clear hq
  have z0 := h1.blk.frozen 0
  have z1 := h1.blk.frozen 1
  have z2 := h1.blk.frozen 2
  have z3 := h1.blk.frozen 3
  have c0 := h1.blk.cell 0
  have c1 := h1.blk.cell 1
  have c2 := h1.blk.cell 2
  have c3 := h1.blk.cell 3
  simp only [List.getElem?_toArray, List.getElem?_cons_zero, List.getElem?_cons_succ] at c0 c1 c2 c3
  have h2 := h1.set4 (.int .i64 k) (.slice A n c) (.string y) (.int .i64 d)
  obtain ⟨w2, hw2⟩ : ∃ w2, ((((w1.setCell ⟨w.heap.size, 0, none⟩ (.int .i64 k)).setCell ⟨w.heap.size, 1, none⟩ (.slice A n c)).setCell ⟨w.heap.size, 2, none⟩ (.string y)).setCell ⟨w.heap.size, 3, none⟩ (.int .i64 d)) = w2 := ⟨_, rfl⟩
  rw [hw2] at h2
  have HW := Lib.hid hw2
  clear hw2 h1
  go_wp2_with (rw [HW.out]; clear z0 z1 z2 z3 c0 c1 c2 c3 HW)
  refine (HS.out _).mono ?_
  rintro e w3 ⟨rfl, hq⟩
  have h3 := h2.next hq
  clear hq h2
  go_wp2_with fail
  refine (HT.out _).mono ?_
  rintro e w4 ⟨rfl, hq⟩
  have h4 := h3.next hq
  clear hq h3
  go_wp2_with fail
  refine (fixed_any _).mono ?_
  rintro e w6 ⟨rfl, hq⟩
  have h6 := h4.next hq
  go_wp2_with fail
  go_ret
  exact ⟨rfl, h6.below⟩
set_option maxRecDepth 100000 in
set_option maxHeartbeats 1600000 in
theorem rssSame_b_ll (k : Int) (A : Option Addr) (c : Nat) (L : List Int) (x : ByteArray) (d : Int) (n : Nat) (y S T : ByteArray) (fk : Int) (fy : ByteArray) (gy : ByteArray) (s : ByteArray) (es : s.extract 0 1600 = S) (hs : 1600 < s.size) (t : ByteArray) (et : t.extract 0 1600 = T) (ht : 1600 < t.size)  (e1 : (fy.toList == gy.toList) = false) (w : World)
    (AB : ∀ W, Below w.heap.size w W → Calls Try.prog 10 #[.agg #[.int .i64 k, .slice A L.length c, .string x, .int .i64 d]] W fun e w' => e = .returned (.agg #[.int .i64 k, .slice A n c, .string y, .int .i64 d]) ∧ Below W.heap.size W w')
    (AS : ∀ W, Calls Try.prog 20 #[.string S] W fun e w' => e = .returned (.agg #[.int .i64 fk, .string fy]) ∧ Below W.heap.size W w')
    (AT : ∀ W, Calls Try.prog 20 #[.string T] W fun e w' => e = .returned (.agg #[.int .i64 fk, .string gy]) ∧ Below W.heap.size W w') :
    Calls Try.prog 9 #[.agg #[.int .i64 k, .slice A L.length c, .string x, .int .i64 d], .string s, .string t] w fun e w' => e = .returned (.bool true) ∧ Below w.heap.size w w' := by
  have HB := Lib.hid AB
  have HS := Lib.hid AS
  have HT := Lib.hid AT
  clear AB AS AT
  have hs2 : ¬ s.size ≤ 1600 := by omega
  have ht2 : ¬ t.size ≤ 1600 := by omega
  go_enter Try.func9, Try.ntmps9
  go_wp2_with fail
  refine (HB.out _ ((Below.refl _ _).alloc (Nat.le_refl _) _)).mono ?_
  rintro e w1 ⟨rfl, hq⟩
  have h1 := (Held.new w 24 #[.int .i64 k, .slice A L.length c, .string x, .int .i64 d]).next hq
  clear hq
  have z0 := h1.blk.frozen 0
  have z1 := h1.blk.frozen 1
  have z2 := h1.blk.frozen 2
  have z3 := h1.blk.frozen 3
  have c0 := h1.blk.cell 0
  have c1 := h1.blk.cell 1
  have c2 := h1.blk.cell 2
  have c3 := h1.blk.cell 3
  simp only [List.getElem?_toArray, List.getElem?_cons_zero, List.getElem?_cons_succ] at c0 c1 c2 c3
  have h2 := h1.set4 (.int .i64 k) (.slice A n c) (.string y) (.int .i64 d)
  obtain ⟨w2, hw2⟩ : ∃ w2, ((((w1.setCell ⟨w.heap.size, 0, none⟩ (.int .i64 k)).setCell ⟨w.heap.size, 1, none⟩ (.slice A n c)).setCell ⟨w.heap.size, 2, none⟩ (.string y)).setCell ⟨w.heap.size, 3, none⟩ (.int .i64 d)) = w2 := ⟨_, rfl⟩
  rw [hw2] at h2
  have HW := Lib.hid hw2
  clear hw2 h1
  go_wp2_with (rw [HW.out]; clear z0 z1 z2 z3 c0 c1 c2 c3 HW)
  refine (HS.out _).mono ?_
  rintro e w3 ⟨rfl, hq⟩
  have h3 := h2.next hq
  clear hq h2
  go_wp2_with fail
  refine (HT.out _).mono ?_
  rintro e w4 ⟨rfl, hq⟩
  have h4 := h3.next hq
  clear hq h3
  go_wp2_with fail
  refine (fixed_any _).mono ?_
  rintro e w6 ⟨rfl, hq⟩
  have h6 := h4.next hq
  go_wp2_with fail
  go_ret
  exact ⟨rfl, h6.below⟩
set_option maxRecDepth 100000 in
set_option maxHeartbeats 1600000 in
theorem rssSame_c_ss (k : Int) (A : Option Addr) (c : Nat) (L : List Int) (x : ByteArray) (d : Int) (n : Nat) (y S T : ByteArray) (fk : Int) (fy : ByteArray) (hs : S.size ≤ 1600) (ht : T.size ≤ 1600)  (v : Nat → Int)  (w : World)
    (AB : ∀ W, Below w.heap.size w W → Calls Try.prog 10 #[.agg #[.int .i64 k, .slice A L.length c, .string x, .int .i64 d]] W fun e w' => e = .returned (.agg #[.int .i64 k, .slice A n c, .string y, .int .i64 d]) ∧ Below W.heap.size W w')
    (AS : ∀ W, Calls Try.prog 20 #[.string S] W fun e w' => e = .returned (.agg #[.int .i64 fk, .string fy]) ∧ Below W.heap.size W w')
    (AT : ∀ W, Calls Try.prog 20 #[.string T] W fun e w' => e = .returned (.agg #[.int .i64 fk, .string fy]) ∧ Below W.heap.size W w')
    (A1 : ∀ j : Nat, ∀ W, Below w.heap.size w W → Calls Try.prog 17 #[.agg #[.int .i64 k, .slice A n c, .string y, .int .i64 d], .string S, .int .i64 j] W fun e w' => e = .returned (.int .i64 (v j)) ∧ Below W.heap.size W w')
    (A2 : ∀ j : Nat, ∀ W, Below w.heap.size w W → Calls Try.prog 17 #[.agg #[.int .i64 k, .slice A n c, .string y, .int .i64 d], .string T, .int .i64 j] W fun e w' => e = .returned (.int .i64 (v j)) ∧ Below W.heap.size W w') :
    Calls Try.prog 9 #[.agg #[.int .i64 k, .slice A L.length c, .string x, .int .i64 d], .string S, .string T] w fun e w' => e = .returned (.bool true) ∧ Below w.heap.size w w' := by
  have HB := Lib.hid AB
  have HS := Lib.hid AS
  have HT := Lib.hid AT
  have H1 := Lib.hid A1
  have H2 := Lib.hid A2
  clear A1 A2
  clear AB AS AT
  have es : S.extract 0 S.size = S := cut_own S
  have et : T.extract 0 T.size = T := cut_own T
  go_enter Try.func9, Try.ntmps9
  go_wp2_with fail
  refine (HB.out _ ((Below.refl _ _).alloc (Nat.le_refl _) _)).mono ?_
  rintro e w1 ⟨rfl, hq⟩
  have h1 := (Held.new w 24 #[.int .i64 k, .slice A L.length c, .string x, .int .i64 d]).next hq
  clear hq
  have z0 := h1.blk.frozen 0
  have z1 := h1.blk.frozen 1
  have z2 := h1.blk.frozen 2
  have z3 := h1.blk.frozen 3
  have c0 := h1.blk.cell 0
  have c1 := h1.blk.cell 1
  have c2 := h1.blk.cell 2
  have c3 := h1.blk.cell 3
  simp only [List.getElem?_toArray, List.getElem?_cons_zero, List.getElem?_cons_succ] at c0 c1 c2 c3
  have h2 := h1.set4 (.int .i64 k) (.slice A n c) (.string y) (.int .i64 d)
  obtain ⟨w2, hw2⟩ : ∃ w2, ((((w1.setCell ⟨w.heap.size, 0, none⟩ (.int .i64 k)).setCell ⟨w.heap.size, 1, none⟩ (.slice A n c)).setCell ⟨w.heap.size, 2, none⟩ (.string y)).setCell ⟨w.heap.size, 3, none⟩ (.int .i64 d)) = w2 := ⟨_, rfl⟩
  rw [hw2] at h2
  have HW := Lib.hid hw2
  clear hw2 h1
  go_wp2_with (rw [HW.out]; clear z0 z1 z2 z3 c0 c1 c2 c3 HW)
  refine (HS.out _).mono ?_
  rintro e w3 ⟨rfl, hq⟩
  have h3 := h2.next hq
  clear hq h2
  go_wp2_with fail
  refine (HT.out _).mono ?_
  rintro e w4 ⟨rfl, hq⟩
  have h4 := h3.next hq
  clear hq h3
  go_wp2_with fail
  go_loopw [7] (fun i wr => ∃ j : Nat, 1 ≤ j ∧ j ≤ 9 ∧ i = .int .i64 j ∧ Held w 24 #[.int .i64 k, .slice A n c, .string y, .int .i64 d] wr) (fun i _ => 9 - (intOf i).toNat)
  case atStart => exact ⟨1, by omega, by omega, rfl, h4⟩
  case round =>
    obtain ⟨j, hj1, hj2, rfl, h5⟩ := hrel
    by_cases hlt : j ≤ 8
    · have g1 : (j : Int) ≤ 8 := by omega
      have HK1 := Lib.hid (H1.out j)
      have HK2 := Lib.hid (H2.out j)
      generalize v j = z at HK1 HK2
      go_wp2_with fail
      have q0 := ru_str h5.drew
      go_region_held (fun w' => (w'.cell? ⟨w.heap.size, 0, none⟩ = some (.int .i64 k) ∧ w'.cell? ⟨w.heap.size, 1, none⟩ = some (.slice A n c) ∧ w'.cell? ⟨w.heap.size, 2, none⟩ = some (.string y) ∧ w'.cell? ⟨w.heap.size, 3, none⟩ = some (.int .i64 d)) ∧ Held w 24 #[.int .i64 k, .slice A n c, .string y, .int .i64 d] w')
        (first | exact q0 | assumption | exact ru_on (by assumption) hq)
        (first
          | (go_at_call 17; ((with_reducible refine (HK1.out _ (ru_below (by assumption))).mono ?_); rintro e w' ⟨rfl, hq⟩))
          | (go_at_call 17; ((with_reducible refine (HK2.out _ (ru_below (by assumption))).mono ?_); rintro e w' ⟨rfl, hq⟩)))
      all_goals
        rename_i hH
        have h7 := hH.2
        clear hH
        go_wp2
        go_roundw
        case rel => exact ⟨j + 1, by omega, by omega, by go_num, h7⟩
        case measure => simp [intOf]; omega
    · have g1 : ¬ (j : Int) ≤ 8 := by omega
      go_wp2_with fail
      refine (fixed_any _).mono ?_
      rintro e w6 ⟨rfl, hq⟩
      have h6 := h5.next hq
      go_wp2_with fail
      go_ret
      exact ⟨rfl, h6.below⟩
set_option maxRecDepth 100000 in
set_option maxHeartbeats 1600000 in
theorem rssSame_c_sl (k : Int) (A : Option Addr) (c : Nat) (L : List Int) (x : ByteArray) (d : Int) (n : Nat) (y S T : ByteArray) (fk : Int) (fy : ByteArray) (hs : S.size ≤ 1600) (t : ByteArray) (et : t.extract 0 1600 = T) (ht : 1600 < t.size)  (v : Nat → Int)  (w : World)
    (AB : ∀ W, Below w.heap.size w W → Calls Try.prog 10 #[.agg #[.int .i64 k, .slice A L.length c, .string x, .int .i64 d]] W fun e w' => e = .returned (.agg #[.int .i64 k, .slice A n c, .string y, .int .i64 d]) ∧ Below W.heap.size W w')
    (AS : ∀ W, Calls Try.prog 20 #[.string S] W fun e w' => e = .returned (.agg #[.int .i64 fk, .string fy]) ∧ Below W.heap.size W w')
    (AT : ∀ W, Calls Try.prog 20 #[.string T] W fun e w' => e = .returned (.agg #[.int .i64 fk, .string fy]) ∧ Below W.heap.size W w')
    (A1 : ∀ j : Nat, ∀ W, Below w.heap.size w W → Calls Try.prog 17 #[.agg #[.int .i64 k, .slice A n c, .string y, .int .i64 d], .string S, .int .i64 j] W fun e w' => e = .returned (.int .i64 (v j)) ∧ Below W.heap.size W w')
    (A2 : ∀ j : Nat, ∀ W, Below w.heap.size w W → Calls Try.prog 17 #[.agg #[.int .i64 k, .slice A n c, .string y, .int .i64 d], .string T, .int .i64 j] W fun e w' => e = .returned (.int .i64 (v j)) ∧ Below W.heap.size W w') :
    Calls Try.prog 9 #[.agg #[.int .i64 k, .slice A L.length c, .string x, .int .i64 d], .string S, .string t] w fun e w' => e = .returned (.bool true) ∧ Below w.heap.size w w' := by
  have HB := Lib.hid AB
  have HS := Lib.hid AS
  have HT := Lib.hid AT
  have H1 := Lib.hid A1
  have H2 := Lib.hid A2
  clear A1 A2
  clear AB AS AT
  have es : S.extract 0 S.size = S := cut_own S
  have ht2 : ¬ t.size ≤ 1600 := by omega
  go_enter Try.func9, Try.ntmps9
  go_wp2_with fail
  refine (HB.out _ ((Below.refl _ _).alloc (Nat.le_refl _) _)).mono ?_
  rintro e w1 ⟨rfl, hq⟩
  have h1 := (Held.new w 24 #[.int .i64 k, .slice A L.length c, .string x, .int .i64 d]).next hq
  clear hq
  have z0 := h1.blk.frozen 0
  have z1 := h1.blk.frozen 1
  have z2 := h1.blk.frozen 2
  have z3 := h1.blk.frozen 3
  have c0 := h1.blk.cell 0
  have c1 := h1.blk.cell 1
  have c2 := h1.blk.cell 2
  have c3 := h1.blk.cell 3
  simp only [List.getElem?_toArray, List.getElem?_cons_zero, List.getElem?_cons_succ] at c0 c1 c2 c3
  have h2 := h1.set4 (.int .i64 k) (.slice A n c) (.string y) (.int .i64 d)
  obtain ⟨w2, hw2⟩ : ∃ w2, ((((w1.setCell ⟨w.heap.size, 0, none⟩ (.int .i64 k)).setCell ⟨w.heap.size, 1, none⟩ (.slice A n c)).setCell ⟨w.heap.size, 2, none⟩ (.string y)).setCell ⟨w.heap.size, 3, none⟩ (.int .i64 d)) = w2 := ⟨_, rfl⟩
  rw [hw2] at h2
  have HW := Lib.hid hw2
  clear hw2 h1
  go_wp2_with (rw [HW.out]; clear z0 z1 z2 z3 c0 c1 c2 c3 HW)
  refine (HS.out _).mono ?_
  rintro e w3 ⟨rfl, hq⟩
  have h3 := h2.next hq
  clear hq h2
  go_wp2_with fail
  refine (HT.out _).mono ?_
  rintro e w4 ⟨rfl, hq⟩
  have h4 := h3.next hq
  clear hq h3
  go_wp2_with fail
  go_loopw [7] (fun i wr => ∃ j : Nat, 1 ≤ j ∧ j ≤ 9 ∧ i = .int .i64 j ∧ Held w 24 #[.int .i64 k, .slice A n c, .string y, .int .i64 d] wr) (fun i _ => 9 - (intOf i).toNat)
  case atStart => exact ⟨1, by omega, by omega, rfl, h4⟩
  case round =>
    obtain ⟨j, hj1, hj2, rfl, h5⟩ := hrel
    by_cases hlt : j ≤ 8
    · have g1 : (j : Int) ≤ 8 := by omega
      have HK1 := Lib.hid (H1.out j)
      have HK2 := Lib.hid (H2.out j)
      generalize v j = z at HK1 HK2
      go_wp2_with fail
      have q0 := ru_str h5.drew
      go_region_held (fun w' => (w'.cell? ⟨w.heap.size, 0, none⟩ = some (.int .i64 k) ∧ w'.cell? ⟨w.heap.size, 1, none⟩ = some (.slice A n c) ∧ w'.cell? ⟨w.heap.size, 2, none⟩ = some (.string y) ∧ w'.cell? ⟨w.heap.size, 3, none⟩ = some (.int .i64 d)) ∧ Held w 24 #[.int .i64 k, .slice A n c, .string y, .int .i64 d] w')
        (first | exact q0 | assumption | exact ru_on (by assumption) hq)
        (first
          | (go_at_call 17; ((with_reducible refine (HK1.out _ (ru_below (by assumption))).mono ?_); rintro e w' ⟨rfl, hq⟩))
          | (go_at_call 17; ((with_reducible refine (HK2.out _ (ru_below (by assumption))).mono ?_); rintro e w' ⟨rfl, hq⟩)))
      all_goals
        rename_i hH
        have h7 := hH.2
        clear hH
        go_wp2
        go_roundw
        case rel => exact ⟨j + 1, by omega, by omega, by go_num, h7⟩
        case measure => simp [intOf]; omega
    · have g1 : ¬ (j : Int) ≤ 8 := by omega
      go_wp2_with fail
      refine (fixed_any _).mono ?_
      rintro e w6 ⟨rfl, hq⟩
      have h6 := h5.next hq
      go_wp2_with fail
      go_ret
      exact ⟨rfl, h6.below⟩
set_option maxRecDepth 100000 in
set_option maxHeartbeats 1600000 in
theorem rssSame_c_ls (k : Int) (A : Option Addr) (c : Nat) (L : List Int) (x : ByteArray) (d : Int) (n : Nat) (y S T : ByteArray) (fk : Int) (fy : ByteArray) (s : ByteArray) (es : s.extract 0 1600 = S) (hs : 1600 < s.size) (ht : T.size ≤ 1600)  (v : Nat → Int)  (w : World)
    (AB : ∀ W, Below w.heap.size w W → Calls Try.prog 10 #[.agg #[.int .i64 k, .slice A L.length c, .string x, .int .i64 d]] W fun e w' => e = .returned (.agg #[.int .i64 k, .slice A n c, .string y, .int .i64 d]) ∧ Below W.heap.size W w')
    (AS : ∀ W, Calls Try.prog 20 #[.string S] W fun e w' => e = .returned (.agg #[.int .i64 fk, .string fy]) ∧ Below W.heap.size W w')
    (AT : ∀ W, Calls Try.prog 20 #[.string T] W fun e w' => e = .returned (.agg #[.int .i64 fk, .string fy]) ∧ Below W.heap.size W w')
    (A1 : ∀ j : Nat, ∀ W, Below w.heap.size w W → Calls Try.prog 17 #[.agg #[.int .i64 k, .slice A n c, .string y, .int .i64 d], .string S, .int .i64 j] W fun e w' => e = .returned (.int .i64 (v j)) ∧ Below W.heap.size W w')
    (A2 : ∀ j : Nat, ∀ W, Below w.heap.size w W → Calls Try.prog 17 #[.agg #[.int .i64 k, .slice A n c, .string y, .int .i64 d], .string T, .int .i64 j] W fun e w' => e = .returned (.int .i64 (v j)) ∧ Below W.heap.size W w') :
    Calls Try.prog 9 #[.agg #[.int .i64 k, .slice A L.length c, .string x, .int .i64 d], .string s, .string T] w fun e w' => e = .returned (.bool true) ∧ Below w.heap.size w w' := by
  have HB := Lib.hid AB
  have HS := Lib.hid AS
  have HT := Lib.hid AT
  have H1 := Lib.hid A1
  have H2 := Lib.hid A2
  clear A1 A2
  clear AB AS AT
  have hs2 : ¬ s.size ≤ 1600 := by omega
  have et : T.extract 0 T.size = T := cut_own T
  go_enter Try.func9, Try.ntmps9
  go_wp2_with fail
  refine (HB.out _ ((Below.refl _ _).alloc (Nat.le_refl _) _)).mono ?_
  rintro e w1 ⟨rfl, hq⟩
  have h1 := (Held.new w 24 #[.int .i64 k, .slice A L.length c, .string x, .int .i64 d]).next hq
  clear hq
  have z0 := h1.blk.frozen 0
  have z1 := h1.blk.frozen 1
  have z2 := h1.blk.frozen 2
  have z3 := h1.blk.frozen 3
  have c0 := h1.blk.cell 0
  have c1 := h1.blk.cell 1
  have c2 := h1.blk.cell 2
  have c3 := h1.blk.cell 3
  simp only [List.getElem?_toArray, List.getElem?_cons_zero, List.getElem?_cons_succ] at c0 c1 c2 c3
  have h2 := h1.set4 (.int .i64 k) (.slice A n c) (.string y) (.int .i64 d)
  obtain ⟨w2, hw2⟩ : ∃ w2, ((((w1.setCell ⟨w.heap.size, 0, none⟩ (.int .i64 k)).setCell ⟨w.heap.size, 1, none⟩ (.slice A n c)).setCell ⟨w.heap.size, 2, none⟩ (.string y)).setCell ⟨w.heap.size, 3, none⟩ (.int .i64 d)) = w2 := ⟨_, rfl⟩
  rw [hw2] at h2
  have HW := Lib.hid hw2
  clear hw2 h1
  go_wp2_with (rw [HW.out]; clear z0 z1 z2 z3 c0 c1 c2 c3 HW)
  refine (HS.out _).mono ?_
  rintro e w3 ⟨rfl, hq⟩
  have h3 := h2.next hq
  clear hq h2
  go_wp2_with fail
  refine (HT.out _).mono ?_
  rintro e w4 ⟨rfl, hq⟩
  have h4 := h3.next hq
  clear hq h3
  go_wp2_with fail
  go_loopw [7] (fun i wr => ∃ j : Nat, 1 ≤ j ∧ j ≤ 9 ∧ i = .int .i64 j ∧ Held w 24 #[.int .i64 k, .slice A n c, .string y, .int .i64 d] wr) (fun i _ => 9 - (intOf i).toNat)
  case atStart => exact ⟨1, by omega, by omega, rfl, h4⟩
  case round =>
    obtain ⟨j, hj1, hj2, rfl, h5⟩ := hrel
    by_cases hlt : j ≤ 8
    · have g1 : (j : Int) ≤ 8 := by omega
      have HK1 := Lib.hid (H1.out j)
      have HK2 := Lib.hid (H2.out j)
      generalize v j = z at HK1 HK2
      go_wp2_with fail
      have q0 := ru_str h5.drew
      go_region_held (fun w' => (w'.cell? ⟨w.heap.size, 0, none⟩ = some (.int .i64 k) ∧ w'.cell? ⟨w.heap.size, 1, none⟩ = some (.slice A n c) ∧ w'.cell? ⟨w.heap.size, 2, none⟩ = some (.string y) ∧ w'.cell? ⟨w.heap.size, 3, none⟩ = some (.int .i64 d)) ∧ Held w 24 #[.int .i64 k, .slice A n c, .string y, .int .i64 d] w')
        (first | exact q0 | assumption | exact ru_on (by assumption) hq)
        (first
          | (go_at_call 17; ((with_reducible refine (HK1.out _ (ru_below (by assumption))).mono ?_); rintro e w' ⟨rfl, hq⟩))
          | (go_at_call 17; ((with_reducible refine (HK2.out _ (ru_below (by assumption))).mono ?_); rintro e w' ⟨rfl, hq⟩)))
      all_goals
        rename_i hH
        have h7 := hH.2
        clear hH
        go_wp2
        go_roundw
        case rel => exact ⟨j + 1, by omega, by omega, by go_num, h7⟩
        case measure => simp [intOf]; omega
    · have g1 : ¬ (j : Int) ≤ 8 := by omega
      go_wp2_with fail
      refine (fixed_any _).mono ?_
      rintro e w6 ⟨rfl, hq⟩
      have h6 := h5.next hq
      go_wp2_with fail
      go_ret
      exact ⟨rfl, h6.below⟩
set_option maxRecDepth 100000 in
set_option maxHeartbeats 1600000 in
theorem rssSame_c_ll (k : Int) (A : Option Addr) (c : Nat) (L : List Int) (x : ByteArray) (d : Int) (n : Nat) (y S T : ByteArray) (fk : Int) (fy : ByteArray) (s : ByteArray) (es : s.extract 0 1600 = S) (hs : 1600 < s.size) (t : ByteArray) (et : t.extract 0 1600 = T) (ht : 1600 < t.size)  (v : Nat → Int)  (w : World)
    (AB : ∀ W, Below w.heap.size w W → Calls Try.prog 10 #[.agg #[.int .i64 k, .slice A L.length c, .string x, .int .i64 d]] W fun e w' => e = .returned (.agg #[.int .i64 k, .slice A n c, .string y, .int .i64 d]) ∧ Below W.heap.size W w')
    (AS : ∀ W, Calls Try.prog 20 #[.string S] W fun e w' => e = .returned (.agg #[.int .i64 fk, .string fy]) ∧ Below W.heap.size W w')
    (AT : ∀ W, Calls Try.prog 20 #[.string T] W fun e w' => e = .returned (.agg #[.int .i64 fk, .string fy]) ∧ Below W.heap.size W w')
    (A1 : ∀ j : Nat, ∀ W, Below w.heap.size w W → Calls Try.prog 17 #[.agg #[.int .i64 k, .slice A n c, .string y, .int .i64 d], .string S, .int .i64 j] W fun e w' => e = .returned (.int .i64 (v j)) ∧ Below W.heap.size W w')
    (A2 : ∀ j : Nat, ∀ W, Below w.heap.size w W → Calls Try.prog 17 #[.agg #[.int .i64 k, .slice A n c, .string y, .int .i64 d], .string T, .int .i64 j] W fun e w' => e = .returned (.int .i64 (v j)) ∧ Below W.heap.size W w') :
    Calls Try.prog 9 #[.agg #[.int .i64 k, .slice A L.length c, .string x, .int .i64 d], .string s, .string t] w fun e w' => e = .returned (.bool true) ∧ Below w.heap.size w w' := by
  have HB := Lib.hid AB
  have HS := Lib.hid AS
  have HT := Lib.hid AT
  have H1 := Lib.hid A1
  have H2 := Lib.hid A2
  clear A1 A2
  clear AB AS AT
  have hs2 : ¬ s.size ≤ 1600 := by omega
  have ht2 : ¬ t.size ≤ 1600 := by omega
  go_enter Try.func9, Try.ntmps9
  go_wp2_with fail
  refine (HB.out _ ((Below.refl _ _).alloc (Nat.le_refl _) _)).mono ?_
  rintro e w1 ⟨rfl, hq⟩
  have h1 := (Held.new w 24 #[.int .i64 k, .slice A L.length c, .string x, .int .i64 d]).next hq
  clear hq
  have z0 := h1.blk.frozen 0
  have z1 := h1.blk.frozen 1
  have z2 := h1.blk.frozen 2
  have z3 := h1.blk.frozen 3
  have c0 := h1.blk.cell 0
  have c1 := h1.blk.cell 1
  have c2 := h1.blk.cell 2
  have c3 := h1.blk.cell 3
  simp only [List.getElem?_toArray, List.getElem?_cons_zero, List.getElem?_cons_succ] at c0 c1 c2 c3
  have h2 := h1.set4 (.int .i64 k) (.slice A n c) (.string y) (.int .i64 d)
  obtain ⟨w2, hw2⟩ : ∃ w2, ((((w1.setCell ⟨w.heap.size, 0, none⟩ (.int .i64 k)).setCell ⟨w.heap.size, 1, none⟩ (.slice A n c)).setCell ⟨w.heap.size, 2, none⟩ (.string y)).setCell ⟨w.heap.size, 3, none⟩ (.int .i64 d)) = w2 := ⟨_, rfl⟩
  rw [hw2] at h2
  have HW := Lib.hid hw2
  clear hw2 h1
  go_wp2_with (rw [HW.out]; clear z0 z1 z2 z3 c0 c1 c2 c3 HW)
  refine (HS.out _).mono ?_
  rintro e w3 ⟨rfl, hq⟩
  have h3 := h2.next hq
  clear hq h2
  go_wp2_with fail
  refine (HT.out _).mono ?_
  rintro e w4 ⟨rfl, hq⟩
  have h4 := h3.next hq
  clear hq h3
  go_wp2_with fail
  go_loopw [7] (fun i wr => ∃ j : Nat, 1 ≤ j ∧ j ≤ 9 ∧ i = .int .i64 j ∧ Held w 24 #[.int .i64 k, .slice A n c, .string y, .int .i64 d] wr) (fun i _ => 9 - (intOf i).toNat)
  case atStart => exact ⟨1, by omega, by omega, rfl, h4⟩
  case round =>
    obtain ⟨j, hj1, hj2, rfl, h5⟩ := hrel
    by_cases hlt : j ≤ 8
    · have g1 : (j : Int) ≤ 8 := by omega
      have HK1 := Lib.hid (H1.out j)
      have HK2 := Lib.hid (H2.out j)
      generalize v j = z at HK1 HK2
      go_wp2_with fail
      have q0 := ru_str h5.drew
      go_region_held (fun w' => (w'.cell? ⟨w.heap.size, 0, none⟩ = some (.int .i64 k) ∧ w'.cell? ⟨w.heap.size, 1, none⟩ = some (.slice A n c) ∧ w'.cell? ⟨w.heap.size, 2, none⟩ = some (.string y) ∧ w'.cell? ⟨w.heap.size, 3, none⟩ = some (.int .i64 d)) ∧ Held w 24 #[.int .i64 k, .slice A n c, .string y, .int .i64 d] w')
        (first | exact q0 | assumption | exact ru_on (by assumption) hq)
        (first
          | (go_at_call 17; ((with_reducible refine (HK1.out _ (ru_below (by assumption))).mono ?_); rintro e w' ⟨rfl, hq⟩))
          | (go_at_call 17; ((with_reducible refine (HK2.out _ (ru_below (by assumption))).mono ?_); rintro e w' ⟨rfl, hq⟩)))
      all_goals
        rename_i hH
        have h7 := hH.2
        clear hH
        go_wp2
        go_roundw
        case rel => exact ⟨j + 1, by omega, by omega, by go_num, h7⟩
        case measure => simp [intOf]; omega
    · have g1 : ¬ (j : Int) ≤ 8 := by omega
      go_wp2_with fail
      refine (fixed_any _).mono ?_
      rintro e w6 ⟨rfl, hq⟩
      have h6 := h5.next hq
      go_wp2_with fail
      go_ret
      exact ⟨rfl, h6.below⟩
theorem fw_ext {f g : Fw} (h1 : f.kind = g.kind) (h2 : f.key = g.key) : f = g := by cases f; cases g; simp_all
theorem chooseV_same (k : Int) (L : List Int) (x : ByteArray) (d : Int) (s t : ByteArray) (h : ofV s = ofV t) (q : Int) : chooseV k L x d s q = chooseV k L x d t q := by unfold chooseV; rw [h]
theorem same_ss (k : Int) (A : Option Addr) (c : Nat) (L : List Int) (x : ByteArray) (d : Int) (s t : ByteArray) (w : World)
    (AB : ∀ W, Below w.heap.size w W → Calls Try.prog 10 #[.agg #[.int .i64 k, .slice A L.length c, .string x, .int .i64 d]] W fun e w' => e = .returned (.agg #[.int .i64 k, .slice A (L.take 300).length c, .string (x.extract 0 60), .int .i64 d]) ∧ Below W.heap.size W w')
    (C : ∀ (S : ByteArray) (j : Nat) W, Below w.heap.size w W → Calls Try.prog 17 #[.agg #[.int .i64 k, .slice A (L.take 300).length c, .string (x.extract 0 60), .int .i64 d], .string S, .int .i64 j] W fun e w' => e = .returned (.int .i64 (chooseV k (L.take 300) (x.extract 0 60) d S j)) ∧ Below W.heap.size W w')
    (hs : s.size ≤ 1600) (ht : t.size ≤ 1600) :
    Calls Try.prog 9 #[.agg #[.int .i64 k, .slice A L.length c, .string x, .int .i64 d], .string s, .string t] w fun e w' => e = .returned (.bool true) ∧ Below w.heap.size w w' := by
  by_cases e : (ofV s).kind = (ofV t).kind
  · by_cases f : (ofV s).key = (ofV t).key
    · have ef : ofV t = ofV s := fw_ext e.symm f.symm
      have A2 := of_any t
      rw [ef] at A2
      have C2 := C t
      simp only [chooseV_same k (L.take 300) (x.extract 0 60) d _ _ ef] at C2
      exact rssSame_c_ss k A c L x d _ _ s t _ _ hs ht (fun j => chooseV k (L.take 300) (x.extract 0 60) d s j) w AB (of_any s) A2 (C s) C2
    · have A2 := of_any t
      rw [← e] at A2
      exact rssSame_b_ss k A c L x d _ _ s t _ _ _ hs ht (str_ne f) w AB (of_any s) A2
  · exact rssSame_a_ss k A c L x d _ _ s t _ _ _ _ hs ht (beq_eq_false_iff_ne.2 e) w AB (of_any s) (of_any t)
theorem same_sl (k : Int) (A : Option Addr) (c : Nat) (L : List Int) (x : ByteArray) (d : Int) (s t : ByteArray) (w : World)
    (AB : ∀ W, Below w.heap.size w W → Calls Try.prog 10 #[.agg #[.int .i64 k, .slice A L.length c, .string x, .int .i64 d]] W fun e w' => e = .returned (.agg #[.int .i64 k, .slice A (L.take 300).length c, .string (x.extract 0 60), .int .i64 d]) ∧ Below W.heap.size W w')
    (C : ∀ (S : ByteArray) (j : Nat) W, Below w.heap.size w W → Calls Try.prog 17 #[.agg #[.int .i64 k, .slice A (L.take 300).length c, .string (x.extract 0 60), .int .i64 d], .string S, .int .i64 j] W fun e w' => e = .returned (.int .i64 (chooseV k (L.take 300) (x.extract 0 60) d S j)) ∧ Below W.heap.size W w')
    (hs : s.size ≤ 1600) (ht : ¬ t.size ≤ 1600) :
    Calls Try.prog 9 #[.agg #[.int .i64 k, .slice A L.length c, .string x, .int .i64 d], .string s, .string t] w fun e w' => e = .returned (.bool true) ∧ Below w.heap.size w w' := by
  by_cases e : (ofV s).kind = (ofV (t.extract 0 1600)).kind
  · by_cases f : (ofV s).key = (ofV (t.extract 0 1600)).key
    · have ef : ofV (t.extract 0 1600) = ofV s := fw_ext e.symm f.symm
      have A2 := of_any (t.extract 0 1600)
      rw [ef] at A2
      have C2 := C (t.extract 0 1600)
      simp only [chooseV_same k (L.take 300) (x.extract 0 60) d _ _ ef] at C2
      exact rssSame_c_sl k A c L x d _ _ s (t.extract 0 1600) _ _ hs t rfl (by omega) (fun j => chooseV k (L.take 300) (x.extract 0 60) d s j) w AB (of_any s) A2 (C s) C2
    · have A2 := of_any (t.extract 0 1600)
      rw [← e] at A2
      exact rssSame_b_sl k A c L x d _ _ s (t.extract 0 1600) _ _ _ hs t rfl (by omega) (str_ne f) w AB (of_any s) A2
  · exact rssSame_a_sl k A c L x d _ _ s (t.extract 0 1600) _ _ _ _ hs t rfl (by omega) (beq_eq_false_iff_ne.2 e) w AB (of_any s) (of_any (t.extract 0 1600))
theorem same_ls (k : Int) (A : Option Addr) (c : Nat) (L : List Int) (x : ByteArray) (d : Int) (s t : ByteArray) (w : World)
    (AB : ∀ W, Below w.heap.size w W → Calls Try.prog 10 #[.agg #[.int .i64 k, .slice A L.length c, .string x, .int .i64 d]] W fun e w' => e = .returned (.agg #[.int .i64 k, .slice A (L.take 300).length c, .string (x.extract 0 60), .int .i64 d]) ∧ Below W.heap.size W w')
    (C : ∀ (S : ByteArray) (j : Nat) W, Below w.heap.size w W → Calls Try.prog 17 #[.agg #[.int .i64 k, .slice A (L.take 300).length c, .string (x.extract 0 60), .int .i64 d], .string S, .int .i64 j] W fun e w' => e = .returned (.int .i64 (chooseV k (L.take 300) (x.extract 0 60) d S j)) ∧ Below W.heap.size W w')
    (hs : ¬ s.size ≤ 1600) (ht : t.size ≤ 1600) :
    Calls Try.prog 9 #[.agg #[.int .i64 k, .slice A L.length c, .string x, .int .i64 d], .string s, .string t] w fun e w' => e = .returned (.bool true) ∧ Below w.heap.size w w' := by
  by_cases e : (ofV (s.extract 0 1600)).kind = (ofV t).kind
  · by_cases f : (ofV (s.extract 0 1600)).key = (ofV t).key
    · have ef : ofV t = ofV (s.extract 0 1600) := fw_ext e.symm f.symm
      have A2 := of_any t
      rw [ef] at A2
      have C2 := C t
      simp only [chooseV_same k (L.take 300) (x.extract 0 60) d _ _ ef] at C2
      exact rssSame_c_ls k A c L x d _ _ (s.extract 0 1600) t _ _ s rfl (by omega) ht (fun j => chooseV k (L.take 300) (x.extract 0 60) d (s.extract 0 1600) j) w AB (of_any (s.extract 0 1600)) A2 (C (s.extract 0 1600)) C2
    · have A2 := of_any t
      rw [← e] at A2
      exact rssSame_b_ls k A c L x d _ _ (s.extract 0 1600) t _ _ _ s rfl (by omega) ht (str_ne f) w AB (of_any (s.extract 0 1600)) A2
  · exact rssSame_a_ls k A c L x d _ _ (s.extract 0 1600) t _ _ _ _ s rfl (by omega) ht (beq_eq_false_iff_ne.2 e) w AB (of_any (s.extract 0 1600)) (of_any t)
theorem same_ll (k : Int) (A : Option Addr) (c : Nat) (L : List Int) (x : ByteArray) (d : Int) (s t : ByteArray) (w : World)
    (AB : ∀ W, Below w.heap.size w W → Calls Try.prog 10 #[.agg #[.int .i64 k, .slice A L.length c, .string x, .int .i64 d]] W fun e w' => e = .returned (.agg #[.int .i64 k, .slice A (L.take 300).length c, .string (x.extract 0 60), .int .i64 d]) ∧ Below W.heap.size W w')
    (C : ∀ (S : ByteArray) (j : Nat) W, Below w.heap.size w W → Calls Try.prog 17 #[.agg #[.int .i64 k, .slice A (L.take 300).length c, .string (x.extract 0 60), .int .i64 d], .string S, .int .i64 j] W fun e w' => e = .returned (.int .i64 (chooseV k (L.take 300) (x.extract 0 60) d S j)) ∧ Below W.heap.size W w')
    (hs : ¬ s.size ≤ 1600) (ht : ¬ t.size ≤ 1600) :
    Calls Try.prog 9 #[.agg #[.int .i64 k, .slice A L.length c, .string x, .int .i64 d], .string s, .string t] w fun e w' => e = .returned (.bool true) ∧ Below w.heap.size w w' := by
  by_cases e : (ofV (s.extract 0 1600)).kind = (ofV (t.extract 0 1600)).kind
  · by_cases f : (ofV (s.extract 0 1600)).key = (ofV (t.extract 0 1600)).key
    · have ef : ofV (t.extract 0 1600) = ofV (s.extract 0 1600) := fw_ext e.symm f.symm
      have A2 := of_any (t.extract 0 1600)
      rw [ef] at A2
      have C2 := C (t.extract 0 1600)
      simp only [chooseV_same k (L.take 300) (x.extract 0 60) d _ _ ef] at C2
      exact rssSame_c_ll k A c L x d _ _ (s.extract 0 1600) (t.extract 0 1600) _ _ s rfl (by omega) t rfl (by omega) (fun j => chooseV k (L.take 300) (x.extract 0 60) d (s.extract 0 1600) j) w AB (of_any (s.extract 0 1600)) A2 (C (s.extract 0 1600)) C2
    · have A2 := of_any (t.extract 0 1600)
      rw [← e] at A2
      exact rssSame_b_ll k A c L x d _ _ (s.extract 0 1600) (t.extract 0 1600) _ _ _ s rfl (by omega) t rfl (by omega) (str_ne f) w AB (of_any (s.extract 0 1600)) A2
  · exact rssSame_a_ll k A c L x d _ _ (s.extract 0 1600) (t.extract 0 1600) _ _ _ _ s rfl (by omega) t rfl (by omega) (beq_eq_false_iff_ne.2 e) w AB (of_any (s.extract 0 1600)) (of_any (t.extract 0 1600))
theorem rssSame_any (k : Int) (A : Option Addr) (c : Nat) (L : List Int) (x : ByteArray) (d : Int) (s t : ByteArray) (w : World) (hT : Tin A c L w) :
    Calls Try.prog 9 #[.agg #[.int .i64 k, .slice A L.length c, .string x, .int .i64 d], .string s, .string t] w fun e w' => e = .returned (.bool true) ∧ Below w.heap.size w w' := by
  have hT1 := fun W (hb : Below w.heap.size w W) => (hT.1.take 300).below hb
  have AB := fun W (hb : Below w.heap.size w W) => bound_any k d A c L x W ⟨hT.1.below hb, hT.2⟩
  have C := fun (S : ByteArray) (j : Nat) W (hb : Below w.heap.size w W) => chs_any k A c (L.take 300) (x.extract 0 60) d S j W (hT1 W hb)
  by_cases hs : s.size ≤ 1600
  · by_cases ht : t.size ≤ 1600
    · exact same_ss k A c L x d s t w AB C hs ht
    · exact same_sl k A c L x d s t w AB C hs ht
  · by_cases ht : t.size ≤ 1600
    · exact same_ls k A c L x d s t w AB C hs ht
    · exact same_ll k A c L x d s t w AB C hs ht

set_option maxRecDepth 100000 in
theorem rssSame_lifted (os : Os) (started : os.Started) (H : Type) (enc : TypeId × Value → H) :
    ReturnsInHanded {} Try.checked os 9 .any (Rows.rssSameSpec.pre6 enc Try.prog Try.f9 Rows.rssSameRow.domain false) (Rows.rssSameSpec.post enc Try.prog Try.f9 false true false false) := by
  have e : Try.f9.params.toList = [24, 9, 9] := by rw [Try.params9]
  refine law_of_walk (C := Try.checked) (tb := 4) H enc Try.own started (by kernel_rfl) Try.func9 Try.laidOut rfl rfl Try.underlying4 ?_ ?_
    (ChangeSpec.witness6 (enc := enc) (C := Try.checked) false ⟨#[], #[.agg #[.int .i64 0, .slice none 0 0, .string ByteArray.empty, .int .i64 0], .string ByteArray.empty, .string ByteArray.empty], []⟩ 8 (by kernel_rfl) (by kernel_rfl) (by kernel_rfl) (by kernel_rfl)) ?_
  · rw [e]
    intro t ht
    simp only [List.mem_cons, List.not_mem_nil, or_false] at ht
    rcases ht with rfl | rfl | rfl <;> exact ⟨by kernel_rfl, of_decide_eq_true (by kernel_rfl)⟩
  · intro ds hds
    rw [e] at hds
    match ds, hds with
    | [d0, d1, d2], _ => rfl
  · intro W base args ds p hval0 hA0 hsz0
    have hval : ∀ (j : Nat) t v, Try.f9.params[j]? = some t → args[j]? = some v → Value.okWide Try.prog W .any base t v := hval0
    have hA : DataW.TrodAll enc Try.prog W 0 (fun _ => true) true Try.f9.params.toList args.toList ds p := hA0
    have hsz : (DataW.weightsEach Try.prog Try.f9.params.toList ds).all (· ≤ reachBytes) = true := hsz0
    rw [Try.params9] at hA hval hsz
    obtain ⟨v0, v1, v2, d0, d1, d2, p0, p1, p2, rfl, rfl, rfl, h0, h1, h2⟩ := trodAll_three hA
    obtain ⟨k, A, c, L, x, dv, rfl, hT, hk, hd⟩ := open_rss (hval 0 24 v0 rfl rfl) h0
    obtain ⟨x1, rfl, rfl, rfl, _⟩ := open_string Try.underlying9 (hval 1 9 v1 rfl rfl) h1
    obtain ⟨x2, rfl, rfl, rfl, _⟩ := open_string Try.underlying9 (hval 2 9 v2 rfl rfl) h2
    have s1 := sized_string hsz (j := 1) (t := 9) rfl rfl
    simp only [reachBytes] at s1
    have s2 := sized_string hsz (j := 2) (t := 9) rfl rfl
    simp only [reachBytes] at s2
    exact rssSame_any k A c L x dv x1 x2 W hT

theorem rssSame_holds : Rows.RssSameSaid :=
  OpenClaim.holds_of_wide 9 Try.f9 rfl rfl rfl rfl rfl rfl rfl ⟨rfl, rfl, rfl, rfl, rfl⟩ rfl rfl rfl rfl rfl (by kernel_rfl) Try.func9 (by kernel_rfl)
    (of_decide_eq_true (by kernel_rfl)) (by unfold Func.isWrapper; first | (rw [if_pos (by decide +kernel)]; kernel_rfl) | (rw [if_neg (by decide +kernel)]; exact ⟨rfl, rfl⟩))
    (fun os started H enc _ => rssSame_lifted os started H enc)
end Go.Proofs.Ytpjndjmneficbaa

/-
  RssDefault: where no kind is hashed, whatever the other rules, the bytes and the queues.
-/
import Derived.Test.YtpjndjmneficbaaWfr
import Derived.Test.YtpjndjmneficbaaRch
import Derived.Test.YtpjndjmneficbaaRfx
namespace Go.Proofs.Ytpjndjmneficbaa
open Go.Joins Go.ChangeShapes Go.WideShapes Go.ChangeAt Go.RowKit Go.Deep
open Go.ChangeMaps (open_string)

theorem hasB_zero {n : Int} (h : 0 ≤ n ∧ n ≤ 6) : hasB 0 n = false := by
  rcases kind_cases h.1 h.2 with rfl | rfl | rfl | rfl | rfl | rfl | rfl <;> decide +kernel
theorem queueV_zero (L : List Int) (x : ByteArray) (d : Int) (f : Fw) (h : 0 ≤ f.kind ∧ f.kind ≤ 6) : queueV 0 L x d f = d := by
  rw [queueV, hasB_zero h, if_neg (by simp), hasB_zero (less_kind h), if_neg (by simp)]
set_option maxRecDepth 100000 in
set_option maxHeartbeats 1600000 in
theorem rssDefault_a_short (k : Int) (A : Option Addr) (c : Nat) (L : List Int) (x : ByteArray) (d : Int) (n : Nat) (y S : ByteArray) (q Q : Int) (eq : bits .and .i64 q 7 = Q) (q0 : 0 ≤ Q) (q7 : Q ≤ 7) (hs : S.size ≤ 1600) (w : World)
    (AB : ∀ W, Below w.heap.size w W → Calls Try.prog 10 #[.agg #[.int .i64 k, .slice A L.length c, .string x, .int .i64 d]] W fun e w' => e = .returned (.agg #[.int .i64 k, .slice A n c, .string y, .int .i64 d]) ∧ Below W.heap.size W w')
    (A17 : ∀ W, Below w.heap.size w W → Calls Try.prog 17 #[.agg #[.int .i64 0, .slice A n c, .string y, .int .i64 d], .string S, .int .i64 (1 + Q)] W fun e w' => e = .returned (.int .i64 0) ∧ Below W.heap.size W w')
    (A14 : ∀ W, Below w.heap.size w W → Calls Try.prog 14 #[.agg #[.int .i64 0, .slice A n c, .string y, .int .i64 d]] W fun e w' => e = .returned (.int .i64 110) ∧ Below W.heap.size W w') :
    Calls Try.prog 7 #[.agg #[.int .i64 k, .slice A L.length c, .string x, .int .i64 d], .string S, .int .i64 q] w fun e w' => e = .returned (.bool true) ∧ Below w.heap.size w w' := by
  have HB := Lib.hid AB
  have H17 := Lib.hid A17
  have H14 := Lib.hid A14
  clear AB A17 A14
  have e2 : IntKind.i64.wrap (1 + Q) = 1 + Q := IntWalk.i64_in _ (by omega)
  have es : S.extract 0 S.size = S := cut_own S
  go_enter Try.func7, Try.ntmps7
  go_wp2_with fail
  refine (HB.out _ ((Below.refl _ _).alloc (Nat.le_refl _) _)).mono ?_
  rintro e w1 ⟨rfl, hq⟩
  have h1 := (Held.new w 24 #[.int .i64 k, .slice A L.length c, .string x, .int .i64 d]).next hq
  clear hq
  have z0 := h1.blk.frozen 0
  have z1 := h1.blk.frozen 1
  have z2 := h1.blk.frozen 2
  have z3 := h1.blk.frozen 3
  have c0 := h1.blk.cell 0
  have c1 := h1.blk.cell 1
  have c2 := h1.blk.cell 2
  have c3 := h1.blk.cell 3
  simp only [List.getElem?_toArray, List.getElem?_cons_zero, List.getElem?_cons_succ] at c0 c1 c2 c3
  have h2 := h1.set4 (.int .i64 k) (.slice A n c) (.string y) (.int .i64 d)
  have h3 : Held w 24 #[.int .i64 0, .slice A n c, .string y, .int .i64 d] (((((w1.setCell ⟨w.heap.size, 0, none⟩ (.int .i64 k)).setCell ⟨w.heap.size, 1, none⟩ (.slice A n c)).setCell ⟨w.heap.size, 2, none⟩ (.string y)).setCell ⟨w.heap.size, 3, none⟩ (.int .i64 d)).setCell ⟨w.heap.size, 0, none⟩ (.int .i64 0)) := by
    refine ⟨?_, h2.below.setCell (Nat.le_refl _) _⟩
    have := h2.blk.put 0 (.int .i64 0)
    simpa using this
  go_wp2_with fail
  generalize ((((w1.setCell ⟨w.heap.size, 0, none⟩ (.int .i64 k)).setCell ⟨w.heap.size, 1, none⟩ (.slice A n c)).setCell ⟨w.heap.size, 2, none⟩ (.string y)).setCell ⟨w.heap.size, 3, none⟩ (.int .i64 d)).setCell ⟨w.heap.size, 0, none⟩ (.int .i64 0) = w2 at h3 ⊢
  clear h1 h2 z0 z1 z2 z3 c0 c1 c2 c3
  refine (H17.out _ h3.below).mono ?_
  rintro e w3 ⟨rfl, hq⟩
  have h4 := h3.next hq
  clear hq h3
  have c0 := h4.blk.cell 0
  have c1 := h4.blk.cell 1
  have c2 := h4.blk.cell 2
  have c3 := h4.blk.cell 3
  simp only [List.getElem?_toArray, List.getElem?_cons_zero, List.getElem?_cons_succ] at c0 c1 c2 c3
  go_wp2_with fail
  refine (H14.out _ h4.below).mono ?_
  rintro e w4 ⟨rfl, hq⟩
  have h5 := h4.next hq
  clear hq h4 c0 c1 c2 c3
  have c0 := h5.blk.cell 0
  have c1 := h5.blk.cell 1
  have c2 := h5.blk.cell 2
  have c3 := h5.blk.cell 3
  simp only [List.getElem?_toArray, List.getElem?_cons_zero, List.getElem?_cons_succ] at c0 c1 c2 c3
  go_wp2_with fail
  refine (fixed_any _).mono ?_
  rintro e w5 ⟨rfl, hq⟩
  have h6 := h5.next hq
  go_wp2_with fail
  go_ret
  exact ⟨rfl, h6.below⟩
set_option maxRecDepth 100000 in
set_option maxHeartbeats 1600000 in
theorem rssDefault_a_long (k : Int) (A : Option Addr) (c : Nat) (L : List Int) (x : ByteArray) (d : Int) (n : Nat) (y S : ByteArray) (q Q : Int) (eq : bits .and .i64 q 7 = Q) (q0 : 0 ≤ Q) (q7 : Q ≤ 7) (s : ByteArray) (es : s.extract 0 1600 = S) (hs : 1600 < s.size) (w : World)
    (AB : ∀ W, Below w.heap.size w W → Calls Try.prog 10 #[.agg #[.int .i64 k, .slice A L.length c, .string x, .int .i64 d]] W fun e w' => e = .returned (.agg #[.int .i64 k, .slice A n c, .string y, .int .i64 d]) ∧ Below W.heap.size W w')
    (A17 : ∀ W, Below w.heap.size w W → Calls Try.prog 17 #[.agg #[.int .i64 0, .slice A n c, .string y, .int .i64 d], .string S, .int .i64 (1 + Q)] W fun e w' => e = .returned (.int .i64 0) ∧ Below W.heap.size W w')
    (A14 : ∀ W, Below w.heap.size w W → Calls Try.prog 14 #[.agg #[.int .i64 0, .slice A n c, .string y, .int .i64 d]] W fun e w' => e = .returned (.int .i64 110) ∧ Below W.heap.size W w') :
    Calls Try.prog 7 #[.agg #[.int .i64 k, .slice A L.length c, .string x, .int .i64 d], .string s, .int .i64 q] w fun e w' => e = .returned (.bool true) ∧ Below w.heap.size w w' := by
  have HB := Lib.hid AB
  have H17 := Lib.hid A17
  have H14 := Lib.hid A14
  clear AB A17 A14
  have e2 : IntKind.i64.wrap (1 + Q) = 1 + Q := IntWalk.i64_in _ (by omega)
  have hs2 : ¬ s.size ≤ 1600 := by omega
  go_enter Try.func7, Try.ntmps7
  go_wp2_with fail
  refine (HB.out _ ((Below.refl _ _).alloc (Nat.le_refl _) _)).mono ?_
  rintro e w1 ⟨rfl, hq⟩
  have h1 := (Held.new w 24 #[.int .i64 k, .slice A L.length c, .string x, .int .i64 d]).next hq
  clear hq
  have z0 := h1.blk.frozen 0
  have z1 := h1.blk.frozen 1
  have z2 := h1.blk.frozen 2
  have z3 := h1.blk.frozen 3
  have c0 := h1.blk.cell 0
  have c1 := h1.blk.cell 1
  have c2 := h1.blk.cell 2
  have c3 := h1.blk.cell 3
  simp only [List.getElem?_toArray, List.getElem?_cons_zero, List.getElem?_cons_succ] at c0 c1 c2 c3
  have h2 := h1.set4 (.int .i64 k) (.slice A n c) (.string y) (.int .i64 d)
  have h3 : Held w 24 #[.int .i64 0, .slice A n c, .string y, .int .i64 d] (((((w1.setCell ⟨w.heap.size, 0, none⟩ (.int .i64 k)).setCell ⟨w.heap.size, 1, none⟩ (.slice A n c)).setCell ⟨w.heap.size, 2, none⟩ (.string y)).setCell ⟨w.heap.size, 3, none⟩ (.int .i64 d)).setCell ⟨w.heap.size, 0, none⟩ (.int .i64 0)) := by
    refine ⟨?_, h2.below.setCell (Nat.le_refl _) _⟩
    have := h2.blk.put 0 (.int .i64 0)
    simpa using this
  go_wp2_with fail
  generalize ((((w1.setCell ⟨w.heap.size, 0, none⟩ (.int .i64 k)).setCell ⟨w.heap.size, 1, none⟩ (.slice A n c)).setCell ⟨w.heap.size, 2, none⟩ (.string y)).setCell ⟨w.heap.size, 3, none⟩ (.int .i64 d)).setCell ⟨w.heap.size, 0, none⟩ (.int .i64 0) = w2 at h3 ⊢
  clear h1 h2 z0 z1 z2 z3 c0 c1 c2 c3
  refine (H17.out _ h3.below).mono ?_
  rintro e w3 ⟨rfl, hq⟩
  have h4 := h3.next hq
  clear hq h3
  have c0 := h4.blk.cell 0
  have c1 := h4.blk.cell 1
  have c2 := h4.blk.cell 2
  have c3 := h4.blk.cell 3
  simp only [List.getElem?_toArray, List.getElem?_cons_zero, List.getElem?_cons_succ] at c0 c1 c2 c3
  go_wp2_with fail
  refine (H14.out _ h4.below).mono ?_
  rintro e w4 ⟨rfl, hq⟩
  have h5 := h4.next hq
  clear hq h4 c0 c1 c2 c3
  have c0 := h5.blk.cell 0
  have c1 := h5.blk.cell 1
  have c2 := h5.blk.cell 2
  have c3 := h5.blk.cell 3
  simp only [List.getElem?_toArray, List.getElem?_cons_zero, List.getElem?_cons_succ] at c0 c1 c2 c3
  go_wp2_with fail
  refine (fixed_any _).mono ?_
  rintro e w5 ⟨rfl, hq⟩
  have h6 := h5.next hq
  go_wp2_with fail
  go_ret
  exact ⟨rfl, h6.below⟩
set_option maxRecDepth 100000 in
set_option maxHeartbeats 1600000 in
theorem rssDefault_b_short (k : Int) (A : Option Addr) (c : Nat) (L : List Int) (x : ByteArray) (d : Int) (n : Nat) (y S : ByteArray) (q Q : Int) (eq : bits .and .i64 q 7 = Q) (q0 : 0 ≤ Q) (q7 : Q ≤ 7) (hd : ¬ d < 1 + Q) (hs : S.size ≤ 1600) (w : World)
    (AB : ∀ W, Below w.heap.size w W → Calls Try.prog 10 #[.agg #[.int .i64 k, .slice A L.length c, .string x, .int .i64 d]] W fun e w' => e = .returned (.agg #[.int .i64 k, .slice A n c, .string y, .int .i64 d]) ∧ Below W.heap.size W w')
    (A17 : ∀ W, Below w.heap.size w W → Calls Try.prog 17 #[.agg #[.int .i64 0, .slice A n c, .string y, .int .i64 d], .string S, .int .i64 (1 + Q)] W fun e w' => e = .returned (.int .i64 0) ∧ Below W.heap.size W w')
    (A14 : ∀ W, Below w.heap.size w W → Calls Try.prog 14 #[.agg #[.int .i64 0, .slice A n c, .string y, .int .i64 d]] W fun e w' => e = .returned (.int .i64 0) ∧ Below W.heap.size W w') :
    Calls Try.prog 7 #[.agg #[.int .i64 k, .slice A L.length c, .string x, .int .i64 d], .string S, .int .i64 q] w fun e w' => e = .returned (.bool true) ∧ Below w.heap.size w w' := by
  have HB := Lib.hid AB
  have H17 := Lib.hid A17
  have H14 := Lib.hid A14
  clear AB A17 A14
  have e2 : IntKind.i64.wrap (1 + Q) = 1 + Q := IntWalk.i64_in _ (by omega)
  have es : S.extract 0 S.size = S := cut_own S
  go_enter Try.func7, Try.ntmps7
  go_wp2_with fail
  refine (HB.out _ ((Below.refl _ _).alloc (Nat.le_refl _) _)).mono ?_
  rintro e w1 ⟨rfl, hq⟩
  have h1 := (Held.new w 24 #[.int .i64 k, .slice A L.length c, .string x, .int .i64 d]).next hq
  clear hq
  have z0 := h1.blk.frozen 0
  have z1 := h1.blk.frozen 1
  have z2 := h1.blk.frozen 2
  have z3 := h1.blk.frozen 3
  have c0 := h1.blk.cell 0
  have c1 := h1.blk.cell 1
  have c2 := h1.blk.cell 2
  have c3 := h1.blk.cell 3
  simp only [List.getElem?_toArray, List.getElem?_cons_zero, List.getElem?_cons_succ] at c0 c1 c2 c3
  have h2 := h1.set4 (.int .i64 k) (.slice A n c) (.string y) (.int .i64 d)
  have h3 : Held w 24 #[.int .i64 0, .slice A n c, .string y, .int .i64 d] (((((w1.setCell ⟨w.heap.size, 0, none⟩ (.int .i64 k)).setCell ⟨w.heap.size, 1, none⟩ (.slice A n c)).setCell ⟨w.heap.size, 2, none⟩ (.string y)).setCell ⟨w.heap.size, 3, none⟩ (.int .i64 d)).setCell ⟨w.heap.size, 0, none⟩ (.int .i64 0)) := by
    refine ⟨?_, h2.below.setCell (Nat.le_refl _) _⟩
    have := h2.blk.put 0 (.int .i64 0)
    simpa using this
  go_wp2_with fail
  generalize ((((w1.setCell ⟨w.heap.size, 0, none⟩ (.int .i64 k)).setCell ⟨w.heap.size, 1, none⟩ (.slice A n c)).setCell ⟨w.heap.size, 2, none⟩ (.string y)).setCell ⟨w.heap.size, 3, none⟩ (.int .i64 d)).setCell ⟨w.heap.size, 0, none⟩ (.int .i64 0) = w2 at h3 ⊢
  clear h1 h2 z0 z1 z2 z3 c0 c1 c2 c3
  refine (H17.out _ h3.below).mono ?_
  rintro e w3 ⟨rfl, hq⟩
  have h4 := h3.next hq
  clear hq h3
  have c0 := h4.blk.cell 0
  have c1 := h4.blk.cell 1
  have c2 := h4.blk.cell 2
  have c3 := h4.blk.cell 3
  simp only [List.getElem?_toArray, List.getElem?_cons_zero, List.getElem?_cons_succ] at c0 c1 c2 c3
  go_wp2_with fail
  refine (H14.out _ h4.below).mono ?_
  rintro e w4 ⟨rfl, hq⟩
  have h5 := h4.next hq
  clear hq h4 c0 c1 c2 c3
  have c0 := h5.blk.cell 0
  have c1 := h5.blk.cell 1
  have c2 := h5.blk.cell 2
  have c3 := h5.blk.cell 3
  simp only [List.getElem?_toArray, List.getElem?_cons_zero, List.getElem?_cons_succ] at c0 c1 c2 c3
  go_wp2_with fail
  refine (fixed_any _).mono ?_
  rintro e w5 ⟨rfl, hq⟩
  have h6 := h5.next hq
  go_wp2_with fail
  go_ret
  exact ⟨rfl, h6.below⟩
set_option maxRecDepth 100000 in
set_option maxHeartbeats 1600000 in
theorem rssDefault_b_long (k : Int) (A : Option Addr) (c : Nat) (L : List Int) (x : ByteArray) (d : Int) (n : Nat) (y S : ByteArray) (q Q : Int) (eq : bits .and .i64 q 7 = Q) (q0 : 0 ≤ Q) (q7 : Q ≤ 7) (hd : ¬ d < 1 + Q) (s : ByteArray) (es : s.extract 0 1600 = S) (hs : 1600 < s.size) (w : World)
    (AB : ∀ W, Below w.heap.size w W → Calls Try.prog 10 #[.agg #[.int .i64 k, .slice A L.length c, .string x, .int .i64 d]] W fun e w' => e = .returned (.agg #[.int .i64 k, .slice A n c, .string y, .int .i64 d]) ∧ Below W.heap.size W w')
    (A17 : ∀ W, Below w.heap.size w W → Calls Try.prog 17 #[.agg #[.int .i64 0, .slice A n c, .string y, .int .i64 d], .string S, .int .i64 (1 + Q)] W fun e w' => e = .returned (.int .i64 0) ∧ Below W.heap.size W w')
    (A14 : ∀ W, Below w.heap.size w W → Calls Try.prog 14 #[.agg #[.int .i64 0, .slice A n c, .string y, .int .i64 d]] W fun e w' => e = .returned (.int .i64 0) ∧ Below W.heap.size W w') :
    Calls Try.prog 7 #[.agg #[.int .i64 k, .slice A L.length c, .string x, .int .i64 d], .string s, .int .i64 q] w fun e w' => e = .returned (.bool true) ∧ Below w.heap.size w w' := by
  have HB := Lib.hid AB
  have H17 := Lib.hid A17
  have H14 := Lib.hid A14
  clear AB A17 A14
  have e2 : IntKind.i64.wrap (1 + Q) = 1 + Q := IntWalk.i64_in _ (by omega)
  have hs2 : ¬ s.size ≤ 1600 := by omega
  go_enter Try.func7, Try.ntmps7
  go_wp2_with fail
  refine (HB.out _ ((Below.refl _ _).alloc (Nat.le_refl _) _)).mono ?_
  rintro e w1 ⟨rfl, hq⟩
  have h1 := (Held.new w 24 #[.int .i64 k, .slice A L.length c, .string x, .int .i64 d]).next hq
  clear hq
  have z0 := h1.blk.frozen 0
  have z1 := h1.blk.frozen 1
  have z2 := h1.blk.frozen 2
  have z3 := h1.blk.frozen 3
  have c0 := h1.blk.cell 0
  have c1 := h1.blk.cell 1
  have c2 := h1.blk.cell 2
  have c3 := h1.blk.cell 3
  simp only [List.getElem?_toArray, List.getElem?_cons_zero, List.getElem?_cons_succ] at c0 c1 c2 c3
  have h2 := h1.set4 (.int .i64 k) (.slice A n c) (.string y) (.int .i64 d)
  have h3 : Held w 24 #[.int .i64 0, .slice A n c, .string y, .int .i64 d] (((((w1.setCell ⟨w.heap.size, 0, none⟩ (.int .i64 k)).setCell ⟨w.heap.size, 1, none⟩ (.slice A n c)).setCell ⟨w.heap.size, 2, none⟩ (.string y)).setCell ⟨w.heap.size, 3, none⟩ (.int .i64 d)).setCell ⟨w.heap.size, 0, none⟩ (.int .i64 0)) := by
    refine ⟨?_, h2.below.setCell (Nat.le_refl _) _⟩
    have := h2.blk.put 0 (.int .i64 0)
    simpa using this
  go_wp2_with fail
  generalize ((((w1.setCell ⟨w.heap.size, 0, none⟩ (.int .i64 k)).setCell ⟨w.heap.size, 1, none⟩ (.slice A n c)).setCell ⟨w.heap.size, 2, none⟩ (.string y)).setCell ⟨w.heap.size, 3, none⟩ (.int .i64 d)).setCell ⟨w.heap.size, 0, none⟩ (.int .i64 0) = w2 at h3 ⊢
  clear h1 h2 z0 z1 z2 z3 c0 c1 c2 c3
  refine (H17.out _ h3.below).mono ?_
  rintro e w3 ⟨rfl, hq⟩
  have h4 := h3.next hq
  clear hq h3
  have c0 := h4.blk.cell 0
  have c1 := h4.blk.cell 1
  have c2 := h4.blk.cell 2
  have c3 := h4.blk.cell 3
  simp only [List.getElem?_toArray, List.getElem?_cons_zero, List.getElem?_cons_succ] at c0 c1 c2 c3
  go_wp2_with fail
  refine (H14.out _ h4.below).mono ?_
  rintro e w4 ⟨rfl, hq⟩
  have h5 := h4.next hq
  clear hq h4 c0 c1 c2 c3
  have c0 := h5.blk.cell 0
  have c1 := h5.blk.cell 1
  have c2 := h5.blk.cell 2
  have c3 := h5.blk.cell 3
  simp only [List.getElem?_toArray, List.getElem?_cons_zero, List.getElem?_cons_succ] at c0 c1 c2 c3
  go_wp2_with fail
  refine (fixed_any _).mono ?_
  rintro e w5 ⟨rfl, hq⟩
  have h6 := h5.next hq
  go_wp2_with fail
  go_ret
  exact ⟨rfl, h6.below⟩
set_option maxRecDepth 100000 in
set_option maxHeartbeats 1600000 in
theorem rssDefault_c_short (k : Int) (A : Option Addr) (c : Nat) (L : List Int) (x : ByteArray) (d : Int) (n : Nat) (y S : ByteArray) (q Q : Int) (eq : bits .and .i64 q 7 = Q) (q0 : 0 ≤ Q) (q7 : Q ≤ 7) (hd : d < 1 + Q) (hs : S.size ≤ 1600) (w : World)
    (AB : ∀ W, Below w.heap.size w W → Calls Try.prog 10 #[.agg #[.int .i64 k, .slice A L.length c, .string x, .int .i64 d]] W fun e w' => e = .returned (.agg #[.int .i64 k, .slice A n c, .string y, .int .i64 d]) ∧ Below W.heap.size W w')
    (A17 : ∀ W, Below w.heap.size w W → Calls Try.prog 17 #[.agg #[.int .i64 0, .slice A n c, .string y, .int .i64 d], .string S, .int .i64 (1 + Q)] W fun e w' => e = .returned (.int .i64 d) ∧ Below W.heap.size W w')
    (A14 : ∀ W, Below w.heap.size w W → Calls Try.prog 14 #[.agg #[.int .i64 0, .slice A n c, .string y, .int .i64 d]] W fun e w' => e = .returned (.int .i64 0) ∧ Below W.heap.size W w') :
    Calls Try.prog 7 #[.agg #[.int .i64 k, .slice A L.length c, .string x, .int .i64 d], .string S, .int .i64 q] w fun e w' => e = .returned (.bool true) ∧ Below w.heap.size w w' := by
  have HB := Lib.hid AB
  have H17 := Lib.hid A17
  have H14 := Lib.hid A14
  clear AB A17 A14
  have e2 : IntKind.i64.wrap (1 + Q) = 1 + Q := IntWalk.i64_in _ (by omega)
  have es : S.extract 0 S.size = S := cut_own S
  go_enter Try.func7, Try.ntmps7
  go_wp2_with fail
  refine (HB.out _ ((Below.refl _ _).alloc (Nat.le_refl _) _)).mono ?_
  rintro e w1 ⟨rfl, hq⟩
  have h1 := (Held.new w 24 #[.int .i64 k, .slice A L.length c, .string x, .int .i64 d]).next hq
  clear hq
  have z0 := h1.blk.frozen 0
  have z1 := h1.blk.frozen 1
  have z2 := h1.blk.frozen 2
  have z3 := h1.blk.frozen 3
  have c0 := h1.blk.cell 0
  have c1 := h1.blk.cell 1
  have c2 := h1.blk.cell 2
  have c3 := h1.blk.cell 3
  simp only [List.getElem?_toArray, List.getElem?_cons_zero, List.getElem?_cons_succ] at c0 c1 c2 c3
  have h2 := h1.set4 (.int .i64 k) (.slice A n c) (.string y) (.int .i64 d)
  have h3 : Held w 24 #[.int .i64 0, .slice A n c, .string y, .int .i64 d] (((((w1.setCell ⟨w.heap.size, 0, none⟩ (.int .i64 k)).setCell ⟨w.heap.size, 1, none⟩ (.slice A n c)).setCell ⟨w.heap.size, 2, none⟩ (.string y)).setCell ⟨w.heap.size, 3, none⟩ (.int .i64 d)).setCell ⟨w.heap.size, 0, none⟩ (.int .i64 0)) := by
    refine ⟨?_, h2.below.setCell (Nat.le_refl _) _⟩
    have := h2.blk.put 0 (.int .i64 0)
    simpa using this
  go_wp2_with fail
  generalize ((((w1.setCell ⟨w.heap.size, 0, none⟩ (.int .i64 k)).setCell ⟨w.heap.size, 1, none⟩ (.slice A n c)).setCell ⟨w.heap.size, 2, none⟩ (.string y)).setCell ⟨w.heap.size, 3, none⟩ (.int .i64 d)).setCell ⟨w.heap.size, 0, none⟩ (.int .i64 0) = w2 at h3 ⊢
  clear h1 h2 z0 z1 z2 z3 c0 c1 c2 c3
  refine (H17.out _ h3.below).mono ?_
  rintro e w3 ⟨rfl, hq⟩
  have h4 := h3.next hq
  clear hq h3
  have c0 := h4.blk.cell 0
  have c1 := h4.blk.cell 1
  have c2 := h4.blk.cell 2
  have c3 := h4.blk.cell 3
  simp only [List.getElem?_toArray, List.getElem?_cons_zero, List.getElem?_cons_succ] at c0 c1 c2 c3
  go_wp2_with fail
  refine (H14.out _ h4.below).mono ?_
  rintro e w4 ⟨rfl, hq⟩
  have h5 := h4.next hq
  clear hq h4 c0 c1 c2 c3
  have c0 := h5.blk.cell 0
  have c1 := h5.blk.cell 1
  have c2 := h5.blk.cell 2
  have c3 := h5.blk.cell 3
  simp only [List.getElem?_toArray, List.getElem?_cons_zero, List.getElem?_cons_succ] at c0 c1 c2 c3
  go_wp2_with fail
  refine (fixed_any _).mono ?_
  rintro e w5 ⟨rfl, hq⟩
  have h6 := h5.next hq
  go_wp2_with fail
  go_ret
  exact ⟨rfl, h6.below⟩
set_option maxRecDepth 100000 in
set_option maxHeartbeats 1600000 in
theorem rssDefault_c_long (k : Int) (A : Option Addr) (c : Nat) (L : List Int) (x : ByteArray) (d : Int) (n : Nat) (y S : ByteArray) (q Q : Int) (eq : bits .and .i64 q 7 = Q) (q0 : 0 ≤ Q) (q7 : Q ≤ 7) (hd : d < 1 + Q) (s : ByteArray) (es : s.extract 0 1600 = S) (hs : 1600 < s.size) (w : World)
    (AB : ∀ W, Below w.heap.size w W → Calls Try.prog 10 #[.agg #[.int .i64 k, .slice A L.length c, .string x, .int .i64 d]] W fun e w' => e = .returned (.agg #[.int .i64 k, .slice A n c, .string y, .int .i64 d]) ∧ Below W.heap.size W w')
    (A17 : ∀ W, Below w.heap.size w W → Calls Try.prog 17 #[.agg #[.int .i64 0, .slice A n c, .string y, .int .i64 d], .string S, .int .i64 (1 + Q)] W fun e w' => e = .returned (.int .i64 d) ∧ Below W.heap.size W w')
    (A14 : ∀ W, Below w.heap.size w W → Calls Try.prog 14 #[.agg #[.int .i64 0, .slice A n c, .string y, .int .i64 d]] W fun e w' => e = .returned (.int .i64 0) ∧ Below W.heap.size W w') :
    Calls Try.prog 7 #[.agg #[.int .i64 k, .slice A L.length c, .string x, .int .i64 d], .string s, .int .i64 q] w fun e w' => e = .returned (.bool true) ∧ Below w.heap.size w w' := by
  have HB := Lib.hid AB
  have H17 := Lib.hid A17
  have H14 := Lib.hid A14
  clear AB A17 A14
  have e2 : IntKind.i64.wrap (1 + Q) = 1 + Q := IntWalk.i64_in _ (by omega)
  have hs2 : ¬ s.size ≤ 1600 := by omega
  go_enter Try.func7, Try.ntmps7
  go_wp2_with fail
  refine (HB.out _ ((Below.refl _ _).alloc (Nat.le_refl _) _)).mono ?_
  rintro e w1 ⟨rfl, hq⟩
  have h1 := (Held.new w 24 #[.int .i64 k, .slice A L.length c, .string x, .int .i64 d]).next hq
  clear hq
  have z0 := h1.blk.frozen 0
  have z1 := h1.blk.frozen 1
  have z2 := h1.blk.frozen 2
  have z3 := h1.blk.frozen 3
  have c0 := h1.blk.cell 0
  have c1 := h1.blk.cell 1
  have c2 := h1.blk.cell 2
  have c3 := h1.blk.cell 3
  simp only [List.getElem?_toArray, List.getElem?_cons_zero, List.getElem?_cons_succ] at c0 c1 c2 c3
  have h2 := h1.set4 (.int .i64 k) (.slice A n c) (.string y) (.int .i64 d)
  have h3 : Held w 24 #[.int .i64 0, .slice A n c, .string y, .int .i64 d] (((((w1.setCell ⟨w.heap.size, 0, none⟩ (.int .i64 k)).setCell ⟨w.heap.size, 1, none⟩ (.slice A n c)).setCell ⟨w.heap.size, 2, none⟩ (.string y)).setCell ⟨w.heap.size, 3, none⟩ (.int .i64 d)).setCell ⟨w.heap.size, 0, none⟩ (.int .i64 0)) := by
    refine ⟨?_, h2.below.setCell (Nat.le_refl _) _⟩
    have := h2.blk.put 0 (.int .i64 0)
    simpa using this
  go_wp2_with fail
  generalize ((((w1.setCell ⟨w.heap.size, 0, none⟩ (.int .i64 k)).setCell ⟨w.heap.size, 1, none⟩ (.slice A n c)).setCell ⟨w.heap.size, 2, none⟩ (.string y)).setCell ⟨w.heap.size, 3, none⟩ (.int .i64 d)).setCell ⟨w.heap.size, 0, none⟩ (.int .i64 0) = w2 at h3 ⊢
  clear h1 h2 z0 z1 z2 z3 c0 c1 c2 c3
  refine (H17.out _ h3.below).mono ?_
  rintro e w3 ⟨rfl, hq⟩
  have h4 := h3.next hq
  clear hq h3
  have c0 := h4.blk.cell 0
  have c1 := h4.blk.cell 1
  have c2 := h4.blk.cell 2
  have c3 := h4.blk.cell 3
  simp only [List.getElem?_toArray, List.getElem?_cons_zero, List.getElem?_cons_succ] at c0 c1 c2 c3
  go_wp2_with fail
  refine (H14.out _ h4.below).mono ?_
  rintro e w4 ⟨rfl, hq⟩
  have h5 := h4.next hq
  clear hq h4 c0 c1 c2 c3
  have c0 := h5.blk.cell 0
  have c1 := h5.blk.cell 1
  have c2 := h5.blk.cell 2
  have c3 := h5.blk.cell 3
  simp only [List.getElem?_toArray, List.getElem?_cons_zero, List.getElem?_cons_succ] at c0 c1 c2 c3
  go_wp2_with fail
  refine (fixed_any _).mono ?_
  rintro e w5 ⟨rfl, hq⟩
  have h6 := h5.next hq
  go_wp2_with fail
  go_ret
  exact ⟨rfl, h6.below⟩
theorem rssDefault_any (k : Int) (A : Option Addr) (c : Nat) (L : List Int) (x : ByteArray) (d : Int) (s : ByteArray) (q : Int) (w : World) (hT : Tin A c L w) :
    Calls Try.prog 7 #[.agg #[.int .i64 k, .slice A L.length c, .string x, .int .i64 d], .string s, .int .i64 q] w fun e w' => e = .returned (.bool true) ∧ Below w.heap.size w w' := by
  have hT1 := fun W (hb : Below w.heap.size w W) => (hT.1.take 300).below hb
  have AB := fun W (hb : Below w.heap.size w W) => bound_any k d A c L x W ⟨hT.1.below hb, hT.2⟩
  have eq := low3 q
  have hQ : 0 ≤ q % 8 ∧ q % 8 ≤ 7 := by omega
  generalize q % 8 = Q at eq hQ
  have C1 := fun (S : ByteArray) W (hb : Below w.heap.size w W) => chs_any 0 A c (L.take 300) (x.extract 0 60) d S (1 + Q) W (hT1 W hb)
  have C2 := fun W (hb : Below w.heap.size w W) => check_any 0 A c (L.take 300) (x.extract 0 60) d W (hT1 W hb)
  have hv : ∀ S, chooseV 0 (L.take 300) (x.extract 0 60) d S (1 + Q) = if rulesB 0 (L.take 300) (x.extract 0 60) d = true then (if d < 1 + Q then d else 0) else 0 := fun S => by
    have hf : fromB (1 + Q) 8 = true := by simp [fromB]; omega
    simp only [chooseV, queueV_zero _ _ _ _ (ofV_kind S), hf, and_true]
  by_cases hr : rulesB 0 (L.take 300) (x.extract 0 60) d = true
  · rw [checkV, if_pos hr] at C2
    simp only [hv, if_pos hr] at C1
    by_cases hd : d < 1 + Q
    · simp only [if_pos hd] at C1
      by_cases hs : s.size ≤ 1600
      · exact rssDefault_c_short k A c L x d _ _ s q Q eq hQ.1 hQ.2 hd hs w AB (C1 s) C2
      · exact rssDefault_c_long k A c L x d _ _ _ q Q eq hQ.1 hQ.2 hd s rfl (by omega) w AB (C1 _) C2
    · simp only [if_neg hd] at C1
      by_cases hs : s.size ≤ 1600
      · exact rssDefault_b_short k A c L x d _ _ s q Q eq hQ.1 hQ.2 hd hs w AB (C1 s) C2
      · exact rssDefault_b_long k A c L x d _ _ _ q Q eq hQ.1 hQ.2 hd s rfl (by omega) w AB (C1 _) C2
  · rw [checkV, if_neg hr] at C2
    simp only [hv, if_neg hr] at C1
    by_cases hs : s.size ≤ 1600
    · exact rssDefault_a_short k A c L x d _ _ s q Q eq hQ.1 hQ.2 hs w AB (C1 s) C2
    · exact rssDefault_a_long k A c L x d _ _ _ q Q eq hQ.1 hQ.2 s rfl (by omega) w AB (C1 _) C2

set_option maxRecDepth 100000 in
theorem rssDefault_lifted (os : Os) (started : os.Started) (H : Type) (enc : TypeId × Value → H) :
    ReturnsInHanded {} Try.checked os 7 .any (Rows.rssDefaultSpec.pre6 enc Try.prog Try.f7 Rows.rssDefaultRow.domain false) (Rows.rssDefaultSpec.post enc Try.prog Try.f7 false true false false) := by
  have e : Try.f7.params.toList = [24, 9, 3] := by rw [Try.params7]
  refine law_of_walk (C := Try.checked) (tb := 4) H enc Try.own started (by kernel_rfl) Try.func7 Try.laidOut rfl rfl Try.underlying4 ?_ ?_
    (ChangeSpec.witness6 (enc := enc) (C := Try.checked) false ⟨#[], #[.agg #[.int .i64 0, .slice none 0 0, .string ByteArray.empty, .int .i64 0], .string ByteArray.empty, .int .i64 0], []⟩ 8 (by kernel_rfl) (by kernel_rfl) (by kernel_rfl) (by kernel_rfl)) ?_
  · rw [e]
    intro t ht
    simp only [List.mem_cons, List.not_mem_nil, or_false] at ht
    rcases ht with rfl | rfl | rfl <;> exact ⟨by kernel_rfl, of_decide_eq_true (by kernel_rfl)⟩
  · intro ds hds
    rw [e] at hds
    match ds, hds with
    | [d0, d1, d2], _ => rfl
  · intro W base args ds p hval0 hA0 hsz0
    have hval : ∀ (j : Nat) t v, Try.f7.params[j]? = some t → args[j]? = some v → Value.okWide Try.prog W .any base t v := hval0
    have hA : DataW.TrodAll enc Try.prog W 0 (fun _ => true) true Try.f7.params.toList args.toList ds p := hA0
    have hsz : (DataW.weightsEach Try.prog Try.f7.params.toList ds).all (· ≤ reachBytes) = true := hsz0
    rw [Try.params7] at hA hval hsz
    obtain ⟨v0, v1, v2, d0, d1, d2, p0, p1, p2, rfl, rfl, rfl, h0, h1, h2⟩ := trodAll_three hA
    obtain ⟨k, A, c, L, x, dv, rfl, hT, hk, hd⟩ := open_rss (hval 0 24 v0 rfl rfl) h0
    obtain ⟨x1, rfl, rfl, rfl, _⟩ := open_string Try.underlying9 (hval 1 9 v1 rfl rfl) h1
    obtain ⟨x2, rfl, rfl, rfl, k2⟩ := open_int Try.underlying3 (hval 2 3 v2 rfl rfl) h2
    have i2 := bounds_i64 k2
    have s1 := sized_string hsz (j := 1) (t := 9) rfl rfl
    simp only [reachBytes] at s1
    exact rssDefault_any k A c L x dv x1 x2 W hT

theorem rssDefault_holds : Rows.RssDefaultSaid :=
  OpenClaim.holds_of_wide 7 Try.f7 rfl rfl rfl rfl rfl rfl rfl ⟨rfl, rfl, rfl, rfl, rfl⟩ rfl rfl rfl rfl rfl (by kernel_rfl) Try.func7 (by kernel_rfl)
    (of_decide_eq_true (by kernel_rfl)) (by unfold Func.isWrapper; first | (rw [if_pos (by decide +kernel)]; kernel_rfl) | (rw [if_neg (by decide +kernel)]; exact ⟨rfl, rfl⟩))
    (fun os started H enc _ => rssDefault_lifted os started H enc)
end Go.Proofs.Ytpjndjmneficbaa

/-
  RssPlain: a table of one queue, or one that has it everywhere, whatever the other rules, the bytes and the queue.
-/
import Derived.Test.YtpjndjmneficbaaWfr
import Derived.Test.YtpjndjmneficbaaRch
import Derived.Test.YtpjndjmneficbaaRfx
namespace Go.Proofs.Ytpjndjmneficbaa
open Go.Joins Go.ChangeShapes Go.WideShapes Go.ChangeAt Go.RowKit Go.Deep
open Go.ChangeMaps (open_string)

/-- rules in their box with a table of their own at g -/
structure PL (g : Nat) (k Q : Int) (y : ByteArray) (w w' : World) : Prop where
  tb : Blk w' g 3 #[.int .i64 Q, .int .i64 Q, .int .i64 Q, .int .i64 Q]
  held : Held w 24 #[.int .i64 k, .slice (some ⟨g, 0, none⟩) 4 4, .string y, .int .i64 Q] w'
section
variable {g : Nat} {k Q : Int} {y : ByteArray} {w w1 w' : World}
theorem PL.next (h : PL g k Q y w w1) (hq : Below w1.heap.size w1 w') : PL g k Q y w w' := ⟨h.tb.same (hq.block _ h.tb.lt), h.held.next hq⟩
theorem PL.tab (h : PL g k Q y w w') : Tab (some ⟨g, 0, none⟩) [Q, Q, Q, Q] w' := by
  intro _
  refine ⟨g, 0, rfl, h.tb.lt, fun i hi => ?_⟩
  rw [Nat.zero_add, h.tb.cell]
  have hi : i < 4 := hi
  rcases (by omega : i = 0 ∨ i = 1 ∨ i = 2 ∨ i = 3) with rfl | rfl | rfl | rfl <;> rfl
theorem PL.new {A : Option Addr} {n c : Nat} {d : Int} (h : Held w 24 #[.int .i64 k, .slice A n c, .string y, .int .i64 d] w1) :
    PL w1.heap.size k Q y w (((w1.setCell ⟨w.heap.size, 1, none⟩ (.slice (some ⟨w1.heap.size, 0, none⟩) 4 4)).setCell ⟨w.heap.size, 3, none⟩ (.int .i64 Q)).alloc (.cells #[.int .i64 Q, .int .i64 Q, .int .i64 Q, .int .i64 Q] 3)) := by
  have hs : ((w1.setCell ⟨w.heap.size, 1, none⟩ (.slice (some ⟨w1.heap.size, 0, none⟩) 4 4)).setCell ⟨w.heap.size, 3, none⟩ (.int .i64 Q)).heap.size = w1.heap.size := by simp [World.setCell]
  have hb := (h.below.setCell (p := ⟨w.heap.size, 1, none⟩) (Nat.le_refl _) (.slice (some ⟨w1.heap.size, 0, none⟩) 4 4)).setCell (p := ⟨w.heap.size, 3, none⟩) (Nat.le_refl _) (.int .i64 Q)
  have ht := Blk.new ((w1.setCell ⟨w.heap.size, 1, none⟩ (.slice (some ⟨w1.heap.size, 0, none⟩) 4 4)).setCell ⟨w.heap.size, 3, none⟩ (.int .i64 Q)) 3 #[.int .i64 Q, .int .i64 Q, .int .i64 Q, .int .i64 Q]
  rw [hs] at ht
  refine ⟨ht, ?_, hb.alloc hb.size _⟩
  have := ((h.blk.put 1 (.slice (some ⟨w1.heap.size, 0, none⟩) 4 4)).put 3 (.int .i64 Q)).alloc (.cells #[.int .i64 Q, .int .i64 Q, .int .i64 Q, .int .i64 Q] 3)
  simpa using this
end
set_option maxRecDepth 100000 in
set_option maxHeartbeats 1600000 in
theorem rssPlain_a_short (k : Int) (A : Option Addr) (c : Nat) (L : List Int) (x : ByteArray) (d : Int) (n : Nat) (y S : ByteArray) (q Q : Int) (eq : bits .and .i64 q 7 = Q) (hs : S.size ≤ 1600) (w : World)
    (AB : ∀ W, Below w.heap.size w W → Calls Try.prog 10 #[.agg #[.int .i64 k, .slice A L.length c, .string x, .int .i64 d]] W fun e w' => e = .returned (.agg #[.int .i64 k, .slice A n c, .string y, .int .i64 d]) ∧ Below W.heap.size W w')
    (A14 : ∀ g W, PL g k Q y w W → Calls Try.prog 14 #[.agg #[.int .i64 k, .slice (some ⟨g, 0, none⟩) 4 4, .string y, .int .i64 Q]] W fun e w' => e = .returned (.int .i64 110) ∧ Below W.heap.size W w')
     :
    Calls Try.prog 8 #[.agg #[.int .i64 k, .slice A L.length c, .string x, .int .i64 d], .string S, .int .i64 q] w fun e w' => e = .returned (.bool true) ∧ Below w.heap.size w w' := by
  have HB := Lib.hid AB
  have H14 := Lib.hid A14
  clear AB A14
  have es : S.extract 0 S.size = S := cut_own S
  go_enter Try.func8, Try.ntmps8
  go_wp2_with fail
  refine (HB.out _ ((Below.refl _ _).alloc (Nat.le_refl _) _)).mono ?_
  rintro e w1 ⟨rfl, hq⟩
  have h1 := (Held.new w 24 #[.int .i64 k, .slice A L.length c, .string x, .int .i64 d]).next hq
  clear hq
  have z0 := h1.blk.frozen 0
  have z1 := h1.blk.frozen 1
  have z2 := h1.blk.frozen 2
  have z3 := h1.blk.frozen 3
  have c0 := h1.blk.cell 0
  have c1 := h1.blk.cell 1
  have c2 := h1.blk.cell 2
  have c3 := h1.blk.cell 3
  simp only [List.getElem?_toArray, List.getElem?_cons_zero, List.getElem?_cons_succ] at c0 c1 c2 c3
  have h2 := h1.set4 (.int .i64 k) (.slice A n c) (.string y) (.int .i64 d)
  obtain ⟨w2, hw2⟩ : ∃ w2, ((((w1.setCell ⟨w.heap.size, 0, none⟩ (.int .i64 k)).setCell ⟨w.heap.size, 1, none⟩ (.slice A n c)).setCell ⟨w.heap.size, 2, none⟩ (.string y)).setCell ⟨w.heap.size, 3, none⟩ (.int .i64 d)) = w2 := ⟨_, rfl⟩
  rw [hw2] at h2
  have y0 := h2.blk.lt
  have y1 := h2.blk.frozen 1
  have y3 := h2.blk.frozen 3
  have d0 := h2.blk.cell 0
  have d1 := h2.blk.cell 1
  have d2 := h2.blk.cell 2
  have d3 := h2.blk.cell 3
  simp only [List.getElem?_toArray, List.getElem?_cons_zero, List.getElem?_cons_succ] at d0 d1 d2 d3
  have h3 := PL.new (Q := Q) h2
  obtain ⟨w3, hw3⟩ : ∃ w3, (((w2.setCell ⟨w.heap.size, 1, none⟩ (.slice (some ⟨w2.heap.size, 0, none⟩) 4 4)).setCell ⟨w.heap.size, 3, none⟩ (.int .i64 Q)).alloc (.cells #[.int .i64 Q, .int .i64 Q, .int .i64 Q, .int .i64 Q] 3)) = w3 := ⟨_, rfl⟩
  rw [hw3] at h3
  have HW := Lib.hid hw2
  have HV := Lib.hid hw3
  clear hw2 hw3 h1 h2
  go_wp2_with (first | (rw [HW.out]; clear z0 z1 z2 z3 c0 c1 c2 c3 HW) | (rw [HV.out]; clear y0 y1 y3 d0 d1 d2 d3 HV; have c0 := h3.held.blk.cell 0; have c1 := h3.held.blk.cell 1; have c2 := h3.held.blk.cell 2; have c3 := h3.held.blk.cell 3; simp only [List.getElem?_toArray, List.getElem?_cons_zero, List.getElem?_cons_succ] at c0 c1 c2 c3))
  refine (H14.out _ _ h3).mono ?_
  rintro e w4 ⟨rfl, hq⟩
  have h4 := h3.next hq
  clear hq h3 c0 c1 c2 c3
  have h5 := h4
  go_wp2_with fail
  refine (fixed_any _).mono ?_
  rintro e w6 ⟨rfl, hq⟩
  have h6 := h5.next hq
  go_wp2_with fail
  go_ret
  exact ⟨rfl, h6.held.below⟩
set_option maxRecDepth 100000 in
set_option maxHeartbeats 1600000 in
theorem rssPlain_a_long (k : Int) (A : Option Addr) (c : Nat) (L : List Int) (x : ByteArray) (d : Int) (n : Nat) (y S : ByteArray) (q Q : Int) (eq : bits .and .i64 q 7 = Q) (s : ByteArray) (es : s.extract 0 1600 = S) (hs : 1600 < s.size) (w : World)
    (AB : ∀ W, Below w.heap.size w W → Calls Try.prog 10 #[.agg #[.int .i64 k, .slice A L.length c, .string x, .int .i64 d]] W fun e w' => e = .returned (.agg #[.int .i64 k, .slice A n c, .string y, .int .i64 d]) ∧ Below W.heap.size W w')
    (A14 : ∀ g W, PL g k Q y w W → Calls Try.prog 14 #[.agg #[.int .i64 k, .slice (some ⟨g, 0, none⟩) 4 4, .string y, .int .i64 Q]] W fun e w' => e = .returned (.int .i64 110) ∧ Below W.heap.size W w')
     :
    Calls Try.prog 8 #[.agg #[.int .i64 k, .slice A L.length c, .string x, .int .i64 d], .string s, .int .i64 q] w fun e w' => e = .returned (.bool true) ∧ Below w.heap.size w w' := by
  have HB := Lib.hid AB
  have H14 := Lib.hid A14
  clear AB A14
  have hs2 : ¬ s.size ≤ 1600 := by omega
  go_enter Try.func8, Try.ntmps8
  go_wp2_with fail
  refine (HB.out _ ((Below.refl _ _).alloc (Nat.le_refl _) _)).mono ?_
  rintro e w1 ⟨rfl, hq⟩
  have h1 := (Held.new w 24 #[.int .i64 k, .slice A L.length c, .string x, .int .i64 d]).next hq
  clear hq
  have z0 := h1.blk.frozen 0
  have z1 := h1.blk.frozen 1
  have z2 := h1.blk.frozen 2
  have z3 := h1.blk.frozen 3
  have c0 := h1.blk.cell 0
  have c1 := h1.blk.cell 1
  have c2 := h1.blk.cell 2
  have c3 := h1.blk.cell 3
  simp only [List.getElem?_toArray, List.getElem?_cons_zero, List.getElem?_cons_succ] at c0 c1 c2 c3
  have h2 := h1.set4 (.int .i64 k) (.slice A n c) (.string y) (.int .i64 d)
  obtain ⟨w2, hw2⟩ : ∃ w2, ((((w1.setCell ⟨w.heap.size, 0, none⟩ (.int .i64 k)).setCell ⟨w.heap.size, 1, none⟩ (.slice A n c)).setCell ⟨w.heap.size, 2, none⟩ (.string y)).setCell ⟨w.heap.size, 3, none⟩ (.int .i64 d)) = w2 := ⟨_, rfl⟩
  rw [hw2] at h2
  have y0 := h2.blk.lt
  have y1 := h2.blk.frozen 1
  have y3 := h2.blk.frozen 3
  have d0 := h2.blk.cell 0
  have d1 := h2.blk.cell 1
  have d2 := h2.blk.cell 2
  have d3 := h2.blk.cell 3
  simp only [List.getElem?_toArray, List.getElem?_cons_zero, List.getElem?_cons_succ] at d0 d1 d2 d3
  have h3 := PL.new (Q := Q) h2
  obtain ⟨w3, hw3⟩ : ∃ w3, (((w2.setCell ⟨w.heap.size, 1, none⟩ (.slice (some ⟨w2.heap.size, 0, none⟩) 4 4)).setCell ⟨w.heap.size, 3, none⟩ (.int .i64 Q)).alloc (.cells #[.int .i64 Q, .int .i64 Q, .int .i64 Q, .int .i64 Q] 3)) = w3 := ⟨_, rfl⟩
  rw [hw3] at h3
  have HW := Lib.hid hw2
  have HV := Lib.hid hw3
  clear hw2 hw3 h1 h2
  go_wp2_with (first | (rw [HW.out]; clear z0 z1 z2 z3 c0 c1 c2 c3 HW) | (rw [HV.out]; clear y0 y1 y3 d0 d1 d2 d3 HV; have c0 := h3.held.blk.cell 0; have c1 := h3.held.blk.cell 1; have c2 := h3.held.blk.cell 2; have c3 := h3.held.blk.cell 3; simp only [List.getElem?_toArray, List.getElem?_cons_zero, List.getElem?_cons_succ] at c0 c1 c2 c3))
  refine (H14.out _ _ h3).mono ?_
  rintro e w4 ⟨rfl, hq⟩
  have h4 := h3.next hq
  clear hq h3 c0 c1 c2 c3
  have h5 := h4
  go_wp2_with fail
  refine (fixed_any _).mono ?_
  rintro e w6 ⟨rfl, hq⟩
  have h6 := h5.next hq
  go_wp2_with fail
  go_ret
  exact ⟨rfl, h6.held.below⟩
set_option maxRecDepth 100000 in
set_option maxHeartbeats 1600000 in
theorem rssPlain_b_short (k : Int) (A : Option Addr) (c : Nat) (L : List Int) (x : ByteArray) (d : Int) (n : Nat) (y S : ByteArray) (q Q : Int) (eq : bits .and .i64 q 7 = Q) (hs : S.size ≤ 1600) (w : World)
    (AB : ∀ W, Below w.heap.size w W → Calls Try.prog 10 #[.agg #[.int .i64 k, .slice A L.length c, .string x, .int .i64 d]] W fun e w' => e = .returned (.agg #[.int .i64 k, .slice A n c, .string y, .int .i64 d]) ∧ Below W.heap.size W w')
    (A14 : ∀ g W, PL g k Q y w W → Calls Try.prog 14 #[.agg #[.int .i64 k, .slice (some ⟨g, 0, none⟩) 4 4, .string y, .int .i64 Q]] W fun e w' => e = .returned (.int .i64 0) ∧ Below W.heap.size W w')
    (A17 : ∀ g W, PL g k Q y w W → Calls Try.prog 17 #[.agg #[.int .i64 k, .slice (some ⟨g, 0, none⟩) 4 4, .string y, .int .i64 Q], .string S, .int .i64 8] W fun e w' => e = .returned (.int .i64 Q) ∧ Below W.heap.size W w') :
    Calls Try.prog 8 #[.agg #[.int .i64 k, .slice A L.length c, .string x, .int .i64 d], .string S, .int .i64 q] w fun e w' => e = .returned (.bool true) ∧ Below w.heap.size w w' := by
  have HB := Lib.hid AB
  have H14 := Lib.hid A14
  have H17 := Lib.hid A17
  clear A17
  clear AB A14
  have es : S.extract 0 S.size = S := cut_own S
  go_enter Try.func8, Try.ntmps8
  go_wp2_with fail
  refine (HB.out _ ((Below.refl _ _).alloc (Nat.le_refl _) _)).mono ?_
  rintro e w1 ⟨rfl, hq⟩
  have h1 := (Held.new w 24 #[.int .i64 k, .slice A L.length c, .string x, .int .i64 d]).next hq
  clear hq
  have z0 := h1.blk.frozen 0
  have z1 := h1.blk.frozen 1
  have z2 := h1.blk.frozen 2
  have z3 := h1.blk.frozen 3
  have c0 := h1.blk.cell 0
  have c1 := h1.blk.cell 1
  have c2 := h1.blk.cell 2
  have c3 := h1.blk.cell 3
  simp only [List.getElem?_toArray, List.getElem?_cons_zero, List.getElem?_cons_succ] at c0 c1 c2 c3
  have h2 := h1.set4 (.int .i64 k) (.slice A n c) (.string y) (.int .i64 d)
  obtain ⟨w2, hw2⟩ : ∃ w2, ((((w1.setCell ⟨w.heap.size, 0, none⟩ (.int .i64 k)).setCell ⟨w.heap.size, 1, none⟩ (.slice A n c)).setCell ⟨w.heap.size, 2, none⟩ (.string y)).setCell ⟨w.heap.size, 3, none⟩ (.int .i64 d)) = w2 := ⟨_, rfl⟩
  rw [hw2] at h2
  have y0 := h2.blk.lt
  have y1 := h2.blk.frozen 1
  have y3 := h2.blk.frozen 3
  have d0 := h2.blk.cell 0
  have d1 := h2.blk.cell 1
  have d2 := h2.blk.cell 2
  have d3 := h2.blk.cell 3
  simp only [List.getElem?_toArray, List.getElem?_cons_zero, List.getElem?_cons_succ] at d0 d1 d2 d3
  have h3 := PL.new (Q := Q) h2
  obtain ⟨w3, hw3⟩ : ∃ w3, (((w2.setCell ⟨w.heap.size, 1, none⟩ (.slice (some ⟨w2.heap.size, 0, none⟩) 4 4)).setCell ⟨w.heap.size, 3, none⟩ (.int .i64 Q)).alloc (.cells #[.int .i64 Q, .int .i64 Q, .int .i64 Q, .int .i64 Q] 3)) = w3 := ⟨_, rfl⟩
  rw [hw3] at h3
  have HW := Lib.hid hw2
  have HV := Lib.hid hw3
  clear hw2 hw3 h1 h2
  go_wp2_with (first | (rw [HW.out]; clear z0 z1 z2 z3 c0 c1 c2 c3 HW) | (rw [HV.out]; clear y0 y1 y3 d0 d1 d2 d3 HV; have c0 := h3.held.blk.cell 0; have c1 := h3.held.blk.cell 1; have c2 := h3.held.blk.cell 2; have c3 := h3.held.blk.cell 3; simp only [List.getElem?_toArray, List.getElem?_cons_zero, List.getElem?_cons_succ] at c0 c1 c2 c3))
  refine (H14.out _ _ h3).mono ?_
  rintro e w4 ⟨rfl, hq⟩
  have h4 := h3.next hq
  clear hq h3 c0 c1 c2 c3
  have c0 := h4.held.blk.cell 0
  have c1 := h4.held.blk.cell 1
  have c2 := h4.held.blk.cell 2
  have c3 := h4.held.blk.cell 3
  simp only [List.getElem?_toArray, List.getElem?_cons_zero, List.getElem?_cons_succ] at c0 c1 c2 c3
  go_wp2_with fail
  refine (H17.out _ _ h4).mono ?_
  rintro e w5 ⟨rfl, hq⟩
  have h5 := h4.next hq
  clear hq h4 c0 c1 c2 c3
  go_wp2_with fail
  refine (fixed_any _).mono ?_
  rintro e w6 ⟨rfl, hq⟩
  have h6 := h5.next hq
  go_wp2_with fail
  go_ret
  exact ⟨rfl, h6.held.below⟩
set_option maxRecDepth 100000 in
set_option maxHeartbeats 1600000 in
theorem rssPlain_b_long (k : Int) (A : Option Addr) (c : Nat) (L : List Int) (x : ByteArray) (d : Int) (n : Nat) (y S : ByteArray) (q Q : Int) (eq : bits .and .i64 q 7 = Q) (s : ByteArray) (es : s.extract 0 1600 = S) (hs : 1600 < s.size) (w : World)
    (AB : ∀ W, Below w.heap.size w W → Calls Try.prog 10 #[.agg #[.int .i64 k, .slice A L.length c, .string x, .int .i64 d]] W fun e w' => e = .returned (.agg #[.int .i64 k, .slice A n c, .string y, .int .i64 d]) ∧ Below W.heap.size W w')
    (A14 : ∀ g W, PL g k Q y w W → Calls Try.prog 14 #[.agg #[.int .i64 k, .slice (some ⟨g, 0, none⟩) 4 4, .string y, .int .i64 Q]] W fun e w' => e = .returned (.int .i64 0) ∧ Below W.heap.size W w')
    (A17 : ∀ g W, PL g k Q y w W → Calls Try.prog 17 #[.agg #[.int .i64 k, .slice (some ⟨g, 0, none⟩) 4 4, .string y, .int .i64 Q], .string S, .int .i64 8] W fun e w' => e = .returned (.int .i64 Q) ∧ Below W.heap.size W w') :
    Calls Try.prog 8 #[.agg #[.int .i64 k, .slice A L.length c, .string x, .int .i64 d], .string s, .int .i64 q] w fun e w' => e = .returned (.bool true) ∧ Below w.heap.size w w' := by
  have HB := Lib.hid AB
  have H14 := Lib.hid A14
  have H17 := Lib.hid A17
  clear A17
  clear AB A14
  have hs2 : ¬ s.size ≤ 1600 := by omega
  go_enter Try.func8, Try.ntmps8
  go_wp2_with fail
  refine (HB.out _ ((Below.refl _ _).alloc (Nat.le_refl _) _)).mono ?_
  rintro e w1 ⟨rfl, hq⟩
  have h1 := (Held.new w 24 #[.int .i64 k, .slice A L.length c, .string x, .int .i64 d]).next hq
  clear hq
  have z0 := h1.blk.frozen 0
  have z1 := h1.blk.frozen 1
  have z2 := h1.blk.frozen 2
  have z3 := h1.blk.frozen 3
  have c0 := h1.blk.cell 0
  have c1 := h1.blk.cell 1
  have c2 := h1.blk.cell 2
  have c3 := h1.blk.cell 3
  simp only [List.getElem?_toArray, List.getElem?_cons_zero, List.getElem?_cons_succ] at c0 c1 c2 c3
  have h2 := h1.set4 (.int .i64 k) (.slice A n c) (.string y) (.int .i64 d)
  obtain ⟨w2, hw2⟩ : ∃ w2, ((((w1.setCell ⟨w.heap.size, 0, none⟩ (.int .i64 k)).setCell ⟨w.heap.size, 1, none⟩ (.slice A n c)).setCell ⟨w.heap.size, 2, none⟩ (.string y)).setCell ⟨w.heap.size, 3, none⟩ (.int .i64 d)) = w2 := ⟨_, rfl⟩
  rw [hw2] at h2
  have y0 := h2.blk.lt
  have y1 := h2.blk.frozen 1
  have y3 := h2.blk.frozen 3
  have d0 := h2.blk.cell 0
  have d1 := h2.blk.cell 1
  have d2 := h2.blk.cell 2
  have d3 := h2.blk.cell 3
  simp only [List.getElem?_toArray, List.getElem?_cons_zero, List.getElem?_cons_succ] at d0 d1 d2 d3
  have h3 := PL.new (Q := Q) h2
  obtain ⟨w3, hw3⟩ : ∃ w3, (((w2.setCell ⟨w.heap.size, 1, none⟩ (.slice (some ⟨w2.heap.size, 0, none⟩) 4 4)).setCell ⟨w.heap.size, 3, none⟩ (.int .i64 Q)).alloc (.cells #[.int .i64 Q, .int .i64 Q, .int .i64 Q, .int .i64 Q] 3)) = w3 := ⟨_, rfl⟩
  rw [hw3] at h3
  have HW := Lib.hid hw2
  have HV := Lib.hid hw3
  clear hw2 hw3 h1 h2
  go_wp2_with (first | (rw [HW.out]; clear z0 z1 z2 z3 c0 c1 c2 c3 HW) | (rw [HV.out]; clear y0 y1 y3 d0 d1 d2 d3 HV; have c0 := h3.held.blk.cell 0; have c1 := h3.held.blk.cell 1; have c2 := h3.held.blk.cell 2; have c3 := h3.held.blk.cell 3; simp only [List.getElem?_toArray, List.getElem?_cons_zero, List.getElem?_cons_succ] at c0 c1 c2 c3))
  refine (H14.out _ _ h3).mono ?_
  rintro e w4 ⟨rfl, hq⟩
  have h4 := h3.next hq
  clear hq h3 c0 c1 c2 c3
  have c0 := h4.held.blk.cell 0
  have c1 := h4.held.blk.cell 1
  have c2 := h4.held.blk.cell 2
  have c3 := h4.held.blk.cell 3
  simp only [List.getElem?_toArray, List.getElem?_cons_zero, List.getElem?_cons_succ] at c0 c1 c2 c3
  go_wp2_with fail
  refine (H17.out _ _ h4).mono ?_
  rintro e w5 ⟨rfl, hq⟩
  have h5 := h4.next hq
  clear hq h4 c0 c1 c2 c3
  go_wp2_with fail
  refine (fixed_any _).mono ?_
  rintro e w6 ⟨rfl, hq⟩
  have h6 := h5.next hq
  go_wp2_with fail
  go_ret
  exact ⟨rfl, h6.held.below⟩
theorem elemV_plain (Q : Int) (x y : ByteArray) : elemV [Q, Q, Q, Q] x y = Q := by
  unfold elemV
  have h : hashV x y % ([Q, Q, Q, Q] : List Int).length < 4 := Nat.mod_lt _ (show 0 < 4 by omega)
  generalize hashV x y % ([Q, Q, Q, Q] : List Int).length = i at h
  rcases (by omega : i = 0 ∨ i = 1 ∨ i = 2 ∨ i = 3) with rfl | rfl | rfl | rfl <;> rfl
theorem queueV_plain (k Q : Int) (x : ByteArray) (f : Fw) : queueV k [Q, Q, Q, Q] x Q f = Q := by
  unfold queueV
  rw [elemV_plain, elemV_plain]
  split
  · rfl
  · split <;> rfl
theorem rssPlain_any (k : Int) (A : Option Addr) (c : Nat) (L : List Int) (x : ByteArray) (d : Int) (s : ByteArray) (q : Int) (w : World) (hT : Tin A c L w) :
    Calls Try.prog 8 #[.agg #[.int .i64 k, .slice A L.length c, .string x, .int .i64 d], .string s, .int .i64 q] w fun e w' => e = .returned (.bool true) ∧ Below w.heap.size w w' := by
  have AB := fun W (hb : Below w.heap.size w W) => bound_any k d A c L x W ⟨hT.1.below hb, hT.2⟩
  have eq := low3 q
  have hQ : 0 ≤ q % 8 ∧ q % 8 ≤ 7 := by omega
  generalize q % 8 = Q at eq hQ
  have C2 := fun g W (h : PL g k Q (x.extract 0 60) w W) => check_any k _ 4 [Q, Q, Q, Q] (x.extract 0 60) Q W h.tab
  by_cases hr : rulesB k [Q, Q, Q, Q] (x.extract 0 60) Q = true
  · rw [checkV, if_pos hr] at C2
    have C1 := fun (S : ByteArray) g W (h : PL g k Q (x.extract 0 60) w W) => chs_any k _ 4 [Q, Q, Q, Q] (x.extract 0 60) Q S 8 W h.tab
    have hv : ∀ S, chooseV k [Q, Q, Q, Q] (x.extract 0 60) Q S 8 = Q := fun S => by
      have hf : fromB 8 8 = true := by decide
      rw [chooseV, if_pos ⟨hr, hf⟩, queueV_plain, if_pos (by omega)]
    simp only [hv] at C1
    by_cases hs : s.size ≤ 1600
    · exact rssPlain_b_short k A c L x d _ _ s q Q eq hs w AB C2 (C1 s)
    · exact rssPlain_b_long k A c L x d _ _ _ q Q eq s rfl (by omega) w AB C2 (C1 _)
  · rw [checkV, if_neg hr] at C2
    by_cases hs : s.size ≤ 1600
    · exact rssPlain_a_short k A c L x d _ _ s q Q eq hs w AB C2
    · exact rssPlain_a_long k A c L x d _ _ _ q Q eq s rfl (by omega) w AB C2

set_option maxRecDepth 100000 in
theorem rssPlain_lifted (os : Os) (started : os.Started) (H : Type) (enc : TypeId × Value → H) :
    ReturnsInHanded {} Try.checked os 8 .any (Rows.rssPlainSpec.pre6 enc Try.prog Try.f8 Rows.rssPlainRow.domain false) (Rows.rssPlainSpec.post enc Try.prog Try.f8 false true false false) := by
  have e : Try.f8.params.toList = [24, 9, 3] := by rw [Try.params8]
  refine law_of_walk (C := Try.checked) (tb := 4) H enc Try.own started (by kernel_rfl) Try.func8 Try.laidOut rfl rfl Try.underlying4 ?_ ?_
    (ChangeSpec.witness6 (enc := enc) (C := Try.checked) false ⟨#[], #[.agg #[.int .i64 0, .slice none 0 0, .string ByteArray.empty, .int .i64 0], .string ByteArray.empty, .int .i64 0], []⟩ 8 (by kernel_rfl) (by kernel_rfl) (by kernel_rfl) (by kernel_rfl)) ?_
  · rw [e]
    intro t ht
    simp only [List.mem_cons, List.not_mem_nil, or_false] at ht
    rcases ht with rfl | rfl | rfl <;> exact ⟨by kernel_rfl, of_decide_eq_true (by kernel_rfl)⟩
  · intro ds hds
    rw [e] at hds
    match ds, hds with
    | [d0, d1, d2], _ => rfl
  · intro W base args ds p hval0 hA0 hsz0
    have hval : ∀ (j : Nat) t v, Try.f8.params[j]? = some t → args[j]? = some v → Value.okWide Try.prog W .any base t v := hval0
    have hA : DataW.TrodAll enc Try.prog W 0 (fun _ => true) true Try.f8.params.toList args.toList ds p := hA0
    have hsz : (DataW.weightsEach Try.prog Try.f8.params.toList ds).all (· ≤ reachBytes) = true := hsz0
    rw [Try.params8] at hA hval hsz
    obtain ⟨v0, v1, v2, d0, d1, d2, p0, p1, p2, rfl, rfl, rfl, h0, h1, h2⟩ := trodAll_three hA
    obtain ⟨k, A, c, L, x, dv, rfl, hT, hk, hd⟩ := open_rss (hval 0 24 v0 rfl rfl) h0
    obtain ⟨x1, rfl, rfl, rfl, _⟩ := open_string Try.underlying9 (hval 1 9 v1 rfl rfl) h1
    obtain ⟨x2, rfl, rfl, rfl, k2⟩ := open_int Try.underlying3 (hval 2 3 v2 rfl rfl) h2
    have i2 := bounds_i64 k2
    have s1 := sized_string hsz (j := 1) (t := 9) rfl rfl
    simp only [reachBytes] at s1
    exact rssPlain_any k A c L x dv x1 x2 W hT

theorem rssPlain_holds : Rows.RssPlainSaid :=
  OpenClaim.holds_of_wide 8 Try.f8 rfl rfl rfl rfl rfl rfl rfl ⟨rfl, rfl, rfl, rfl, rfl⟩ rfl rfl rfl rfl rfl (by kernel_rfl) Try.func8 (by kernel_rfl)
    (of_decide_eq_true (by kernel_rfl)) (by unfold Func.isWrapper; first | (rw [if_pos (by decide +kernel)]; kernel_rfl) | (rw [if_neg (by decide +kernel)]; exact ⟨rfl, rfl⟩))
    (fun os started H enc _ => rssPlain_lifted os started H enc)
end Go.Proofs.Ytpjndjmneficbaa

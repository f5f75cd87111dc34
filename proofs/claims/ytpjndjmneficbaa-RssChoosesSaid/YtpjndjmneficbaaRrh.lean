/-
  What the document's Choose answers: for all rules with a table of at most 300, bytes and numbers of queues.
-/
import Derived.Test.YtpjndjmneficbaaRch
import Derived.Test.YtpjndjmneficbaaRrc
import Derived.Test.YtpjndjmneficbaaRog
namespace Go.Proofs.Ytpjndjmneficbaa
open Go.RowKit

set_option maxRecDepth 100000 in
set_option maxHeartbeats 1600000 in
theorem rch_bad (k : Int) (A : Option Addr) (c : Nat) (L : List Int) (x : ByteArray) (d : Int) (s : ByteArray) (q : Int) (w : World) (A15 : ∀ W, Below w.heap.size w W → Calls Try.prog 15 #[.agg #[.int .i64 k, .slice A L.length c, .string x, .int .i64 d]] W fun e w' => e = .returned (.int .i64 110) ∧ Below W.heap.size W w') :
    Calls Try.prog 18 #[.agg #[.int .i64 k, .slice A L.length c, .string x, .int .i64 d], .string s, .int .i64 q] w fun e w' => e = .returned (.int .i64 0) ∧ Below w.heap.size w w' := by
  have H15 := Lib.hid A15
  clear A15
  go_enter Try.func18, Try.ntmps18
  go_wp2_with fail
  refine (H15.out _ ((Below.refl _ _).alloc (Nat.le_refl _) _)).mono ?_
  rintro e w1 ⟨rfl, hq⟩
  have h1 := (Held.new w 24 #[.int .i64 k, .slice A L.length c, .string x, .int .i64 d]).next hq
  clear hq
  go_wp2_with fail
  go_ret
  exact ⟨rfl, h1.below⟩
set_option maxRecDepth 100000 in
set_option maxHeartbeats 1600000 in
theorem rch_low (k : Int) (A : Option Addr) (c : Nat) (L : List Int) (x : ByteArray) (d : Int) (s : ByteArray) (q : Int) (h1 : q < 1) (w : World) (A15 : ∀ W, Below w.heap.size w W → Calls Try.prog 15 #[.agg #[.int .i64 k, .slice A L.length c, .string x, .int .i64 d]] W fun e w' => e = .returned (.int .i64 0) ∧ Below W.heap.size W w') :
    Calls Try.prog 18 #[.agg #[.int .i64 k, .slice A L.length c, .string x, .int .i64 d], .string s, .int .i64 q] w fun e w' => e = .returned (.int .i64 0) ∧ Below w.heap.size w w' := by
  have H15 := Lib.hid A15
  clear A15
  go_enter Try.func18, Try.ntmps18
  go_wp2_with fail
  refine (H15.out _ ((Below.refl _ _).alloc (Nat.le_refl _) _)).mono ?_
  rintro e w1 ⟨rfl, hq⟩
  have k1 := (Held.new w 24 #[.int .i64 k, .slice A L.length c, .string x, .int .i64 d]).next hq
  clear hq
  go_wp2_with fail
  go_ret
  exact ⟨rfl, k1.below⟩
set_option maxRecDepth 100000 in
set_option maxHeartbeats 1600000 in
theorem rch_high (k : Int) (A : Option Addr) (c : Nat) (L : List Int) (x : ByteArray) (d : Int) (s : ByteArray) (q : Int) (h1 : ¬ q < 1) (h2 : 8 < q) (w : World) (A15 : ∀ W, Below w.heap.size w W → Calls Try.prog 15 #[.agg #[.int .i64 k, .slice A L.length c, .string x, .int .i64 d]] W fun e w' => e = .returned (.int .i64 0) ∧ Below W.heap.size W w') :
    Calls Try.prog 18 #[.agg #[.int .i64 k, .slice A L.length c, .string x, .int .i64 d], .string s, .int .i64 q] w fun e w' => e = .returned (.int .i64 0) ∧ Below w.heap.size w w' := by
  have H15 := Lib.hid A15
  clear A15
  go_enter Try.func18, Try.ntmps18
  go_wp2_with fail
  refine (H15.out _ ((Below.refl _ _).alloc (Nat.le_refl _) _)).mono ?_
  rintro e w1 ⟨rfl, hq⟩
  have k1 := (Held.new w 24 #[.int .i64 k, .slice A L.length c, .string x, .int .i64 d]).next hq
  clear hq
  go_wp2_with fail
  go_ret
  exact ⟨rfl, k1.below⟩
set_option maxRecDepth 100000 in
set_option maxHeartbeats 1600000 in
theorem rch_own (k : Int) (A : Option Addr) (c : Nat) (L : List Int) (x : ByteArray) (d : Int) (s : ByteArray) (q : Int) (q1 : ¬ q < 1) (q2 : ¬ 8 < q) (fk : Int) (fy : ByteArray) (H j : Nat) (r : Int) (w : World) (hT : Tab A L w) (hH : IntKind.i64.wrap (H : Int) = H) (hm : Int.tmod (H : Int) (L.length : Int) = (j : Int)) (hj : j < L.length) (z : Int) (hz : L[j] = z) (hr : r = if z < q then z else 0)
    (A15 : ∀ W, Below w.heap.size w W → Calls Try.prog 15 #[.agg #[.int .i64 k, .slice A L.length c, .string x, .int .i64 d]] W fun e w' => e = .returned (.int .i64 0) ∧ Below W.heap.size W w')
    (A26 : ∀ W, Calls Try.prog 26 #[.string s] W fun e w' => e = .returned (.agg #[.int .i64 fk, .string fy]) ∧ Below W.heap.size W w')
    (A27 : ∀ W, Calls Try.prog 27 #[.agg #[.int .i64 k, .slice A L.length c, .string x, .int .i64 d], .int .i64 fk] W fun e w' => e = .returned (.bool true) ∧ Below W.heap.size W w')
    (A29 : ∀ W, Calls Try.prog 29 #[.string x, .string fy] W fun e w' => e = .returned (.tuple #[.int .u32 H, .int .i64 0]) ∧ Below W.heap.size W w') :
    Calls Try.prog 18 #[.agg #[.int .i64 k, .slice A L.length c, .string x, .int .i64 d], .string s, .int .i64 q] w fun e w' => e = .returned (.int .i64 r) ∧ Below w.heap.size w w' := by
  have HR := Lib.hid hr
  have HT := Lib.hid hT
  clear hr hT
  have H15 := Lib.hid A15
  have H26 := Lib.hid A26
  have H27 := Lib.hid A27
  have H29 := Lib.hid A29
  clear A15 A26 A27 A29
  go_enter Try.func18, Try.ntmps18
  go_wp2_with fail
  refine (H15.out _ ((Below.refl _ _).alloc (Nat.le_refl _) _)).mono ?_
  rintro e w1 ⟨rfl, hq⟩
  have h1 := (Held.new w 24 #[.int .i64 k, .slice A L.length c, .string x, .int .i64 d]).next hq
  clear hq
  have c0 := h1.blk.cell 0
  have c1 := h1.blk.cell 1
  have c2 := h1.blk.cell 2
  have c3 := h1.blk.cell 3
  simp only [List.getElem?_toArray, List.getElem?_cons_zero, List.getElem?_cons_succ] at c0 c1 c2 c3
  have n0 := h1.blk.lt
  go_wp2_with fail
  refine (H26.out _).mono ?_
  rintro e w2 ⟨rfl, hq⟩
  have h2 := h1.next hq
  clear hq h1 c0 c1 c2 c3 n0
  have n0 := h2.blk.lt
  have c0 := h2.blk.cell 0
  have c1 := h2.blk.cell 1
  have c2 := h2.blk.cell 2
  have c3 := h2.blk.cell 3
  simp only [List.getElem?_toArray, List.getElem?_cons_zero, List.getElem?_cons_succ] at c0 c1 c2 c3
  go_wp2_with fail
  refine (H27.out _).mono ?_
  rintro e w3 ⟨rfl, hq⟩
  have hb := ((Below.refl w2.heap.size w2).alloc (Nat.le_refl _) (.cells #[.int .i64 fk, .string fy] 38)).trans (hq.mono (by simp))
  have h3 := h2.next hb
  have g3 : Blk w3 w2.heap.size 38 #[.int .i64 fk, .string fy] := (Blk.new w2 38 _).same (hq.block _ (by simp))
  clear hq hb h2 c0 c1 c2 c3
  have c0 := h3.blk.cell 0
  have c1 := h3.blk.cell 1
  have c2 := h3.blk.cell 2
  have c3 := h3.blk.cell 3
  have f0 := g3.cell 0
  have f1 := g3.cell 1
  simp only [List.getElem?_toArray, List.getElem?_cons_zero, List.getElem?_cons_succ] at c0 c1 c2 c3 f0 f1
  have n1 := h3.blk.lt
  have n2 := g3.lt
  go_wp2_with fail
  refine (H27.out _).mono ?_
  rintro e w5 ⟨rfl, hq⟩
  have h5 := h3.next hq
  have g5 := g3.same (hq.block _ g3.lt)
  clear hq c0 c1 c2 c3 f0 f1 h3 g3
  have c0 := h5.blk.cell 0
  have c1 := h5.blk.cell 1
  have c2 := h5.blk.cell 2
  have c3 := h5.blk.cell 3
  have f0 := g5.cell 0
  have f1 := g5.cell 1
  simp only [List.getElem?_toArray, List.getElem?_cons_zero, List.getElem?_cons_succ] at c0 c1 c2 c3 f0 f1
  go_wp2_with fail
  refine (H29.out _).mono ?_
  rintro e w6 ⟨rfl, hq⟩
  have h6 := h5.next hq
  clear hq c0 c1 c2 c3 f0 f1 g5 h5
  have c1 := h6.blk.cell 1
  simp only [List.getElem?_toArray, List.getElem?_cons_zero, List.getElem?_cons_succ] at c1
  obtain ⟨b, off, z', rfl, hz', hc⟩ := (HT.out.below h6.below).at j hj
  obtain rfl : z = z' := hz.symm.trans hz'
  clear hz hz'
  have e0 : (0 : Int) ≤ (j : Int) := by omega
  have e1 : (j : Int) < (L.length : Int) := by omega
  have e3 : ¬ (L.length : Int) = 0 := by omega
  have e2 : ((L.length : Int) == 0) = false := beq_eq_false_iff_ne.2 e3
  go_wp2_with fail
  go_quiet (fail)
  by_cases hzq : z < q
  · obtain rfl : r = z := HR.out.trans (if_pos hzq)
    go_wp2
    go_ret
    exact ⟨rfl, below_drewN h6.below _⟩
  · obtain rfl : r = 0 := HR.out.trans (if_neg hzq)
    go_wp2
    go_ret
    exact ⟨rfl, below_drewN h6.below _⟩
set_option maxRecDepth 100000 in
set_option maxHeartbeats 1600000 in
theorem rch_less (k : Int) (A : Option Addr) (c : Nat) (L : List Int) (x : ByteArray) (d : Int) (s : ByteArray) (q : Int) (q1 : ¬ q < 1) (q2 : ¬ 8 < q) (fk : Int) (fy : ByteArray) (lk : Int) (ly : ByteArray) (H j : Nat) (r : Int) (w : World) (hT : Tab A L w) (hH : IntKind.i64.wrap (H : Int) = H) (hm : Int.tmod (H : Int) (L.length : Int) = (j : Int)) (hj : j < L.length) (z : Int) (hz : L[j] = z) (hr : r = if z < q then z else 0)
    (A15 : ∀ W, Below w.heap.size w W → Calls Try.prog 15 #[.agg #[.int .i64 k, .slice A L.length c, .string x, .int .i64 d]] W fun e w' => e = .returned (.int .i64 0) ∧ Below W.heap.size W w')
    (A26 : ∀ W, Calls Try.prog 26 #[.string s] W fun e w' => e = .returned (.agg #[.int .i64 fk, .string fy]) ∧ Below W.heap.size W w')
    (A27 : ∀ W, Calls Try.prog 27 #[.agg #[.int .i64 k, .slice A L.length c, .string x, .int .i64 d], .int .i64 fk] W fun e w' => e = .returned (.bool false) ∧ Below W.heap.size W w')
    (A28 : ∀ W, Calls Try.prog 28 #[.agg #[.int .i64 fk, .string fy]] W fun e w' => e = .returned (.agg #[.int .i64 lk, .string ly]) ∧ Below W.heap.size W w')
    (A27b : ∀ W, Calls Try.prog 27 #[.agg #[.int .i64 k, .slice A L.length c, .string x, .int .i64 d], .int .i64 lk] W fun e w' => e = .returned (.bool true) ∧ Below W.heap.size W w')
    (A29 : ∀ W, Calls Try.prog 29 #[.string x, .string ly] W fun e w' => e = .returned (.tuple #[.int .u32 H, .int .i64 0]) ∧ Below W.heap.size W w') :
    Calls Try.prog 18 #[.agg #[.int .i64 k, .slice A L.length c, .string x, .int .i64 d], .string s, .int .i64 q] w fun e w' => e = .returned (.int .i64 r) ∧ Below w.heap.size w w' := by
  have HR := Lib.hid hr
  have HT := Lib.hid hT
  clear hr hT
  have H15 := Lib.hid A15
  have H26 := Lib.hid A26
  have H27 := Lib.hid A27
  have H27b := Lib.hid A27b
  have H28 := Lib.hid A28
  have H29 := Lib.hid A29
  clear A15 A26 A27 A27b A28 A29
  go_enter Try.func18, Try.ntmps18
  go_wp2_with fail
  refine (H15.out _ ((Below.refl _ _).alloc (Nat.le_refl _) _)).mono ?_
  rintro e w1 ⟨rfl, hq⟩
  have h1 := (Held.new w 24 #[.int .i64 k, .slice A L.length c, .string x, .int .i64 d]).next hq
  clear hq
  have c0 := h1.blk.cell 0
  have c1 := h1.blk.cell 1
  have c2 := h1.blk.cell 2
  have c3 := h1.blk.cell 3
  simp only [List.getElem?_toArray, List.getElem?_cons_zero, List.getElem?_cons_succ] at c0 c1 c2 c3
  have n0 := h1.blk.lt
  go_wp2_with fail
  refine (H26.out _).mono ?_
  rintro e w2 ⟨rfl, hq⟩
  have h2 := h1.next hq
  clear hq h1 c0 c1 c2 c3 n0
  have n0 := h2.blk.lt
  have c0 := h2.blk.cell 0
  have c1 := h2.blk.cell 1
  have c2 := h2.blk.cell 2
  have c3 := h2.blk.cell 3
  simp only [List.getElem?_toArray, List.getElem?_cons_zero, List.getElem?_cons_succ] at c0 c1 c2 c3
  go_wp2_with fail
  refine (H27.out _).mono ?_
  rintro e w3 ⟨rfl, hq⟩
  have hb := ((Below.refl w2.heap.size w2).alloc (Nat.le_refl _) (.cells #[.int .i64 fk, .string fy] 38)).trans (hq.mono (by simp))
  have h3 := h2.next hb
  have g3 : Blk w3 w2.heap.size 38 #[.int .i64 fk, .string fy] := (Blk.new w2 38 _).same (hq.block _ (by simp))
  clear hq hb h2 c0 c1 c2 c3
  have c0 := h3.blk.cell 0
  have c1 := h3.blk.cell 1
  have c2 := h3.blk.cell 2
  have c3 := h3.blk.cell 3
  have f0 := g3.cell 0
  have f1 := g3.cell 1
  simp only [List.getElem?_toArray, List.getElem?_cons_zero, List.getElem?_cons_succ] at c0 c1 c2 c3 f0 f1
  have n1 := h3.blk.lt
  have n2 := g3.lt
  go_wp2_with fail
  refine (H28.out _).mono ?_
  rintro e w4 ⟨rfl, hq⟩
  have h4 := h3.next hq
  have g4 := g3.same (hq.block _ g3.lt)
  clear hq c0 c1 c2 c3 f0 f1 h3 g3
  have c0 := h4.blk.cell 0
  have c1 := h4.blk.cell 1
  have c2 := h4.blk.cell 2
  have c3 := h4.blk.cell 3
  have f0 := g4.cell 0
  have f1 := g4.cell 1
  have z0 := g4.frozen 0
  have z1 := g4.frozen 1
  simp only [List.getElem?_toArray, List.getElem?_cons_zero, List.getElem?_cons_succ] at c0 c1 c2 c3 f0 f1
  have n3 := g4.lt
  have n4 : w.heap.size ≠ w2.heap.size := by omega
  have n5 : w2.heap.size ≠ w.heap.size := by omega
  go_wp2_with fail
  refine (H27b.out _).mono ?_
  rintro e w5 ⟨rfl, hq⟩
  have gs : Blk ((w4.setCell ⟨w2.heap.size, 0, none⟩ (.int .i64 lk)).setCell ⟨w2.heap.size, 1, none⟩ (.string ly)) w2.heap.size 38 #[.int .i64 lk, .string ly] := by
    have := (g4.put 0 (.int .i64 lk)).put 1 (.string ly)
    simpa using this
  have hs : Below w.heap.size w4 ((w4.setCell ⟨w2.heap.size, 0, none⟩ (.int .i64 lk)).setCell ⟨w2.heap.size, 1, none⟩ (.string ly)) := ((Below.refl _ _).setCell (show w.heap.size ≤ w2.heap.size by omega) _).setCell (show w.heap.size ≤ w2.heap.size by omega) _
  have hbk : Blk ((w4.setCell ⟨w2.heap.size, 0, none⟩ (.int .i64 lk)).setCell ⟨w2.heap.size, 1, none⟩ (.string ly)) w.heap.size 24 #[.int .i64 k, .slice A L.length c, .string x, .int .i64 d] := (h4.blk.other n4 0 (.int .i64 lk)).other n4 1 (.string ly)
  have h5' : Held w 24 #[.int .i64 k, .slice A L.length c, .string x, .int .i64 d] ((w4.setCell ⟨w2.heap.size, 0, none⟩ (.int .i64 lk)).setCell ⟨w2.heap.size, 1, none⟩ (.string ly)) := ⟨hbk, h4.below.trans hs⟩
  have h5 := h5'.next hq
  have g5 := gs.same (hq.block _ gs.lt)
  clear hq c0 c1 c2 c3 f0 f1 z0 z1 h4 g4 gs hs hbk h5'
  have c0 := h5.blk.cell 0
  have c1 := h5.blk.cell 1
  have c2 := h5.blk.cell 2
  have c3 := h5.blk.cell 3
  have f0 := g5.cell 0
  have f1 := g5.cell 1
  simp only [List.getElem?_toArray, List.getElem?_cons_zero, List.getElem?_cons_succ] at c0 c1 c2 c3 f0 f1
  go_wp2_with fail
  refine (H29.out _).mono ?_
  rintro e w6 ⟨rfl, hq⟩
  have h6 := h5.next hq
  clear hq c0 c1 c2 c3 f0 f1 g5 h5
  have c1 := h6.blk.cell 1
  simp only [List.getElem?_toArray, List.getElem?_cons_zero, List.getElem?_cons_succ] at c1
  obtain ⟨b, off, z', rfl, hz', hc⟩ := (HT.out.below h6.below).at j hj
  obtain rfl : z = z' := hz.symm.trans hz'
  clear hz hz'
  have e0 : (0 : Int) ≤ (j : Int) := by omega
  have e1 : (j : Int) < (L.length : Int) := by omega
  have e3 : ¬ (L.length : Int) = 0 := by omega
  have e2 : ((L.length : Int) == 0) = false := beq_eq_false_iff_ne.2 e3
  go_wp2_with fail
  go_quiet (fail)
  by_cases hzq : z < q
  · obtain rfl : r = z := HR.out.trans (if_pos hzq)
    go_wp2
    go_ret
    exact ⟨rfl, below_drewN h6.below _⟩
  · obtain rfl : r = 0 := HR.out.trans (if_neg hzq)
    go_wp2
    go_ret
    exact ⟨rfl, below_drewN h6.below _⟩
set_option maxRecDepth 100000 in
set_option maxHeartbeats 1600000 in
theorem rch_none (k : Int) (A : Option Addr) (c : Nat) (L : List Int) (x : ByteArray) (d : Int) (s : ByteArray) (q : Int) (q1 : ¬ q < 1) (q2 : ¬ 8 < q) (fk : Int) (fy : ByteArray) (lk : Int) (ly : ByteArray) (r : Int) (w : World) (hr : r = if d < q then d else 0)
    (A15 : ∀ W, Below w.heap.size w W → Calls Try.prog 15 #[.agg #[.int .i64 k, .slice A L.length c, .string x, .int .i64 d]] W fun e w' => e = .returned (.int .i64 0) ∧ Below W.heap.size W w')
    (A26 : ∀ W, Calls Try.prog 26 #[.string s] W fun e w' => e = .returned (.agg #[.int .i64 fk, .string fy]) ∧ Below W.heap.size W w')
    (A27 : ∀ W, Calls Try.prog 27 #[.agg #[.int .i64 k, .slice A L.length c, .string x, .int .i64 d], .int .i64 fk] W fun e w' => e = .returned (.bool false) ∧ Below W.heap.size W w')
    (A28 : ∀ W, Calls Try.prog 28 #[.agg #[.int .i64 fk, .string fy]] W fun e w' => e = .returned (.agg #[.int .i64 lk, .string ly]) ∧ Below W.heap.size W w')
    (A27b : ∀ W, Calls Try.prog 27 #[.agg #[.int .i64 k, .slice A L.length c, .string x, .int .i64 d], .int .i64 lk] W fun e w' => e = .returned (.bool false) ∧ Below W.heap.size W w') :
    Calls Try.prog 18 #[.agg #[.int .i64 k, .slice A L.length c, .string x, .int .i64 d], .string s, .int .i64 q] w fun e w' => e = .returned (.int .i64 r) ∧ Below w.heap.size w w' := by
  have HR := Lib.hid hr
  clear hr
  have H15 := Lib.hid A15
  have H26 := Lib.hid A26
  have H27 := Lib.hid A27
  have H27b := Lib.hid A27b
  have H28 := Lib.hid A28
  clear A15 A26 A27 A27b A28
  go_enter Try.func18, Try.ntmps18
  go_wp2_with fail
  refine (H15.out _ ((Below.refl _ _).alloc (Nat.le_refl _) _)).mono ?_
  rintro e w1 ⟨rfl, hq⟩
  have h1 := (Held.new w 24 #[.int .i64 k, .slice A L.length c, .string x, .int .i64 d]).next hq
  clear hq
  have c0 := h1.blk.cell 0
  have c1 := h1.blk.cell 1
  have c2 := h1.blk.cell 2
  have c3 := h1.blk.cell 3
  simp only [List.getElem?_toArray, List.getElem?_cons_zero, List.getElem?_cons_succ] at c0 c1 c2 c3
  have n0 := h1.blk.lt
  go_wp2_with fail
  refine (H26.out _).mono ?_
  rintro e w2 ⟨rfl, hq⟩
  have h2 := h1.next hq
  clear hq h1 c0 c1 c2 c3 n0
  have n0 := h2.blk.lt
  have c0 := h2.blk.cell 0
  have c1 := h2.blk.cell 1
  have c2 := h2.blk.cell 2
  have c3 := h2.blk.cell 3
  simp only [List.getElem?_toArray, List.getElem?_cons_zero, List.getElem?_cons_succ] at c0 c1 c2 c3
  go_wp2_with fail
  refine (H27.out _).mono ?_
  rintro e w3 ⟨rfl, hq⟩
  have hb := ((Below.refl w2.heap.size w2).alloc (Nat.le_refl _) (.cells #[.int .i64 fk, .string fy] 38)).trans (hq.mono (by simp))
  have h3 := h2.next hb
  have g3 : Blk w3 w2.heap.size 38 #[.int .i64 fk, .string fy] := (Blk.new w2 38 _).same (hq.block _ (by simp))
  clear hq hb h2 c0 c1 c2 c3
  have c0 := h3.blk.cell 0
  have c1 := h3.blk.cell 1
  have c2 := h3.blk.cell 2
  have c3 := h3.blk.cell 3
  have f0 := g3.cell 0
  have f1 := g3.cell 1
  simp only [List.getElem?_toArray, List.getElem?_cons_zero, List.getElem?_cons_succ] at c0 c1 c2 c3 f0 f1
  have n1 := h3.blk.lt
  have n2 := g3.lt
  go_wp2_with fail
  refine (H28.out _).mono ?_
  rintro e w4 ⟨rfl, hq⟩
  have h4 := h3.next hq
  have g4 := g3.same (hq.block _ g3.lt)
  clear hq c0 c1 c2 c3 f0 f1 h3 g3
  have c0 := h4.blk.cell 0
  have c1 := h4.blk.cell 1
  have c2 := h4.blk.cell 2
  have c3 := h4.blk.cell 3
  have f0 := g4.cell 0
  have f1 := g4.cell 1
  have z0 := g4.frozen 0
  have z1 := g4.frozen 1
  simp only [List.getElem?_toArray, List.getElem?_cons_zero, List.getElem?_cons_succ] at c0 c1 c2 c3 f0 f1
  have n3 := g4.lt
  have n4 : w.heap.size ≠ w2.heap.size := by omega
  have n5 : w2.heap.size ≠ w.heap.size := by omega
  go_wp2_with fail
  refine (H27b.out _).mono ?_
  rintro e w5 ⟨rfl, hq⟩
  have gs : Blk ((w4.setCell ⟨w2.heap.size, 0, none⟩ (.int .i64 lk)).setCell ⟨w2.heap.size, 1, none⟩ (.string ly)) w2.heap.size 38 #[.int .i64 lk, .string ly] := by
    have := (g4.put 0 (.int .i64 lk)).put 1 (.string ly)
    simpa using this
  have hs : Below w.heap.size w4 ((w4.setCell ⟨w2.heap.size, 0, none⟩ (.int .i64 lk)).setCell ⟨w2.heap.size, 1, none⟩ (.string ly)) := ((Below.refl _ _).setCell (show w.heap.size ≤ w2.heap.size by omega) _).setCell (show w.heap.size ≤ w2.heap.size by omega) _
  have hbk : Blk ((w4.setCell ⟨w2.heap.size, 0, none⟩ (.int .i64 lk)).setCell ⟨w2.heap.size, 1, none⟩ (.string ly)) w.heap.size 24 #[.int .i64 k, .slice A L.length c, .string x, .int .i64 d] := (h4.blk.other n4 0 (.int .i64 lk)).other n4 1 (.string ly)
  have h5' : Held w 24 #[.int .i64 k, .slice A L.length c, .string x, .int .i64 d] ((w4.setCell ⟨w2.heap.size, 0, none⟩ (.int .i64 lk)).setCell ⟨w2.heap.size, 1, none⟩ (.string ly)) := ⟨hbk, h4.below.trans hs⟩
  have h5 := h5'.next hq
  have g5 := gs.same (hq.block _ gs.lt)
  clear hq c0 c1 c2 c3 f0 f1 z0 z1 h4 g4 gs hs hbk h5'
  have c0 := h5.blk.cell 0
  have c1 := h5.blk.cell 1
  have c2 := h5.blk.cell 2
  have c3 := h5.blk.cell 3
  have f0 := g5.cell 0
  have f1 := g5.cell 1
  simp only [List.getElem?_toArray, List.getElem?_cons_zero, List.getElem?_cons_succ] at c0 c1 c2 c3 f0 f1
  by_cases hzq : d < q
  · obtain rfl : r = d := HR.out.trans (if_pos hzq)
    go_wp2
    go_ret
    exact ⟨rfl, h5.below⟩
  · obtain rfl : r = 0 := HR.out.trans (if_neg hzq)
    go_wp2
    go_ret
    exact ⟨rfl, h5.below⟩
theorem rhas_rule (k : Int) (A : Option Addr) (c : Nat) (L : List Int) (x : ByteArray) (d : Int) (n : Int) (w : World) (h0 : 0 ≤ k) (h1 : k ≤ 126) (h2 : k % 2 = 0) (n0 : 0 ≤ n) (n6 : n ≤ 6) :
    Calls Try.prog 27 #[.agg #[.int .i64 k, .slice A L.length c, .string x, .int .i64 d], .int .i64 n] w fun e w' => e = .returned (.bool (hasB k n)) ∧ Below w.heap.size w w' := by
  obtain ⟨K, rfl⟩ := Int.eq_ofNat_of_zero_le h0
  obtain ⟨m, rfl⟩ := Int.eq_ofNat_of_zero_le n0
  have e := has_is ⟨K, by omega⟩ ⟨m, by omega⟩ (by show K % 2 = 0; omega)
  simp only at e
  rw [e]
  exact rhas_any K A c L x d m w (by omega) (by omega)
theorem keyV_size (p : Pk) (h1 : p.src.size ≤ 16) (h2 : p.dst.size ≤ 16) : (keyV p).size ≤ 36 := by
  unfold keyV
  split
  · rw [ByteArray.size_append]; omega
  · rw [ByteArray.size_append, ByteArray.size_append, ByteArray.size_extract]; omega
theorem ofV_size (s : ByteArray) : (ofV s).key.size ≤ 36 := by
  unfold ofV
  split
  · exact keyV_size _ (ipP_addr _).1 (ipP_addr _).2
  · show (0 : Nat) ≤ 36; omega
theorem lessV_size (f : Fw) (h : f.key.size ≤ 36) : (lessV f).key.size ≤ 36 := by
  unfold lessV
  split
  · rw [ByteArray.size_extract]; omega
  · split
    · rw [ByteArray.size_extract]; omega
    · exact h
theorem rhash_any (x y : ByteArray) (w : World) (h4 : 4 ≤ x.size) (h52 : x.size ≤ 52) (hy : y.size ≤ 36) :
    Calls Try.prog 29 #[.string x, .string y] w fun e w' => e = .returned (.tuple #[.int .u32 (hashV x y), .int .i64 0]) ∧ Below w.heap.size w w' := by
  have := hashr_any x y w (by omega)
  rw [hashE, if_neg (by omega)] at this
  exact this.mono fun e w' h => ⟨h.1, h.2 ▸ Below.refl _ _⟩
theorem rchs_any (k : Int) (A : Option Addr) (c : Nat) (L : List Int) (x : ByteArray) (d : Int) (s : ByteArray) (q : Int) (w : World) (hT : Tab A L w) (hl : L.length ≤ 300) (k0 : -9223372036854775808 ≤ k) (k1 : k ≤ 9223372036854775807) :
    Calls Try.prog 18 #[.agg #[.int .i64 k, .slice A L.length c, .string x, .int .i64 d], .string s, .int .i64 q] w fun e w' => e = .returned (.int .i64 (chooseV k L x d s q)) ∧ Below w.heap.size w w' := by
  have A15 := fun W (hb : Below w.heap.size w W) => rcheck_any k A c L x d W (hT.below hb) hl k0 k1
  unfold chooseV
  by_cases h1 : rulesB k L x d = true
  · rw [checkV, if_pos h1] at A15
    obtain ⟨n1, n2, n3, n4, n5, _⟩ := rules_parts h1
    rw [kinds_is k k0 k1] at n5
    simp only [Bool.and_eq_true, decide_eq_true_eq] at n5
    by_cases h2 : q < 1
    · rw [if_neg (fun h => by have := h.2; simp [fromB] at this; omega)]
      exact rch_low k A c L x d s q h2 w A15
    by_cases h3 : 8 < q
    · rw [if_neg (fun h => by have := h.2; simp [fromB] at this; omega)]
      exact rch_high k A c L x d s q h2 h3 w A15
    rw [if_pos ⟨h1, by simp [fromB]; omega⟩]
    have A1 := fun W => rhas_rule k A c L x d (ofV s).kind W n5.1.1 n5.1.2 n5.2 (ofV_kind s).1 (ofV_kind s).2
    have A2 := fun W => rhas_rule k A c L x d (lessV (ofV s)).kind W n5.1.1 n5.1.2 n5.2 (less_kind (ofV_kind s)).1 (less_kind (ofV_kind s)).2
    have hw : ∀ y, IntKind.i64.wrap (hashV x y : Int) = hashV x y := fun y => by have := hashV_lt x y; exact IntWalk.i64_in _ (by omega)
    have hj : ∀ y, hashV x y % L.length < L.length := fun y => Nat.mod_lt _ (by omega)
    have hm : ∀ y, Int.tmod (hashV x y : Int) (L.length : Int) = ((hashV x y % L.length : Nat) : Int) := fun y => by rw [Int.tmod_eq_emod_of_nonneg (by omega)]; omega
    have he : ∀ y, L[hashV x y % L.length]'(hj y) = elemV L x y := fun y => by rw [elemV, List.getD_eq_getElem?_getD, List.getElem?_eq_getElem (hj y)]; rfl
    unfold queueV
    cases h4 : hasB k (ofV s).kind with
    | true =>
      rw [h4] at A1
      exact rch_own k A c L x d s q h2 h3 (ofV s).kind (ofV s).key _ _ _ w hT (hw _) (hm _) (hj _) _ (he _) rfl A15 (fun W => rof_any s W) A1 (fun W => rhash_any x (ofV s).key W n3 n4 (ofV_size s))
    | false =>
      rw [h4] at A1
      cases h5 : hasB k (lessV (ofV s)).kind with
      | true =>
        rw [h5] at A2
        exact rch_less k A c L x d s q h2 h3 (ofV s).kind (ofV s).key (lessV (ofV s)).kind (lessV (ofV s)).key _ _ _ w hT (hw _) (hm _) (hj _) _ (he _) rfl A15 (fun W => rof_any s W) A1 (fun W => rless_any (ofV s) W) A2 (fun W => rhash_any x (lessV (ofV s)).key W n3 n4 (lessV_size _ (ofV_size s)))
      | false =>
        rw [h5] at A2
        exact rch_none k A c L x d s q h2 h3 (ofV s).kind (ofV s).key (lessV (ofV s)).kind (lessV (ofV s)).key _ w rfl A15 (fun W => rof_any s W) A1 (fun W => rless_any (ofV s) W) A2
  · rw [checkV, if_neg h1] at A15
    rw [if_neg (fun h => h1 h.1)]
    exact rch_bad k A c L x d s q w A15
end Go.Proofs.Ytpjndjmneficbaa

/-
  The walks of SpotParts, by what the first part asks; no condition.
-/
import Derived.Test.YtcofbaioflfehaaWfr
import Derived.Test.YtcofbaioflfehaaSfx
namespace Go.Proofs.Ytcofbaioflfehaa
open Go.Joins Go.ChangeShapes Go.WideShapes Go.ChangeAt Go.RowKit Go.Deep
open Go.ChangeMaps (open_string)

set_option maxRecDepth 100000 in
set_option maxHeartbeats 3200000 in
theorem spotParts_no (o : Int) (u : Bool) (f a : Int) (b : Bool) (c : Int) (d : Bool) (k n : Int) (M N P H O A K D x y z m j p : Int) (g t q : Bool) (w : World) (hm : bits .and .i64 n 32767 = M) (h0 : 0 ≤ M) (h1 : M ≤ 32767) (hn : 1 + M = N) (hz : ¬ N = 0) (hp : N + 1 = P) (hq : ¬ P = 0)
    (ha : bits .and .i64 a 32767 = A) (hk : bits .and .i64 k 65535 = K) (hc : bits .and .i64 c 65535 = D) (ho : bits .and .i64 o 32767 = O) (hx : A.tmod N = x) (hy : K.tmod P = m) (m0 : 0 ≤ m) (m1 : m ≤ N) (hj : N - m + 1 = H) (hh : ¬ H = 0) (hJ : D.tmod H = j) (hO : O.tmod N = p)
    (A1 : ∀ W, Calls Try.prog 10 #[.agg #[.int .i64 x, .bool b], .int .i64 m, .int .i64 N] W fun e w' => e = .returned (.tuple #[.agg #[.int .i64 y, .bool g], .int .i64 0]) ∧ Below W.heap.size W w')
    (A2 : ∀ W, Calls Try.prog 10 #[.agg #[.int .i64 y, .bool g], .int .i64 j, .int .i64 N] W fun e w' => e = .returned (.tuple #[.agg #[.int .i64 z, .bool t], .int .i64 0]) ∧ Below W.heap.size W w')
    (A3 : ∀ W, Calls Try.prog 21 #[.agg #[.int .i64 p, .bool u, .int .i64 f], .agg #[.int .i64 x, .bool b], .agg #[.int .i64 z, .bool t], .int .i64 N] W fun e w' => e = .returned (.bool q) ∧ Below W.heap.size W w')
    (A4 : ∀ W, Calls Try.prog 21 #[.agg #[.int .i64 p, .bool u, .int .i64 f], .agg #[.int .i64 x, .bool b], .agg #[.int .i64 y, .bool g], .int .i64 N] W fun e w' => e = .returned (.bool false) ∧ Below W.heap.size W w')
    (A5 : ∀ W, Calls Try.prog 21 #[.agg #[.int .i64 p, .bool u, .int .i64 f], .agg #[.int .i64 y, .bool g], .agg #[.int .i64 z, .bool t], .int .i64 N] W fun e w' => e = .returned (.bool q) ∧ Below W.heap.size W w')
    (A6 : ∀ W, Calls Try.prog 21 #[.agg #[.int .i64 p, .bool u, .int .i64 f], .agg #[.int .i64 x, .bool b], .agg #[.int .i64 x, .bool b], .int .i64 N] W fun e w' => e = .returned (.bool false) ∧ Below W.heap.size W w')
    (AF : ∀ W, Calls Try.prog 14 #[] W fun e w' => e = .returned (.bool true) ∧ Below W.heap.size W w') :
    Calls Try.prog 7 #[.agg #[.int .i64 o, .bool u, .int .i64 f, .int .i64 a, .bool b, .int .i64 c, .bool d, .int .i64 k, .int .i64 n]] w fun e w' => e = .returned (.bool true) ∧ Below w.heap.size w w' := by
  have H1 := Lib.hid A1
  have H2 := Lib.hid A2
  have H3 := Lib.hid A3
  have H4 := Lib.hid A4
  have H5 := Lib.hid A5
  have H6 := Lib.hid A6
  have HF := Lib.hid AF
  clear A1 A2 A3 A4 A5 A6 AF
  go_enter Try.func7, Try.ntmps7
  go_wp2_with fail
  have q0 := (H9.new w 27 (.int .i64 o) (.bool u) (.int .i64 f) (.int .i64 a) (.bool b) (.int .i64 c) (.bool d) (.int .i64 k) (.int .i64 n)).drew
  have q1 := ((H9.new w 27 (.int .i64 o) (.bool u) (.int .i64 f) (.int .i64 a) (.bool b) (.int .i64 c) (.bool d) (.int .i64 k) (.int .i64 n)).alloc (.cells #[.int .i64 0, .bool false] 25)).drew
  have q2 := ((H9.new w 27 (.int .i64 o) (.bool u) (.int .i64 f) (.int .i64 a) (.bool b) (.int .i64 c) (.bool d) (.int .i64 k) (.int .i64 n)).alloc (.cells #[.int .i64 x, .bool b] 25)).drew
  unfold H9 at q0 q1 q2
  go_region_held3 (fun w' => (w'.cell? ⟨w.heap.size, 0, none⟩ = some (.int .i64 o) ∧ w'.cell? ⟨w.heap.size, 1, none⟩ = some (.bool u) ∧ w'.cell? ⟨w.heap.size, 2, none⟩ = some (.int .i64 f) ∧ w'.cell? ⟨w.heap.size, 3, none⟩ = some (.int .i64 a) ∧ w'.cell? ⟨w.heap.size, 4, none⟩ = some (.bool b) ∧ w'.cell? ⟨w.heap.size, 5, none⟩ = some (.int .i64 c) ∧ w'.cell? ⟨w.heap.size, 6, none⟩ = some (.bool d) ∧ w'.cell? ⟨w.heap.size, 7, none⟩ = some (.int .i64 k) ∧ w'.cell? ⟨w.heap.size, 8, none⟩ = some (.int .i64 n)) ∧ Held w 27 #[.int .i64 o, .bool u, .int .i64 f, .int .i64 a, .bool b, .int .i64 c, .bool d, .int .i64 k, .int .i64 n] w')
    (first | exact q0 | exact q1 | exact q2)
    (fail)
  rename_i hHeld
  clear hHeld q0 q1 q2
  obtain ⟨w1, hw⟩ : ∃ wX, ((w.alloc (.cells #[.int .i64 o, .bool u, .int .i64 f, .int .i64 a, .bool b, .int .i64 c, .bool d, .int .i64 k, .int .i64 n] 27)).alloc (.cells #[.int .i64 x, .bool b] 25)).drew = wX := ⟨_, rfl⟩
  rw [hw]
  have hq : Below ((w.alloc (.cells #[.int .i64 o, .bool u, .int .i64 f, .int .i64 a, .bool b, .int .i64 c, .bool d, .int .i64 k, .int .i64 n] 27)).alloc (.cells #[.int .i64 x, .bool b] 25)).heap.size ((w.alloc (.cells #[.int .i64 o, .bool u, .int .i64 f, .int .i64 a, .bool b, .int .i64 c, .bool d, .int .i64 k, .int .i64 n] 27)).alloc (.cells #[.int .i64 x, .bool b] 25)) w1 := by rw [← hw]; exact (Below.refl _ _).drew
  have hb0_1 : Blk w1 w.heap.size 27 #[.int .i64 o, .bool u, .int .i64 f, .int .i64 a, .bool b, .int .i64 c, .bool d, .int .i64 k, .int .i64 n] := Blk.same ((Blk.at w 27 #[.int .i64 o, .bool u, .int .i64 f, .int .i64 a, .bool b, .int .i64 c, .bool d, .int .i64 k, .int .i64 n] (g := w.heap.size) (by simp)).alloc (.cells #[.int .i64 x, .bool b] 25)) (hq.block _ (((Blk.at w 27 #[.int .i64 o, .bool u, .int .i64 f, .int .i64 a, .bool b, .int .i64 c, .bool d, .int .i64 k, .int .i64 n] (g := w.heap.size) (by simp)).alloc (.cells #[.int .i64 x, .bool b] 25))).lt)
  have hb1_1 : Blk w1 (w.heap.size + 1) 25 #[.int .i64 x, .bool b] := Blk.same (Blk.at (w.alloc (.cells #[.int .i64 o, .bool u, .int .i64 f, .int .i64 a, .bool b, .int .i64 c, .bool d, .int .i64 k, .int .i64 n] 27)) 25 #[.int .i64 x, .bool b] (g := (w.heap.size + 1)) (by simp)) (hq.block _ ((Blk.at (w.alloc (.cells #[.int .i64 o, .bool u, .int .i64 f, .int .i64 a, .bool b, .int .i64 c, .bool d, .int .i64 k, .int .i64 n] 27)) 25 #[.int .i64 x, .bool b] (g := (w.heap.size + 1)) (by simp))).lt)
  have hB1 := b0 (ba (ba (Below.refl w.heap.size w) _) _) hq
  have c0_0 : w1.cell? ⟨w.heap.size, 0, none⟩ = some (.int .i64 o) := hb0_1.cell 0
  have c0_1 : w1.cell? ⟨w.heap.size, 1, none⟩ = some (.bool u) := hb0_1.cell 1
  have c0_2 : w1.cell? ⟨w.heap.size, 2, none⟩ = some (.int .i64 f) := hb0_1.cell 2
  have c0_3 : w1.cell? ⟨w.heap.size, 3, none⟩ = some (.int .i64 a) := hb0_1.cell 3
  have c0_4 : w1.cell? ⟨w.heap.size, 4, none⟩ = some (.bool b) := hb0_1.cell 4
  have c0_5 : w1.cell? ⟨w.heap.size, 5, none⟩ = some (.int .i64 c) := hb0_1.cell 5
  have c0_6 : w1.cell? ⟨w.heap.size, 6, none⟩ = some (.bool d) := hb0_1.cell 6
  have c0_7 : w1.cell? ⟨w.heap.size, 7, none⟩ = some (.int .i64 k) := hb0_1.cell 7
  have c0_8 : w1.cell? ⟨w.heap.size, 8, none⟩ = some (.int .i64 n) := hb0_1.cell 8
  have z0 : w.heap.size < w1.heap.size := hb0_1.lt
  have n0 : w.heap.size ≠ w1.heap.size := by omega
  have c1_0 : w1.cell? ⟨(w.heap.size + 1), 0, none⟩ = some (.int .i64 x) := hb1_1.cell 0
  have c1_1 : w1.cell? ⟨(w.heap.size + 1), 1, none⟩ = some (.bool b) := hb1_1.cell 1
  have z1 : (w.heap.size + 1) < w1.heap.size := hb1_1.lt
  have n1 : (w.heap.size + 1) ≠ w1.heap.size := by omega
  clear hq hw
  go_wp2_with fail
  refine (H1.out _).mono ?_
  rintro e w2 ⟨rfl, hq⟩
  have hb0_2 : Blk w2 w.heap.size 27 #[.int .i64 o, .bool u, .int .i64 f, .int .i64 a, .bool b, .int .i64 c, .bool d, .int .i64 k, .int .i64 n] := Blk.same (hb0_1.alloc (.cells #[.int .i64 p, .bool u, .int .i64 f] 23)) (hq.block _ ((hb0_1.alloc (.cells #[.int .i64 p, .bool u, .int .i64 f] 23))).lt)
  have hb1_2 : Blk w2 (w.heap.size + 1) 25 #[.int .i64 x, .bool b] := Blk.same (hb1_1.alloc (.cells #[.int .i64 p, .bool u, .int .i64 f] 23)) (hq.block _ ((hb1_1.alloc (.cells #[.int .i64 p, .bool u, .int .i64 f] 23))).lt)
  have hb2_2 : Blk w2 w1.heap.size 23 #[.int .i64 p, .bool u, .int .i64 f] := Blk.same (Blk.at w1 23 #[.int .i64 p, .bool u, .int .i64 f] (g := w1.heap.size) (by simp)) (hq.block _ ((Blk.at w1 23 #[.int .i64 p, .bool u, .int .i64 f] (g := w1.heap.size) (by simp))).lt)
  have hB2 := b0 (ba hB1 _) hq
  clear hb0_1 hb1_1 hB1 c0_0 c0_1 c0_2 c0_3 c0_4 c0_5 c0_6 c0_7 c0_8 n0 z0 c1_0 c1_1 n1 z1
  have c0_0 : w2.cell? ⟨w.heap.size, 0, none⟩ = some (.int .i64 o) := hb0_2.cell 0
  have c0_1 : w2.cell? ⟨w.heap.size, 1, none⟩ = some (.bool u) := hb0_2.cell 1
  have c0_2 : w2.cell? ⟨w.heap.size, 2, none⟩ = some (.int .i64 f) := hb0_2.cell 2
  have c0_3 : w2.cell? ⟨w.heap.size, 3, none⟩ = some (.int .i64 a) := hb0_2.cell 3
  have c0_4 : w2.cell? ⟨w.heap.size, 4, none⟩ = some (.bool b) := hb0_2.cell 4
  have c0_5 : w2.cell? ⟨w.heap.size, 5, none⟩ = some (.int .i64 c) := hb0_2.cell 5
  have c0_6 : w2.cell? ⟨w.heap.size, 6, none⟩ = some (.bool d) := hb0_2.cell 6
  have c0_7 : w2.cell? ⟨w.heap.size, 7, none⟩ = some (.int .i64 k) := hb0_2.cell 7
  have c0_8 : w2.cell? ⟨w.heap.size, 8, none⟩ = some (.int .i64 n) := hb0_2.cell 8
  have z0 : w.heap.size < w2.heap.size := hb0_2.lt
  have n0 : w.heap.size ≠ w2.heap.size := by omega
  have c1_0 : w2.cell? ⟨(w.heap.size + 1), 0, none⟩ = some (.int .i64 x) := hb1_2.cell 0
  have c1_1 : w2.cell? ⟨(w.heap.size + 1), 1, none⟩ = some (.bool b) := hb1_2.cell 1
  have z1 : (w.heap.size + 1) < w2.heap.size := hb1_2.lt
  have n1 : (w.heap.size + 1) ≠ w2.heap.size := by omega
  have c2_0 : w2.cell? ⟨w1.heap.size, 0, none⟩ = some (.int .i64 p) := hb2_2.cell 0
  have c2_1 : w2.cell? ⟨w1.heap.size, 1, none⟩ = some (.bool u) := hb2_2.cell 1
  have c2_2 : w2.cell? ⟨w1.heap.size, 2, none⟩ = some (.int .i64 f) := hb2_2.cell 2
  have z2 : w1.heap.size < w2.heap.size := hb2_2.lt
  have n2 : w1.heap.size ≠ w2.heap.size := by omega
  clear hq
  go_wp2_with fail
  refine (H2.out _).mono ?_
  rintro e w3 ⟨rfl, hq⟩
  have hb0_3 : Blk w3 w.heap.size 27 #[.int .i64 o, .bool u, .int .i64 f, .int .i64 a, .bool b, .int .i64 c, .bool d, .int .i64 k, .int .i64 n] := Blk.same (hb0_2.alloc (.cells #[.int .i64 y, .bool g] 25)) (hq.block _ ((hb0_2.alloc (.cells #[.int .i64 y, .bool g] 25))).lt)
  have hb1_3 : Blk w3 (w.heap.size + 1) 25 #[.int .i64 x, .bool b] := Blk.same (hb1_2.alloc (.cells #[.int .i64 y, .bool g] 25)) (hq.block _ ((hb1_2.alloc (.cells #[.int .i64 y, .bool g] 25))).lt)
  have hb2_3 : Blk w3 w1.heap.size 23 #[.int .i64 p, .bool u, .int .i64 f] := Blk.same (hb2_2.alloc (.cells #[.int .i64 y, .bool g] 25)) (hq.block _ ((hb2_2.alloc (.cells #[.int .i64 y, .bool g] 25))).lt)
  have hb3_3 : Blk w3 w2.heap.size 25 #[.int .i64 y, .bool g] := Blk.same (Blk.at w2 25 #[.int .i64 y, .bool g] (g := w2.heap.size) (by simp)) (hq.block _ ((Blk.at w2 25 #[.int .i64 y, .bool g] (g := w2.heap.size) (by simp))).lt)
  have hB3 := b0 (ba hB2 _) hq
  clear hb0_2 hb1_2 hb2_2 hB2 c0_0 c0_1 c0_2 c0_3 c0_4 c0_5 c0_6 c0_7 c0_8 n0 z0 c1_0 c1_1 n1 z1 c2_0 c2_1 c2_2 n2 z2
  have c0_0 : w3.cell? ⟨w.heap.size, 0, none⟩ = some (.int .i64 o) := hb0_3.cell 0
  have c0_1 : w3.cell? ⟨w.heap.size, 1, none⟩ = some (.bool u) := hb0_3.cell 1
  have c0_2 : w3.cell? ⟨w.heap.size, 2, none⟩ = some (.int .i64 f) := hb0_3.cell 2
  have c0_3 : w3.cell? ⟨w.heap.size, 3, none⟩ = some (.int .i64 a) := hb0_3.cell 3
  have c0_4 : w3.cell? ⟨w.heap.size, 4, none⟩ = some (.bool b) := hb0_3.cell 4
  have c0_5 : w3.cell? ⟨w.heap.size, 5, none⟩ = some (.int .i64 c) := hb0_3.cell 5
  have c0_6 : w3.cell? ⟨w.heap.size, 6, none⟩ = some (.bool d) := hb0_3.cell 6
  have c0_7 : w3.cell? ⟨w.heap.size, 7, none⟩ = some (.int .i64 k) := hb0_3.cell 7
  have c0_8 : w3.cell? ⟨w.heap.size, 8, none⟩ = some (.int .i64 n) := hb0_3.cell 8
  have z0 : w.heap.size < w3.heap.size := hb0_3.lt
  have n0 : w.heap.size ≠ w3.heap.size := by omega
  have c1_0 : w3.cell? ⟨(w.heap.size + 1), 0, none⟩ = some (.int .i64 x) := hb1_3.cell 0
  have c1_1 : w3.cell? ⟨(w.heap.size + 1), 1, none⟩ = some (.bool b) := hb1_3.cell 1
  have z1 : (w.heap.size + 1) < w3.heap.size := hb1_3.lt
  have n1 : (w.heap.size + 1) ≠ w3.heap.size := by omega
  have c2_0 : w3.cell? ⟨w1.heap.size, 0, none⟩ = some (.int .i64 p) := hb2_3.cell 0
  have c2_1 : w3.cell? ⟨w1.heap.size, 1, none⟩ = some (.bool u) := hb2_3.cell 1
  have c2_2 : w3.cell? ⟨w1.heap.size, 2, none⟩ = some (.int .i64 f) := hb2_3.cell 2
  have z2 : w1.heap.size < w3.heap.size := hb2_3.lt
  have n2 : w1.heap.size ≠ w3.heap.size := by omega
  have c3_0 : w3.cell? ⟨w2.heap.size, 0, none⟩ = some (.int .i64 y) := hb3_3.cell 0
  have c3_1 : w3.cell? ⟨w2.heap.size, 1, none⟩ = some (.bool g) := hb3_3.cell 1
  have z3 : w2.heap.size < w3.heap.size := hb3_3.lt
  have n3 : w2.heap.size ≠ w3.heap.size := by omega
  clear hq
  go_wp2_with fail
  have h8 := (H8.of (w := w) (hb2_3.alloc (.cells #[.int .i64 z, .bool t] 25)) (hb1_3.alloc (.cells #[.int .i64 z, .bool t] 25)) (hb3_3.alloc (.cells #[.int .i64 z, .bool t] 25)) (Blk.new w3 25 #[.int .i64 z, .bool t]) (ba hB3 _)).drew
  clear hB3 hb0_3 hb1_3 hb2_3 hb3_3 c0_0 c0_1 c0_2 c0_3 c0_4 c0_5 c0_6 c0_7 c0_8 n0 z0 c1_0 c1_1 n1 z1 c2_0 c2_1 c2_2 n2 z2 c3_0 c3_1 n3 z3
  unfold H8 at h8
  have eQ : (q == q) = true := by cases q <;> rfl
  go_region_held3 (fun w' => (w'.cell? ⟨w1.heap.size, 0, none⟩ = some (.int .i64 p) ∧ w'.cell? ⟨w1.heap.size, 1, none⟩ = some (.bool u) ∧ w'.cell? ⟨w1.heap.size, 2, none⟩ = some (.int .i64 f) ∧ w'.cell? ⟨(w.heap.size + 1), 0, none⟩ = some (.int .i64 x) ∧ w'.cell? ⟨(w.heap.size + 1), 1, none⟩ = some (.bool b) ∧ w'.cell? ⟨w2.heap.size, 0, none⟩ = some (.int .i64 y) ∧ w'.cell? ⟨w2.heap.size, 1, none⟩ = some (.bool g) ∧ w'.cell? ⟨w3.heap.size, 0, none⟩ = some (.int .i64 z) ∧ w'.cell? ⟨w3.heap.size, 1, none⟩ = some (.bool t)) ∧ (Blk w' w1.heap.size 23 #[.int .i64 p, .bool u, .int .i64 f] ∧ Blk w' (w.heap.size + 1) 25 #[.int .i64 x, .bool b] ∧ Blk w' w2.heap.size 25 #[.int .i64 y, .bool g] ∧ Blk w' w3.heap.size 25 #[.int .i64 z, .bool t] ∧ Below w.heap.size w w'))
    (first | exact h8 | assumption | exact H8.next (by assumption) hq)
    (first
      | (go_at_call 21; ((with_reducible refine (H3.out _).mono ?_); rintro e w' ⟨rfl, hq⟩))
      | (go_at_call 21; ((with_reducible refine (H4.out _).mono ?_); rintro e w' ⟨rfl, hq⟩))
      | (go_at_call 21; ((with_reducible refine (H5.out _).mono ?_); rintro e w' ⟨rfl, hq⟩))
      | (go_at_call 21; ((with_reducible refine (H6.out _).mono ?_); rintro e w' ⟨rfl, hq⟩))
      | (go_at_call 14; ((with_reducible refine (HF.out _).mono ?_); rintro e w' ⟨rfl, hq⟩)))
  all_goals
    rename_i hH
    go_wp2
    go_ret
    exact ⟨rfl, hH.2.2.2.2.2⟩
set_option maxRecDepth 100000 in
set_option maxHeartbeats 3200000 in
theorem spotParts_one (o : Int) (u : Bool) (f a : Int) (b : Bool) (c : Int) (d : Bool) (k n : Int) (M N P H O A K D x y z m j p : Int) (g t : Bool) (w : World) (hm : bits .and .i64 n 32767 = M) (h0 : 0 ≤ M) (h1 : M ≤ 32767) (hn : 1 + M = N) (hz : ¬ N = 0) (hp : N + 1 = P) (hq : ¬ P = 0)
    (ha : bits .and .i64 a 32767 = A) (hk : bits .and .i64 k 65535 = K) (hc : bits .and .i64 c 65535 = D) (ho : bits .and .i64 o 32767 = O) (hx : A.tmod N = x) (hy : K.tmod P = m) (m0 : 0 ≤ m) (m1 : m ≤ N) (hj : N - m + 1 = H) (hh : ¬ H = 0) (hJ : D.tmod H = j) (hO : O.tmod N = p)
    (A1 : ∀ W, Calls Try.prog 10 #[.agg #[.int .i64 x, .bool b], .int .i64 m, .int .i64 N] W fun e w' => e = .returned (.tuple #[.agg #[.int .i64 y, .bool g], .int .i64 0]) ∧ Below W.heap.size W w')
    (A2 : ∀ W, Calls Try.prog 10 #[.agg #[.int .i64 y, .bool g], .int .i64 j, .int .i64 N] W fun e w' => e = .returned (.tuple #[.agg #[.int .i64 z, .bool t], .int .i64 0]) ∧ Below W.heap.size W w')
    (A3 : ∀ W, Calls Try.prog 21 #[.agg #[.int .i64 p, .bool u, .int .i64 f], .agg #[.int .i64 x, .bool b], .agg #[.int .i64 z, .bool t], .int .i64 N] W fun e w' => e = .returned (.bool true) ∧ Below W.heap.size W w')
    (A4 : ∀ W, Calls Try.prog 21 #[.agg #[.int .i64 p, .bool u, .int .i64 f], .agg #[.int .i64 x, .bool b], .agg #[.int .i64 y, .bool g], .int .i64 N] W fun e w' => e = .returned (.bool true) ∧ Below W.heap.size W w')
    (A6 : ∀ W, Calls Try.prog 21 #[.agg #[.int .i64 p, .bool u, .int .i64 f], .agg #[.int .i64 x, .bool b], .agg #[.int .i64 x, .bool b], .int .i64 N] W fun e w' => e = .returned (.bool false) ∧ Below W.heap.size W w')
    (AF : ∀ W, Calls Try.prog 14 #[] W fun e w' => e = .returned (.bool true) ∧ Below W.heap.size W w') :
    Calls Try.prog 7 #[.agg #[.int .i64 o, .bool u, .int .i64 f, .int .i64 a, .bool b, .int .i64 c, .bool d, .int .i64 k, .int .i64 n]] w fun e w' => e = .returned (.bool true) ∧ Below w.heap.size w w' := by
  have H1 := Lib.hid A1
  have H2 := Lib.hid A2
  have H3 := Lib.hid A3
  have H4 := Lib.hid A4
  have H6 := Lib.hid A6
  have HF := Lib.hid AF
  clear A1 A2 A3 A4 A6 AF
  go_enter Try.func7, Try.ntmps7
  go_wp2_with fail
  have q0 := (H9.new w 27 (.int .i64 o) (.bool u) (.int .i64 f) (.int .i64 a) (.bool b) (.int .i64 c) (.bool d) (.int .i64 k) (.int .i64 n)).drew
  have q1 := ((H9.new w 27 (.int .i64 o) (.bool u) (.int .i64 f) (.int .i64 a) (.bool b) (.int .i64 c) (.bool d) (.int .i64 k) (.int .i64 n)).alloc (.cells #[.int .i64 0, .bool false] 25)).drew
  have q2 := ((H9.new w 27 (.int .i64 o) (.bool u) (.int .i64 f) (.int .i64 a) (.bool b) (.int .i64 c) (.bool d) (.int .i64 k) (.int .i64 n)).alloc (.cells #[.int .i64 x, .bool b] 25)).drew
  unfold H9 at q0 q1 q2
  go_region_held3 (fun w' => (w'.cell? ⟨w.heap.size, 0, none⟩ = some (.int .i64 o) ∧ w'.cell? ⟨w.heap.size, 1, none⟩ = some (.bool u) ∧ w'.cell? ⟨w.heap.size, 2, none⟩ = some (.int .i64 f) ∧ w'.cell? ⟨w.heap.size, 3, none⟩ = some (.int .i64 a) ∧ w'.cell? ⟨w.heap.size, 4, none⟩ = some (.bool b) ∧ w'.cell? ⟨w.heap.size, 5, none⟩ = some (.int .i64 c) ∧ w'.cell? ⟨w.heap.size, 6, none⟩ = some (.bool d) ∧ w'.cell? ⟨w.heap.size, 7, none⟩ = some (.int .i64 k) ∧ w'.cell? ⟨w.heap.size, 8, none⟩ = some (.int .i64 n)) ∧ Held w 27 #[.int .i64 o, .bool u, .int .i64 f, .int .i64 a, .bool b, .int .i64 c, .bool d, .int .i64 k, .int .i64 n] w')
    (first | exact q0 | exact q1 | exact q2)
    (fail)
  rename_i hHeld
  clear hHeld q0 q1 q2
  obtain ⟨w1, hw⟩ : ∃ wX, ((w.alloc (.cells #[.int .i64 o, .bool u, .int .i64 f, .int .i64 a, .bool b, .int .i64 c, .bool d, .int .i64 k, .int .i64 n] 27)).alloc (.cells #[.int .i64 x, .bool b] 25)).drew = wX := ⟨_, rfl⟩
  rw [hw]
  have hq : Below ((w.alloc (.cells #[.int .i64 o, .bool u, .int .i64 f, .int .i64 a, .bool b, .int .i64 c, .bool d, .int .i64 k, .int .i64 n] 27)).alloc (.cells #[.int .i64 x, .bool b] 25)).heap.size ((w.alloc (.cells #[.int .i64 o, .bool u, .int .i64 f, .int .i64 a, .bool b, .int .i64 c, .bool d, .int .i64 k, .int .i64 n] 27)).alloc (.cells #[.int .i64 x, .bool b] 25)) w1 := by rw [← hw]; exact (Below.refl _ _).drew
  have hb0_1 : Blk w1 w.heap.size 27 #[.int .i64 o, .bool u, .int .i64 f, .int .i64 a, .bool b, .int .i64 c, .bool d, .int .i64 k, .int .i64 n] := Blk.same ((Blk.at w 27 #[.int .i64 o, .bool u, .int .i64 f, .int .i64 a, .bool b, .int .i64 c, .bool d, .int .i64 k, .int .i64 n] (g := w.heap.size) (by simp)).alloc (.cells #[.int .i64 x, .bool b] 25)) (hq.block _ (((Blk.at w 27 #[.int .i64 o, .bool u, .int .i64 f, .int .i64 a, .bool b, .int .i64 c, .bool d, .int .i64 k, .int .i64 n] (g := w.heap.size) (by simp)).alloc (.cells #[.int .i64 x, .bool b] 25))).lt)
  have hb1_1 : Blk w1 (w.heap.size + 1) 25 #[.int .i64 x, .bool b] := Blk.same (Blk.at (w.alloc (.cells #[.int .i64 o, .bool u, .int .i64 f, .int .i64 a, .bool b, .int .i64 c, .bool d, .int .i64 k, .int .i64 n] 27)) 25 #[.int .i64 x, .bool b] (g := (w.heap.size + 1)) (by simp)) (hq.block _ ((Blk.at (w.alloc (.cells #[.int .i64 o, .bool u, .int .i64 f, .int .i64 a, .bool b, .int .i64 c, .bool d, .int .i64 k, .int .i64 n] 27)) 25 #[.int .i64 x, .bool b] (g := (w.heap.size + 1)) (by simp))).lt)
  have hB1 := b0 (ba (ba (Below.refl w.heap.size w) _) _) hq
  have c0_0 : w1.cell? ⟨w.heap.size, 0, none⟩ = some (.int .i64 o) := hb0_1.cell 0
  have c0_1 : w1.cell? ⟨w.heap.size, 1, none⟩ = some (.bool u) := hb0_1.cell 1
  have c0_2 : w1.cell? ⟨w.heap.size, 2, none⟩ = some (.int .i64 f) := hb0_1.cell 2
  have c0_3 : w1.cell? ⟨w.heap.size, 3, none⟩ = some (.int .i64 a) := hb0_1.cell 3
  have c0_4 : w1.cell? ⟨w.heap.size, 4, none⟩ = some (.bool b) := hb0_1.cell 4
  have c0_5 : w1.cell? ⟨w.heap.size, 5, none⟩ = some (.int .i64 c) := hb0_1.cell 5
  have c0_6 : w1.cell? ⟨w.heap.size, 6, none⟩ = some (.bool d) := hb0_1.cell 6
  have c0_7 : w1.cell? ⟨w.heap.size, 7, none⟩ = some (.int .i64 k) := hb0_1.cell 7
  have c0_8 : w1.cell? ⟨w.heap.size, 8, none⟩ = some (.int .i64 n) := hb0_1.cell 8
  have z0 : w.heap.size < w1.heap.size := hb0_1.lt
  have n0 : w.heap.size ≠ w1.heap.size := by omega
  have c1_0 : w1.cell? ⟨(w.heap.size + 1), 0, none⟩ = some (.int .i64 x) := hb1_1.cell 0
  have c1_1 : w1.cell? ⟨(w.heap.size + 1), 1, none⟩ = some (.bool b) := hb1_1.cell 1
  have z1 : (w.heap.size + 1) < w1.heap.size := hb1_1.lt
  have n1 : (w.heap.size + 1) ≠ w1.heap.size := by omega
  clear hq hw
  go_wp2_with fail
  refine (H1.out _).mono ?_
  rintro e w2 ⟨rfl, hq⟩
  have hb0_2 : Blk w2 w.heap.size 27 #[.int .i64 o, .bool u, .int .i64 f, .int .i64 a, .bool b, .int .i64 c, .bool d, .int .i64 k, .int .i64 n] := Blk.same (hb0_1.alloc (.cells #[.int .i64 p, .bool u, .int .i64 f] 23)) (hq.block _ ((hb0_1.alloc (.cells #[.int .i64 p, .bool u, .int .i64 f] 23))).lt)
  have hb1_2 : Blk w2 (w.heap.size + 1) 25 #[.int .i64 x, .bool b] := Blk.same (hb1_1.alloc (.cells #[.int .i64 p, .bool u, .int .i64 f] 23)) (hq.block _ ((hb1_1.alloc (.cells #[.int .i64 p, .bool u, .int .i64 f] 23))).lt)
  have hb2_2 : Blk w2 w1.heap.size 23 #[.int .i64 p, .bool u, .int .i64 f] := Blk.same (Blk.at w1 23 #[.int .i64 p, .bool u, .int .i64 f] (g := w1.heap.size) (by simp)) (hq.block _ ((Blk.at w1 23 #[.int .i64 p, .bool u, .int .i64 f] (g := w1.heap.size) (by simp))).lt)
  have hB2 := b0 (ba hB1 _) hq
  clear hb0_1 hb1_1 hB1 c0_0 c0_1 c0_2 c0_3 c0_4 c0_5 c0_6 c0_7 c0_8 n0 z0 c1_0 c1_1 n1 z1
  have c0_0 : w2.cell? ⟨w.heap.size, 0, none⟩ = some (.int .i64 o) := hb0_2.cell 0
  have c0_1 : w2.cell? ⟨w.heap.size, 1, none⟩ = some (.bool u) := hb0_2.cell 1
  have c0_2 : w2.cell? ⟨w.heap.size, 2, none⟩ = some (.int .i64 f) := hb0_2.cell 2
  have c0_3 : w2.cell? ⟨w.heap.size, 3, none⟩ = some (.int .i64 a) := hb0_2.cell 3
  have c0_4 : w2.cell? ⟨w.heap.size, 4, none⟩ = some (.bool b) := hb0_2.cell 4
  have c0_5 : w2.cell? ⟨w.heap.size, 5, none⟩ = some (.int .i64 c) := hb0_2.cell 5
  have c0_6 : w2.cell? ⟨w.heap.size, 6, none⟩ = some (.bool d) := hb0_2.cell 6
  have c0_7 : w2.cell? ⟨w.heap.size, 7, none⟩ = some (.int .i64 k) := hb0_2.cell 7
  have c0_8 : w2.cell? ⟨w.heap.size, 8, none⟩ = some (.int .i64 n) := hb0_2.cell 8
  have z0 : w.heap.size < w2.heap.size := hb0_2.lt
  have n0 : w.heap.size ≠ w2.heap.size := by omega
  have c1_0 : w2.cell? ⟨(w.heap.size + 1), 0, none⟩ = some (.int .i64 x) := hb1_2.cell 0
  have c1_1 : w2.cell? ⟨(w.heap.size + 1), 1, none⟩ = some (.bool b) := hb1_2.cell 1
  have z1 : (w.heap.size + 1) < w2.heap.size := hb1_2.lt
  have n1 : (w.heap.size + 1) ≠ w2.heap.size := by omega
  have c2_0 : w2.cell? ⟨w1.heap.size, 0, none⟩ = some (.int .i64 p) := hb2_2.cell 0
  have c2_1 : w2.cell? ⟨w1.heap.size, 1, none⟩ = some (.bool u) := hb2_2.cell 1
  have c2_2 : w2.cell? ⟨w1.heap.size, 2, none⟩ = some (.int .i64 f) := hb2_2.cell 2
  have z2 : w1.heap.size < w2.heap.size := hb2_2.lt
  have n2 : w1.heap.size ≠ w2.heap.size := by omega
  clear hq
  go_wp2_with fail
  refine (H2.out _).mono ?_
  rintro e w3 ⟨rfl, hq⟩
  have hb0_3 : Blk w3 w.heap.size 27 #[.int .i64 o, .bool u, .int .i64 f, .int .i64 a, .bool b, .int .i64 c, .bool d, .int .i64 k, .int .i64 n] := Blk.same (hb0_2.alloc (.cells #[.int .i64 y, .bool g] 25)) (hq.block _ ((hb0_2.alloc (.cells #[.int .i64 y, .bool g] 25))).lt)
  have hb1_3 : Blk w3 (w.heap.size + 1) 25 #[.int .i64 x, .bool b] := Blk.same (hb1_2.alloc (.cells #[.int .i64 y, .bool g] 25)) (hq.block _ ((hb1_2.alloc (.cells #[.int .i64 y, .bool g] 25))).lt)
  have hb2_3 : Blk w3 w1.heap.size 23 #[.int .i64 p, .bool u, .int .i64 f] := Blk.same (hb2_2.alloc (.cells #[.int .i64 y, .bool g] 25)) (hq.block _ ((hb2_2.alloc (.cells #[.int .i64 y, .bool g] 25))).lt)
  have hb3_3 : Blk w3 w2.heap.size 25 #[.int .i64 y, .bool g] := Blk.same (Blk.at w2 25 #[.int .i64 y, .bool g] (g := w2.heap.size) (by simp)) (hq.block _ ((Blk.at w2 25 #[.int .i64 y, .bool g] (g := w2.heap.size) (by simp))).lt)
  have hB3 := b0 (ba hB2 _) hq
  clear hb0_2 hb1_2 hb2_2 hB2 c0_0 c0_1 c0_2 c0_3 c0_4 c0_5 c0_6 c0_7 c0_8 n0 z0 c1_0 c1_1 n1 z1 c2_0 c2_1 c2_2 n2 z2
  have c0_0 : w3.cell? ⟨w.heap.size, 0, none⟩ = some (.int .i64 o) := hb0_3.cell 0
  have c0_1 : w3.cell? ⟨w.heap.size, 1, none⟩ = some (.bool u) := hb0_3.cell 1
  have c0_2 : w3.cell? ⟨w.heap.size, 2, none⟩ = some (.int .i64 f) := hb0_3.cell 2
  have c0_3 : w3.cell? ⟨w.heap.size, 3, none⟩ = some (.int .i64 a) := hb0_3.cell 3
  have c0_4 : w3.cell? ⟨w.heap.size, 4, none⟩ = some (.bool b) := hb0_3.cell 4
  have c0_5 : w3.cell? ⟨w.heap.size, 5, none⟩ = some (.int .i64 c) := hb0_3.cell 5
  have c0_6 : w3.cell? ⟨w.heap.size, 6, none⟩ = some (.bool d) := hb0_3.cell 6
  have c0_7 : w3.cell? ⟨w.heap.size, 7, none⟩ = some (.int .i64 k) := hb0_3.cell 7
  have c0_8 : w3.cell? ⟨w.heap.size, 8, none⟩ = some (.int .i64 n) := hb0_3.cell 8
  have z0 : w.heap.size < w3.heap.size := hb0_3.lt
  have n0 : w.heap.size ≠ w3.heap.size := by omega
  have c1_0 : w3.cell? ⟨(w.heap.size + 1), 0, none⟩ = some (.int .i64 x) := hb1_3.cell 0
  have c1_1 : w3.cell? ⟨(w.heap.size + 1), 1, none⟩ = some (.bool b) := hb1_3.cell 1
  have z1 : (w.heap.size + 1) < w3.heap.size := hb1_3.lt
  have n1 : (w.heap.size + 1) ≠ w3.heap.size := by omega
  have c2_0 : w3.cell? ⟨w1.heap.size, 0, none⟩ = some (.int .i64 p) := hb2_3.cell 0
  have c2_1 : w3.cell? ⟨w1.heap.size, 1, none⟩ = some (.bool u) := hb2_3.cell 1
  have c2_2 : w3.cell? ⟨w1.heap.size, 2, none⟩ = some (.int .i64 f) := hb2_3.cell 2
  have z2 : w1.heap.size < w3.heap.size := hb2_3.lt
  have n2 : w1.heap.size ≠ w3.heap.size := by omega
  have c3_0 : w3.cell? ⟨w2.heap.size, 0, none⟩ = some (.int .i64 y) := hb3_3.cell 0
  have c3_1 : w3.cell? ⟨w2.heap.size, 1, none⟩ = some (.bool g) := hb3_3.cell 1
  have z3 : w2.heap.size < w3.heap.size := hb3_3.lt
  have n3 : w2.heap.size ≠ w3.heap.size := by omega
  clear hq
  go_wp2_with fail
  have h8 := (H8.of (w := w) (hb2_3.alloc (.cells #[.int .i64 z, .bool t] 25)) (hb1_3.alloc (.cells #[.int .i64 z, .bool t] 25)) (hb3_3.alloc (.cells #[.int .i64 z, .bool t] 25)) (Blk.new w3 25 #[.int .i64 z, .bool t]) (ba hB3 _)).drew
  clear hB3 hb0_3 hb1_3 hb2_3 hb3_3 c0_0 c0_1 c0_2 c0_3 c0_4 c0_5 c0_6 c0_7 c0_8 n0 z0 c1_0 c1_1 n1 z1 c2_0 c2_1 c2_2 n2 z2 c3_0 c3_1 n3 z3
  refine region_class (H8 w (w1.heap.size) ((w.heap.size + 1)) (w2.heap.size) (w3.heap.size) (.int .i64 p) (.bool u) (.int .i64 f) (.int .i64 x) (.bool b) (.int .i64 y) (.bool g) (.int .i64 z) (.bool t)) (by kernel_rfl) (by kernel_rfl) h8 ?_
  repeat (first
      | go_big_quiet_skip
      | (go_big_quiet_want; go_big_quiet_op; first
        | go_big_quiet_on
        | (refine ⟨_, fun _ _ => rfl, ?_⟩; go_big_quiet_on)
        | (apply Exists.intro; refine ⟨?_, ?_⟩; · (intro wq hC; first | (go_at_call 14; (with_reducible refine (HF.out _).mono ?_); exact fun e w' h => ⟨h.1, hC.next h.2⟩) | (go_at_call 21; (with_reducible refine (H3.out _).mono ?_); exact fun e w' h => ⟨h.1, hC.next h.2⟩) | (go_at_call 21; (with_reducible refine (H4.out _).mono ?_); exact fun e w' h => ⟨h.1, hC.next h.2⟩) | (go_at_call 21; (with_reducible refine (H6.out _).mono ?_); exact fun e w' h => ⟨h.1, hC.next h.2⟩))
           go_big_quiet_on)
        | (refine ⟨.agg #[.int .i64 p, .bool u, .int .i64 f], fun wq hC => ?_, ?_⟩; · (obtain ⟨⟨c0, c1, c2, c3, c4, c5, c6, c7, c8⟩, _⟩ := hC; simp [c0, c1, c2]; done)
           go_big_quiet_on)
        | (refine ⟨.agg #[.int .i64 x, .bool b], fun wq hC => ?_, ?_⟩; · (obtain ⟨⟨c0, c1, c2, c3, c4, c5, c6, c7, c8⟩, _⟩ := hC; simp [c3, c4]; done)
           go_big_quiet_on)
        | (refine ⟨.agg #[.int .i64 y, .bool g], fun wq hC => ?_, ?_⟩; · (obtain ⟨⟨c0, c1, c2, c3, c4, c5, c6, c7, c8⟩, _⟩ := hC; simp [c5, c6]; done)
           go_big_quiet_on)
        | (refine ⟨.agg #[.int .i64 z, .bool t], fun wq hC => ?_, ?_⟩; · (obtain ⟨⟨c0, c1, c2, c3, c4, c5, c6, c7, c8⟩, _⟩ := hC; simp [c7, c8]; done)
           go_big_quiet_on)))
  refine wpQuiet_nil ?_
  intro w9 hM
  go_wp2
  go_ret
  exact ⟨rfl, hM.2.2.2.2.2⟩
end Go.Proofs.Ytcofbaioflfehaa

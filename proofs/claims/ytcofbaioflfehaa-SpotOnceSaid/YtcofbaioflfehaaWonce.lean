/-
  For every input the law SpotOnce returns true, and its arguments read afterwards as before; no condition beyond the form's own reach.
-/
import Derived.Test.YtcofbaioflfehaaWfr
import Derived.Test.YtcofbaioflfehaaSnm
namespace Go.Proofs.Ytcofbaioflfehaa
open Go.Joins Go.ChangeShapes Go.WideShapes Go.ChangeAt Go.RowKit Go.Deep
open Go.ChangeMaps (open_string)

set_option maxRecDepth 100000 in
set_option maxHeartbeats 3200000 in
theorem spotOnce_walk (o : Int) (u : Bool) (f a : Int) (b : Bool) (c : Int) (d : Bool) (k n : Int) (M L O A x p N : Int) (w : World) (hm : bits .and .i64 n 65535 = M) (hl : M.tmod 200 = L) (h0 : 0 ≤ L) (h1 : L < 200) (hn : 1 + L = N) (hz : ¬ N = 0)
    (ha : bits .and .i64 a 65535 = A) (ho : bits .and .i64 o 65535 = O) (hx : A.tmod N = x) (hO : O.tmod N = p) (x0 : 0 ≤ x) (x1 : x < N) (p0 : 0 ≤ p) (p1 : p < N) (D : Int) (hD : gp x p N b u = D) (d0 : 0 ≤ D) (d1 : D < 2 * N) (hI : ∀ y t, 0 ≤ y → y < N → gp x y N b t = D → y = p ∧ t = u)
    (AF : ∀ W, Calls Try.prog 14 #[] W fun e w' => e = .returned (.bool true) ∧ Below W.heap.size W w') :
    Calls Try.prog 8 #[.agg #[.int .i64 o, .bool u, .int .i64 f, .int .i64 a, .bool b, .int .i64 c, .bool d, .int .i64 k, .int .i64 n]] w fun e w' => e = .returned (.bool true) ∧ Below w.heap.size w w' := by
  have HF := Lib.hid AF
  clear AF
  go_enter Try.func8, Try.ntmps8
  go_wp2_with fail
  have q0 := (H9.new w 27 (.int .i64 o) (.bool u) (.int .i64 f) (.int .i64 a) (.bool b) (.int .i64 c) (.bool d) (.int .i64 k) (.int .i64 n)).drew
  have q1 := ((H9.new w 27 (.int .i64 o) (.bool u) (.int .i64 f) (.int .i64 a) (.bool b) (.int .i64 c) (.bool d) (.int .i64 k) (.int .i64 n)).alloc (.cells #[.int .i64 0, .bool false] 25)).drew
  have q2 := ((H9.new w 27 (.int .i64 o) (.bool u) (.int .i64 f) (.int .i64 a) (.bool b) (.int .i64 c) (.bool d) (.int .i64 k) (.int .i64 n)).alloc (.cells #[.int .i64 x, .bool b] 25)).drew
  unfold H9 at q0 q1 q2
  go_region_held3 (fun w' => (w'.cell? ⟨w.heap.size, 0, none⟩ = some (.int .i64 o) ∧ w'.cell? ⟨w.heap.size, 1, none⟩ = some (.bool u) ∧ w'.cell? ⟨w.heap.size, 2, none⟩ = some (.int .i64 f) ∧ w'.cell? ⟨w.heap.size, 3, none⟩ = some (.int .i64 a) ∧ w'.cell? ⟨w.heap.size, 4, none⟩ = some (.bool b) ∧ w'.cell? ⟨w.heap.size, 5, none⟩ = some (.int .i64 c) ∧ w'.cell? ⟨w.heap.size, 6, none⟩ = some (.bool d) ∧ w'.cell? ⟨w.heap.size, 7, none⟩ = some (.int .i64 k) ∧ w'.cell? ⟨w.heap.size, 8, none⟩ = some (.int .i64 n)) ∧ Held w 27 #[.int .i64 o, .bool u, .int .i64 f, .int .i64 a, .bool b, .int .i64 c, .bool d, .int .i64 k, .int .i64 n] w')
    (first | exact q0 | exact q1 | exact q2)
    (fail)
  rename_i hHeld
  clear hHeld q0 q1 q2
  obtain ⟨w1, hw⟩ : ∃ wX, ((w.alloc (.cells #[.int .i64 o, .bool u, .int .i64 f, .int .i64 a, .bool b, .int .i64 c, .bool d, .int .i64 k, .int .i64 n] 27)).alloc (.cells #[.int .i64 x, .bool b] 25)).drew = wX := ⟨_, rfl⟩
  rw [hw]
  have hq : Below ((w.alloc (.cells #[.int .i64 o, .bool u, .int .i64 f, .int .i64 a, .bool b, .int .i64 c, .bool d, .int .i64 k, .int .i64 n] 27)).alloc (.cells #[.int .i64 x, .bool b] 25)).heap.size ((w.alloc (.cells #[.int .i64 o, .bool u, .int .i64 f, .int .i64 a, .bool b, .int .i64 c, .bool d, .int .i64 k, .int .i64 n] 27)).alloc (.cells #[.int .i64 x, .bool b] 25)) w1 := by rw [← hw]; exact (Below.refl _ _).drew
  have hb0_1 : Blk w1 w.heap.size 27 #[.int .i64 o, .bool u, .int .i64 f, .int .i64 a, .bool b, .int .i64 c, .bool d, .int .i64 k, .int .i64 n] := Blk.same ((Blk.at w 27 #[.int .i64 o, .bool u, .int .i64 f, .int .i64 a, .bool b, .int .i64 c, .bool d, .int .i64 k, .int .i64 n] (g := w.heap.size) (by simp)).alloc (.cells #[.int .i64 x, .bool b] 25)) (hq.block _ (((Blk.at w 27 #[.int .i64 o, .bool u, .int .i64 f, .int .i64 a, .bool b, .int .i64 c, .bool d, .int .i64 k, .int .i64 n] (g := w.heap.size) (by simp)).alloc (.cells #[.int .i64 x, .bool b] 25))).lt)
  have hb1_1 : Blk w1 (w.heap.size + 1) 25 #[.int .i64 x, .bool b] := Blk.same (Blk.at (w.alloc (.cells #[.int .i64 o, .bool u, .int .i64 f, .int .i64 a, .bool b, .int .i64 c, .bool d, .int .i64 k, .int .i64 n] 27)) 25 #[.int .i64 x, .bool b] (g := (w.heap.size + 1)) (by simp)) (hq.block _ ((Blk.at (w.alloc (.cells #[.int .i64 o, .bool u, .int .i64 f, .int .i64 a, .bool b, .int .i64 c, .bool d, .int .i64 k, .int .i64 n] 27)) 25 #[.int .i64 x, .bool b] (g := (w.heap.size + 1)) (by simp))).lt)
  have hB1 := b0 (ba (ba (Below.refl w.heap.size w) _) _) hq
  have c0_0 : w1.cell? ⟨w.heap.size, 0, none⟩ = some (.int .i64 o) := hb0_1.cell 0
  have c0_1 : w1.cell? ⟨w.heap.size, 1, none⟩ = some (.bool u) := hb0_1.cell 1
  have c0_2 : w1.cell? ⟨w.heap.size, 2, none⟩ = some (.int .i64 f) := hb0_1.cell 2
  have c0_3 : w1.cell? ⟨w.heap.size, 3, none⟩ = some (.int .i64 a) := hb0_1.cell 3
  have c0_4 : w1.cell? ⟨w.heap.size, 4, none⟩ = some (.bool b) := hb0_1.cell 4
  have c0_5 : w1.cell? ⟨w.heap.size, 5, none⟩ = some (.int .i64 c) := hb0_1.cell 5
  have c0_6 : w1.cell? ⟨w.heap.size, 6, none⟩ = some (.bool d) := hb0_1.cell 6
  have c0_7 : w1.cell? ⟨w.heap.size, 7, none⟩ = some (.int .i64 k) := hb0_1.cell 7
  have c0_8 : w1.cell? ⟨w.heap.size, 8, none⟩ = some (.int .i64 n) := hb0_1.cell 8
  have z0 : w.heap.size < w1.heap.size := hb0_1.lt
  have n0 : w.heap.size ≠ w1.heap.size := by omega
  have c1_0 : w1.cell? ⟨(w.heap.size + 1), 0, none⟩ = some (.int .i64 x) := hb1_1.cell 0
  have c1_1 : w1.cell? ⟨(w.heap.size + 1), 1, none⟩ = some (.bool b) := hb1_1.cell 1
  have z1 : (w.heap.size + 1) < w1.heap.size := hb1_1.lt
  have n1 : (w.heap.size + 1) ≠ w1.heap.size := by omega
  clear hq hw
  have zz := z1
  go_wp2_with fail
  have q0 := (H9.of (w := w) (t := 27) ⟨hb0_1, hB1⟩).drew
  have q1 := ((H9.of (w := w) (t := 27) ⟨hb0_1, hB1⟩).alloc (.cells #[.int .i64 0, .bool false, .int .i64 0] 23)).drew
  have q2 := ((H9.of (w := w) (t := 27) ⟨hb0_1, hB1⟩).alloc (.cells #[.int .i64 p, .bool u, .int .i64 2] 23)).drew
  unfold H9 at q0 q1 q2
  go_region_held3 (fun w' => (w'.cell? ⟨w.heap.size, 0, none⟩ = some (.int .i64 o) ∧ w'.cell? ⟨w.heap.size, 1, none⟩ = some (.bool u) ∧ w'.cell? ⟨w.heap.size, 2, none⟩ = some (.int .i64 f) ∧ w'.cell? ⟨w.heap.size, 3, none⟩ = some (.int .i64 a) ∧ w'.cell? ⟨w.heap.size, 4, none⟩ = some (.bool b) ∧ w'.cell? ⟨w.heap.size, 5, none⟩ = some (.int .i64 c) ∧ w'.cell? ⟨w.heap.size, 6, none⟩ = some (.bool d) ∧ w'.cell? ⟨w.heap.size, 7, none⟩ = some (.int .i64 k) ∧ w'.cell? ⟨w.heap.size, 8, none⟩ = some (.int .i64 n)) ∧ Held w 27 #[.int .i64 o, .bool u, .int .i64 f, .int .i64 a, .bool b, .int .i64 c, .bool d, .int .i64 k, .int .i64 n] w')
    (first | exact q0 | exact q1 | exact q2)
    (fail)
  rename_i hHeld
  clear hHeld q0 q1 q2
  obtain ⟨w2, hw⟩ : ∃ wX, (w1.alloc (.cells #[.int .i64 p, .bool u, .int .i64 2] 23)).drew = wX := ⟨_, rfl⟩
  rw [hw]
  have hq : Below (w1.alloc (.cells #[.int .i64 p, .bool u, .int .i64 2] 23)).heap.size (w1.alloc (.cells #[.int .i64 p, .bool u, .int .i64 2] 23)) w2 := by rw [← hw]; exact (Below.refl _ _).drew
  have hb0_2 : Blk w2 w.heap.size 27 #[.int .i64 o, .bool u, .int .i64 f, .int .i64 a, .bool b, .int .i64 c, .bool d, .int .i64 k, .int .i64 n] := Blk.same (hb0_1.alloc (.cells #[.int .i64 p, .bool u, .int .i64 2] 23)) (hq.block _ ((hb0_1.alloc (.cells #[.int .i64 p, .bool u, .int .i64 2] 23))).lt)
  have hb1_2 : Blk w2 (w.heap.size + 1) 25 #[.int .i64 x, .bool b] := Blk.same (hb1_1.alloc (.cells #[.int .i64 p, .bool u, .int .i64 2] 23)) (hq.block _ ((hb1_1.alloc (.cells #[.int .i64 p, .bool u, .int .i64 2] 23))).lt)
  have hb2_2 : Blk w2 w1.heap.size 23 #[.int .i64 p, .bool u, .int .i64 2] := Blk.same (Blk.at w1 23 #[.int .i64 p, .bool u, .int .i64 2] (g := w1.heap.size) (by simp)) (hq.block _ ((Blk.at w1 23 #[.int .i64 p, .bool u, .int .i64 2] (g := w1.heap.size) (by simp))).lt)
  have hB2 := b0 (ba hB1 _) hq
  clear hb0_1 hb1_1 hB1 c0_0 c0_1 c0_2 c0_3 c0_4 c0_5 c0_6 c0_7 c0_8 n0 z0 c1_0 c1_1 n1 z1
  have c0_0 : w2.cell? ⟨w.heap.size, 0, none⟩ = some (.int .i64 o) := hb0_2.cell 0
  have c0_1 : w2.cell? ⟨w.heap.size, 1, none⟩ = some (.bool u) := hb0_2.cell 1
  have c0_2 : w2.cell? ⟨w.heap.size, 2, none⟩ = some (.int .i64 f) := hb0_2.cell 2
  have c0_3 : w2.cell? ⟨w.heap.size, 3, none⟩ = some (.int .i64 a) := hb0_2.cell 3
  have c0_4 : w2.cell? ⟨w.heap.size, 4, none⟩ = some (.bool b) := hb0_2.cell 4
  have c0_5 : w2.cell? ⟨w.heap.size, 5, none⟩ = some (.int .i64 c) := hb0_2.cell 5
  have c0_6 : w2.cell? ⟨w.heap.size, 6, none⟩ = some (.bool d) := hb0_2.cell 6
  have c0_7 : w2.cell? ⟨w.heap.size, 7, none⟩ = some (.int .i64 k) := hb0_2.cell 7
  have c0_8 : w2.cell? ⟨w.heap.size, 8, none⟩ = some (.int .i64 n) := hb0_2.cell 8
  have z0 : w.heap.size < w2.heap.size := hb0_2.lt
  have n0 : w.heap.size ≠ w2.heap.size := by omega
  have c1_0 : w2.cell? ⟨(w.heap.size + 1), 0, none⟩ = some (.int .i64 x) := hb1_2.cell 0
  have c1_1 : w2.cell? ⟨(w.heap.size + 1), 1, none⟩ = some (.bool b) := hb1_2.cell 1
  have z1 : (w.heap.size + 1) < w2.heap.size := hb1_2.lt
  have n1 : (w.heap.size + 1) ≠ w2.heap.size := by omega
  have c2_0 : w2.cell? ⟨w1.heap.size, 0, none⟩ = some (.int .i64 p) := hb2_2.cell 0
  have c2_1 : w2.cell? ⟨w1.heap.size, 1, none⟩ = some (.bool u) := hb2_2.cell 1
  have c2_2 : w2.cell? ⟨w1.heap.size, 2, none⟩ = some (.int .i64 2) := hb2_2.cell 2
  have z2 : w1.heap.size < w2.heap.size := hb2_2.lt
  have n2 : w1.heap.size ≠ w2.heap.size := by omega
  clear hq hw
  go_wp2_with fail
  have t1 : SV w (w.heap.size + 1) w1.heap.size (.int .i64 x) (.bool b) (.int .i64 p) (.bool u) (.int .i64 2) w2 := ⟨hb1_2, hb2_2, hB2, by omega, zz⟩
  clear hb0_2 hb1_2 hb2_2 hB2 c0_0 c0_1 c0_2 c0_3 c0_4 c0_5 c0_6 c0_7 c0_8 n0 z0 c1_0 c1_1 n1 z1 c2_0 c2_1 c2_2 n2 z2
  have HI := Lib.hid hI
  have HD := Lib.hid hD
  have HX := Lib.hid hx
  have n1 : 1 ≤ N := by omega
  have n2 : N ≤ 32768 := by omega
  clear hI hD hx hO hm hl ha ho h0 h1 hn
  generalize w.heap.size + 1 = g at *
  generalize w1.heap.size = h at *
  go_loopw [6, 7] (fun r i wr => ∃ k : Nat, (k : Int) ≤ 2 * N ∧ i = .int .i64 k ∧ ∃ T y t, r = .int .i64 T ∧ T = (if D < (k : Int) then 1 else 0) ∧ 0 ≤ y ∧ y < N ∧ ((k : Int) < 2 * N → gp x y N b t = k) ∧ SV w g h (.int .i64 y) (.bool t) (.int .i64 p) (.bool u) (.int .i64 2) wr) (fun _ i _ => (2 * N - intOf i).toNat)
  case atStart => exact ⟨0, by omega, rfl, 0, x, b, rfl, by rw [if_neg (by omega)], x0, x1, fun _ => gp_same x N b, t1⟩
  case round =>
    obtain ⟨k, hk, rfl, T, y, t, rfl, hT, y0, y1, hg, t2⟩ := hrel
    clear t1
    by_cases hlt : (k : Int) < 2 * N
    · have hG := Lib.hid (hg hlt)
      have hT' := Lib.hid hT
      clear hg hT
      obtain ⟨c0, c1, c2, c3, c4, f0, f1, l0, l1, m0, m1⟩ := t2.facts
      by_cases ht : y = N - 1
      · subst ht
        by_cases hp : (N - 1) = p
        · subst hp
          by_cases hu : t = u
          · subst hu
            have eT : T = 0 := by
              have := HD.out
              have := hG.out
              rw [hT'.out, if_neg (by omega)]
            clear hT'
            subst eT
            go_wp2_with fail
            refine (next_top1 t n1 n2 _).mono ?_
            rintro e w3 ⟨rfl, hq⟩
            clear c0 c1 c2 c3 c4 f0 f1 l0 l1 m0 m1
            have t3 := t2.next hq
            clear hq
            obtain ⟨c0, c1, c2, c3, c4, f0, f1, l0, l1, m0, m1⟩ := t3.facts
            go_wp2_with fail
            refine ((need_top (u := t) n1 n2 p0 p1 (decide_eq_true ⟨rfl, rfl⟩)) _).mono ?_
            rintro e w4 ⟨rfl, hq⟩
            have tb := (Blk.new w3 25 #[.int .i64 0, .bool (!t)]).same (hq.block _ (Blk.new w3 25 #[.int .i64 0, .bool (!t)]).lt)
            have t4 := (t3.alloc _).next hq
            clear c0 c1 c2 c3 c4 f0 f1 l0 l1 m0 m1
            clear hq t3
            obtain ⟨c0, c1, c2, c3, c4, f0, f1, l0, l1, m0, m1⟩ := t4.facts
            have b0 : w4.cell? ⟨w3.heap.size, 0, none⟩ = some (.int .i64 0) := tb.cell 0
            have b1 : w4.cell? ⟨w3.heap.size, 1, none⟩ = some (.bool (!t)) := tb.cell 1
            go_wp2_with fail
            have t5 := t4.set (.int .i64 0) (.bool (!t))
            go_roundw
            case rel => exact ⟨k + 1, by omega, by go_num, 1, 0, (!t), rfl, by rw [if_pos (by have := HD.out; have := hG.out; omega)], by omega, by omega, fun hh => by have hhh := hh; rw [gp_turn x0 x1 (by rw [hG.out]; omega), hG.out]; rfl, t5⟩
            case measure => simp [intOf]; omega
          · obtain rfl : u = !t := by revert hu; cases t <;> cases u <;> simp
            have hne : (t == !t) = false := by cases t <;> rfl
            have hDk0 : D ≠ k := fun hh => hu ((HI.out _ t (by omega) (by omega) (hG.out.trans hh.symm)).2)
            have hDk := Lib.hid hDk0
            have HU := Lib.hid hu
            clear hDk0 hu
            go_wp2_with fail
            refine (next_top1 t n1 n2 _).mono ?_
            rintro e w3 ⟨rfl, hq⟩
            clear c0 c1 c2 c3 c4 f0 f1 l0 l1 m0 m1
            have t3 := t2.next hq
            clear hq
            obtain ⟨c0, c1, c2, c3, c4, f0, f1, l0, l1, m0, m1⟩ := t3.facts
            go_wp2_with fail
            refine ((need_top (u := !t) n1 n2 p0 p1 (decide_eq_false (fun hh => HU.out hh.2))) _).mono ?_
            rintro e w4 ⟨rfl, hq⟩
            have tb := (Blk.new w3 25 #[.int .i64 0, .bool (!t)]).same (hq.block _ (Blk.new w3 25 #[.int .i64 0, .bool (!t)]).lt)
            have t4 := (t3.alloc _).next hq
            clear c0 c1 c2 c3 c4 f0 f1 l0 l1 m0 m1
            clear hq t3
            obtain ⟨c0, c1, c2, c3, c4, f0, f1, l0, l1, m0, m1⟩ := t4.facts
            have b0 : w4.cell? ⟨w3.heap.size, 0, none⟩ = some (.int .i64 0) := tb.cell 0
            have b1 : w4.cell? ⟨w3.heap.size, 1, none⟩ = some (.bool (!t)) := tb.cell 1
            go_wp2_with fail
            have t5 := t4.set (.int .i64 0) (.bool (!t))
            go_roundw
            case rel => exact ⟨k + 1, by omega, by go_num, T, 0, (!t), rfl, by have hk0 := hDk.out; rw [hT'.out]; by_cases hh : D < (k : Int) <;> simp [hh] <;> omega, by omega, by omega, fun hh => by have hhh := hh; rw [gp_turn x0 x1 (by rw [hG.out]; omega), hG.out]; rfl, t5⟩
            case measure => simp [intOf]; omega
        · have hne : ((N - 1) == p) = false := beq_eq_false_iff_ne.2 hp
          have hDk0 : D ≠ k := fun hh => hp ((HI.out _ t (by omega) (by omega) (hG.out.trans hh.symm)).1)
          have hDk := Lib.hid hDk0
          have HP := Lib.hid hp
          clear hDk0 hp
          go_wp2_with fail
          refine (next_top1 t n1 n2 _).mono ?_
          rintro e w3 ⟨rfl, hq⟩
          clear c0 c1 c2 c3 c4 f0 f1 l0 l1 m0 m1
          have t3 := t2.next hq
          clear hq
          obtain ⟨c0, c1, c2, c3, c4, f0, f1, l0, l1, m0, m1⟩ := t3.facts
          go_wp2_with fail
          refine ((need_top (u := u) n1 n2 p0 p1 (decide_eq_false (fun hh => HP.out hh.1))) _).mono ?_
          rintro e w4 ⟨rfl, hq⟩
          have tb := (Blk.new w3 25 #[.int .i64 0, .bool (!t)]).same (hq.block _ (Blk.new w3 25 #[.int .i64 0, .bool (!t)]).lt)
          have t4 := (t3.alloc _).next hq
          clear c0 c1 c2 c3 c4 f0 f1 l0 l1 m0 m1
          clear hq t3
          obtain ⟨c0, c1, c2, c3, c4, f0, f1, l0, l1, m0, m1⟩ := t4.facts
          have b0 : w4.cell? ⟨w3.heap.size, 0, none⟩ = some (.int .i64 0) := tb.cell 0
          have b1 : w4.cell? ⟨w3.heap.size, 1, none⟩ = some (.bool (!t)) := tb.cell 1
          go_wp2_with fail
          have t5 := t4.set (.int .i64 0) (.bool (!t))
          go_roundw
          case rel => exact ⟨k + 1, by omega, by go_num, T, 0, (!t), rfl, by have hk0 := hDk.out; rw [hT'.out]; by_cases hh : D < (k : Int) <;> simp [hh] <;> omega, by omega, by omega, fun hh => by have hhh := hh; rw [gp_turn x0 x1 (by rw [hG.out]; omega), hG.out]; rfl, t5⟩
          case measure => simp [intOf]; omega
      · have hy : y < N - 1 := by omega
        by_cases hp : y = p
        · subst hp
          by_cases hu : t = u
          · subst hu
            have eT : T = 0 := by
              have := HD.out
              have := hG.out
              rw [hT'.out, if_neg (by omega)]
            clear hT'
            subst eT
            go_wp2_with fail
            refine (next_low1 t n1 n2 y0 hy _).mono ?_
            rintro e w3 ⟨rfl, hq⟩
            clear c0 c1 c2 c3 c4 f0 f1 l0 l1 m0 m1
            have t3 := t2.next hq
            clear hq
            obtain ⟨c0, c1, c2, c3, c4, f0, f1, l0, l1, m0, m1⟩ := t3.facts
            go_wp2_with fail
            refine ((need_low (u := t) n1 n2 y0 hy p0 p1 (decide_eq_true ⟨rfl, rfl⟩)) _).mono ?_
            rintro e w4 ⟨rfl, hq⟩
            have tb := (Blk.new w3 25 #[.int .i64 (y + 1), .bool t]).same (hq.block _ (Blk.new w3 25 #[.int .i64 (y + 1), .bool t]).lt)
            have t4 := (t3.alloc _).next hq
            clear c0 c1 c2 c3 c4 f0 f1 l0 l1 m0 m1
            clear hq t3
            obtain ⟨c0, c1, c2, c3, c4, f0, f1, l0, l1, m0, m1⟩ := t4.facts
            have b0 : w4.cell? ⟨w3.heap.size, 0, none⟩ = some (.int .i64 (y + 1)) := tb.cell 0
            have b1 : w4.cell? ⟨w3.heap.size, 1, none⟩ = some (.bool t) := tb.cell 1
            go_wp2_with fail
            have t5 := t4.set (.int .i64 (y + 1)) (.bool t)
            go_roundw
            case rel => exact ⟨k + 1, by omega, by go_num, 1, (y + 1), t, rfl, by rw [if_pos (by have := HD.out; have := hG.out; omega)], by omega, by omega, fun hh => by have hhh := hh; rw [gp_step x0 x1 y0 hy (by rw [hG.out]; omega), hG.out]; rfl, t5⟩
            case measure => simp [intOf]; omega
          · obtain rfl : u = !t := by revert hu; cases t <;> cases u <;> simp
            have hne : (t == !t) = false := by cases t <;> rfl
            have hDk0 : D ≠ k := fun hh => hu ((HI.out _ t (by omega) (by omega) (hG.out.trans hh.symm)).2)
            have hDk := Lib.hid hDk0
            have HU := Lib.hid hu
            clear hDk0 hu
            go_wp2_with fail
            refine (next_low1 t n1 n2 y0 hy _).mono ?_
            rintro e w3 ⟨rfl, hq⟩
            clear c0 c1 c2 c3 c4 f0 f1 l0 l1 m0 m1
            have t3 := t2.next hq
            clear hq
            obtain ⟨c0, c1, c2, c3, c4, f0, f1, l0, l1, m0, m1⟩ := t3.facts
            go_wp2_with fail
            refine ((need_low (u := !t) n1 n2 y0 hy p0 p1 (decide_eq_false (fun hh => HU.out hh.2))) _).mono ?_
            rintro e w4 ⟨rfl, hq⟩
            have tb := (Blk.new w3 25 #[.int .i64 (y + 1), .bool t]).same (hq.block _ (Blk.new w3 25 #[.int .i64 (y + 1), .bool t]).lt)
            have t4 := (t3.alloc _).next hq
            clear c0 c1 c2 c3 c4 f0 f1 l0 l1 m0 m1
            clear hq t3
            obtain ⟨c0, c1, c2, c3, c4, f0, f1, l0, l1, m0, m1⟩ := t4.facts
            have b0 : w4.cell? ⟨w3.heap.size, 0, none⟩ = some (.int .i64 (y + 1)) := tb.cell 0
            have b1 : w4.cell? ⟨w3.heap.size, 1, none⟩ = some (.bool t) := tb.cell 1
            go_wp2_with fail
            have t5 := t4.set (.int .i64 (y + 1)) (.bool t)
            go_roundw
            case rel => exact ⟨k + 1, by omega, by go_num, T, (y + 1), t, rfl, by have hk0 := hDk.out; rw [hT'.out]; by_cases hh : D < (k : Int) <;> simp [hh] <;> omega, by omega, by omega, fun hh => by have hhh := hh; rw [gp_step x0 x1 y0 hy (by rw [hG.out]; omega), hG.out]; rfl, t5⟩
            case measure => simp [intOf]; omega
        · have hne : (y == p) = false := beq_eq_false_iff_ne.2 hp
          have hDk0 : D ≠ k := fun hh => hp ((HI.out _ t (by omega) (by omega) (hG.out.trans hh.symm)).1)
          have hDk := Lib.hid hDk0
          have HP := Lib.hid hp
          clear hDk0 hp
          go_wp2_with fail
          refine (next_low1 t n1 n2 y0 hy _).mono ?_
          rintro e w3 ⟨rfl, hq⟩
          clear c0 c1 c2 c3 c4 f0 f1 l0 l1 m0 m1
          have t3 := t2.next hq
          clear hq
          obtain ⟨c0, c1, c2, c3, c4, f0, f1, l0, l1, m0, m1⟩ := t3.facts
          go_wp2_with fail
          refine ((need_low (u := u) n1 n2 y0 hy p0 p1 (decide_eq_false (fun hh => HP.out hh.1))) _).mono ?_
          rintro e w4 ⟨rfl, hq⟩
          have tb := (Blk.new w3 25 #[.int .i64 (y + 1), .bool t]).same (hq.block _ (Blk.new w3 25 #[.int .i64 (y + 1), .bool t]).lt)
          have t4 := (t3.alloc _).next hq
          clear c0 c1 c2 c3 c4 f0 f1 l0 l1 m0 m1
          clear hq t3
          obtain ⟨c0, c1, c2, c3, c4, f0, f1, l0, l1, m0, m1⟩ := t4.facts
          have b0 : w4.cell? ⟨w3.heap.size, 0, none⟩ = some (.int .i64 (y + 1)) := tb.cell 0
          have b1 : w4.cell? ⟨w3.heap.size, 1, none⟩ = some (.bool t) := tb.cell 1
          go_wp2_with fail
          have t5 := t4.set (.int .i64 (y + 1)) (.bool t)
          go_roundw
          case rel => exact ⟨k + 1, by omega, by go_num, T, (y + 1), t, rfl, by have hk0 := hDk.out; rw [hT'.out]; by_cases hh : D < (k : Int) <;> simp [hh] <;> omega, by omega, by omega, fun hh => by have hhh := hh; rw [gp_step x0 x1 y0 hy (by rw [hG.out]; omega), hG.out]; rfl, t5⟩
          case measure => simp [intOf]; omega
    · have hkN : (k : Int) = 2 * N := by omega
      obtain rfl : T = 1 := by rw [hT, if_pos (by omega)]
      obtain ⟨c0, c1, c2, c3, c4, f0, f1, l0, l1, m0, m1⟩ := t2.facts
      clear hg hT
      go_wp2_with fail
      refine (HF.out _).mono ?_
      rintro e w3 ⟨rfl, hq⟩
      have t3 := t2.next hq
      clear hq c0 c1 c2 c3 c4 f0 f1 l0 l1 m0 m1
      go_wp2_with fail
      go_ret
      exact ⟨rfl, t3.below⟩
theorem spotOnce_any (o : Int) (u : Bool) (f a : Int) (b : Bool) (c : Int) (d : Bool) (k n : Int) (w : World) :
    Calls Try.prog 8 #[.agg #[.int .i64 o, .bool u, .int .i64 f, .int .i64 a, .bool b, .int .i64 c, .bool d, .int .i64 k, .int .i64 n]] w fun e w' => e = .returned (.bool true) ∧ Below w.heap.size w w' := by
  obtain ⟨M, hM, eM⟩ := low16 n
  obtain ⟨A, hA, eA⟩ := low16 a
  obtain ⟨O, hO, eO⟩ := low16 o
  obtain ⟨L, hL, l0, l1⟩ := pos_in M 200 (by decide)
  have n1 : 1 ≤ 1 + L := by omega
  obtain ⟨x, hx, x0, x1⟩ := pos_in A (1 + L) n1
  obtain ⟨p, hp, p0, p1⟩ := pos_in O (1 + L) n1
  exact spotOnce_walk o u f a b c d k n M L O A x p (1 + L) w eM hL l0 l1 rfl (by omega) eA eO hx hp x0 x1 p0 p1 _ rfl (gp_low x0 x1 p0 p1) (gp_high x0 x1 p0 p1)
    (fun y t y0 y1 h => gp_inj x1 x0 p0 p1 y0 y1 h) fixed_any

set_option maxRecDepth 100000 in
theorem spotOnce_lifted (os : Os) (started : os.Started) (H : Type) (enc : TypeId × Value → H) :
    ReturnsInHanded {} Try.checked os 8 .any (Rows.spotOnceSpec.pre6 enc Try.prog Try.f8 Rows.spotOnceRow.domain false) (Rows.spotOnceSpec.post enc Try.prog Try.f8 false true false false) := by
  have e : Try.f8.params.toList = [27] := by rw [Try.params8]
  refine law_of_walk (C := Try.checked) (tb := 4) H enc Try.own started (by kernel_rfl) Try.func8 Try.laidOut rfl rfl Try.underlying4 ?_ ?_
    (ChangeSpec.witness6 (enc := enc) (C := Try.checked) false ⟨#[], #[.agg #[.int .i64 0, .bool false, .int .i64 0, .int .i64 0, .bool false, .int .i64 0, .bool false, .int .i64 0, .int .i64 0]], []⟩ 8 (by kernel_rfl) (by kernel_rfl) (by kernel_rfl) (by kernel_rfl)) ?_
  · rw [e]
    intro t ht
    simp only [List.mem_cons, List.not_mem_nil, or_false] at ht
    rcases ht with rfl <;> exact ⟨by kernel_rfl, of_decide_eq_true (by kernel_rfl)⟩
  · intro ds hds
    rw [e] at hds
    match ds, hds with
    | [d0], _ => rfl
  · intro W base args ds p hval0 hA0 hsz0
    have hval : ∀ (j : Nat) t v, Try.f8.params[j]? = some t → args[j]? = some v → Value.okWide Try.prog W .any base t v := hval0
    have hA : DataW.TrodAll enc Try.prog W 0 (fun _ => true) true Try.f8.params.toList args.toList ds p := hA0
    have hsz : (DataW.weightsEach Try.prog Try.f8.params.toList ds).all (· ≤ reachBytes) = true := hsz0
    rw [Try.params8] at hA hval hsz
    obtain ⟨v0, d0, rfl, rfl, h0⟩ := trodAll_one hA
    obtain ⟨O0, U0, F0, A0, B0, C0, E0, K0, N0, rfl, bo0, bf0, ba0, bc0, bk0, bn0⟩ := open_walk (hval 0 27 v0 rfl rfl) h0
    exact spotOnce_any O0 U0 F0 A0 B0 C0 E0 K0 N0 W

theorem spotOnce_holds : Rows.SpotOnceSaid :=
  OpenClaim.holds_of_wide 8 Try.f8 rfl rfl rfl rfl rfl rfl rfl ⟨rfl, rfl, rfl, rfl, rfl⟩ rfl rfl rfl rfl rfl (by kernel_rfl) Try.func8 (by kernel_rfl)
    (of_decide_eq_true (by kernel_rfl)) (by unfold Func.isWrapper; first | (rw [if_pos (by decide +kernel)]; kernel_rfl) | (rw [if_neg (by decide +kernel)]; exact ⟨rfl, rfl⟩))
    (fun os started H enc _ => spotOnce_lifted os started H enc)
end Go.Proofs.Ytcofbaioflfehaa

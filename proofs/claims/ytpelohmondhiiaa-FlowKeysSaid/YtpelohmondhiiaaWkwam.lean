/-
  The walks of FlowKeys, one for each kind of flow; no condition.
-/
import Derived.Test.YtpelohmondhiiaaMk
namespace Go.Proofs.Ytpelohmondhiiaa
open Go.Joins Go.ChangeShapes Go.WideShapes Go.ChangeAt Go.RowKit Go.Deep
open Go.ChangeMaps (open_string)

set_option maxRecDepth 100000 in
set_option maxHeartbeats 1600000 in
theorem flowKeys_s0 (x : ByteArray) (w : World) (h : x.size ≤ 1600) 
    (A1 : ∀ W, Calls Try.prog 10 #[.string x] W fun e w' => e = .returned (.agg #[.int .i64 0, .string ⟨#[]⟩]) ∧ Below W.heap.size W w')
    (A2 : ∀ W, Calls Try.prog 14 #[.agg #[.int .i64 0, .string ⟨#[]⟩]] W fun e w' => e = .returned (.agg #[.int .i64 0, .string ⟨#[]⟩]) ∧ Below W.heap.size W w')
    (A3 : ∀ W, Calls Try.prog 14 #[.agg #[.int .i64 0, .string ⟨#[]⟩]] W fun e w' => e = .returned (.agg #[.int .i64 0, .string ⟨#[]⟩]) ∧ Below W.heap.size W w') :
    Calls Try.prog 6 #[.string x] w fun e w' => e = .returned (.bool true) ∧ Below w.heap.size w w' := by
  have H1 := Lib.hid A1
  have H2 := Lib.hid A2
  have H3 := Lib.hid A3
  clear A1 A2 A3
  go_enter Try.func6, Try.ntmps6
  go_wp2_with fail
  refine (H1.out _).mono ?_
  rintro e w1 ⟨rfl, hb1⟩
  go_wp2_with fail
  go_quiet (fail)
  go_wp2_with fail
  refine (H2.out _).mono ?_
  rintro e w2 ⟨rfl, hq⟩
  have hF : Blk w2 w1.heap.size 24 #[.int .i64 0, .string ⟨#[]⟩] := ((Blk.new w1 24 _).alloc _).same (hq.block w1.heap.size (by show w1.heap.size < ((w1.alloc _).alloc _).heap.size; simp; omega))
  have hb2 : Below w.heap.size w w2 := (below_drewN ((hb1.alloc hb1.size _).alloc (by have := hb1.size; simp; omega) _) nq).trans (hq.mono (by show w.heap.size ≤ ((w1.alloc _).alloc _).heap.size; have := hb1.size; simp; omega))
  clear hq
  have hT : HT w1.heap.size w2.heap.size #[.int .i64 0, .string ⟨#[]⟩] #[.int .i64 0, .string ⟨#[]⟩] w (w2.alloc (.cells #[.int .i64 0, .string ⟨#[]⟩] 24)) := ⟨hF.alloc _, Blk.new w2 24 _, hb2.alloc hb2.size _⟩
  have f1 := hT.blk1.cell 1
  have e0 := hT.blk2.cell 0
  have e1 := hT.blk2.cell 1
  simp only [List.getElem?_toArray, List.getElem?_cons_zero, List.getElem?_cons_succ] at f1 e0 e1
  go_wp2_with fail
  generalize w2.alloc (.cells #[.int .i64 0, .string ⟨#[]⟩] 24) = W3 at *
  have q0 := ht_here hT
  refine region_class (HT w1.heap.size w2.heap.size #[.int .i64 0, .string ⟨#[]⟩] #[.int .i64 0, .string ⟨#[]⟩] w) (by kernel_rfl) (by kernel_rfl) q0.2 ?_
  repeat (first
    | go_big_quiet_skip
    | (go_big_quiet_want; go_big_quiet_op; first
      | go_big_quiet_on
      | (refine ⟨_, fun _ _ => rfl, ?_⟩; go_big_quiet_on)
      | (apply Exists.intro; refine ⟨?_, ?_⟩; · (intro wq hC; first | (go_at_call 9; exact (fixed_any _).mono fun e w' h => ⟨h.1, hC.next h.2⟩) | (go_at_call 14; exact (H3.out _).mono fun e w' h => ⟨h.1, hC.next h.2⟩))
         go_big_quiet_on)
      | (refine ⟨.string ⟨#[]⟩, fun wq hC => ?_, ?_⟩; · (rw [(ht_cells hC).2.2]; exact ⟨rfl, rfl⟩)
         go_big_quiet_on)
      | (refine ⟨.string ⟨#[]⟩, fun wq hC => ?_, ?_⟩; · (rw [(ht_cells hC).1]; exact ⟨rfl, rfl⟩)
         go_big_quiet_on)
      | (refine ⟨.int .i64 0, fun wq hC => ?_, ?_⟩; · (rw [(ht_cells hC).2.1]; exact ⟨rfl, rfl⟩)
         go_big_quiet_on)
      | (refine ⟨.agg #[.int .i64 0, .string ⟨#[]⟩], fun wq hC => ?_, ?_⟩; · (simp [(ht_cells hC).2.1, (ht_cells hC).2.2]; done)
         go_big_quiet_on)))
  refine wpQuiet_nil ?_
  intro w3 hM3
  go_wp2
  go_ret
  exact ⟨rfl, hM3.below⟩
set_option maxRecDepth 100000 in
set_option maxHeartbeats 1600000 in
theorem flowKeys_s1 (x : ByteArray) (w : World) (h : x.size ≤ 1600) (Y : ByteArray) (hY : Y.size = 8) (ey : Y.extract 0 8 = Y)
    (A1 : ∀ W, Calls Try.prog 10 #[.string x] W fun e w' => e = .returned (.agg #[.int .i64 1, .string Y]) ∧ Below W.heap.size W w')
    (A2 : ∀ W, Calls Try.prog 14 #[.agg #[.int .i64 1, .string Y]] W fun e w' => e = .returned (.agg #[.int .i64 1, .string Y]) ∧ Below W.heap.size W w')
    (A3 : ∀ W, Calls Try.prog 14 #[.agg #[.int .i64 1, .string Y]] W fun e w' => e = .returned (.agg #[.int .i64 1, .string Y]) ∧ Below W.heap.size W w') :
    Calls Try.prog 6 #[.string x] w fun e w' => e = .returned (.bool true) ∧ Below w.heap.size w w' := by
  have H1 := Lib.hid A1
  have H2 := Lib.hid A2
  have H3 := Lib.hid A3
  clear A1 A2 A3
  go_enter Try.func6, Try.ntmps6
  go_wp2_with fail
  refine (H1.out _).mono ?_
  rintro e w1 ⟨rfl, hb1⟩
  go_wp2_with fail
  go_quiet (fail)
  go_wp2_with fail
  refine (H2.out _).mono ?_
  rintro e w2 ⟨rfl, hq⟩
  have hF : Blk w2 w1.heap.size 24 #[.int .i64 1, .string Y] := ((Blk.new w1 24 _).alloc _).same (hq.block w1.heap.size (by show w1.heap.size < ((w1.alloc _).alloc _).heap.size; simp; omega))
  have hb2 : Below w.heap.size w w2 := (below_drewN ((hb1.alloc hb1.size _).alloc (by have := hb1.size; simp; omega) _) nq).trans (hq.mono (by show w.heap.size ≤ ((w1.alloc _).alloc _).heap.size; have := hb1.size; simp; omega))
  clear hq
  have hT : HT w1.heap.size w2.heap.size #[.int .i64 1, .string Y] #[.int .i64 1, .string Y] w (w2.alloc (.cells #[.int .i64 1, .string Y] 24)) := ⟨hF.alloc _, Blk.new w2 24 _, hb2.alloc hb2.size _⟩
  have f1 := hT.blk1.cell 1
  have e0 := hT.blk2.cell 0
  have e1 := hT.blk2.cell 1
  simp only [List.getElem?_toArray, List.getElem?_cons_zero, List.getElem?_cons_succ] at f1 e0 e1
  go_wp2_with fail
  generalize w2.alloc (.cells #[.int .i64 1, .string Y] 24) = W3 at *
  have q0 := ht_here hT
  refine region_class (HT w1.heap.size w2.heap.size #[.int .i64 1, .string Y] #[.int .i64 1, .string Y] w) (by kernel_rfl) (by kernel_rfl) q0.2 ?_
  repeat (first
    | go_big_quiet_skip
    | (go_big_quiet_want; go_big_quiet_op; first
      | go_big_quiet_on
      | (refine ⟨_, fun _ _ => rfl, ?_⟩; go_big_quiet_on)
      | (apply Exists.intro; refine ⟨?_, ?_⟩; · (intro wq hC; first | (go_at_call 9; exact (fixed_any _).mono fun e w' h => ⟨h.1, hC.next h.2⟩) | (go_at_call 14; exact (H3.out _).mono fun e w' h => ⟨h.1, hC.next h.2⟩))
         go_big_quiet_on)
      | (refine ⟨.string Y, fun wq hC => ?_, ?_⟩; · (rw [(ht_cells hC).2.2]; exact ⟨rfl, rfl⟩)
         go_big_quiet_on)
      | (refine ⟨.string Y, fun wq hC => ?_, ?_⟩; · (rw [(ht_cells hC).1]; exact ⟨rfl, rfl⟩)
         go_big_quiet_on)
      | (refine ⟨.int .i64 1, fun wq hC => ?_, ?_⟩; · (rw [(ht_cells hC).2.1]; exact ⟨rfl, rfl⟩)
         go_big_quiet_on)
      | (refine ⟨.agg #[.int .i64 1, .string Y], fun wq hC => ?_, ?_⟩; · (simp [(ht_cells hC).2.1, (ht_cells hC).2.2]; done)
         go_big_quiet_on)))
  refine wpQuiet_nil ?_
  intro w3 hM3
  go_wp2
  go_ret
  exact ⟨rfl, hM3.below⟩
set_option maxRecDepth 100000 in
set_option maxHeartbeats 1600000 in
theorem flowKeys_s2 (x : ByteArray) (w : World) (h : x.size ≤ 1600) (Y : ByteArray) (hY : Y.size = 12) (lx : ByteArray) (hm : lx.size = 8) (el : Y.extract 0 8 = lx)
    (A1 : ∀ W, Calls Try.prog 10 #[.string x] W fun e w' => e = .returned (.agg #[.int .i64 2, .string Y]) ∧ Below W.heap.size W w')
    (A2 : ∀ W, Calls Try.prog 14 #[.agg #[.int .i64 2, .string Y]] W fun e w' => e = .returned (.agg #[.int .i64 1, .string lx]) ∧ Below W.heap.size W w')
    (A3 : ∀ W, Calls Try.prog 14 #[.agg #[.int .i64 1, .string lx]] W fun e w' => e = .returned (.agg #[.int .i64 1, .string lx]) ∧ Below W.heap.size W w') :
    Calls Try.prog 6 #[.string x] w fun e w' => e = .returned (.bool true) ∧ Below w.heap.size w w' := by
  have H1 := Lib.hid A1
  have H2 := Lib.hid A2
  have H3 := Lib.hid A3
  clear A1 A2 A3
  go_enter Try.func6, Try.ntmps6
  go_wp2_with fail
  refine (H1.out _).mono ?_
  rintro e w1 ⟨rfl, hb1⟩
  go_wp2_with fail
  go_quiet (fail)
  go_wp2_with fail
  refine (H2.out _).mono ?_
  rintro e w2 ⟨rfl, hq⟩
  have hF : Blk w2 w1.heap.size 24 #[.int .i64 2, .string Y] := ((Blk.new w1 24 _).alloc _).same (hq.block w1.heap.size (by show w1.heap.size < ((w1.alloc _).alloc _).heap.size; simp; omega))
  have hb2 : Below w.heap.size w w2 := (below_drewN ((hb1.alloc hb1.size _).alloc (by have := hb1.size; simp; omega) _) nq).trans (hq.mono (by show w.heap.size ≤ ((w1.alloc _).alloc _).heap.size; have := hb1.size; simp; omega))
  clear hq
  have hT : HT w1.heap.size w2.heap.size #[.int .i64 2, .string Y] #[.int .i64 1, .string lx] w (w2.alloc (.cells #[.int .i64 1, .string lx] 24)) := ⟨hF.alloc _, Blk.new w2 24 _, hb2.alloc hb2.size _⟩
  have f1 := hT.blk1.cell 1
  have e0 := hT.blk2.cell 0
  have e1 := hT.blk2.cell 1
  simp only [List.getElem?_toArray, List.getElem?_cons_zero, List.getElem?_cons_succ] at f1 e0 e1
  go_wp2_with fail
  generalize w2.alloc (.cells #[.int .i64 1, .string lx] 24) = W3 at *
  have q0 := ht_here hT
  refine region_class (HT w1.heap.size w2.heap.size #[.int .i64 2, .string Y] #[.int .i64 1, .string lx] w) (by kernel_rfl) (by kernel_rfl) q0.2 ?_
  repeat (first
    | go_big_quiet_skip
    | (go_big_quiet_want; go_big_quiet_op; first
      | go_big_quiet_on
      | (refine ⟨_, fun _ _ => rfl, ?_⟩; go_big_quiet_on)
      | (apply Exists.intro; refine ⟨?_, ?_⟩; · (intro wq hC; first | (go_at_call 9; exact (fixed_any _).mono fun e w' h => ⟨h.1, hC.next h.2⟩) | (go_at_call 14; exact (H3.out _).mono fun e w' h => ⟨h.1, hC.next h.2⟩))
         go_big_quiet_on)
      | (refine ⟨.string lx, fun wq hC => ?_, ?_⟩; · (rw [(ht_cells hC).2.2]; exact ⟨rfl, rfl⟩)
         go_big_quiet_on)
      | (refine ⟨.string Y, fun wq hC => ?_, ?_⟩; · (rw [(ht_cells hC).1]; exact ⟨rfl, rfl⟩)
         go_big_quiet_on)
      | (refine ⟨.int .i64 1, fun wq hC => ?_, ?_⟩; · (rw [(ht_cells hC).2.1]; exact ⟨rfl, rfl⟩)
         go_big_quiet_on)
      | (refine ⟨.agg #[.int .i64 1, .string lx], fun wq hC => ?_, ?_⟩; · (simp [(ht_cells hC).2.1, (ht_cells hC).2.2]; done)
         go_big_quiet_on)))
  refine wpQuiet_nil ?_
  intro w3 hM3
  go_wp2
  go_ret
  exact ⟨rfl, hM3.below⟩
set_option maxRecDepth 100000 in
set_option maxHeartbeats 1600000 in
theorem flowKeys_s3 (x : ByteArray) (w : World) (h : x.size ≤ 1600) (Y : ByteArray) (hY : Y.size = 12) (lx : ByteArray) (hm : lx.size = 8) (el : Y.extract 0 8 = lx)
    (A1 : ∀ W, Calls Try.prog 10 #[.string x] W fun e w' => e = .returned (.agg #[.int .i64 3, .string Y]) ∧ Below W.heap.size W w')
    (A2 : ∀ W, Calls Try.prog 14 #[.agg #[.int .i64 3, .string Y]] W fun e w' => e = .returned (.agg #[.int .i64 1, .string lx]) ∧ Below W.heap.size W w')
    (A3 : ∀ W, Calls Try.prog 14 #[.agg #[.int .i64 1, .string lx]] W fun e w' => e = .returned (.agg #[.int .i64 1, .string lx]) ∧ Below W.heap.size W w') :
    Calls Try.prog 6 #[.string x] w fun e w' => e = .returned (.bool true) ∧ Below w.heap.size w w' := by
  have H1 := Lib.hid A1
  have H2 := Lib.hid A2
  have H3 := Lib.hid A3
  clear A1 A2 A3
  go_enter Try.func6, Try.ntmps6
  go_wp2_with fail
  refine (H1.out _).mono ?_
  rintro e w1 ⟨rfl, hb1⟩
  go_wp2_with fail
  go_quiet (fail)
  go_wp2_with fail
  refine (H2.out _).mono ?_
  rintro e w2 ⟨rfl, hq⟩
  have hF : Blk w2 w1.heap.size 24 #[.int .i64 3, .string Y] := ((Blk.new w1 24 _).alloc _).same (hq.block w1.heap.size (by show w1.heap.size < ((w1.alloc _).alloc _).heap.size; simp; omega))
  have hb2 : Below w.heap.size w w2 := (below_drewN ((hb1.alloc hb1.size _).alloc (by have := hb1.size; simp; omega) _) nq).trans (hq.mono (by show w.heap.size ≤ ((w1.alloc _).alloc _).heap.size; have := hb1.size; simp; omega))
  clear hq
  have hT : HT w1.heap.size w2.heap.size #[.int .i64 3, .string Y] #[.int .i64 1, .string lx] w (w2.alloc (.cells #[.int .i64 1, .string lx] 24)) := ⟨hF.alloc _, Blk.new w2 24 _, hb2.alloc hb2.size _⟩
  have f1 := hT.blk1.cell 1
  have e0 := hT.blk2.cell 0
  have e1 := hT.blk2.cell 1
  simp only [List.getElem?_toArray, List.getElem?_cons_zero, List.getElem?_cons_succ] at f1 e0 e1
  go_wp2_with fail
  generalize w2.alloc (.cells #[.int .i64 1, .string lx] 24) = W3 at *
  have q0 := ht_here hT
  refine region_class (HT w1.heap.size w2.heap.size #[.int .i64 3, .string Y] #[.int .i64 1, .string lx] w) (by kernel_rfl) (by kernel_rfl) q0.2 ?_
  repeat (first
    | go_big_quiet_skip
    | (go_big_quiet_want; go_big_quiet_op; first
      | go_big_quiet_on
      | (refine ⟨_, fun _ _ => rfl, ?_⟩; go_big_quiet_on)
      | (apply Exists.intro; refine ⟨?_, ?_⟩; · (intro wq hC; first | (go_at_call 9; exact (fixed_any _).mono fun e w' h => ⟨h.1, hC.next h.2⟩) | (go_at_call 14; exact (H3.out _).mono fun e w' h => ⟨h.1, hC.next h.2⟩))
         go_big_quiet_on)
      | (refine ⟨.string lx, fun wq hC => ?_, ?_⟩; · (rw [(ht_cells hC).2.2]; exact ⟨rfl, rfl⟩)
         go_big_quiet_on)
      | (refine ⟨.string Y, fun wq hC => ?_, ?_⟩; · (rw [(ht_cells hC).1]; exact ⟨rfl, rfl⟩)
         go_big_quiet_on)
      | (refine ⟨.int .i64 1, fun wq hC => ?_, ?_⟩; · (rw [(ht_cells hC).2.1]; exact ⟨rfl, rfl⟩)
         go_big_quiet_on)
      | (refine ⟨.agg #[.int .i64 1, .string lx], fun wq hC => ?_, ?_⟩; · (simp [(ht_cells hC).2.1, (ht_cells hC).2.2]; done)
         go_big_quiet_on)))
  refine wpQuiet_nil ?_
  intro w3 hM3
  go_wp2
  go_ret
  exact ⟨rfl, hM3.below⟩
set_option maxRecDepth 100000 in
set_option maxHeartbeats 1600000 in
theorem flowKeys_s4 (x : ByteArray) (w : World) (h : x.size ≤ 1600) (Y : ByteArray) (hY : Y.size = 32) (ey : Y.extract 0 32 = Y)
    (A1 : ∀ W, Calls Try.prog 10 #[.string x] W fun e w' => e = .returned (.agg #[.int .i64 4, .string Y]) ∧ Below W.heap.size W w')
    (A2 : ∀ W, Calls Try.prog 14 #[.agg #[.int .i64 4, .string Y]] W fun e w' => e = .returned (.agg #[.int .i64 4, .string Y]) ∧ Below W.heap.size W w')
    (A3 : ∀ W, Calls Try.prog 14 #[.agg #[.int .i64 4, .string Y]] W fun e w' => e = .returned (.agg #[.int .i64 4, .string Y]) ∧ Below W.heap.size W w') :
    Calls Try.prog 6 #[.string x] w fun e w' => e = .returned (.bool true) ∧ Below w.heap.size w w' := by
  have H1 := Lib.hid A1
  have H2 := Lib.hid A2
  have H3 := Lib.hid A3
  clear A1 A2 A3
  go_enter Try.func6, Try.ntmps6
  go_wp2_with fail
  refine (H1.out _).mono ?_
  rintro e w1 ⟨rfl, hb1⟩
  go_wp2_with fail
  go_quiet (fail)
  go_wp2_with fail
  refine (H2.out _).mono ?_
  rintro e w2 ⟨rfl, hq⟩
  have hF : Blk w2 w1.heap.size 24 #[.int .i64 4, .string Y] := ((Blk.new w1 24 _).alloc _).same (hq.block w1.heap.size (by show w1.heap.size < ((w1.alloc _).alloc _).heap.size; simp; omega))
  have hb2 : Below w.heap.size w w2 := (below_drewN ((hb1.alloc hb1.size _).alloc (by have := hb1.size; simp; omega) _) nq).trans (hq.mono (by show w.heap.size ≤ ((w1.alloc _).alloc _).heap.size; have := hb1.size; simp; omega))
  clear hq
  have hT : HT w1.heap.size w2.heap.size #[.int .i64 4, .string Y] #[.int .i64 4, .string Y] w (w2.alloc (.cells #[.int .i64 4, .string Y] 24)) := ⟨hF.alloc _, Blk.new w2 24 _, hb2.alloc hb2.size _⟩
  have f1 := hT.blk1.cell 1
  have e0 := hT.blk2.cell 0
  have e1 := hT.blk2.cell 1
  simp only [List.getElem?_toArray, List.getElem?_cons_zero, List.getElem?_cons_succ] at f1 e0 e1
  go_wp2_with fail
  generalize w2.alloc (.cells #[.int .i64 4, .string Y] 24) = W3 at *
  have q0 := ht_here hT
  refine region_class (HT w1.heap.size w2.heap.size #[.int .i64 4, .string Y] #[.int .i64 4, .string Y] w) (by kernel_rfl) (by kernel_rfl) q0.2 ?_
  repeat (first
    | go_big_quiet_skip
    | (go_big_quiet_want; go_big_quiet_op; first
      | go_big_quiet_on
      | (refine ⟨_, fun _ _ => rfl, ?_⟩; go_big_quiet_on)
      | (apply Exists.intro; refine ⟨?_, ?_⟩; · (intro wq hC; first | (go_at_call 9; exact (fixed_any _).mono fun e w' h => ⟨h.1, hC.next h.2⟩) | (go_at_call 14; exact (H3.out _).mono fun e w' h => ⟨h.1, hC.next h.2⟩))
         go_big_quiet_on)
      | (refine ⟨.string Y, fun wq hC => ?_, ?_⟩; · (rw [(ht_cells hC).2.2]; exact ⟨rfl, rfl⟩)
         go_big_quiet_on)
      | (refine ⟨.string Y, fun wq hC => ?_, ?_⟩; · (rw [(ht_cells hC).1]; exact ⟨rfl, rfl⟩)
         go_big_quiet_on)
      | (refine ⟨.int .i64 4, fun wq hC => ?_, ?_⟩; · (rw [(ht_cells hC).2.1]; exact ⟨rfl, rfl⟩)
         go_big_quiet_on)
      | (refine ⟨.agg #[.int .i64 4, .string Y], fun wq hC => ?_, ?_⟩; · (simp [(ht_cells hC).2.1, (ht_cells hC).2.2]; done)
         go_big_quiet_on)))
  refine wpQuiet_nil ?_
  intro w3 hM3
  go_wp2
  go_ret
  exact ⟨rfl, hM3.below⟩
set_option maxRecDepth 100000 in
set_option maxHeartbeats 1600000 in
theorem flowKeys_s5 (x : ByteArray) (w : World) (h : x.size ≤ 1600) (Y : ByteArray) (hY : Y.size = 36) (lx : ByteArray) (hm : lx.size = 32) (el : Y.extract 0 32 = lx)
    (A1 : ∀ W, Calls Try.prog 10 #[.string x] W fun e w' => e = .returned (.agg #[.int .i64 5, .string Y]) ∧ Below W.heap.size W w')
    (A2 : ∀ W, Calls Try.prog 14 #[.agg #[.int .i64 5, .string Y]] W fun e w' => e = .returned (.agg #[.int .i64 4, .string lx]) ∧ Below W.heap.size W w')
    (A3 : ∀ W, Calls Try.prog 14 #[.agg #[.int .i64 4, .string lx]] W fun e w' => e = .returned (.agg #[.int .i64 4, .string lx]) ∧ Below W.heap.size W w') :
    Calls Try.prog 6 #[.string x] w fun e w' => e = .returned (.bool true) ∧ Below w.heap.size w w' := by
  have H1 := Lib.hid A1
  have H2 := Lib.hid A2
  have H3 := Lib.hid A3
  clear A1 A2 A3
  go_enter Try.func6, Try.ntmps6
  go_wp2_with fail
  refine (H1.out _).mono ?_
  rintro e w1 ⟨rfl, hb1⟩
  go_wp2_with fail
  go_quiet (fail)
  go_wp2_with fail
  refine (H2.out _).mono ?_
  rintro e w2 ⟨rfl, hq⟩
  have hF : Blk w2 w1.heap.size 24 #[.int .i64 5, .string Y] := ((Blk.new w1 24 _).alloc _).same (hq.block w1.heap.size (by show w1.heap.size < ((w1.alloc _).alloc _).heap.size; simp; omega))
  have hb2 : Below w.heap.size w w2 := (below_drewN ((hb1.alloc hb1.size _).alloc (by have := hb1.size; simp; omega) _) nq).trans (hq.mono (by show w.heap.size ≤ ((w1.alloc _).alloc _).heap.size; have := hb1.size; simp; omega))
  clear hq
  have hT : HT w1.heap.size w2.heap.size #[.int .i64 5, .string Y] #[.int .i64 4, .string lx] w (w2.alloc (.cells #[.int .i64 4, .string lx] 24)) := ⟨hF.alloc _, Blk.new w2 24 _, hb2.alloc hb2.size _⟩
  have f1 := hT.blk1.cell 1
  have e0 := hT.blk2.cell 0
  have e1 := hT.blk2.cell 1
  simp only [List.getElem?_toArray, List.getElem?_cons_zero, List.getElem?_cons_succ] at f1 e0 e1
  go_wp2_with fail
  generalize w2.alloc (.cells #[.int .i64 4, .string lx] 24) = W3 at *
  have q0 := ht_here hT
  refine region_class (HT w1.heap.size w2.heap.size #[.int .i64 5, .string Y] #[.int .i64 4, .string lx] w) (by kernel_rfl) (by kernel_rfl) q0.2 ?_
  repeat (first
    | go_big_quiet_skip
    | (go_big_quiet_want; go_big_quiet_op; first
      | go_big_quiet_on
      | (refine ⟨_, fun _ _ => rfl, ?_⟩; go_big_quiet_on)
      | (apply Exists.intro; refine ⟨?_, ?_⟩; · (intro wq hC; first | (go_at_call 9; exact (fixed_any _).mono fun e w' h => ⟨h.1, hC.next h.2⟩) | (go_at_call 14; exact (H3.out _).mono fun e w' h => ⟨h.1, hC.next h.2⟩))
         go_big_quiet_on)
      | (refine ⟨.string lx, fun wq hC => ?_, ?_⟩; · (rw [(ht_cells hC).2.2]; exact ⟨rfl, rfl⟩)
         go_big_quiet_on)
      | (refine ⟨.string Y, fun wq hC => ?_, ?_⟩; · (rw [(ht_cells hC).1]; exact ⟨rfl, rfl⟩)
         go_big_quiet_on)
      | (refine ⟨.int .i64 4, fun wq hC => ?_, ?_⟩; · (rw [(ht_cells hC).2.1]; exact ⟨rfl, rfl⟩)
         go_big_quiet_on)
      | (refine ⟨.agg #[.int .i64 4, .string lx], fun wq hC => ?_, ?_⟩; · (simp [(ht_cells hC).2.1, (ht_cells hC).2.2]; done)
         go_big_quiet_on)))
  refine wpQuiet_nil ?_
  intro w3 hM3
  go_wp2
  go_ret
  exact ⟨rfl, hM3.below⟩
set_option maxRecDepth 100000 in
set_option maxHeartbeats 1600000 in
theorem flowKeys_s6 (x : ByteArray) (w : World) (h : x.size ≤ 1600) (Y : ByteArray) (hY : Y.size = 36) (lx : ByteArray) (hm : lx.size = 32) (el : Y.extract 0 32 = lx)
    (A1 : ∀ W, Calls Try.prog 10 #[.string x] W fun e w' => e = .returned (.agg #[.int .i64 6, .string Y]) ∧ Below W.heap.size W w')
    (A2 : ∀ W, Calls Try.prog 14 #[.agg #[.int .i64 6, .string Y]] W fun e w' => e = .returned (.agg #[.int .i64 4, .string lx]) ∧ Below W.heap.size W w')
    (A3 : ∀ W, Calls Try.prog 14 #[.agg #[.int .i64 4, .string lx]] W fun e w' => e = .returned (.agg #[.int .i64 4, .string lx]) ∧ Below W.heap.size W w') :
    Calls Try.prog 6 #[.string x] w fun e w' => e = .returned (.bool true) ∧ Below w.heap.size w w' := by
  have H1 := Lib.hid A1
  have H2 := Lib.hid A2
  have H3 := Lib.hid A3
  clear A1 A2 A3
  go_enter Try.func6, Try.ntmps6
  go_wp2_with fail
  refine (H1.out _).mono ?_
  rintro e w1 ⟨rfl, hb1⟩
  go_wp2_with fail
  go_quiet (fail)
  go_wp2_with fail
  refine (H2.out _).mono ?_
  rintro e w2 ⟨rfl, hq⟩
  have hF : Blk w2 w1.heap.size 24 #[.int .i64 6, .string Y] := ((Blk.new w1 24 _).alloc _).same (hq.block w1.heap.size (by show w1.heap.size < ((w1.alloc _).alloc _).heap.size; simp; omega))
  have hb2 : Below w.heap.size w w2 := (below_drewN ((hb1.alloc hb1.size _).alloc (by have := hb1.size; simp; omega) _) nq).trans (hq.mono (by show w.heap.size ≤ ((w1.alloc _).alloc _).heap.size; have := hb1.size; simp; omega))
  clear hq
  have hT : HT w1.heap.size w2.heap.size #[.int .i64 6, .string Y] #[.int .i64 4, .string lx] w (w2.alloc (.cells #[.int .i64 4, .string lx] 24)) := ⟨hF.alloc _, Blk.new w2 24 _, hb2.alloc hb2.size _⟩
  have f1 := hT.blk1.cell 1
  have e0 := hT.blk2.cell 0
  have e1 := hT.blk2.cell 1
  simp only [List.getElem?_toArray, List.getElem?_cons_zero, List.getElem?_cons_succ] at f1 e0 e1
  go_wp2_with fail
  generalize w2.alloc (.cells #[.int .i64 4, .string lx] 24) = W3 at *
  have q0 := ht_here hT
  refine region_class (HT w1.heap.size w2.heap.size #[.int .i64 6, .string Y] #[.int .i64 4, .string lx] w) (by kernel_rfl) (by kernel_rfl) q0.2 ?_
  repeat (first
    | go_big_quiet_skip
    | (go_big_quiet_want; go_big_quiet_op; first
      | go_big_quiet_on
      | (refine ⟨_, fun _ _ => rfl, ?_⟩; go_big_quiet_on)
      | (apply Exists.intro; refine ⟨?_, ?_⟩; · (intro wq hC; first | (go_at_call 9; exact (fixed_any _).mono fun e w' h => ⟨h.1, hC.next h.2⟩) | (go_at_call 14; exact (H3.out _).mono fun e w' h => ⟨h.1, hC.next h.2⟩))
         go_big_quiet_on)
      | (refine ⟨.string lx, fun wq hC => ?_, ?_⟩; · (rw [(ht_cells hC).2.2]; exact ⟨rfl, rfl⟩)
         go_big_quiet_on)
      | (refine ⟨.string Y, fun wq hC => ?_, ?_⟩; · (rw [(ht_cells hC).1]; exact ⟨rfl, rfl⟩)
         go_big_quiet_on)
      | (refine ⟨.int .i64 4, fun wq hC => ?_, ?_⟩; · (rw [(ht_cells hC).2.1]; exact ⟨rfl, rfl⟩)
         go_big_quiet_on)
      | (refine ⟨.agg #[.int .i64 4, .string lx], fun wq hC => ?_, ?_⟩; · (simp [(ht_cells hC).2.1, (ht_cells hC).2.2]; done)
         go_big_quiet_on)))
  refine wpQuiet_nil ?_
  intro w3 hM3
  go_wp2
  go_ret
  exact ⟨rfl, hM3.below⟩
end Go.Proofs.Ytpelohmondhiiaa

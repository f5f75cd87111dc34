/-
  What read answers, for every string: the frame as its bytes lie, or that they are too few.
-/
import Derived.Test.YtboinnejkghfiaaCatch
namespace Go.Proofs.Ytboinnejkghfiaa
open Go.RowKit

theorem make_func (fn : Fn) (first cap : Array Value) (w : World) : (Instr.makeFunc fn first cap).run Try.prog w = .ok (.func fn first cap) w := rfl

/-- The bytes of s from a on. -/
def tail (s : ByteArray) (a : Nat) : ByteArray := s.extract a s.size
theorem tail_size (s : ByteArray) (a : Nat) : (tail s a).size = s.size - a := by simp [tail, ByteArray.size_extract]
theorem tail_zero (s : ByteArray) : tail s 0 = s := by simp [tail]
theorem tail_tail (s : ByteArray) (a n : Nat) : (tail s a).extract n (tail s a).size = tail s (a + n) := by
  rw [tail_size]; unfold tail
  apply ByteArray.ext
  simp only [ByteArray.data_extract, Array.extract_extract]
  congr 1
  have : s.data.size = s.size := rfl
  omega
theorem tail_take (s : ByteArray) (a n : Nat) (h : a + n ≤ s.size) : (tail s a).extract 0 n = s.extract a (a + n) := by
  unfold tail
  apply ByteArray.ext
  simp only [ByteArray.data_extract, Array.extract_extract]
  congr 1
  omega
theorem num_tail (s : ByteArray) (a : Nat) : num (tail s a) 0 = num s a := by
  by_cases h : a ≤ s.size
  · have e : tail s a = s.extract a (a + (s.size - a)) := by unfold tail; congr 1; omega
    by_cases h2 : 2 ≤ s.size - a
    · rw [e, num_cut s a 0 _ (by omega)]; rfl
    · unfold num cutl tail
      rw [ByteArray.data_extract, Array.toList_extract, List.extract_eq_take_drop, List.take_of_length_le (l := List.drop a _) (by simp)]
      simp
  · unfold num cutl tail
    rw [ByteArray.data_extract, Array.toList_extract, List.extract_eq_take_drop]
    have : List.drop a s.data.toList = [] := List.drop_eq_nil_of_le (by simp; have : s.data.size = s.size := rfl; omega)
    simp [this]

/-- read under way: its frame, its error, its reader. -/
structure RD (w0 : World) (d r : ByteArray) (v p t : Int) (b u : ByteArray) (w : World) : Prop where
  f : Blk w w0.heap.size 49 (ethC d r v p t b)
  e : Blk w (w0.heap.size + 1) 28 #[.int .i64 0]
  r : Blk w (w0.heap.size + 1 + 1) 70 #[.string u]
  below : Below w0.heap.size w0 w
section
variable {w0 w w' : World} {d r : ByteArray} {v p t : Int} {b u : ByteArray}
theorem RD.size (h : RD w0 d r v p t b u w) : w0.heap.size + 1 + 1 < w.heap.size := h.r.lt
theorem RD.next (h : RD w0 d r v p t b u w) (u' : ByteArray) : RD w0 d r v p t b u' (w.setCell ⟨w0.heap.size + 1 + 1, 0, none⟩ (.string u')) :=
  ⟨h.f.other (by omega) _ _, h.e.other (by omega) _ _, h.r.put 0 _, h.below.setCell (by show _ ≤ w0.heap.size + 1 + 1; omega) _⟩
theorem RD.on (h : RD w0 d r v p t b u w) (hb : Below w.heap.size w w') : RD w0 d r v p t b u w' :=
  ⟨h.f.same (hb.block _ h.f.lt), h.e.same (hb.block _ h.e.lt), h.r.same (hb.block _ h.r.lt), h.below.trans (hb.mono (by have := h.size; omega))⟩
theorem RD.put (h : RD w0 d r v p t b u w) (i : Nat) (x : Value) {d' r' : ByteArray} {v' p' t' : Int} {b' : ByteArray} (e : (ethC d r v p t b).setIfInBounds i x = ethC d' r' v' p' t' b') : RD w0 d' r' v' p' t' b' u (w.setCell ⟨w0.heap.size, i, none⟩ x) :=
  ⟨e ▸ h.f.put i x, h.e.other (by omega) _ _, h.r.other (by omega) _ _, h.below.setCell (Nat.le_refl _) _⟩
theorem RD.err (h : RD w0 d r v p t b u w) : RD w0 d r v p t b u (w.setCell ⟨w0.heap.size + 1, 0, none⟩ (.int .i64 0)) :=
  ⟨h.f.other (by omega) _ _, h.e.put 0 _, h.r.other (by omega) _ _, h.below.setCell (by show _ ≤ w0.heap.size + 1; omega) _⟩
theorem RD.cells (h : RD w0 d r v p t b u w) : w.cell? ⟨w0.heap.size, 0, none⟩ = some (.string d) ∧ w.cell? ⟨w0.heap.size, 1, none⟩ = some (.string r) ∧ w.cell? ⟨w0.heap.size, 2, none⟩ = some (.int .i64 v) ∧
    w.cell? ⟨w0.heap.size, 3, none⟩ = some (.int .i64 p) ∧ w.cell? ⟨w0.heap.size, 4, none⟩ = some (.int .i64 t) ∧ w.cell? ⟨w0.heap.size, 5, none⟩ = some (.string b) ∧
    w.cell? ⟨w0.heap.size + 1, 0, none⟩ = some (.int .i64 0) ∧ w.cell? ⟨w0.heap.size + 1 + 1, 0, none⟩ = some (.string u) ∧ (∀ i, w.frozen? ⟨w0.heap.size, i, none⟩ = false) ∧ w.frozen? ⟨w0.heap.size + 1, 0, none⟩ = false ∧ w.frozen? ⟨w0.heap.size + 1 + 1, 0, none⟩ = false :=
  ⟨h.f.cell 0, h.f.cell 1, h.f.cell 2, h.f.cell 3, h.f.cell 4, h.f.cell 5, h.e.cell 0, h.r.cell 0, h.f.frozen, h.e.frozen 0, h.r.frozen 0⟩
end
section
variable {w0 w : World} {d r : ByteArray} {v p t : Int} {b s : ByteArray} {a : Nat}
theorem take_rd (h : RD w0 d r v p t b (tail s a) w) (c : Nat) (hc : c = a + 6) (hn : c ≤ s.size) :
    Calls Try.prog 51 #[.pointer (some ⟨w0.heap.size + 1 + 1, 0, none⟩), .int .i64 6] w fun e w' => e = .returned (.string (s.extract a c)) ∧ RD w0 d r v p t b (tail s c) w' := by
  subst hc
  refine (take_ok _ (tail s a) 6 w (by rw [tail_size]; omega) h.cells.2.2.2.2.2.2.2.1 h.cells.2.2.2.2.2.2.2.2.2.2).mono fun _ _ ⟨he, hw⟩ => ⟨?_, ?_⟩
  · rw [he, tail_take s a 6 hn]
  · subst hw; rw [tail_tail]; exact h.next _
theorem take_rd_short (h : RD w0 d r v p t b (tail s a) w) (hn : s.size < a + 6) :
    Calls Try.prog 51 #[.pointer (some ⟨w0.heap.size + 1 + 1, 0, none⟩), .int .i64 6] w fun e w' => e = .panicked [{ v := shortV, recovered := false }] ∧ RD w0 d r v p t b (tail s a) w' :=
  (take_short _ (tail s a) 6 w (by rw [tail_size]; omega) h.cells.2.2.2.2.2.2.2.1).mono fun _ _ ⟨he, hw⟩ => ⟨he, hw ▸ h⟩
theorem word_rd (h : RD w0 d r v p t b (tail s a) w) (c : Nat) (hc : c = a + 2) (hn : c ≤ s.size) :
    Calls Try.prog 52 #[.pointer (some ⟨w0.heap.size + 1 + 1, 0, none⟩)] w fun e w' => e = .returned (.int .i64 (num s a)) ∧ RD w0 d r v p t b (tail s c) w' := by
  subst hc
  refine (word_ok _ (tail s a) w (by rw [tail_size]; omega) h.cells.2.2.2.2.2.2.2.1 h.cells.2.2.2.2.2.2.2.2.2.2).mono fun _ _ ⟨he, hw⟩ => ⟨?_, ?_⟩
  · rw [he, num_tail]
  · rw [tail_tail] at hw; exact (h.next _).on (hw.mono (by simp))
theorem word_rd_short (h : RD w0 d r v p t b (tail s a) w) (hn : s.size < a + 2) :
    Calls Try.prog 52 #[.pointer (some ⟨w0.heap.size + 1 + 1, 0, none⟩)] w fun e w' => e = .panicked [{ v := shortV, recovered := false }] ∧ RD w0 d r v p t b (tail s a) w' :=
  (word_short _ (tail s a) w (by rw [tail_size]; omega) h.cells.2.2.2.2.2.2.2.1).mono fun _ _ ⟨he, hw⟩ => ⟨he, hw ▸ h⟩
end
theorem RD.new (w : World) (s : ByteArray) : RD w ⟨#[]⟩ ⟨#[]⟩ 0 0 0 ⟨#[]⟩ (tail s 0) (((w.alloc (.cells (ethC ⟨#[]⟩ ⟨#[]⟩ 0 0 0 ⟨#[]⟩) 49)).alloc (.cells #[.int .i64 0] 28)).alloc (.cells #[.string s] 70)) := by
  rw [tail_zero]
  refine ⟨((Blk.new w 49 _).alloc _).alloc _, ?_, ?_, (((Below.refl _ _).alloc (Nat.le_refl _) _).alloc (by simp) _).alloc (by simp; omega) _⟩
  · have := (Blk.new (w.alloc (.cells (ethC ⟨#[]⟩ ⟨#[]⟩ 0 0 0 ⟨#[]⟩) 49)) 28 #[.int .i64 0]).alloc (.cells #[.string s] 70)
    simpa using this
  · have := Blk.new ((w.alloc (.cells (ethC ⟨#[]⟩ ⟨#[]⟩ 0 0 0 ⟨#[]⟩) 49)).alloc (.cells #[.int .i64 0] 28)) 70 #[.string s]
    simpa using this

theorem low13 (n : Int) : bits .and .i64 n 8191 = n % 8192 := by
  have e : (BitVec.ofInt 64 8191).toNat = 2 ^ 13 - 1 := by decide
  have k : (BitVec.ofInt 64 n &&& BitVec.ofInt 64 8191).toNat = (n % ((2 ^ 64 : Nat) : Int)).toNat % 2 ^ 13 := by
    rw [BitVec.toNat_and, BitVec.toNat_ofInt, e, Nat.and_two_pow_sub_one_eq_mod]
  show IntKind.i64.wrap ((BitVec.ofInt 64 n &&& BitVec.ofInt 64 8191).toNat : Nat) = n % 8192
  rw [k, IntKind.wrap_i64]
  omega
theorem tag_low (s : ByteArray) (a : Nat) : bits .and .i64 (num s a : Int) 8191 = (num s a : Int) % 8192 := low13 _
def ReadIs (w : World) (d r : ByteArray) (v p t : Int) (b : ByteArray) (n : Int) (e : Ending) (w' : World) : Prop :=
  e = .returned (.tuple #[.agg (ethC d r v p t b), .int .i64 n]) ∧ Below w.heap.size w w'
theorem read_results (w : World) (tmps : Array Value) (gf ge : Nat) (h2 : tmps[2]?.getD undef = .pointer (some ⟨gf, 0, none⟩)) (h3 : tmps[3]?.getD undef = .pointer (some ⟨ge, 0, none⟩)) {d r : ByteArray} {v p t : Int} {b : ByteArray} {n : Int}
    (hF : Blk w gf 49 (ethC d r v p t b)) (hE : Blk w ge 28 #[.int .i64 n]) : (results Try.f38 tmps).run Try.prog w = .ok (.tuple #[.agg (ethC d r v p t b), .int .i64 n]) w := by
  have c0 := hF.cell 0
  have c1 := hF.cell 1
  have c2 := hF.cell 2
  have c3 := hF.cell 3
  have c4 := hF.cell 4
  have c5 := hF.cell 5
  have c6 := hE.cell 0
  simp only [ethC] at c0 c1 c2 c3 c4 c5
  simp [results, Try.results38, go_sem, h2, h3, c0, c1, c2, c3, c4, c5, c6, ethC]
theorem door_panic (w w1 : World) (tmps : Array Value) (h2 : tmps[2]?.getD undef = .pointer (some ⟨w.heap.size, 0, none⟩)) (h3 : tmps[3]?.getD undef = .pointer (some ⟨w.heap.size + 1, 0, none⟩)) {d r : ByteArray} {v p t : Int} {b u : ByteArray} (h : RD w d r v p t b u w1) :
    bodyPostD Try.prog Try.f38 (ReadIs w ⟨#[]⟩ ⟨#[]⟩ 0 0 0 ⟨#[]⟩ 60) (.panic [{ v := shortV, recovered := false }])
      { tmps := tmps, defers := [{ target := .fn (.func 50) #[.pointer (some ⟨w.heap.size, 0, none⟩), .pointer (some ⟨w.heap.size + 1, 0, none⟩)], args := #[] }] } w1 := by
  refine leaves_cons (f := 50) (args := #[.pointer (some ⟨w.heap.size, 0, none⟩), .pointer (some ⟨w.heap.size + 1, 0, none⟩)]) (by simp) (by simp [go_sem]) ?_
  refine (catch_panicking w.heap.size w.heap.size (w.heap.size + 1) [] w w1 (by omega) (Nat.le_refl _) (by omega) _ _ _ _ _ _ _ h.f h.e h.below).mono ?_
  rintro e u' w'' ⟨rfl, rfl, hF, hE, hb⟩
  exact ⟨_, read_results w'' tmps _ _ h2 h3 hF hE, rfl, hb⟩
theorem door_ret (w w1 : World) (tmps : Array Value) (h2 : tmps[2]?.getD undef = .pointer (some ⟨w.heap.size, 0, none⟩)) (h3 : tmps[3]?.getD undef = .pointer (some ⟨w.heap.size + 1, 0, none⟩)) {d r : ByteArray} {v p t : Int} {b u : ByteArray} (h : RD w d r v p t b u w1) :
    bodyPostD Try.prog Try.f38 (ReadIs w d r v p t b 0) .ret
      { tmps := tmps, defers := [{ target := .fn (.func 50) #[.pointer (some ⟨w.heap.size, 0, none⟩), .pointer (some ⟨w.heap.size + 1, 0, none⟩)], args := #[] }] } w1 := by
  refine leaves_cons (f := 50) (args := #[.pointer (some ⟨w.heap.size, 0, none⟩), .pointer (some ⟨w.heap.size + 1, 0, none⟩)]) (by simp) (by simp [go_sem]) ?_
  refine (catch_idle w.heap.size (w.heap.size + 1) w1).mono ?_
  rintro e u' w'' ⟨rfl, rfl, rfl⟩
  exact ⟨_, read_results w'' tmps _ _ h2 h3 h.f h.e, rfl, h.below⟩
set_option maxHeartbeats 1600000 in
theorem read_6 (s : ByteArray) (w : World) (h : s.size < 6) :
    Calls Try.prog 38 #[.string s] w (ReadIs w ⟨#[]⟩ ⟨#[]⟩ 0 0 0 ⟨#[]⟩ 60) := by
  have hmf := make_func
  have H0 := Lib.hid (RD.new w s)
  go_enter_defers Try.func38, Try.ntmps38
  go_wp2_with fail
  refine (take_rd_short H0.out (by omega)).mono ?_
  rintro e w1 ⟨rfl, h1⟩
  exact door_panic w w1 _ rfl rfl h1
set_option maxHeartbeats 1600000 in
theorem read_12 (s : ByteArray) (w : World) (h : s.size < 12) (h0 : 6 ≤ s.size) :
    Calls Try.prog 38 #[.string s] w (ReadIs w ⟨#[]⟩ ⟨#[]⟩ 0 0 0 ⟨#[]⟩ 60) := by
  have hmf := make_func
  have H0 := Lib.hid (RD.new w s)
  go_enter_defers Try.func38, Try.ntmps38
  go_wp2_with fail
  refine (take_rd H0.out 6 rfl (by omega)).mono ?_
  rintro e w1 ⟨rfl, h1⟩
  obtain ⟨c0, c1, c2, c3, c4, c5, c6, c7, f0, f1, f2⟩ := h1.cells
  have H1 := Lib.hid ((h1.put 0 (.string (s.extract 0 6)) rfl))
  clear h1 H0
  go_wp2_with fail
  refine (take_rd_short H1.out (by omega)).mono ?_
  rintro e w2 ⟨rfl, h2⟩
  exact door_panic w w2 _ rfl rfl h2
set_option maxHeartbeats 1600000 in
theorem read_14 (s : ByteArray) (w : World) (h : s.size < 14) (h0 : 12 ≤ s.size) :
    Calls Try.prog 38 #[.string s] w (ReadIs w ⟨#[]⟩ ⟨#[]⟩ 0 0 0 ⟨#[]⟩ 60) := by
  have hmf := make_func
  have H0 := Lib.hid (RD.new w s)
  go_enter_defers Try.func38, Try.ntmps38
  go_wp2_with fail
  refine (take_rd H0.out 6 rfl (by omega)).mono ?_
  rintro e w1 ⟨rfl, h1⟩
  obtain ⟨c0, c1, c2, c3, c4, c5, c6, c7, f0, f1, f2⟩ := h1.cells
  have H1 := Lib.hid ((h1.put 0 (.string (s.extract 0 6)) rfl))
  clear h1 H0
  go_wp2_with fail
  refine (take_rd H1.out 12 rfl (by omega)).mono ?_
  rintro e w2 ⟨rfl, h2⟩
  clear c0 c1 c2 c3 c4 c5 c6 c7 f0 f1 f2
  obtain ⟨c0, c1, c2, c3, c4, c5, c6, c7, f0, f1, f2⟩ := h2.cells
  have H2 := Lib.hid ((h2.put 1 (.string (s.extract 6 12)) rfl))
  clear h2 H1
  go_wp2_with fail
  refine (word_rd_short H2.out (by omega)).mono ?_
  rintro e w3 ⟨rfl, h3⟩
  exact door_panic w w3 _ rfl rfl h3
set_option maxHeartbeats 1600000 in
theorem read_plain (s : ByteArray) (w : World) (h : 14 ≤ s.size) (ht : ((num s 12 : Int) == 33024) = false) :
    Calls Try.prog 38 #[.string s] w (ReadIs w (s.extract 0 6) (s.extract 6 12) (-1) 0 (num s 12) (tail s 14) 0) := by
  have hmf := make_func
  have H0 := Lib.hid (RD.new w s)
  go_enter_defers Try.func38, Try.ntmps38
  go_wp2_with fail
  refine (take_rd H0.out 6 rfl (by omega)).mono ?_
  rintro e w1 ⟨rfl, h1⟩
  obtain ⟨c0, c1, c2, c3, c4, c5, c6, c7, f0, f1, f2⟩ := h1.cells
  have H1 := Lib.hid ((h1.put 0 (.string (s.extract 0 6)) rfl))
  clear h1 H0
  go_wp2_with fail
  refine (take_rd H1.out 12 rfl (by omega)).mono ?_
  rintro e w2 ⟨rfl, h2⟩
  clear c0 c1 c2 c3 c4 c5 c6 c7 f0 f1 f2
  obtain ⟨c0, c1, c2, c3, c4, c5, c6, c7, f0, f1, f2⟩ := h2.cells
  have H2 := Lib.hid ((h2.put 1 (.string (s.extract 6 12)) rfl))
  clear h2 H1
  go_wp2_with fail
  refine (word_rd H2.out 14 rfl (by omega)).mono ?_
  rintro e w3 ⟨rfl, h3⟩
  clear c0 c1 c2 c3 c4 c5 c6 c7 f0 f1 f2
  obtain ⟨c0, c1, c2, c3, c4, c5, c6, c7, f0, f1, f2⟩ := h3.cells
  have H3 := Lib.hid (((h3.put 2 (.int .i64 (-1)) rfl).put 4 (.int .i64 (num s 12)) rfl))
  clear h3 H2
  go_wp2_with fail
  exact door_ret w _ _ rfl rfl (((((((H3.out.put 5 (.string (tail s 14)) rfl).put 0 (.string (s.extract 0 6)) rfl).put 1 (.string (s.extract 6 12)) rfl).put 2 (.int .i64 (-1)) rfl).put 3 (.int .i64 0) rfl).put 4 (.int .i64 (num s 12)) rfl).put 5 (.string (tail s 14)) rfl).err
set_option maxHeartbeats 1600000 in
theorem read_16 (s : ByteArray) (w : World) (h : s.size < 16) (h0 : 14 ≤ s.size) (ht : ((num s 12 : Int) == 33024) = true) :
    Calls Try.prog 38 #[.string s] w (ReadIs w ⟨#[]⟩ ⟨#[]⟩ 0 0 0 ⟨#[]⟩ 60) := by
  have hmf := make_func
  have H0 := Lib.hid (RD.new w s)
  go_enter_defers Try.func38, Try.ntmps38
  go_wp2_with fail
  refine (take_rd H0.out 6 rfl (by omega)).mono ?_
  rintro e w1 ⟨rfl, h1⟩
  obtain ⟨c0, c1, c2, c3, c4, c5, c6, c7, f0, f1, f2⟩ := h1.cells
  have H1 := Lib.hid ((h1.put 0 (.string (s.extract 0 6)) rfl))
  clear h1 H0
  go_wp2_with fail
  refine (take_rd H1.out 12 rfl (by omega)).mono ?_
  rintro e w2 ⟨rfl, h2⟩
  clear c0 c1 c2 c3 c4 c5 c6 c7 f0 f1 f2
  obtain ⟨c0, c1, c2, c3, c4, c5, c6, c7, f0, f1, f2⟩ := h2.cells
  have H2 := Lib.hid ((h2.put 1 (.string (s.extract 6 12)) rfl))
  clear h2 H1
  go_wp2_with fail
  refine (word_rd H2.out 14 rfl (by omega)).mono ?_
  rintro e w3 ⟨rfl, h3⟩
  clear c0 c1 c2 c3 c4 c5 c6 c7 f0 f1 f2
  obtain ⟨c0, c1, c2, c3, c4, c5, c6, c7, f0, f1, f2⟩ := h3.cells
  have H3 := Lib.hid (((h3.put 2 (.int .i64 (-1)) rfl).put 4 (.int .i64 (num s 12)) rfl))
  clear h3 H2
  go_wp2_with fail
  refine (word_rd_short H3.out (by omega)).mono ?_
  rintro e w4 ⟨rfl, h4⟩
  exact door_panic w w4 _ rfl rfl h4
set_option maxHeartbeats 1600000 in
theorem read_18 (s : ByteArray) (w : World) (h : s.size < 18) (h0 : 16 ≤ s.size) (ht : ((num s 12 : Int) == 33024) = true) :
    Calls Try.prog 38 #[.string s] w (ReadIs w ⟨#[]⟩ ⟨#[]⟩ 0 0 0 ⟨#[]⟩ 60) := by
  have hlt := num_lt s 14
  have hand := tag_low s 14
  have hmf := make_func
  have H0 := Lib.hid (RD.new w s)
  go_enter_defers Try.func38, Try.ntmps38
  go_wp2_with fail
  refine (take_rd H0.out 6 rfl (by omega)).mono ?_
  rintro e w1 ⟨rfl, h1⟩
  obtain ⟨c0, c1, c2, c3, c4, c5, c6, c7, f0, f1, f2⟩ := h1.cells
  have H1 := Lib.hid ((h1.put 0 (.string (s.extract 0 6)) rfl))
  clear h1 H0
  go_wp2_with fail
  refine (take_rd H1.out 12 rfl (by omega)).mono ?_
  rintro e w2 ⟨rfl, h2⟩
  clear c0 c1 c2 c3 c4 c5 c6 c7 f0 f1 f2
  obtain ⟨c0, c1, c2, c3, c4, c5, c6, c7, f0, f1, f2⟩ := h2.cells
  have H2 := Lib.hid ((h2.put 1 (.string (s.extract 6 12)) rfl))
  clear h2 H1
  go_wp2_with fail
  refine (word_rd H2.out 14 rfl (by omega)).mono ?_
  rintro e w3 ⟨rfl, h3⟩
  clear c0 c1 c2 c3 c4 c5 c6 c7 f0 f1 f2
  obtain ⟨c0, c1, c2, c3, c4, c5, c6, c7, f0, f1, f2⟩ := h3.cells
  have H3 := Lib.hid (((h3.put 2 (.int .i64 (-1)) rfl).put 4 (.int .i64 (num s 12)) rfl))
  clear h3 H2
  go_wp2_with fail
  refine (word_rd H3.out 16 rfl (by omega)).mono ?_
  rintro e w4 ⟨rfl, h4⟩
  clear c0 c1 c2 c3 c4 c5 c6 c7 f0 f1 f2
  obtain ⟨c0, c1, c2, c3, c4, c5, c6, c7, f0, f1, f2⟩ := h4.cells
  have H4 := Lib.hid (((h4.put 3 (.int .i64 (num s 14 / 8192)) rfl).put 2 (.int .i64 (num s 14 % 8192)) rfl))
  clear h4 H3
  go_wp2_with fail
  refine (word_rd_short H4.out (by omega)).mono ?_
  rintro e w5 ⟨rfl, h5⟩
  exact door_panic w w5 _ rfl rfl h5
set_option maxHeartbeats 1600000 in
theorem read_tag (s : ByteArray) (w : World) (h : 18 ≤ s.size) (ht : ((num s 12 : Int) == 33024) = true) :
    Calls Try.prog 38 #[.string s] w (ReadIs w (s.extract 0 6) (s.extract 6 12) (num s 14 % 8192) (num s 14 / 8192) (num s 16) (tail s 18) 0) := by
  have hlt := num_lt s 14
  have hand := tag_low s 14
  have hmf := make_func
  have H0 := Lib.hid (RD.new w s)
  go_enter_defers Try.func38, Try.ntmps38
  go_wp2_with fail
  refine (take_rd H0.out 6 rfl (by omega)).mono ?_
  rintro e w1 ⟨rfl, h1⟩
  obtain ⟨c0, c1, c2, c3, c4, c5, c6, c7, f0, f1, f2⟩ := h1.cells
  have H1 := Lib.hid ((h1.put 0 (.string (s.extract 0 6)) rfl))
  clear h1 H0
  go_wp2_with fail
  refine (take_rd H1.out 12 rfl (by omega)).mono ?_
  rintro e w2 ⟨rfl, h2⟩
  clear c0 c1 c2 c3 c4 c5 c6 c7 f0 f1 f2
  obtain ⟨c0, c1, c2, c3, c4, c5, c6, c7, f0, f1, f2⟩ := h2.cells
  have H2 := Lib.hid ((h2.put 1 (.string (s.extract 6 12)) rfl))
  clear h2 H1
  go_wp2_with fail
  refine (word_rd H2.out 14 rfl (by omega)).mono ?_
  rintro e w3 ⟨rfl, h3⟩
  clear c0 c1 c2 c3 c4 c5 c6 c7 f0 f1 f2
  obtain ⟨c0, c1, c2, c3, c4, c5, c6, c7, f0, f1, f2⟩ := h3.cells
  have H3 := Lib.hid (((h3.put 2 (.int .i64 (-1)) rfl).put 4 (.int .i64 (num s 12)) rfl))
  clear h3 H2
  go_wp2_with fail
  refine (word_rd H3.out 16 rfl (by omega)).mono ?_
  rintro e w4 ⟨rfl, h4⟩
  clear c0 c1 c2 c3 c4 c5 c6 c7 f0 f1 f2
  obtain ⟨c0, c1, c2, c3, c4, c5, c6, c7, f0, f1, f2⟩ := h4.cells
  have H4 := Lib.hid (((h4.put 3 (.int .i64 (num s 14 / 8192)) rfl).put 2 (.int .i64 (num s 14 % 8192)) rfl))
  clear h4 H3
  go_wp2_with fail
  refine (word_rd H4.out 18 rfl (by omega)).mono ?_
  rintro e w5 ⟨rfl, h5⟩
  clear c0 c1 c2 c3 c4 c5 c6 c7 f0 f1 f2
  obtain ⟨c0, c1, c2, c3, c4, c5, c6, c7, f0, f1, f2⟩ := h5.cells
  have H5 := Lib.hid ((h5.put 4 (.int .i64 (num s 16)) rfl))
  clear h5 H4
  go_wp2_with fail
  exact door_ret w _ _ rfl rfl (((((((H5.out.put 5 (.string (tail s 18)) rfl).put 0 (.string (s.extract 0 6)) rfl).put 1 (.string (s.extract 6 12)) rfl).put 2 (.int .i64 (num s 14 % 8192)) rfl).put 3 (.int .i64 (num s 14 / 8192)) rfl).put 4 (.int .i64 (num s 16)) rfl).put 5 (.string (tail s 18)) rfl).err

/-- A frame, taken apart. -/
structure Fr where
  d : ByteArray
  r : ByteArray
  v : Int
  p : Int
  t : Int
  b : ByteArray
def Fr.val (f : Fr) : Value := .agg (ethC f.d f.r f.v f.p f.t f.b)
def Fr.zero : Fr := ⟨⟨#[]⟩, ⟨#[]⟩, 0, 0, 0, ⟨#[]⟩⟩
/-- what read answers -/
def readF (s : ByteArray) : Fr :=
  if s.size < 14 then .zero else
  if num s 12 = 33024 then (if s.size < 18 then .zero else ⟨s.extract 0 6, s.extract 6 12, num s 14 % 8192, num s 14 / 8192, num s 16, tail s 18⟩)
  else ⟨s.extract 0 6, s.extract 6 12, -1, 0, num s 12, tail s 14⟩
def readE (s : ByteArray) : Int := if s.size < 14 ∨ num s 12 = 33024 ∧ s.size < 18 then 60 else 0
theorem read_any (s : ByteArray) (w : World) :
    Calls Try.prog 38 #[.string s] w fun e w' => e = .returned (.tuple #[(readF s).val, .int .i64 (readE s)]) ∧ Below w.heap.size w w' := by
  by_cases h1 : s.size < 14
  · have e1 : readF s = .zero := by rw [readF, if_pos h1]
    have e2 : readE s = 60 := by rw [readE, if_pos (.inl h1)]
    rw [e1, e2]
    by_cases h2 : s.size < 6
    · exact read_6 s w h2
    · by_cases h3 : s.size < 12
      · exact read_12 s w h3 (by omega)
      · exact read_14 s w h1 (by omega)
  · by_cases ht : num s 12 = 33024
    · have hb : ((num s 12 : Int) == 33024) = true := by rw [ht]; rfl
      by_cases h2 : s.size < 18
      · have e1 : readF s = .zero := by rw [readF, if_neg h1, if_pos ht, if_pos h2]
        have e2 : readE s = 60 := by rw [readE, if_pos (.inr ⟨ht, h2⟩)]
        rw [e1, e2]
        by_cases h3 : s.size < 16
        · exact read_16 s w h3 (by omega) hb
        · exact read_18 s w h2 (by omega) hb
      · have e1 : readF s = ⟨s.extract 0 6, s.extract 6 12, num s 14 % 8192, num s 14 / 8192, num s 16, tail s 18⟩ := by rw [readF, if_neg h1, if_pos ht, if_neg h2]
        have e2 : readE s = 0 := by rw [readE, if_neg (by omega)]
        rw [e1, e2]
        exact read_tag s w (by omega) hb
    · have hb : ((num s 12 : Int) == 33024) = false := by simpa using (by omega : (num s 12 : Int) ≠ 33024)
      have e1 : readF s = ⟨s.extract 0 6, s.extract 6 12, -1, 0, num s 12, tail s 14⟩ := by rw [readF, if_neg h1, if_neg ht]
      have e2 : readE s = 0 := by rw [readE, if_neg (by omega)]
      rw [e1, e2]
      exact read_plain s w (by omega) hb
end Go.Proofs.Ytboinnejkghfiaa

/-
  Frames: what the package eth answers.
-/
import Derived.Test.YtalkpllmcigjnaaMa
import Derived.Recover
import Derived.Deep.RegionHeld3
namespace Go.Proofs.Ytalkpllmcigjnaa
open Go.RowKit

def shortV : Value := .iface 110 (.agg #[])
theorem take_ok (g : Nat) (s : ByteArray) (n : Nat) (w : World) (hn : n ≤ s.size) (hc : w.cell? ⟨g, 0, none⟩ = some (.string s)) (hf : w.frozen? ⟨g, 0, none⟩ = false) :
    Calls Try.prog 111 #[.pointer (some ⟨g, 0, none⟩), .int .i64 n] w fun e w' => e = .returned (.string (s.extract 0 n)) ∧ w' = w.setCell ⟨g, 0, none⟩ (.string (s.extract n s.size)) := by
  go_enter Try.func111, Try.ntmps111
  go_wp2
  go_ret
  exact ⟨rfl, rfl⟩
theorem take_short (g : Nat) (s : ByteArray) (n : Nat) (w : World) (hn : s.size < n) (hc : w.cell? ⟨g, 0, none⟩ = some (.string s)) :
    Calls Try.prog 111 #[.pointer (some ⟨g, 0, none⟩), .int .i64 n] w fun e w' => e = .panicked [{ v := shortV, recovered := false }] ∧ w = w' := by
  go_enter Try.func111, Try.ntmps111
  go_wp2
  exact ⟨rfl, rfl, rfl⟩

/-- The number in two bytes of s from a on; nought where there are none. -/
def num (s : ByteArray) (a : Nat) : Nat := dec (cutl s a 2) true
theorem num_lt (s : ByteArray) (a : Nat) : num s a < 65536 := by
  have h := dec_lt (cutl s a 2) true
  have h2 : (cutl s a 2).length ≤ 2 := by simp [cutl]; omega
  have h3 : 256 ^ (cutl s a 2).length ≤ 256 ^ 2 := Nat.pow_le_pow_right (by decide) h2
  unfold num; omega
theorem num_cut (s : ByteArray) (a b n : Nat) (h : b + 2 ≤ n) : num (s.extract a (a + n)) b = num s (a + b) := by
  unfold num cutl
  rw [ByteArray.data_extract, Array.toList_extract, List.extract_eq_take_drop, List.drop_take, List.take_take, List.drop_drop]
  congr 2
  omega
theorem word_ok (g : Nat) (s : ByteArray) (w : World) (hn : 2 ≤ s.size) (hc : w.cell? ⟨g, 0, none⟩ = some (.string s)) (hf : w.frozen? ⟨g, 0, none⟩ = false) :
    Calls Try.prog 112 #[.pointer (some ⟨g, 0, none⟩)] w fun e w' => e = .returned (.int .i64 (num s 0)) ∧ Below w.heap.size (w.setCell ⟨g, 0, none⟩ (.string (s.extract 2 s.size))) w' := by
  have h1 : (s.extract 0 2).size = 2 := by simp [ByteArray.size_extract]; omega
  have e1 : num (s.extract 0 2) 0 = num s 0 := num_cut s 0 0 2 (by omega)
  have hlt := num_lt s 0
  have G := fun W => get_ok (s.extract 0 2) 0 2 true W (by rw [h1]; decide) (by omega) (by omega) (by rw [h1]; omega)
  change ∀ W, Calls Try.prog 56 #[.string (s.extract 0 2), .int .i64 0, .int .i64 2, .bool true] W fun e w' => e = .returned (.tuple #[.int .u64 (num (s.extract 0 2) 0), .int .i64 0]) ∧ Below W.heap.size W w' at G
  rw [e1] at G
  have HG := Lib.hid G
  have T : Calls Try.prog 111 #[.pointer (some ⟨g, 0, none⟩), .int .i64 2] w fun e w' => e = .returned (.string (s.extract 0 2)) ∧ w' = w.setCell ⟨g, 0, none⟩ (.string (s.extract 2 s.size)) := take_ok g s 2 w hn hc hf
  have HT := Lib.hid T
  clear G e1 h1 T
  generalize num s 0 = X at *
  go_enter Try.func112, Try.ntmps112
  go_wp2_with (first
    | (go_at_call 111; (with_reducible refine HT.out.mono ?_); rintro e w' ⟨rfl, rfl⟩)
    | (go_at_call 56; (with_reducible refine (HG.out _).mono ?_); rintro e w' ⟨rfl, hb⟩))
  go_ret
  exact ⟨rfl, hb.mono (by simp)⟩
theorem word_short (g : Nat) (s : ByteArray) (w : World) (hn : s.size < 2) (hc : w.cell? ⟨g, 0, none⟩ = some (.string s)) :
    Calls Try.prog 112 #[.pointer (some ⟨g, 0, none⟩)] w fun e w' => e = .panicked [{ v := shortV, recovered := false }] ∧ w = w' := by
  have T : Calls Try.prog 111 #[.pointer (some ⟨g, 0, none⟩), .int .i64 2] w fun e w' => e = .panicked [{ v := shortV, recovered := false }] ∧ w = w' := take_short g s 2 w hn hc
  have HT := Lib.hid T
  clear T
  go_enter Try.func112, Try.ntmps112
  go_wp2_with (first
    | (go_at_call 111; (with_reducible refine HT.out.mono ?_); rintro e w' ⟨rfl, rfl⟩))
  exact ⟨rfl, rfl, rfl⟩
end Go.Proofs.Ytalkpllmcigjnaa
namespace Go.Proofs.Ytalkpllmcigjnaa
open Go.RowKit
/-! A block known whole -/
def Blk (w : World) (g : Nat) (t : TypeId) (cs : Array Value) : Prop := w.heap[g]? = some (.cells cs t (0, 0))
section
variable {w w' : World} {g : Nat} {t : TypeId} {cs : Array Value}
theorem Blk.lt (h : Blk w g t cs) : g < w.heap.size := by
  rcases Nat.lt_or_ge g w.heap.size with hlt | hge
  · exact hlt
  · unfold Blk at h; rw [Array.getElem?_eq_none hge] at h; cases h
theorem Blk.cell (h : Blk w g t cs) (i : Nat) : w.cell? ⟨g, i, none⟩ = cs[i]? := cell_of_row w g i cs t (0, 0) h
theorem Blk.frozen (h : Blk w g t cs) (i : Nat) : w.frozen? ⟨g, i, none⟩ = false := by
  unfold Blk at h
  simp [World.frozen?, h]
theorem Blk.new (w : World) (t : TypeId) (cs : Array Value) : Blk (w.alloc (.cells cs t)) w.heap.size t cs := heap_alloc_new w _
theorem Blk.alloc (h : Blk w g t cs) (o : Obj) : Blk (w.alloc o) g t cs := (Below.heap_alloc w o g h.lt).trans h
theorem Blk.put (h : Blk w g t cs) (i : Nat) (u : Value) : Blk (w.setCell ⟨g, i, none⟩ u) g t (cs.setIfInBounds i u) := by
  unfold Blk at h ⊢
  simp [World.setCell, Array.getElem?_modify, h]
theorem Blk.other (h : Blk w g t cs) {k : Nat} (hk : g ≠ k) (i : Nat) (u : Value) : Blk (w.setCell ⟨k, i, none⟩ u) g t cs := (Below.heap_setCell w _ u g hk).trans h
theorem Blk.same (h : Blk w g t cs) (hb : w'.heap[g]? = w.heap[g]?) : Blk w' g t cs := hb.trans h
end
/-- The six cells of a frame. -/
def ethC (d r : ByteArray) (v p t : Int) (b : ByteArray) : Array Value := #[.string d, .string r, .int .i64 v, .int .i64 p, .int .i64 t, .string b]
theorem assert_short (W : World) : (Instr.typeAssert (.iface 110 (.agg #[])) 20 110 true).run Try.prog W = .ok (.tuple #[.agg #[], .bool true]) W := by kernel_rfl
set_option maxHeartbeats 800000 in
theorem catch_panicking (B gf ge : Nat) (older : List PanicEntry) (w0 w : World) (hne : gf ≠ ge) (hB : B ≤ gf) (hB' : B ≤ ge) (c0 c1 c2 c3 c4 c5 c6 : Value)
    (hF : Blk w gf 44 #[c0, c1, c2, c3, c4, c5]) (hE : Blk w ge 24 #[c6]) (hb : Below B w0 w) :
    CallsD Try.prog 110 #[.pointer (some ⟨gf, 0, none⟩), .pointer (some ⟨ge, 0, none⟩)] (.panicking ({ v := shortV, recovered := false } :: older)) w fun e u' w' =>
      e = .returned (.tuple #[]) ∧ u' = .panicking ({ v := shortV, recovered := true } :: older) ∧ Blk w' gf 44 (ethC ⟨#[]⟩ ⟨#[]⟩ 0 0 0 ⟨#[]⟩) ∧ Blk w' ge 24 #[.int .i64 60] ∧ Below B w0 w' := by
  have hgf := hF.lt
  have hge := hE.lt
  have h0 := hF.cell 0
  have h1 := hF.cell 1
  have h2 := hF.cell 2
  have h3 := hF.cell 3
  have h4 := hF.cell 4
  have h5 := hF.cell 5
  have h6 := hE.cell 0
  have f0 := hF.frozen
  have f1 := hE.frozen 0
  have hn : w.heap.size ≠ gf := by omega
  have hm : w.heap.size ≠ ge := by omega
  have KF := Lib.hid hF
  have KE := Lib.hid hE
  have KB := Lib.hid hb
  clear hF hE hb
  refine callsD_of_wpS Try.func110 rfl fun c₀ cs hu => ?_
  unfold shortV at *
  apply wpS_seq
  apply wpS_region
  simp [wpOpsS, go_sem, recoverD, hu, Try.ntmps110, Exit.thenS]
  refine wpS_of_wp ?_
  change Code.wp _ _ _ { tmps := #[Value.pointer (some { block := gf, off := 0 }), Value.pointer (some { block := ge, off := 0 }), undef, undef, undef, Value.iface 110 (Value.agg #[]), undef, undef, undef, undef, undef, undef], defers := [] } w
  have ha := assert_short
  go_wp2
  refine ⟨rfl, _, rfl, .tuple #[], by simp [results, Try.results110], rfl, rfl, ?_, ?_, ?_⟩
  · have k := ((((((KF.out.put 0 (.string ⟨#[]⟩)).put 1 (.string ⟨#[]⟩)).put 2 (.int .i64 0)).put 3 (.int .i64 0)).put 4 (.int .i64 0)).put 5 (.string ⟨#[]⟩))
    exact (k.other hne 0 (.int .i64 60)).alloc _
  · have k := ((((((KE.out.other hne.symm 0 (.string ⟨#[]⟩)).other hne.symm 1 (.string ⟨#[]⟩)).other hne.symm 2 (.int .i64 0)).other hne.symm 3 (.int .i64 0)).other hne.symm 4 (.int .i64 0)).other hne.symm 5 (.string ⟨#[]⟩))
    exact (k.put 0 (.int .i64 60)).alloc _
  · exact (((((((KB.out.setCell hB _).setCell hB _).setCell hB _).setCell hB _).setCell hB _).setCell hB _).setCell hB' _).alloc (by simp; omega) _
theorem catch_idle (gf ge : Nat) (w : World) :
    CallsD Try.prog 110 #[.pointer (some ⟨gf, 0, none⟩), .pointer (some ⟨ge, 0, none⟩)] .returning w fun e u' w' => e = .returned (.tuple #[]) ∧ u' = .returning ∧ w' = w := by
  refine callsD_of_wpS Try.func110 rfl fun c₀ cs hu => ?_
  apply wpS_seq
  apply wpS_region
  simp [wpOpsS, go_sem, recoverD, hu, Try.ntmps110, Exit.thenS]
  refine wpS_of_wp ?_
  change Code.wp _ _ _ { tmps := #[Value.pointer (some { block := gf, off := 0 }), Value.pointer (some { block := ge, off := 0 }), undef, undef, undef, Value.nilIface, undef, undef, undef, undef, undef, undef], defers := [] } w
  go_wp2
  cases c₀
  simp_all [bodyPostS, results, Try.results110]
end Go.Proofs.Ytalkpllmcigjnaa
namespace Go.Proofs.Ytalkpllmcigjnaa
open Go.RowKit

theorem make_func (fn : Fn) (first cap : Array Value) (w : World) : (Instr.makeFunc fn first cap).run Try.prog w = .ok (.func fn first cap) w := rfl

/-- The bytes of s from a on. -/
def tail (s : ByteArray) (a : Nat) : ByteArray := s.extract a s.size
theorem tail_size (s : ByteArray) (a : Nat) : (tail s a).size = s.size - a := by simp [tail, ByteArray.size_extract]
theorem tail_zero (s : ByteArray) : tail s 0 = s := by simp [tail]
theorem tail_tail (s : ByteArray) (a n : Nat) : (tail s a).extract n (tail s a).size = tail s (a + n) := by
  rw [tail_size]; unfold tail
  apply ByteArray.ext
  simp only [ByteArray.data_extract, Array.extract_extract]
  congr 1
  have : s.data.size = s.size := rfl
  omega
theorem tail_take (s : ByteArray) (a n : Nat) (h : a + n ≤ s.size) : (tail s a).extract 0 n = s.extract a (a + n) := by
  unfold tail
  apply ByteArray.ext
  simp only [ByteArray.data_extract, Array.extract_extract]
  congr 1
  omega
theorem num_tail (s : ByteArray) (a : Nat) : num (tail s a) 0 = num s a := by
  by_cases h : a ≤ s.size
  · have e : tail s a = s.extract a (a + (s.size - a)) := by unfold tail; congr 1; omega
    by_cases h2 : 2 ≤ s.size - a
    · rw [e, num_cut s a 0 _ (by omega)]; rfl
    · unfold num cutl tail
      rw [ByteArray.data_extract, Array.toList_extract, List.extract_eq_take_drop, List.take_of_length_le (l := List.drop a _) (by simp)]
      simp
  · unfold num cutl tail
    rw [ByteArray.data_extract, Array.toList_extract, List.extract_eq_take_drop]
    have : List.drop a s.data.toList = [] := List.drop_eq_nil_of_le (by simp; have : s.data.size = s.size := rfl; omega)
    simp [this]

/-- read under way: its frame, its error, its reader. -/
structure RD (w0 : World) (d r : ByteArray) (v p t : Int) (b u : ByteArray) (w : World) : Prop where
  f : Blk w w0.heap.size 44 (ethC d r v p t b)
  e : Blk w (w0.heap.size + 1) 24 #[.int .i64 0]
  r : Blk w (w0.heap.size + 1 + 1) 113 #[.string u]
  below : Below w0.heap.size w0 w
section
variable {w0 w w' : World} {d r : ByteArray} {v p t : Int} {b u : ByteArray}
theorem RD.size (h : RD w0 d r v p t b u w) : w0.heap.size + 1 + 1 < w.heap.size := h.r.lt
theorem RD.next (h : RD w0 d r v p t b u w) (u' : ByteArray) : RD w0 d r v p t b u' (w.setCell ⟨w0.heap.size + 1 + 1, 0, none⟩ (.string u')) :=
  ⟨h.f.other (by omega) _ _, h.e.other (by omega) _ _, h.r.put 0 _, h.below.setCell (by show _ ≤ w0.heap.size + 1 + 1; omega) _⟩
theorem RD.on (h : RD w0 d r v p t b u w) (hb : Below w.heap.size w w') : RD w0 d r v p t b u w' :=
  ⟨h.f.same (hb.block _ h.f.lt), h.e.same (hb.block _ h.e.lt), h.r.same (hb.block _ h.r.lt), h.below.trans (hb.mono (by have := h.size; omega))⟩
theorem RD.put (h : RD w0 d r v p t b u w) (i : Nat) (x : Value) {d' r' : ByteArray} {v' p' t' : Int} {b' : ByteArray} (e : (ethC d r v p t b).setIfInBounds i x = ethC d' r' v' p' t' b') : RD w0 d' r' v' p' t' b' u (w.setCell ⟨w0.heap.size, i, none⟩ x) :=
  ⟨e ▸ h.f.put i x, h.e.other (by omega) _ _, h.r.other (by omega) _ _, h.below.setCell (Nat.le_refl _) _⟩
theorem RD.err (h : RD w0 d r v p t b u w) : RD w0 d r v p t b u (w.setCell ⟨w0.heap.size + 1, 0, none⟩ (.int .i64 0)) :=
  ⟨h.f.other (by omega) _ _, h.e.put 0 _, h.r.other (by omega) _ _, h.below.setCell (by show _ ≤ w0.heap.size + 1; omega) _⟩
theorem RD.cells (h : RD w0 d r v p t b u w) : w.cell? ⟨w0.heap.size, 0, none⟩ = some (.string d) ∧ w.cell? ⟨w0.heap.size, 1, none⟩ = some (.string r) ∧ w.cell? ⟨w0.heap.size, 2, none⟩ = some (.int .i64 v) ∧
    w.cell? ⟨w0.heap.size, 3, none⟩ = some (.int .i64 p) ∧ w.cell? ⟨w0.heap.size, 4, none⟩ = some (.int .i64 t) ∧ w.cell? ⟨w0.heap.size, 5, none⟩ = some (.string b) ∧
    w.cell? ⟨w0.heap.size + 1, 0, none⟩ = some (.int .i64 0) ∧ w.cell? ⟨w0.heap.size + 1 + 1, 0, none⟩ = some (.string u) ∧ (∀ i, w.frozen? ⟨w0.heap.size, i, none⟩ = false) ∧ w.frozen? ⟨w0.heap.size + 1, 0, none⟩ = false ∧ w.frozen? ⟨w0.heap.size + 1 + 1, 0, none⟩ = false :=
  ⟨h.f.cell 0, h.f.cell 1, h.f.cell 2, h.f.cell 3, h.f.cell 4, h.f.cell 5, h.e.cell 0, h.r.cell 0, h.f.frozen, h.e.frozen 0, h.r.frozen 0⟩
end
section
variable {w0 w : World} {d r : ByteArray} {v p t : Int} {b s : ByteArray} {a : Nat}
theorem take_rd (h : RD w0 d r v p t b (tail s a) w) (c : Nat) (hc : c = a + 6) (hn : c ≤ s.size) :
    Calls Try.prog 111 #[.pointer (some ⟨w0.heap.size + 1 + 1, 0, none⟩), .int .i64 6] w fun e w' => e = .returned (.string (s.extract a c)) ∧ RD w0 d r v p t b (tail s c) w' := by
  subst hc
  refine (take_ok _ (tail s a) 6 w (by rw [tail_size]; omega) h.cells.2.2.2.2.2.2.2.1 h.cells.2.2.2.2.2.2.2.2.2.2).mono fun _ _ ⟨he, hw⟩ => ⟨?_, ?_⟩
  · rw [he, tail_take s a 6 hn]
  · subst hw; rw [tail_tail]; exact h.next _
theorem take_rd_short (h : RD w0 d r v p t b (tail s a) w) (hn : s.size < a + 6) :
    Calls Try.prog 111 #[.pointer (some ⟨w0.heap.size + 1 + 1, 0, none⟩), .int .i64 6] w fun e w' => e = .panicked [{ v := shortV, recovered := false }] ∧ RD w0 d r v p t b (tail s a) w' :=
  (take_short _ (tail s a) 6 w (by rw [tail_size]; omega) h.cells.2.2.2.2.2.2.2.1).mono fun _ _ ⟨he, hw⟩ => ⟨he, hw ▸ h⟩
theorem word_rd (h : RD w0 d r v p t b (tail s a) w) (c : Nat) (hc : c = a + 2) (hn : c ≤ s.size) :
    Calls Try.prog 112 #[.pointer (some ⟨w0.heap.size + 1 + 1, 0, none⟩)] w fun e w' => e = .returned (.int .i64 (num s a)) ∧ RD w0 d r v p t b (tail s c) w' := by
  subst hc
  refine (word_ok _ (tail s a) w (by rw [tail_size]; omega) h.cells.2.2.2.2.2.2.2.1 h.cells.2.2.2.2.2.2.2.2.2.2).mono fun _ _ ⟨he, hw⟩ => ⟨?_, ?_⟩
  · rw [he, num_tail]
  · rw [tail_tail] at hw; exact (h.next _).on (hw.mono (by simp))
theorem word_rd_short (h : RD w0 d r v p t b (tail s a) w) (hn : s.size < a + 2) :
    Calls Try.prog 112 #[.pointer (some ⟨w0.heap.size + 1 + 1, 0, none⟩)] w fun e w' => e = .panicked [{ v := shortV, recovered := false }] ∧ RD w0 d r v p t b (tail s a) w' :=
  (word_short _ (tail s a) w (by rw [tail_size]; omega) h.cells.2.2.2.2.2.2.2.1).mono fun _ _ ⟨he, hw⟩ => ⟨he, hw ▸ h⟩
end
theorem RD.new (w : World) (s : ByteArray) : RD w ⟨#[]⟩ ⟨#[]⟩ 0 0 0 ⟨#[]⟩ (tail s 0) (((w.alloc (.cells (ethC ⟨#[]⟩ ⟨#[]⟩ 0 0 0 ⟨#[]⟩) 44)).alloc (.cells #[.int .i64 0] 24)).alloc (.cells #[.string s] 113)) := by
  rw [tail_zero]
  refine ⟨((Blk.new w 44 _).alloc _).alloc _, ?_, ?_, (((Below.refl _ _).alloc (Nat.le_refl _) _).alloc (by simp) _).alloc (by simp; omega) _⟩
  · have := (Blk.new (w.alloc (.cells (ethC ⟨#[]⟩ ⟨#[]⟩ 0 0 0 ⟨#[]⟩) 44)) 24 #[.int .i64 0]).alloc (.cells #[.string s] 113)
    simpa using this
  · have := Blk.new ((w.alloc (.cells (ethC ⟨#[]⟩ ⟨#[]⟩ 0 0 0 ⟨#[]⟩) 44)).alloc (.cells #[.int .i64 0] 24)) 113 #[.string s]
    simpa using this

theorem low13 (n : Int) : bits .and .i64 n 8191 = n % 8192 := by
  have e : (BitVec.ofInt 64 8191).toNat = 2 ^ 13 - 1 := by decide
  have k : (BitVec.ofInt 64 n &&& BitVec.ofInt 64 8191).toNat = (n % ((2 ^ 64 : Nat) : Int)).toNat % 2 ^ 13 := by
    rw [BitVec.toNat_and, BitVec.toNat_ofInt, e, Nat.and_two_pow_sub_one_eq_mod]
  show IntKind.i64.wrap ((BitVec.ofInt 64 n &&& BitVec.ofInt 64 8191).toNat : Nat) = n % 8192
  rw [k, IntKind.wrap_i64]
  omega
theorem tag_low (s : ByteArray) (a : Nat) : bits .and .i64 (num s a : Int) 8191 = (num s a : Int) % 8192 := low13 _
def ReadIs (w : World) (d r : ByteArray) (v p t : Int) (b : ByteArray) (n : Int) (e : Ending) (w' : World) : Prop :=
  e = .returned (.tuple #[.agg (ethC d r v p t b), .int .i64 n]) ∧ Below w.heap.size w w'
theorem read_results (w : World) (tmps : Array Value) (gf ge : Nat) (h2 : tmps[2]?.getD undef = .pointer (some ⟨gf, 0, none⟩)) (h3 : tmps[3]?.getD undef = .pointer (some ⟨ge, 0, none⟩)) {d r : ByteArray} {v p t : Int} {b : ByteArray} {n : Int}
    (hF : Blk w gf 44 (ethC d r v p t b)) (hE : Blk w ge 24 #[.int .i64 n]) : (results Try.f99 tmps).run Try.prog w = .ok (.tuple #[.agg (ethC d r v p t b), .int .i64 n]) w := by
  have c0 := hF.cell 0
  have c1 := hF.cell 1
  have c2 := hF.cell 2
  have c3 := hF.cell 3
  have c4 := hF.cell 4
  have c5 := hF.cell 5
  have c6 := hE.cell 0
  simp only [ethC] at c0 c1 c2 c3 c4 c5
  simp [results, Try.results99, go_sem, h2, h3, c0, c1, c2, c3, c4, c5, c6, ethC]
theorem door_panic (w w1 : World) (tmps : Array Value) (h2 : tmps[2]?.getD undef = .pointer (some ⟨w.heap.size, 0, none⟩)) (h3 : tmps[3]?.getD undef = .pointer (some ⟨w.heap.size + 1, 0, none⟩)) {d r : ByteArray} {v p t : Int} {b u : ByteArray} (h : RD w d r v p t b u w1) :
    bodyPostD Try.prog Try.f99 (ReadIs w ⟨#[]⟩ ⟨#[]⟩ 0 0 0 ⟨#[]⟩ 60) (.panic [{ v := shortV, recovered := false }])
      { tmps := tmps, defers := [{ target := .fn (.func 110) #[.pointer (some ⟨w.heap.size, 0, none⟩), .pointer (some ⟨w.heap.size + 1, 0, none⟩)], args := #[] }] } w1 := by
  refine leaves_cons (f := 110) (args := #[.pointer (some ⟨w.heap.size, 0, none⟩), .pointer (some ⟨w.heap.size + 1, 0, none⟩)]) (by simp) (by simp [go_sem]) ?_
  refine (catch_panicking w.heap.size w.heap.size (w.heap.size + 1) [] w w1 (by omega) (Nat.le_refl _) (by omega) _ _ _ _ _ _ _ h.f h.e h.below).mono ?_
  rintro e u' w'' ⟨rfl, rfl, hF, hE, hb⟩
  exact ⟨_, read_results w'' tmps _ _ h2 h3 hF hE, rfl, hb⟩
theorem door_ret (w w1 : World) (tmps : Array Value) (h2 : tmps[2]?.getD undef = .pointer (some ⟨w.heap.size, 0, none⟩)) (h3 : tmps[3]?.getD undef = .pointer (some ⟨w.heap.size + 1, 0, none⟩)) {d r : ByteArray} {v p t : Int} {b u : ByteArray} (h : RD w d r v p t b u w1) :
    bodyPostD Try.prog Try.f99 (ReadIs w d r v p t b 0) .ret
      { tmps := tmps, defers := [{ target := .fn (.func 110) #[.pointer (some ⟨w.heap.size, 0, none⟩), .pointer (some ⟨w.heap.size + 1, 0, none⟩)], args := #[] }] } w1 := by
  refine leaves_cons (f := 110) (args := #[.pointer (some ⟨w.heap.size, 0, none⟩), .pointer (some ⟨w.heap.size + 1, 0, none⟩)]) (by simp) (by simp [go_sem]) ?_
  refine (catch_idle w.heap.size (w.heap.size + 1) w1).mono ?_
  rintro e u' w'' ⟨rfl, rfl, rfl⟩
  exact ⟨_, read_results w'' tmps _ _ h2 h3 h.f h.e, rfl, h.below⟩
set_option maxHeartbeats 1600000 in
theorem read_6 (s : ByteArray) (w : World) (h : s.size < 6) :
    Calls Try.prog 99 #[.string s] w (ReadIs w ⟨#[]⟩ ⟨#[]⟩ 0 0 0 ⟨#[]⟩ 60) := by
  have hmf := make_func
  have H0 := Lib.hid (RD.new w s)
  go_enter_defers Try.func99, Try.ntmps99
  go_wp2_with fail
  refine (take_rd_short H0.out (by omega)).mono ?_
  rintro e w1 ⟨rfl, h1⟩
  exact door_panic w w1 _ rfl rfl h1
set_option maxHeartbeats 1600000 in
theorem read_12 (s : ByteArray) (w : World) (h : s.size < 12) (h0 : 6 ≤ s.size) :
    Calls Try.prog 99 #[.string s] w (ReadIs w ⟨#[]⟩ ⟨#[]⟩ 0 0 0 ⟨#[]⟩ 60) := by
  have hmf := make_func
  have H0 := Lib.hid (RD.new w s)
  go_enter_defers Try.func99, Try.ntmps99
  go_wp2_with fail
  refine (take_rd H0.out 6 rfl (by omega)).mono ?_
  rintro e w1 ⟨rfl, h1⟩
  obtain ⟨c0, c1, c2, c3, c4, c5, c6, c7, f0, f1, f2⟩ := h1.cells
  have H1 := Lib.hid ((h1.put 0 (.string (s.extract 0 6)) rfl))
  clear h1 H0
  go_wp2_with fail
  refine (take_rd_short H1.out (by omega)).mono ?_
  rintro e w2 ⟨rfl, h2⟩
  exact door_panic w w2 _ rfl rfl h2
set_option maxHeartbeats 1600000 in
theorem read_14 (s : ByteArray) (w : World) (h : s.size < 14) (h0 : 12 ≤ s.size) :
    Calls Try.prog 99 #[.string s] w (ReadIs w ⟨#[]⟩ ⟨#[]⟩ 0 0 0 ⟨#[]⟩ 60) := by
  have hmf := make_func
  have H0 := Lib.hid (RD.new w s)
  go_enter_defers Try.func99, Try.ntmps99
  go_wp2_with fail
  refine (take_rd H0.out 6 rfl (by omega)).mono ?_
  rintro e w1 ⟨rfl, h1⟩
  obtain ⟨c0, c1, c2, c3, c4, c5, c6, c7, f0, f1, f2⟩ := h1.cells
  have H1 := Lib.hid ((h1.put 0 (.string (s.extract 0 6)) rfl))
  clear h1 H0
  go_wp2_with fail
  refine (take_rd H1.out 12 rfl (by omega)).mono ?_
  rintro e w2 ⟨rfl, h2⟩
  clear c0 c1 c2 c3 c4 c5 c6 c7 f0 f1 f2
  obtain ⟨c0, c1, c2, c3, c4, c5, c6, c7, f0, f1, f2⟩ := h2.cells
  have H2 := Lib.hid ((h2.put 1 (.string (s.extract 6 12)) rfl))
  clear h2 H1
  go_wp2_with fail
  refine (word_rd_short H2.out (by omega)).mono ?_
  rintro e w3 ⟨rfl, h3⟩
  exact door_panic w w3 _ rfl rfl h3
set_option maxHeartbeats 1600000 in
theorem read_plain (s : ByteArray) (w : World) (h : 14 ≤ s.size) (ht : ((num s 12 : Int) == 33024) = false) :
    Calls Try.prog 99 #[.string s] w (ReadIs w (s.extract 0 6) (s.extract 6 12) (-1) 0 (num s 12) (tail s 14) 0) := by
  have hmf := make_func
  have H0 := Lib.hid (RD.new w s)
  go_enter_defers Try.func99, Try.ntmps99
  go_wp2_with fail
  refine (take_rd H0.out 6 rfl (by omega)).mono ?_
  rintro e w1 ⟨rfl, h1⟩
  obtain ⟨c0, c1, c2, c3, c4, c5, c6, c7, f0, f1, f2⟩ := h1.cells
  have H1 := Lib.hid ((h1.put 0 (.string (s.extract 0 6)) rfl))
  clear h1 H0
  go_wp2_with fail
  refine (take_rd H1.out 12 rfl (by omega)).mono ?_
  rintro e w2 ⟨rfl, h2⟩
  clear c0 c1 c2 c3 c4 c5 c6 c7 f0 f1 f2
  obtain ⟨c0, c1, c2, c3, c4, c5, c6, c7, f0, f1, f2⟩ := h2.cells
  have H2 := Lib.hid ((h2.put 1 (.string (s.extract 6 12)) rfl))
  clear h2 H1
  go_wp2_with fail
  refine (word_rd H2.out 14 rfl (by omega)).mono ?_
  rintro e w3 ⟨rfl, h3⟩
  clear c0 c1 c2 c3 c4 c5 c6 c7 f0 f1 f2
  obtain ⟨c0, c1, c2, c3, c4, c5, c6, c7, f0, f1, f2⟩ := h3.cells
  have H3 := Lib.hid (((h3.put 2 (.int .i64 (-1)) rfl).put 4 (.int .i64 (num s 12)) rfl))
  clear h3 H2
  go_wp2_with fail
  exact door_ret w _ _ rfl rfl (((((((H3.out.put 5 (.string (tail s 14)) rfl).put 0 (.string (s.extract 0 6)) rfl).put 1 (.string (s.extract 6 12)) rfl).put 2 (.int .i64 (-1)) rfl).put 3 (.int .i64 0) rfl).put 4 (.int .i64 (num s 12)) rfl).put 5 (.string (tail s 14)) rfl).err
set_option maxHeartbeats 1600000 in
theorem read_16 (s : ByteArray) (w : World) (h : s.size < 16) (h0 : 14 ≤ s.size) (ht : ((num s 12 : Int) == 33024) = true) :
    Calls Try.prog 99 #[.string s] w (ReadIs w ⟨#[]⟩ ⟨#[]⟩ 0 0 0 ⟨#[]⟩ 60) := by
  have hmf := make_func
  have H0 := Lib.hid (RD.new w s)
  go_enter_defers Try.func99, Try.ntmps99
  go_wp2_with fail
  refine (take_rd H0.out 6 rfl (by omega)).mono ?_
  rintro e w1 ⟨rfl, h1⟩
  obtain ⟨c0, c1, c2, c3, c4, c5, c6, c7, f0, f1, f2⟩ := h1.cells
  have H1 := Lib.hid ((h1.put 0 (.string (s.extract 0 6)) rfl))
  clear h1 H0
  go_wp2_with fail
  refine (take_rd H1.out 12 rfl (by omega)).mono ?_
  rintro e w2 ⟨rfl, h2⟩
  clear c0 c1 c2 c3 c4 c5 c6 c7 f0 f1 f2
  obtain ⟨c0, c1, c2, c3, c4, c5, c6, c7, f0, f1, f2⟩ := h2.cells
  have H2 := Lib.hid ((h2.put 1 (.string (s.extract 6 12)) rfl))
  clear h2 H1
  go_wp2_with fail
  refine (word_rd H2.out 14 rfl (by omega)).mono ?_
  rintro e w3 ⟨rfl, h3⟩
  clear c0 c1 c2 c3 c4 c5 c6 c7 f0 f1 f2
  obtain ⟨c0, c1, c2, c3, c4, c5, c6, c7, f0, f1, f2⟩ := h3.cells
  have H3 := Lib.hid (((h3.put 2 (.int .i64 (-1)) rfl).put 4 (.int .i64 (num s 12)) rfl))
  clear h3 H2
  go_wp2_with fail
  refine (word_rd_short H3.out (by omega)).mono ?_
  rintro e w4 ⟨rfl, h4⟩
  exact door_panic w w4 _ rfl rfl h4
set_option maxHeartbeats 1600000 in
theorem read_18 (s : ByteArray) (w : World) (h : s.size < 18) (h0 : 16 ≤ s.size) (ht : ((num s 12 : Int) == 33024) = true) :
    Calls Try.prog 99 #[.string s] w (ReadIs w ⟨#[]⟩ ⟨#[]⟩ 0 0 0 ⟨#[]⟩ 60) := by
  have hlt := num_lt s 14
  have hand := tag_low s 14
  have hmf := make_func
  have H0 := Lib.hid (RD.new w s)
  go_enter_defers Try.func99, Try.ntmps99
  go_wp2_with fail
  refine (take_rd H0.out 6 rfl (by omega)).mono ?_
  rintro e w1 ⟨rfl, h1⟩
  obtain ⟨c0, c1, c2, c3, c4, c5, c6, c7, f0, f1, f2⟩ := h1.cells
  have H1 := Lib.hid ((h1.put 0 (.string (s.extract 0 6)) rfl))
  clear h1 H0
  go_wp2_with fail
  refine (take_rd H1.out 12 rfl (by omega)).mono ?_
  rintro e w2 ⟨rfl, h2⟩
  clear c0 c1 c2 c3 c4 c5 c6 c7 f0 f1 f2
  obtain ⟨c0, c1, c2, c3, c4, c5, c6, c7, f0, f1, f2⟩ := h2.cells
  have H2 := Lib.hid ((h2.put 1 (.string (s.extract 6 12)) rfl))
  clear h2 H1
  go_wp2_with fail
  refine (word_rd H2.out 14 rfl (by omega)).mono ?_
  rintro e w3 ⟨rfl, h3⟩
  clear c0 c1 c2 c3 c4 c5 c6 c7 f0 f1 f2
  obtain ⟨c0, c1, c2, c3, c4, c5, c6, c7, f0, f1, f2⟩ := h3.cells
  have H3 := Lib.hid (((h3.put 2 (.int .i64 (-1)) rfl).put 4 (.int .i64 (num s 12)) rfl))
  clear h3 H2
  go_wp2_with fail
  refine (word_rd H3.out 16 rfl (by omega)).mono ?_
  rintro e w4 ⟨rfl, h4⟩
  clear c0 c1 c2 c3 c4 c5 c6 c7 f0 f1 f2
  obtain ⟨c0, c1, c2, c3, c4, c5, c6, c7, f0, f1, f2⟩ := h4.cells
  have H4 := Lib.hid (((h4.put 3 (.int .i64 (num s 14 / 8192)) rfl).put 2 (.int .i64 (num s 14 % 8192)) rfl))
  clear h4 H3
  go_wp2_with fail
  refine (word_rd_short H4.out (by omega)).mono ?_
  rintro e w5 ⟨rfl, h5⟩
  exact door_panic w w5 _ rfl rfl h5
set_option maxHeartbeats 1600000 in
theorem read_tag (s : ByteArray) (w : World) (h : 18 ≤ s.size) (ht : ((num s 12 : Int) == 33024) = true) :
    Calls Try.prog 99 #[.string s] w (ReadIs w (s.extract 0 6) (s.extract 6 12) (num s 14 % 8192) (num s 14 / 8192) (num s 16) (tail s 18) 0) := by
  have hlt := num_lt s 14
  have hand := tag_low s 14
  have hmf := make_func
  have H0 := Lib.hid (RD.new w s)
  go_enter_defers Try.func99, Try.ntmps99
  go_wp2_with fail
  refine (take_rd H0.out 6 rfl (by omega)).mono ?_
  rintro e w1 ⟨rfl, h1⟩
  obtain ⟨c0, c1, c2, c3, c4, c5, c6, c7, f0, f1, f2⟩ := h1.cells
  have H1 := Lib.hid ((h1.put 0 (.string (s.extract 0 6)) rfl))
  clear h1 H0
  go_wp2_with fail
  refine (take_rd H1.out 12 rfl (by omega)).mono ?_
  rintro e w2 ⟨rfl, h2⟩
  clear c0 c1 c2 c3 c4 c5 c6 c7 f0 f1 f2
  obtain ⟨c0, c1, c2, c3, c4, c5, c6, c7, f0, f1, f2⟩ := h2.cells
  have H2 := Lib.hid ((h2.put 1 (.string (s.extract 6 12)) rfl))
  clear h2 H1
  go_wp2_with fail
  refine (word_rd H2.out 14 rfl (by omega)).mono ?_
  rintro e w3 ⟨rfl, h3⟩
  clear c0 c1 c2 c3 c4 c5 c6 c7 f0 f1 f2
  obtain ⟨c0, c1, c2, c3, c4, c5, c6, c7, f0, f1, f2⟩ := h3.cells
  have H3 := Lib.hid (((h3.put 2 (.int .i64 (-1)) rfl).put 4 (.int .i64 (num s 12)) rfl))
  clear h3 H2
  go_wp2_with fail
  refine (word_rd H3.out 16 rfl (by omega)).mono ?_
  rintro e w4 ⟨rfl, h4⟩
  clear c0 c1 c2 c3 c4 c5 c6 c7 f0 f1 f2
  obtain ⟨c0, c1, c2, c3, c4, c5, c6, c7, f0, f1, f2⟩ := h4.cells
  have H4 := Lib.hid (((h4.put 3 (.int .i64 (num s 14 / 8192)) rfl).put 2 (.int .i64 (num s 14 % 8192)) rfl))
  clear h4 H3
  go_wp2_with fail
  refine (word_rd H4.out 18 rfl (by omega)).mono ?_
  rintro e w5 ⟨rfl, h5⟩
  clear c0 c1 c2 c3 c4 c5 c6 c7 f0 f1 f2
  obtain ⟨c0, c1, c2, c3, c4, c5, c6, c7, f0, f1, f2⟩ := h5.cells
  have H5 := Lib.hid ((h5.put 4 (.int .i64 (num s 16)) rfl))
  clear h5 H4
  go_wp2_with fail
  exact door_ret w _ _ rfl rfl (((((((H5.out.put 5 (.string (tail s 18)) rfl).put 0 (.string (s.extract 0 6)) rfl).put 1 (.string (s.extract 6 12)) rfl).put 2 (.int .i64 (num s 14 % 8192)) rfl).put 3 (.int .i64 (num s 14 / 8192)) rfl).put 4 (.int .i64 (num s 16)) rfl).put 5 (.string (tail s 18)) rfl).err

/-- A frame, taken apart. -/
structure Fr where
  d : ByteArray
  r : ByteArray
  v : Int
  p : Int
  t : Int
  b : ByteArray
def Fr.val (f : Fr) : Value := .agg (ethC f.d f.r f.v f.p f.t f.b)
def Fr.zero : Fr := ⟨⟨#[]⟩, ⟨#[]⟩, 0, 0, 0, ⟨#[]⟩⟩
/-- what read answers -/
def readF (s : ByteArray) : Fr :=
  if s.size < 14 then .zero else
  if num s 12 = 33024 then (if s.size < 18 then .zero else ⟨s.extract 0 6, s.extract 6 12, num s 14 % 8192, num s 14 / 8192, num s 16, tail s 18⟩)
  else ⟨s.extract 0 6, s.extract 6 12, -1, 0, num s 12, tail s 14⟩
def readE (s : ByteArray) : Int := if s.size < 14 ∨ num s 12 = 33024 ∧ s.size < 18 then 60 else 0
theorem read_any (s : ByteArray) (w : World) :
    Calls Try.prog 99 #[.string s] w fun e w' => e = .returned (.tuple #[(readF s).val, .int .i64 (readE s)]) ∧ Below w.heap.size w w' := by
  by_cases h1 : s.size < 14
  · have e1 : readF s = .zero := by rw [readF, if_pos h1]
    have e2 : readE s = 60 := by rw [readE, if_pos (.inl h1)]
    rw [e1, e2]
    by_cases h2 : s.size < 6
    · exact read_6 s w h2
    · by_cases h3 : s.size < 12
      · exact read_12 s w h3 (by omega)
      · exact read_14 s w h1 (by omega)
  · by_cases ht : num s 12 = 33024
    · have hb : ((num s 12 : Int) == 33024) = true := by rw [ht]; rfl
      by_cases h2 : s.size < 18
      · have e1 : readF s = .zero := by rw [readF, if_neg h1, if_pos ht, if_pos h2]
        have e2 : readE s = 60 := by rw [readE, if_pos (.inr ⟨ht, h2⟩)]
        rw [e1, e2]
        by_cases h3 : s.size < 16
        · exact read_16 s w h3 (by omega) hb
        · exact read_18 s w h2 (by omega) hb
      · have e1 : readF s = ⟨s.extract 0 6, s.extract 6 12, num s 14 % 8192, num s 14 / 8192, num s 16, tail s 18⟩ := by rw [readF, if_neg h1, if_pos ht, if_neg h2]
        have e2 : readE s = 0 := by rw [readE, if_neg (by omega)]
        rw [e1, e2]
        exact read_tag s w (by omega) hb
    · have hb : ((num s 12 : Int) == 33024) = false := by simpa using (by omega : (num s 12 : Int) ≠ 33024)
      have e1 : readF s = ⟨s.extract 0 6, s.extract 6 12, -1, 0, num s 12, tail s 14⟩ := by rw [readF, if_neg h1, if_neg ht]
      have e2 : readE s = 0 := by rw [readE, if_neg (by omega)]
      rw [e1, e2]
      exact read_plain s w (by omega) hb
end Go.Proofs.Ytalkpllmcigjnaa
namespace Go.Proofs.Ytalkpllmcigjnaa
open Go.RowKit

def tagB (v p : Int) : Bool := if v = -1 then decide (p = 0) else decide (0 ≤ v ∧ v ≤ 4094 ∧ 0 ≤ p ∧ p ≤ 7)
def kindB (t : Int) : Bool := decide (1536 ≤ t ∧ t ≤ 65535 ∧ t ≠ 33024)
def frameB (f : Fr) : Bool := decide (f.d.size = 6 ∧ f.r.size = 6 ∧ tagB f.v f.p = true ∧ kindB f.t = true)

theorem isTag_any (v p : Int) (w : World) : Calls Try.prog 93 #[.int .i64 v, .int .i64 p] w fun e w' => e = .returned (.bool (tagB v p)) ∧ w = w' := by
  by_cases h : v = -1
  · subst h
    have e : tagB (-1) p = (p == 0) := by rw [tagB, if_pos rfl]; rw [Bool.eq_iff_iff]; simp
    rw [e]
    go_enter Try.func93, Try.ntmps93
    go_wp2
    go_ret
    exact ⟨rfl, rfl⟩
  · have hb : (v == -1) = false := by simpa using h
    have e : tagB v p = decide (0 ≤ v ∧ v ≤ 4094 ∧ 0 ≤ p ∧ p ≤ 7) := by rw [tagB, if_neg h]
    rw [e]
    by_cases h0 : 0 ≤ v
    · by_cases h1 : v ≤ 4094
      · by_cases h2 : 0 ≤ p
        · go_enter Try.func93, Try.ntmps93
          go_wp2
          go_ret
          exact ⟨ret_bool (by simp [h0, h1, h2]), rfl⟩
        · go_enter Try.func93, Try.ntmps93
          go_wp2
          go_ret
          exact ⟨ret_bool (by simp; omega), rfl⟩
      · go_enter Try.func93, Try.ntmps93
        go_wp2
        go_ret
        exact ⟨ret_bool (by simp; omega), rfl⟩
    · go_enter Try.func93, Try.ntmps93
      go_wp2
      go_ret
      exact ⟨ret_bool (by simp; omega), rfl⟩
theorem isType_any (t : Int) (w : World) : Calls Try.prog 94 #[.int .i64 t] w fun e w' => e = .returned (.bool (kindB t)) ∧ w = w' := by
  by_cases h0 : 1536 ≤ t
  · by_cases h1 : t ≤ 65535
    · go_enter Try.func94, Try.ntmps94
      go_wp2
      go_ret
      exact ⟨ret_bool (by rw [Bool.eq_iff_iff]; simp [kindB, h0, h1]), rfl⟩
    · go_enter Try.func94, Try.ntmps94
      go_wp2
      go_ret
      exact ⟨ret_bool (by simp [kindB]; omega), rfl⟩
  · go_enter Try.func94, Try.ntmps94
    go_wp2
    go_ret
    exact ⟨ret_bool (by simp [kindB]; omega), rfl⟩
theorem kind_any (t : Int) (w : World) : Calls Try.prog 74 #[.int .i64 t] w fun e w' => e = .returned (.bool (kindB t)) ∧ w = w' := by
  by_cases h0 : 1536 ≤ t
  · by_cases h1 : t ≤ 65535
    · go_enter Try.func74, Try.ntmps74
      go_wp2
      go_ret
      exact ⟨ret_bool (by rw [Bool.eq_iff_iff]; simp [kindB, h0, h1]), rfl⟩
    · go_enter Try.func74, Try.ntmps74
      go_wp2
      go_ret
      exact ⟨ret_bool (by simp [kindB]; omega), rfl⟩
  · go_enter Try.func74, Try.ntmps74
    go_wp2
    go_ret
    exact ⟨ret_bool (by simp [kindB]; omega), rfl⟩
/-- The two bytes of a number. -/
def two (v : Int) : ByteArray := ⟨(enc v.toNat 2 true).toArray⟩
theorem two_size (v : Int) : (two v).size = 2 := by
  show (enc v.toNat 2 true).toArray.size = 2
  simp [enc_length]
theorem word_two (v : Int) (w : World) (h0 : 0 ≤ v) (h1 : v < 65536) : Calls Try.prog 54 #[.int .i64 v] w fun e w' => e = .returned (.string (two v)) ∧ Below w.heap.size w w' := by
  have P : ∀ W, Calls Try.prog 58 #[.int .u64 v, .int .i64 2, .bool true] W fun e w' => e = .returned (.tuple #[.string (two v), .int .i64 0]) ∧ Below W.heap.size W w' := by
    intro W
    obtain ⟨n, rfl⟩ := Int.eq_ofNat_of_zero_le h0
    exact put_ok n 2 true W (by omega) (by omega) (by omega)
  have HP := Lib.hid P
  clear P
  generalize two v = T at *
  go_enter Try.func54, Try.ntmps54
  go_wp2_with (go_at_call 58; (with_reducible refine (HP.out _).mono ?_); rintro e w' ⟨rfl, hb⟩)
  go_ret
  exact ⟨rfl, hb⟩
theorem num_is (s : ByteArray) (a : Nat) (h : a + 2 ≤ s.size) : num s a = 256 * s[a].toNat + s[a + 1].toNat := by
  have hl := cutl_length s a 2 h
  have e : cutl s a 2 = [s[a], s[a + 1]] := by
    apply List.ext_getElem (by rw [hl]; rfl)
    intro i h1 h2
    rw [hl] at h1
    rw [cutl_get s a 2 i h h1]
    match i, h1 with
    | 0, _ => rfl
    | 1, _ => rfl
  rw [num, e]
  simp [dec, val]; omega
theorem num_any (s : ByteArray) (a : Nat) (w : World) (h : a + 2 ≤ s.size) (hs : s.size ≤ 1518) : Calls Try.prog 73 #[.string s, .int .i64 a] w fun e w' => e = .returned (.int .i64 (num s a)) ∧ ∃ n, w' = w.drewN n := by
  rw [num_is s a h]
  have ha := s[a].toNat_lt
  have hb := s[a + 1].toNat_lt
  have e0 : (a : Int) < s.size := by omega
  have e1 : (a : Int) + 1 < s.size := by omega
  have e2 : a < s.size := by omega
  have e3 : a + 1 < s.size := by omega
  have e4 : (0 : Int) ≤ (a : Int) + 1 := by omega
  have e5 : IntKind.i64.wrap ((a : Int) + 1) = (a : Int) + 1 := IntWalk.i64_in _ (by omega)
  have e6 : ((a : Int) + 1).toNat = a + 1 := by omega
  have e7 : IntKind.i64.wrap (s[a].toNat : Int) = (s[a].toNat : Int) := IntWalk.i64_in _ (by omega)
  have e8 : IntKind.i64.wrap (s[a + 1].toNat : Int) = (s[a + 1].toNat : Int) := IntWalk.i64_in _ (by omega)
  have e9 : IntKind.i64.wrap (256 * (s[a].toNat : Int)) = 256 * (s[a].toNat : Int) := IntWalk.i64_in _ (by omega)
  have e10 : IntKind.i64.wrap (256 * (s[a].toNat : Int) + (s[a + 1].toNat : Int)) = 256 * (s[a].toNat : Int) + (s[a + 1].toNat : Int) := IntWalk.i64_in _ (by omega)
  go_enter Try.func73, Try.ntmps73
  go_wp2_with fail
  go_quiet (fail)
  go_wp2
  go_ret
  exact ⟨rfl, nq, rfl⟩
end Go.Proofs.Ytalkpllmcigjnaa
namespace Go.Proofs.Ytalkpllmcigjnaa
open Go.RowKit

theorem bcell {W w1 : World} (hb : Below W.heap.size W w1) : (∀ b o, b < W.heap.size → w1.cell? ⟨b, o, none⟩ = W.cell? ⟨b, o, none⟩) ∧ (∀ b o, b < W.heap.size → w1.frozen? ⟨b, o, none⟩ = W.frozen? ⟨b, o, none⟩) :=
  ⟨fun b o h => hb.cell (p := ⟨b, o, none⟩) h, fun b o h => hb.frozen (p := ⟨b, o, none⟩) h⟩
theorem isFrame_yes (d r : ByteArray) (v p t : Int) (b : ByteArray) (w : World) (h1 : d.size = 6) (h2 : r.size = 6) (h3 : tagB v p = true) (k : Bool) (h4 : kindB t = k) :
    Calls Try.prog 52 #[.agg #[.string d, .string r, .int .i64 v, .int .i64 p, .int .i64 t, .string b]] w fun e w' => e = .returned (.bool k) ∧ Below w.heap.size w w' := by
  have T := fun W => isTag_any v p W
  rw [h3] at T
  have HT := Lib.hid T
  have K := fun W => isType_any t W
  rw [h4] at K
  have HK := Lib.hid K
  have e1 : ((d.size : Int) == 6) = true := by rw [h1]; rfl
  have e2 : ((r.size : Int) == 6) = true := by rw [h2]; rfl
  clear T K h1 h2 h3 h4
  go_enter Try.func52, Try.ntmps52
  go_wp2_with (first
    | (go_at_call 93; (with_reducible refine (HT.out _).mono ?_); rintro e w' ⟨rfl, rfl⟩)
    | (go_at_call 94; (with_reducible refine (HK.out _).mono ?_); rintro e w' ⟨rfl, rfl⟩))
  go_ret
  exact ⟨rfl, (Below.refl _ _).alloc (Nat.le_refl _) _⟩
theorem isFrame_tag (d r : ByteArray) (v p t : Int) (b : ByteArray) (w : World) (h1 : d.size = 6) (h2 : r.size = 6) (h3 : tagB v p = false) :
    Calls Try.prog 52 #[.agg #[.string d, .string r, .int .i64 v, .int .i64 p, .int .i64 t, .string b]] w fun e w' => e = .returned (.bool false) ∧ Below w.heap.size w w' := by
  have T := fun W => isTag_any v p W
  rw [h3] at T
  have HT := Lib.hid T
  have e1 : ((d.size : Int) == 6) = true := by rw [h1]; rfl
  have e2 : ((r.size : Int) == 6) = true := by rw [h2]; rfl
  clear T h1 h2 h3
  go_enter Try.func52, Try.ntmps52
  go_wp2_with (first
    | (go_at_call 93; (with_reducible refine (HT.out _).mono ?_); rintro e w' ⟨rfl, rfl⟩))
  go_ret
  exact ⟨rfl, (Below.refl _ _).alloc (Nat.le_refl _) _⟩
theorem isFrame_src (d r : ByteArray) (v p t : Int) (b : ByteArray) (w : World) (h1 : d.size = 6) (h2 : r.size ≠ 6) :
    Calls Try.prog 52 #[.agg #[.string d, .string r, .int .i64 v, .int .i64 p, .int .i64 t, .string b]] w fun e w' => e = .returned (.bool false) ∧ Below w.heap.size w w' := by
  have e1 : ((d.size : Int) == 6) = true := by rw [h1]; rfl
  have e2 : ((r.size : Int) == 6) = false := by simpa using (by omega : (r.size : Int) ≠ 6)
  clear h1 h2
  go_enter Try.func52, Try.ntmps52
  go_wp2_with fail
  go_ret
  exact ⟨rfl, (Below.refl _ _).alloc (Nat.le_refl _) _⟩
theorem isFrame_dst (d r : ByteArray) (v p t : Int) (b : ByteArray) (w : World) (h1 : d.size ≠ 6) :
    Calls Try.prog 52 #[.agg #[.string d, .string r, .int .i64 v, .int .i64 p, .int .i64 t, .string b]] w fun e w' => e = .returned (.bool false) ∧ Below w.heap.size w w' := by
  have e1 : ((d.size : Int) == 6) = false := by simpa using (by omega : (d.size : Int) ≠ 6)
  clear h1
  go_enter Try.func52, Try.ntmps52
  go_wp2_with fail
  go_ret
  exact ⟨rfl, (Below.refl _ _).alloc (Nat.le_refl _) _⟩
theorem isFrame_any (f : Fr) (w : World) :
    Calls Try.prog 52 #[.agg #[.string f.d, .string f.r, .int .i64 f.v, .int .i64 f.p, .int .i64 f.t, .string f.b]] w fun e w' => e = .returned (.bool (frameB f)) ∧ Below w.heap.size w w' := by
  unfold frameB
  by_cases h1 : f.d.size = 6
  · by_cases h2 : f.r.size = 6
    · cases h3 : tagB f.v f.p
      · simp only [h1, h2, Bool.false_eq_true, true_and, false_and, decide_false]
        exact isFrame_tag _ _ _ _ _ _ w h1 h2 h3
      · simp only [h1, h2, true_and, Bool.decide_eq_true]
        exact isFrame_yes _ _ _ _ _ _ w h1 h2 h3 _ rfl
    · simp only [h1, h2, true_and, false_and, decide_false]
      exact isFrame_src _ _ _ _ _ _ w h1 h2
  · simp only [h1, false_and, decide_false]
    exact isFrame_dst _ _ _ _ _ _ w h1

def parseE (s : ByteArray) : Int := if 1518 < s.size then 61 else if readE s = 0 then (if frameB (readF s) then 0 else 61) else 60
def parseF (s : ByteArray) : Fr := if parseE s = 0 then readF s else .zero
theorem readE_cases (s : ByteArray) : readE s = 0 ∨ readE s = 60 := by unfold readE; split <;> simp
theorem parse_results (w : World) (tmps : Array Value) (gf : Nat) {n : Int} (h2 : tmps[2]?.getD undef = .pointer (some ⟨gf, 0, none⟩)) (h3 : tmps[3]?.getD undef = .int .i64 n) {d r : ByteArray} {v p t : Int} {b : ByteArray}
    (hF : Blk w gf 44 (ethC d r v p t b)) : (results Try.f65 tmps).run Try.prog w = .ok (.tuple #[.agg (ethC d r v p t b), .int .i64 n]) w := by
  have c0 := hF.cell 0
  have c1 := hF.cell 1
  have c2 := hF.cell 2
  have c3 := hF.cell 3
  have c4 := hF.cell 4
  have c5 := hF.cell 5
  simp only [ethC] at c0 c1 c2 c3 c4 c5
  simp [results, Try.results65, go_sem, h2, h3, c0, c1, c2, c3, c4, c5, ethC]
theorem parse_long (s : ByteArray) (w : World) (h : 1518 < s.size) :
    Calls Try.prog 65 #[.string s] w fun e w' => e = .returned (.tuple #[.agg (ethC ⟨#[]⟩ ⟨#[]⟩ 0 0 0 ⟨#[]⟩), .int .i64 61]) ∧ Below w.heap.size w w' := by
  go_enter Try.func65, Try.ntmps65
  go_wp2
  exact bodyPost_ret (v := .tuple #[.agg (ethC ⟨#[]⟩ ⟨#[]⟩ 0 0 0 ⟨#[]⟩), .int .i64 61]) (by simp [results, Try.results65, go_sem, ethC]) rfl ⟨rfl, (Below.refl _ _).alloc (Nat.le_refl _) _⟩
theorem parse_short (s : ByteArray) (w : World) (h : s.size ≤ 1518) (h1 : readE s = 60) :
    Calls Try.prog 65 #[.string s] w fun e w' => e = .returned (.tuple #[.agg (ethC ⟨#[]⟩ ⟨#[]⟩ 0 0 0 ⟨#[]⟩), .int .i64 60]) ∧ Below w.heap.size w w' := by
  have R := read_any s
  rw [h1] at R
  generalize readF s = F at R
  obtain ⟨d, r, v, p, t, b⟩ := F
  simp only [Fr.val, ethC] at R
  have HR := Lib.hid R
  clear R h1
  go_enter Try.func65, Try.ntmps65
  go_wp2_with fail
  refine (HR.out _).mono ?_
  rintro e w1 ⟨rfl, hb⟩
  have A := (Blk.new w 44 (ethC ⟨#[]⟩ ⟨#[]⟩ 0 0 0 ⟨#[]⟩)).same (hb.block _ (by simp))
  obtain ⟨a0, a1, a2, a3, a4, a5⟩ : w1.cell? ⟨w.heap.size, 0, none⟩ = some (.string ⟨#[]⟩) ∧ w1.cell? ⟨w.heap.size, 1, none⟩ = some (.string ⟨#[]⟩) ∧ w1.cell? ⟨w.heap.size, 2, none⟩ = some (.int .i64 0) ∧ w1.cell? ⟨w.heap.size, 3, none⟩ = some (.int .i64 0) ∧ w1.cell? ⟨w.heap.size, 4, none⟩ = some (.int .i64 0) ∧ w1.cell? ⟨w.heap.size, 5, none⟩ = some (.string ⟨#[]⟩) :=
    ⟨A.cell 0, A.cell 1, A.cell 2, A.cell 3, A.cell 4, A.cell 5⟩
  have fa := A.frozen
  have hz := A.lt
  have hB : Below w.heap.size w w1 := ((Below.refl _ _).alloc (Nat.le_refl _) _).trans (hb.mono (by simp))
  have hne : w.heap.size ≠ w1.heap.size := by omega
  have HA0 := Lib.hid A
  clear A hb
  go_wp2_with fail
  refine bodyPost_ret (v := .tuple #[.agg (ethC ⟨#[]⟩ ⟨#[]⟩ 0 0 0 ⟨#[]⟩), .int .i64 60]) (by simp [results, Try.results65, go_sem, ethC, a0, a1, a2, a3, a4, a5, hz]) rfl ⟨rfl, ?_⟩
  (with_reducible (repeat' (first | exact hB | exact Below.refl _ _ | refine below_drewN ?_ _ | refine Below.drew ?_ | refine Below.alloc ?_ (by first | (simp; done) | (simp; omega) | omega) _ | refine Below.setCell ?_ (by first | (simp; done) | (simp; omega) | omega) _)))
theorem parse_true (s : ByteArray) (w : World) (h : s.size ≤ 1518) (h1 : readE s = 0) (h2 : frameB (readF s) = true) :
    Calls Try.prog 65 #[.string s] w fun e w' => e = .returned (.tuple #[(readF s).val, .int .i64 0]) ∧ Below w.heap.size w w' := by
  have R := read_any s
  rw [h1] at R
  generalize readF s = F at *
  have I := isFrame_any F
  rw [h2] at I
  obtain ⟨d, r, v, p, t, b⟩ := F
  simp only [Fr.val, ethC] at R I
  have HR := Lib.hid R
  have HI := Lib.hid I
  clear R I h1 h2
  go_enter Try.func65, Try.ntmps65
  go_wp2_with fail
  refine (HR.out _).mono ?_
  rintro e w1 ⟨rfl, hb⟩
  have A := (Blk.new w 44 (ethC ⟨#[]⟩ ⟨#[]⟩ 0 0 0 ⟨#[]⟩)).same (hb.block _ (by simp))
  obtain ⟨a0, a1, a2, a3, a4, a5⟩ : w1.cell? ⟨w.heap.size, 0, none⟩ = some (.string ⟨#[]⟩) ∧ w1.cell? ⟨w.heap.size, 1, none⟩ = some (.string ⟨#[]⟩) ∧ w1.cell? ⟨w.heap.size, 2, none⟩ = some (.int .i64 0) ∧ w1.cell? ⟨w.heap.size, 3, none⟩ = some (.int .i64 0) ∧ w1.cell? ⟨w.heap.size, 4, none⟩ = some (.int .i64 0) ∧ w1.cell? ⟨w.heap.size, 5, none⟩ = some (.string ⟨#[]⟩) :=
    ⟨A.cell 0, A.cell 1, A.cell 2, A.cell 3, A.cell 4, A.cell 5⟩
  have fa := A.frozen
  have hz := A.lt
  have hB : Below w.heap.size w w1 := ((Below.refl _ _).alloc (Nat.le_refl _) _).trans (hb.mono (by simp))
  have hne : w.heap.size ≠ w1.heap.size := by omega
  have HA0 := Lib.hid A
  clear A hb
  go_wp2_with fail
  refine (HI.out _).mono ?_
  rintro e w2 ⟨rfl, hb2⟩
  obtain ⟨g1, g2⟩ := bcell hb2
  have hz2 : w1.heap.size < w2.heap.size := by have := hb2.size; simp at this; omega
  have hB2 : Below w.heap.size w w2 := (hB.alloc (by omega) _).trans (hb2.mono (by simp; omega))
  have HA := Lib.hid ((HA0.out.alloc (.cells #[.string d, .string r, .int .i64 v, .int .i64 p, .int .i64 t, .string b] 44)).same (hb2.block _ (by simp; omega)))
  clear hb2
  go_wp2_with fail
  refine bodyPost_ret (v := .tuple #[.agg (ethC d r v p t b), .int .i64 0]) ?_ rfl ⟨rfl, ?_⟩
  · exact parse_results _ _ _ rfl rfl ((((((HA.out.put 0 (.string d)).put 1 (.string r)).put 2 (.int .i64 v)).put 3 (.int .i64 p)).put 4 (.int .i64 t)).put 5 (.string b))
  · (with_reducible (repeat' (first | exact hB2 | exact Below.refl _ _ | refine below_drewN ?_ _ | refine Below.drew ?_ | refine Below.alloc ?_ (by first | (simp; done) | (simp; omega) | omega) _ | refine Below.setCell ?_ (by first | (simp; done) | (simp; omega) | omega) _)))
theorem parse_false (s : ByteArray) (w : World) (h : s.size ≤ 1518) (h1 : readE s = 0) (h2 : frameB (readF s) = false) :
    Calls Try.prog 65 #[.string s] w fun e w' => e = .returned (.tuple #[.agg (ethC ⟨#[]⟩ ⟨#[]⟩ 0 0 0 ⟨#[]⟩), .int .i64 61]) ∧ Below w.heap.size w w' := by
  have R := read_any s
  rw [h1] at R
  generalize readF s = F at *
  have I := isFrame_any F
  rw [h2] at I
  obtain ⟨d, r, v, p, t, b⟩ := F
  simp only [Fr.val, ethC] at R I
  have HR := Lib.hid R
  have HI := Lib.hid I
  clear R I h1 h2
  go_enter Try.func65, Try.ntmps65
  go_wp2_with fail
  refine (HR.out _).mono ?_
  rintro e w1 ⟨rfl, hb⟩
  have A := (Blk.new w 44 (ethC ⟨#[]⟩ ⟨#[]⟩ 0 0 0 ⟨#[]⟩)).same (hb.block _ (by simp))
  obtain ⟨a0, a1, a2, a3, a4, a5⟩ : w1.cell? ⟨w.heap.size, 0, none⟩ = some (.string ⟨#[]⟩) ∧ w1.cell? ⟨w.heap.size, 1, none⟩ = some (.string ⟨#[]⟩) ∧ w1.cell? ⟨w.heap.size, 2, none⟩ = some (.int .i64 0) ∧ w1.cell? ⟨w.heap.size, 3, none⟩ = some (.int .i64 0) ∧ w1.cell? ⟨w.heap.size, 4, none⟩ = some (.int .i64 0) ∧ w1.cell? ⟨w.heap.size, 5, none⟩ = some (.string ⟨#[]⟩) :=
    ⟨A.cell 0, A.cell 1, A.cell 2, A.cell 3, A.cell 4, A.cell 5⟩
  have fa := A.frozen
  have hz := A.lt
  have hB : Below w.heap.size w w1 := ((Below.refl _ _).alloc (Nat.le_refl _) _).trans (hb.mono (by simp))
  have hne : w.heap.size ≠ w1.heap.size := by omega
  have HA0 := Lib.hid A
  clear A hb
  go_wp2_with fail
  refine (HI.out _).mono ?_
  rintro e w2 ⟨rfl, hb2⟩
  obtain ⟨g1, g2⟩ := bcell hb2
  have hz2 : w1.heap.size < w2.heap.size := by have := hb2.size; simp at this; omega
  have hB2 : Below w.heap.size w w2 := (hB.alloc (by omega) _).trans (hb2.mono (by simp; omega))
  have HA := Lib.hid ((HA0.out.alloc (.cells #[.string d, .string r, .int .i64 v, .int .i64 p, .int .i64 t, .string b] 44)).same (hb2.block _ (by simp; omega)))
  clear hb2
  go_wp2_with fail
  refine bodyPost_ret (v := .tuple #[.agg (ethC ⟨#[]⟩ ⟨#[]⟩ 0 0 0 ⟨#[]⟩), .int .i64 61]) ?_ rfl ⟨rfl, ?_⟩
  · exact parse_results _ _ _ rfl rfl ((((((HA.out.put 0 (.string ⟨#[]⟩)).put 1 (.string ⟨#[]⟩)).put 2 (.int .i64 0)).put 3 (.int .i64 0)).put 4 (.int .i64 0)).put 5 (.string ⟨#[]⟩))
  · (with_reducible (repeat' (first | exact hB2 | exact Below.refl _ _ | refine below_drewN ?_ _ | refine Below.drew ?_ | refine Below.alloc ?_ (by first | (simp; done) | (simp; omega) | omega) _ | refine Below.setCell ?_ (by first | (simp; done) | (simp; omega) | omega) _)))
theorem parse_any (s : ByteArray) (w : World) :
    Calls Try.prog 65 #[.string s] w fun e w' => e = .returned (.tuple #[(parseF s).val, .int .i64 (parseE s)]) ∧ Below w.heap.size w w' := by
  by_cases h1 : 1518 < s.size
  · have e1 : parseE s = 61 := by rw [parseE, if_pos h1]
    have e2 : parseF s = .zero := by rw [parseF, e1, if_neg (by decide)]
    rw [e1, e2]
    exact parse_long s w h1
  · rcases readE_cases s with h2 | h2
    · cases h3 : frameB (readF s)
      · have e1 : parseE s = 61 := by rw [parseE, if_neg h1, if_pos h2, h3]; rfl
        have e2 : parseF s = .zero := by rw [parseF, e1, if_neg (by decide)]
        rw [e1, e2]
        exact parse_false s w (by omega) h2 h3
      · have e1 : parseE s = 0 := by rw [parseE, if_neg h1, if_pos h2, h3]; rfl
        have e2 : parseF s = readF s := by rw [parseF, e1, if_pos rfl]
        rw [e1, e2]
        exact parse_true s w (by omega) h2 h3
    · have e1 : parseE s = 60 := by rw [parseE, if_neg h1, h2, if_neg (by decide)]
      have e2 : parseF s = .zero := by rw [parseF, e1, if_neg (by decide)]
      rw [e1, e2]
      exact parse_short s w (by omega) h2
end Go.Proofs.Ytalkpllmcigjnaa
namespace Go.Proofs.Ytalkpllmcigjnaa
open Go.RowKit

def tagS (v p : Int) : ByteArray := if v = -1 then ⟨#[]⟩ else two 33024 ++ two (8192 * p + v)
theorem tag_or (v p : Int) (h0 : 0 ≤ v) (h1 : v ≤ 4094) (h2 : 0 ≤ p) (h3 : p ≤ 7) : bits .or .i64 (p * 8192) v = 8192 * p + v := by
  refine (bits_join .i64 63 (by decide) (fun n a b => IntWalk.i64_in n (by omega)) 13 _ _ (by omega) ?_ (by omega) h0 (by omega) (by omega)).trans (by omega)
  omega
theorem held_new (w : World) (d r : ByteArray) (v p t : Int) (b : ByteArray) : (w.alloc (.cells #[.string d, .string r, .int .i64 v, .int .i64 p, .int .i64 t, .string b] 44)).drew.cell? ⟨w.heap.size, 3, none⟩ = some (.int .i64 p) ∧
    (w.alloc (.cells #[.string d, .string r, .int .i64 v, .int .i64 p, .int .i64 t, .string b] 44)).drew.cell? ⟨w.heap.size, 2, none⟩ = some (.int .i64 v) ∧ w.heap.size < (w.alloc (.cells #[.string d, .string r, .int .i64 v, .int .i64 p, .int .i64 t, .string b] 44)).drew.heap.size ∧ Below w.heap.size w (w.alloc (.cells #[.string d, .string r, .int .i64 v, .int .i64 p, .int .i64 t, .string b] 44)).drew :=
  ⟨(Blk.new w 44 #[.string d, .string r, .int .i64 v, .int .i64 p, .int .i64 t, .string b]).cell 3, (Blk.new w 44 #[.string d, .string r, .int .i64 v, .int .i64 p, .int .i64 t, .string b]).cell 2, by simp, ((Below.refl _ _).alloc (Nat.le_refl _) _).drew⟩
theorem held_next {w w1 w' : World} {x y : Value} (h : w1.cell? ⟨w.heap.size, 3, none⟩ = some x ∧ w1.cell? ⟨w.heap.size, 2, none⟩ = some y ∧ w.heap.size < w1.heap.size ∧ Below w.heap.size w w1) (hq : Below w1.heap.size w1 w') :
    w'.cell? ⟨w.heap.size, 3, none⟩ = some x ∧ w'.cell? ⟨w.heap.size, 2, none⟩ = some y ∧ w.heap.size < w'.heap.size ∧ Below w.heap.size w w' :=
  ⟨(hq.cell h.2.2.1).trans h.1, (hq.cell h.2.2.1).trans h.2.1, by have := hq.size; have := h.2.2.1; omega, h.2.2.2.trans (hq.mono (by have := h.2.2.1; omega))⟩
set_option maxHeartbeats 1600000 in
theorem tagBytes_some (d r : ByteArray) (v p t : Int) (b : ByteArray) (w : World) (h0 : 0 ≤ v) (h1 : v ≤ 4094) (h2 : 0 ≤ p) (h3 : p ≤ 7) :
    Calls Try.prog 53 #[.agg #[.string d, .string r, .int .i64 v, .int .i64 p, .int .i64 t, .string b]] w fun e w' => e = .returned (.string (tagS v p)) ∧ Below w.heap.size w w' := by
  have hv : (v == -1) = false := by simpa using (by omega : v ≠ -1)
  have eT : tagS v p = two 33024 ++ two (8192 * p + v) := by rw [tagS, if_neg (by omega)]
  rw [eT]
  have A1 := fun W => word_two 33024 W (by omega) (by omega)
  have A2 := fun W => word_two (8192 * p + v) W (by omega) (by omega)
  have s1 := Nat.le_of_eq (two_size 33024)
  have s2 := Nat.le_of_eq (two_size (8192 * p + v))
  have q1 := tag_or v p h0 h1 h2 h3
  generalize hX : two 33024 = X at *
  generalize hY : two (8192 * p + v) = Y at *
  have HA1 := Lib.hid A1
  have HA2 := Lib.hid A2
  have q2 : IntKind.i64.wrap (p * 8192) = p * 8192 := IntWalk.i64_in _ (by omega)
  have q3 : ¬ 9223372036854775807 < X.size + Y.size := by omega
  clear A1 A2 hX hY eT
  go_enter Try.func53, Try.ntmps53
  go_wp2_with fail
  have hc := held_new w d r v p t b
  go_region_held3 (fun w' => w'.cell? ⟨w.heap.size, 3, none⟩ = some (.int .i64 p) ∧ w'.cell? ⟨w.heap.size, 2, none⟩ = some (.int .i64 v) ∧ w.heap.size < w'.heap.size ∧ Below w.heap.size w w')
    (first | exact hc | assumption | exact held_next (by assumption) hq)
    (first
      | (go_at_call 54; ((with_reducible refine (HA1.out _).mono ?_); rintro e w' ⟨rfl, hq⟩))
      | (go_at_call 54; ((with_reducible refine (HA2.out _).mono ?_); rintro e w' ⟨rfl, hq⟩)))
  go_wp2
  go_ret
  rename_i hH
  exact ⟨rfl, hH.2.2.2⟩
theorem tagBytes_none (d r : ByteArray) (p t : Int) (b : ByteArray) (w : World) :
    Calls Try.prog 53 #[.agg #[.string d, .string r, .int .i64 (-1), .int .i64 p, .int .i64 t, .string b]] w fun e w' => e = .returned (.string (tagS (-1) p)) ∧ Below w.heap.size w w' := by
  have e : tagS (-1) p = ⟨#[]⟩ := if_pos rfl
  rw [e]
  go_enter Try.func53, Try.ntmps53
  go_wp2
  go_ret
  exact ⟨rfl, (Below.refl _ _).alloc (Nat.le_refl _) _⟩
theorem tagB_cases {v p : Int} (h : tagB v p = true) : v = -1 ∧ p = 0 ∨ (0 ≤ v ∧ v ≤ 4094 ∧ 0 ≤ p ∧ p ≤ 7) := by
  unfold tagB at h
  split at h
  · exact .inl ⟨by assumption, of_decide_eq_true h⟩
  · exact .inr (of_decide_eq_true h)
theorem tagBytes_any (d r : ByteArray) (v p t : Int) (b : ByteArray) (w : World) (h : tagB v p = true) :
    Calls Try.prog 53 #[.agg #[.string d, .string r, .int .i64 v, .int .i64 p, .int .i64 t, .string b]] w fun e w' => e = .returned (.string (tagS v p)) ∧ Below w.heap.size w w' := by
  rcases tagB_cases h with ⟨rfl, _⟩ | ⟨h0, h1, h2, h3⟩
  · exact tagBytes_none _ _ _ _ _ _
  · exact tagBytes_some _ _ _ _ _ _ _ h0 h1 h2 h3
theorem tagS_size (v p : Int) : (tagS v p).size = if v = -1 then 0 else 4 := by
  unfold tagS; split
  · rfl
  · rw [ByteArray.size_append, two_size, two_size]
theorem frameB_iff {f : Fr} : frameB f = true ↔ f.d.size = 6 ∧ f.r.size = 6 ∧ tagB f.v f.p = true ∧ kindB f.t = true := by
  unfold frameB; exact decide_eq_true_iff
theorem kindB_iff {t : Int} : kindB t = true ↔ 1536 ≤ t ∧ t ≤ 65535 ∧ t ≠ 33024 := by
  unfold kindB; exact decide_eq_true_iff

/-- The six cells of a frame, and all else as it was. -/
structure Six (w : World) (d r : ByteArray) (v p t : Int) (b : ByteArray) (w' : World) : Prop where
  blk : Blk w' w.heap.size 44 #[.string d, .string r, .int .i64 v, .int .i64 p, .int .i64 t, .string b]
  below : Below w.heap.size w w'
theorem Six.new (w : World) (d r : ByteArray) (v p t : Int) (b : ByteArray) : Six w d r v p t b (w.alloc (.cells #[.string d, .string r, .int .i64 v, .int .i64 p, .int .i64 t, .string b] 44)) := ⟨Blk.new w 44 _, (Below.refl _ _).alloc (Nat.le_refl _) _⟩
theorem Six.next {w w1 w' : World} {d r : ByteArray} {v p t : Int} {b : ByteArray} (h : Six w d r v p t b w1) (hq : Below w1.heap.size w1 w') : Six w d r v p t b w' :=
  ⟨h.blk.same (hq.block _ h.blk.lt), h.below.trans (hq.mono (by have := h.blk.lt; omega))⟩
theorem Six.drew {w w1 : World} {d r : ByteArray} {v p t : Int} {b : ByteArray} (h : Six w d r v p t b w1) : Six w d r v p t b w1.drew := ⟨h.blk, h.below.drew⟩
theorem Six.cells {w w1 : World} {d r : ByteArray} {v p t : Int} {b : ByteArray} (h : Six w d r v p t b w1) : w1.cell? ⟨w.heap.size, 0, none⟩ = some (.string d) ∧ w1.cell? ⟨w.heap.size, 1, none⟩ = some (.string r) ∧ w1.cell? ⟨w.heap.size, 2, none⟩ = some (.int .i64 v) ∧
    w1.cell? ⟨w.heap.size, 3, none⟩ = some (.int .i64 p) ∧ w1.cell? ⟨w.heap.size, 4, none⟩ = some (.int .i64 t) ∧ w1.cell? ⟨w.heap.size, 5, none⟩ = some (.string b) ∧ Six w d r v p t b w1 :=
  ⟨h.blk.cell 0, h.blk.cell 1, h.blk.cell 2, h.blk.cell 3, h.blk.cell 4, h.blk.cell 5, h⟩
theorem six_next {w w1 w' : World} {d r : ByteArray} {v p t : Int} {b : ByteArray} (h : w1.cell? ⟨w.heap.size, 0, none⟩ = some (.string d) ∧ w1.cell? ⟨w.heap.size, 1, none⟩ = some (.string r) ∧ w1.cell? ⟨w.heap.size, 2, none⟩ = some (.int .i64 v) ∧
    w1.cell? ⟨w.heap.size, 3, none⟩ = some (.int .i64 p) ∧ w1.cell? ⟨w.heap.size, 4, none⟩ = some (.int .i64 t) ∧ w1.cell? ⟨w.heap.size, 5, none⟩ = some (.string b) ∧ Six w d r v p t b w1) (hq : Below w1.heap.size w1 w') :
    w'.cell? ⟨w.heap.size, 0, none⟩ = some (.string d) ∧ w'.cell? ⟨w.heap.size, 1, none⟩ = some (.string r) ∧ w'.cell? ⟨w.heap.size, 2, none⟩ = some (.int .i64 v) ∧
    w'.cell? ⟨w.heap.size, 3, none⟩ = some (.int .i64 p) ∧ w'.cell? ⟨w.heap.size, 4, none⟩ = some (.int .i64 t) ∧ w'.cell? ⟨w.heap.size, 5, none⟩ = some (.string b) ∧ Six w d r v p t b w' := (h.2.2.2.2.2.2.next hq).cells
def buildE (f : Fr) : Int := if frameB f = true ∧ f.d.size + f.r.size + (tagS f.v f.p).size + 2 + f.b.size ≤ 1518 then 0 else 61
def buildS (f : Fr) : ByteArray := if frameB f = true ∧ f.d.size + f.r.size + (tagS f.v f.p).size + 2 + f.b.size ≤ 1518 then f.d ++ f.r ++ tagS f.v f.p ++ two f.t ++ f.b else ⟨#[]⟩
theorem build_bad (f : Fr) (w : World) (h : frameB f = false) :
    Calls Try.prog 21 #[.agg #[.string f.d, .string f.r, .int .i64 f.v, .int .i64 f.p, .int .i64 f.t, .string f.b]] w fun e w' => e = .returned (.tuple #[.string ⟨#[]⟩, .int .i64 61]) ∧ Below w.heap.size w w' := by
  have I := isFrame_any f
  rw [h] at I
  obtain ⟨d, r, v, p, t, b⟩ := f
  have HI := Lib.hid I
  clear I h
  go_enter Try.func21, Try.ntmps21
  go_wp2_with fail
  refine (HI.out _).mono ?_
  rintro e w1 ⟨rfl, hb⟩
  have hS := (Six.new w d r v p t b).next hb
  clear hb
  go_wp2_with fail
  go_ret2
  exact ⟨rfl, hS.below⟩
set_option maxHeartbeats 1600000 in
theorem build_good (f : Fr) (w : World) (h : frameB f = true) (hb : f.b.size ≤ 140737488351232) (k : Bool) (hk : decide (1518 < f.d.size + f.r.size + (tagS f.v f.p).size + 2 + f.b.size) = k) :
    Calls Try.prog 21 #[.agg #[.string f.d, .string f.r, .int .i64 f.v, .int .i64 f.p, .int .i64 f.t, .string f.b]] w fun e w' => e = .returned (.tuple #[.string (if k then ⟨#[]⟩ else f.d ++ f.r ++ tagS f.v f.p ++ two f.t ++ f.b), .int .i64 (if k then 61 else 0)]) ∧ Below w.heap.size w w' := by
  have I := isFrame_any f
  rw [h] at I
  obtain ⟨h1, h2, h3, h4⟩ := frameB_iff.1 h
  obtain ⟨d, r, v, p, t, b⟩ := f
  simp only at *
  have h5 := kindB_iff.1 h4
  have T := fun W => tagBytes_any d r v p t b W h3
  have Y := fun W => word_two t W (by omega) (by omega)
  have s1 := Nat.le_of_eq h1
  have s2 := Nat.le_of_eq h2
  have s3 : (tagS v p).size ≤ 4 := by rw [tagS_size]; split <;> omega
  have s4 := two_size t
  have HI := Lib.hid I
  have HT := Lib.hid T
  have HY := Lib.hid Y
  clear I T Y h1 h2 h3 h4 h5 h
  generalize tagS v p = X at *
  generalize two t = Z at *
  have s5 := Nat.le_of_eq s4
  have hk' : decide (1518 < d.size + r.size + X.size + Z.size + b.size) = k := by rw [s4]; exact hk
  have HK := Lib.hid hk'
  clear hk hk' s4
  have q1 : ¬ 9223372036854775807 < d.size + r.size := by omega
  have q2 : ¬ 9223372036854775807 < d.size + r.size + X.size := by omega
  have q3 : ¬ 9223372036854775807 < d.size + r.size + X.size + Z.size := by omega
  go_enter Try.func21, Try.ntmps21
  go_wp2_with fail
  refine (HI.out _).mono ?_
  rintro e w1 ⟨rfl, hb1⟩
  have hS := (Six.new w d r v p t b).next hb1
  have c0 := hS.cells
  have c1 := hS.drew.cells
  obtain ⟨i0, i1, i2, i3, i4, i5, _⟩ := hS.cells
  clear hb1
  go_wp2_with fail
  go_region_held3 (fun w' => w'.cell? ⟨w.heap.size, 0, none⟩ = some (.string d) ∧ w'.cell? ⟨w.heap.size, 1, none⟩ = some (.string r) ∧ w'.cell? ⟨w.heap.size, 2, none⟩ = some (.int .i64 v) ∧
    w'.cell? ⟨w.heap.size, 3, none⟩ = some (.int .i64 p) ∧ w'.cell? ⟨w.heap.size, 4, none⟩ = some (.int .i64 t) ∧ w'.cell? ⟨w.heap.size, 5, none⟩ = some (.string b) ∧ Six w d r v p t b w')
    (first | exact c0 | exact c1 | assumption | exact six_next (by assumption) hq)
    (first
      | (go_at_call 53; ((with_reducible refine (HT.out _).mono ?_); rintro e w' ⟨rfl, hq⟩))
      | (go_at_call 54; ((with_reducible refine (HY.out _).mono ?_); rintro e w' ⟨rfl, hq⟩)))
  rename_i hH
  obtain ⟨j0, j1, j2, j3, j4, j5, hE⟩ := hH
  have hsz : (d ++ r ++ X ++ Z).size = d.size + r.size + X.size + Z.size := by simp [ByteArray.size_append]
  have hsz2 : (d ++ r ++ X ++ Z).size ≤ 18 := by omega
  have hlen : decide (1518 < (d ++ r ++ X ++ Z).size + b.size) = k := by rw [hsz]; exact HK.out
  clear hsz q1 q2 q3 i0 i1 i2 i3 i4 i5 c0 c1 hS j0 j1 j2 j3 j4
  generalize hHD : d ++ r ++ X ++ Z = HD at *
  have HE := Lib.hid hHD
  clear hHD
  cases k
  · have hn : HD.size + b.size ≤ 1518 := by have := of_decide_eq_false hlen; omega
    clear hlen
    go_wp2_with fail
    go_ret2
    have hd := HE.out
    subst hd
    exact ⟨rfl, hE.below⟩
  · have hn : 1518 < HD.size + b.size := of_decide_eq_true hlen
    clear hlen
    go_wp2_with fail
    go_ret2
    exact ⟨rfl, hE.below⟩
theorem build_any (f : Fr) (w : World) (hb : f.b.size ≤ 140737488351232) :
    Calls Try.prog 21 #[.agg #[.string f.d, .string f.r, .int .i64 f.v, .int .i64 f.p, .int .i64 f.t, .string f.b]] w fun e w' => e = .returned (.tuple #[.string (buildS f), .int .i64 (buildE f)]) ∧ Below w.heap.size w w' := by
  cases h : frameB f
  · have e1 : buildS f = ⟨#[]⟩ := by rw [buildS, if_neg (by rw [h]; simp)]
    have e2 : buildE f = 61 := by rw [buildE, if_neg (by rw [h]; simp)]
    rw [e1, e2]
    exact build_bad f w h
  · refine (build_good f w h hb _ rfl).mono fun e w' ⟨he, hw⟩ => ⟨?_, hw⟩
    rw [he]
    by_cases hl : f.d.size + f.r.size + (tagS f.v f.p).size + 2 + f.b.size ≤ 1518
    · have e1 : buildS f = f.d ++ f.r ++ tagS f.v f.p ++ two f.t ++ f.b := by rw [buildS, if_pos ⟨h, hl⟩]
      have e2 : buildE f = 0 := by rw [buildE, if_pos ⟨h, hl⟩]
      rw [e1, e2, decide_eq_false (by omega)]; rfl
    · have e1 : buildS f = ⟨#[]⟩ := by rw [buildS, if_neg (fun x => hl x.2)]
      have e2 : buildE f = 61 := by rw [buildE, if_neg (fun x => hl x.2)]
      rw [e1, e2, decide_eq_true (by omega)]; rfl
end Go.Proofs.Ytalkpllmcigjnaa

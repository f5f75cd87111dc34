/-
  What the deferred closure of read does to a frame that panics with the reader's own panic, and to one that returns; no condition.
-/
import Derived.Test.YtboinnejkghfiaaTake
namespace Go.Proofs.Ytboinnejkghfiaa
open Go.RowKit
/-! A block known whole -/
def Blk (w : World) (g : Nat) (t : TypeId) (cs : Array Value) : Prop := w.heap[g]? = some (.cells cs t (0, 0))
section
variable {w w' : World} {g : Nat} {t : TypeId} {cs : Array Value}
theorem Blk.lt (h : Blk w g t cs) : g < w.heap.size := by
  rcases Nat.lt_or_ge g w.heap.size with hlt | hge
  · exact hlt
  · unfold Blk at h; rw [Array.getElem?_eq_none hge] at h; cases h
theorem Blk.cell (h : Blk w g t cs) (i : Nat) : w.cell? ⟨g, i, none⟩ = cs[i]? := cell_of_row w g i cs t (0, 0) h
theorem Blk.frozen (h : Blk w g t cs) (i : Nat) : w.frozen? ⟨g, i, none⟩ = false := by
  unfold Blk at h
  simp [World.frozen?, h]
theorem Blk.new (w : World) (t : TypeId) (cs : Array Value) : Blk (w.alloc (.cells cs t)) w.heap.size t cs := heap_alloc_new w _
theorem Blk.alloc (h : Blk w g t cs) (o : Obj) : Blk (w.alloc o) g t cs := (Below.heap_alloc w o g h.lt).trans h
theorem Blk.put (h : Blk w g t cs) (i : Nat) (u : Value) : Blk (w.setCell ⟨g, i, none⟩ u) g t (cs.setIfInBounds i u) := by
  unfold Blk at h ⊢
  simp [World.setCell, Array.getElem?_modify, h]
theorem Blk.other (h : Blk w g t cs) {k : Nat} (hk : g ≠ k) (i : Nat) (u : Value) : Blk (w.setCell ⟨k, i, none⟩ u) g t cs := (Below.heap_setCell w _ u g hk).trans h
theorem Blk.same (h : Blk w g t cs) (hb : w'.heap[g]? = w.heap[g]?) : Blk w' g t cs := hb.trans h
end
/-- The six cells of a frame. -/
def ethC (d r : ByteArray) (v p t : Int) (b : ByteArray) : Array Value := #[.string d, .string r, .int .i64 v, .int .i64 p, .int .i64 t, .string b]
theorem assert_short (W : World) : (Instr.typeAssert (.iface 67 (.agg #[])) 20 67 true).run Try.prog W = .ok (.tuple #[.agg #[], .bool true]) W := by kernel_rfl
set_option maxHeartbeats 800000 in
theorem catch_panicking (B gf ge : Nat) (older : List PanicEntry) (w0 w : World) (hne : gf ≠ ge) (hB : B ≤ gf) (hB' : B ≤ ge) (c0 c1 c2 c3 c4 c5 c6 : Value)
    (hF : Blk w gf 49 #[c0, c1, c2, c3, c4, c5]) (hE : Blk w ge 28 #[c6]) (hb : Below B w0 w) :
    CallsD Try.prog 50 #[.pointer (some ⟨gf, 0, none⟩), .pointer (some ⟨ge, 0, none⟩)] (.panicking ({ v := shortV, recovered := false } :: older)) w fun e u' w' =>
      e = .returned (.tuple #[]) ∧ u' = .panicking ({ v := shortV, recovered := true } :: older) ∧ Blk w' gf 49 (ethC ⟨#[]⟩ ⟨#[]⟩ 0 0 0 ⟨#[]⟩) ∧ Blk w' ge 28 #[.int .i64 60] ∧ Below B w0 w' := by
  have hgf := hF.lt
  have hge := hE.lt
  have h0 := hF.cell 0
  have h1 := hF.cell 1
  have h2 := hF.cell 2
  have h3 := hF.cell 3
  have h4 := hF.cell 4
  have h5 := hF.cell 5
  have h6 := hE.cell 0
  have f0 := hF.frozen
  have f1 := hE.frozen 0
  have hn : w.heap.size ≠ gf := by omega
  have hm : w.heap.size ≠ ge := by omega
  have KF := Lib.hid hF
  have KE := Lib.hid hE
  have KB := Lib.hid hb
  clear hF hE hb
  refine callsD_of_wpS Try.func50 rfl fun c₀ cs hu => ?_
  unfold shortV at *
  apply wpS_seq
  apply wpS_region
  simp [wpOpsS, go_sem, recoverD, hu, Try.ntmps50, Exit.thenS]
  refine wpS_of_wp ?_
  change Code.wp _ _ _ { tmps := #[Value.pointer (some { block := gf, off := 0 }), Value.pointer (some { block := ge, off := 0 }), undef, undef, undef, Value.iface 67 (Value.agg #[]), undef, undef, undef, undef, undef, undef], defers := [] } w
  have ha := assert_short
  go_wp2
  refine ⟨rfl, _, rfl, .tuple #[], by simp [results, Try.results50], rfl, rfl, ?_, ?_, ?_⟩
  · have k := ((((((KF.out.put 0 (.string ⟨#[]⟩)).put 1 (.string ⟨#[]⟩)).put 2 (.int .i64 0)).put 3 (.int .i64 0)).put 4 (.int .i64 0)).put 5 (.string ⟨#[]⟩))
    exact (k.other hne 0 (.int .i64 60)).alloc _
  · have k := ((((((KE.out.other hne.symm 0 (.string ⟨#[]⟩)).other hne.symm 1 (.string ⟨#[]⟩)).other hne.symm 2 (.int .i64 0)).other hne.symm 3 (.int .i64 0)).other hne.symm 4 (.int .i64 0)).other hne.symm 5 (.string ⟨#[]⟩))
    exact (k.put 0 (.int .i64 60)).alloc _
  · exact (((((((KB.out.setCell hB _).setCell hB _).setCell hB _).setCell hB _).setCell hB _).setCell hB _).setCell hB' _).alloc (by simp; omega) _
theorem catch_idle (gf ge : Nat) (w : World) :
    CallsD Try.prog 50 #[.pointer (some ⟨gf, 0, none⟩), .pointer (some ⟨ge, 0, none⟩)] .returning w fun e u' w' => e = .returned (.tuple #[]) ∧ u' = .returning ∧ w' = w := by
  refine callsD_of_wpS Try.func50 rfl fun c₀ cs hu => ?_
  apply wpS_seq
  apply wpS_region
  simp [wpOpsS, go_sem, recoverD, hu, Try.ntmps50, Exit.thenS]
  refine wpS_of_wp ?_
  change Code.wp _ _ _ { tmps := #[Value.pointer (some { block := gf, off := 0 }), Value.pointer (some { block := ge, off := 0 }), undef, undef, undef, Value.nilIface, undef, undef, undef, undef, undef, undef], defers := [] } w
  go_wp2
  cases c₀
  simp_all [bodyPostS, results, Try.results50]
end Go.Proofs.Ytboinnejkghfiaa

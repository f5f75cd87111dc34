/-
  What gmem's record leaves where the log is full: the oldest access gives way.
-/
import Derived.Test.YtbpgblmhacpjlaaGm2
namespace Go.Proofs.Ytbpgblmhacpjlaa
open Go.RowKit

/-- the store of an access into the log's row -/
def put4 (w : World) (gl k : Nat) (x : Acc) : World :=
  (((w.setCell ⟨gl, k, none⟩ (.int .i64 x.ag)).setCell ⟨gl, k + 1, none⟩ (.int .i64 x.at_)).setCell ⟨gl, k + 2, none⟩ (.int .i64 x.n)).setCell ⟨gl, k + 3, none⟩ (.bool x.wr)
theorem put4_heap (w : World) (gl k : Nat) (x : Acc) (j : Nat) (hj : j ≠ gl) : (put4 w gl k x).heap[j]? = w.heap[j]? := by
  unfold put4
  rw [Below.heap_setCell _ _ _ _ hj, Below.heap_setCell _ _ _ _ hj, Below.heap_setCell _ _ _ _ hj, Below.heap_setCell _ _ _ _ hj]
theorem put4_row (w : World) (gl k : Nat) (x : Acc) (t : TypeId) (cs : Array Value) (h : Blk w gl t cs) :
    Blk (put4 w gl k x) gl t ((((cs.setIfInBounds k (.int .i64 x.ag)).setIfInBounds (k + 1) (.int .i64 x.at_)).setIfInBounds (k + 2) (.int .i64 x.n)).setIfInBounds (k + 3) (.bool x.wr)) :=
  (((h.put k _).put (k + 1) _).put (k + 2) _).put (k + 3) _
theorem put4_all (w : World) (gl k : Nat) (x : Acc) (o : Obj) : (((put4 w gl k x).alloc o).drew).os = w.os ∧ (((put4 w gl k x).alloc o).drew).tape = w.tape ∧ (((put4 w gl k x).alloc o).drew).output = w.output ∧ (((put4 w gl k x).alloc o).drew).heap.size = w.heap.size + 1 := by
  refine ⟨rfl, rfl, rfl, ?_⟩
  simp [World.setCell, put4]
theorem noted_full {B g gb gl cap : Nat} {xs : List UInt8} {ag : Int} {lg : List Acc} {old : Nat} {x : Acc} {w W : World} {o : Obj} (h : MemR B g gb (.slice (some ⟨gl, 0, none⟩) lg.length cap) xs ag lg old w) (hl : lg.length = 4096) (ho : old < 4096)
    (hW : ((put4 w gl (old * 4) x).alloc o).drew = W) : (W.cell? ⟨g, 3, none⟩ = some (.int .i64 (old : Int)) ∧ W.frozen? ⟨g, 3, none⟩ = false) ∧
    ∀ n : Nat, n < 4096 → Noted B g gb (.slice (some ⟨gl, 0, none⟩) lg.length cap) xs w (W.setCell ⟨g, 3, none⟩ (.int .i64 (n : Int))) := by
  have hg := h.blk.lt
  have hgb := h.row.lt
  have hgl : (Value.slice (some ⟨gl, 0, none⟩) lg.length cap).ownBlock = some gl := rfl
  have n1 : gl ≠ g := fun e => h.lne (by rw [hgl, e])
  have n2 : gl ≠ gb := fun e => h.lneb (by rw [hgl, e])
  have hlt := (h.lge hgl).2
  obtain ⟨p1, p2, p3, p4⟩ := put4_all w gl (old * 4) x o
  rw [hW] at p1 p2 p3 p4
  have hsz : (put4 w gl (old * 4) x).heap.size = w.heap.size := by simp [World.setCell, put4]
  have s0 : ∀ k, k < w.heap.size → W.heap[k]? = (put4 w gl (old * 4) x).heap[k]? := fun k hk => by
    rw [← hW]; exact Below.heap_alloc _ o k (by rw [hsz]; exact hk)
  have s1 : ∀ k, k < w.heap.size → k ≠ gl → W.heap[k]? = w.heap[k]? := fun k hk h2 => (s0 k hk).trans (put4_heap _ _ _ _ _ h2)
  have s : ∀ (n : Nat) k, k < w.heap.size → k ≠ g → k ≠ gl → (W.setCell ⟨g, 3, none⟩ (.int .i64 (n : Int))).heap[k]? = w.heap[k]? := fun n k hk h1 h2 => (Below.heap_setCell _ _ _ _ h1).trans (s1 k hk h2)
  have hgW := h.blk.same (s1 g hg (Ne.symm n1))
  refine ⟨⟨hgW.cell 3, hgW.frozen 3⟩, fun n hn => ⟨.slice (some ⟨gl, 0, none⟩) lg.length cap, ⟨ag, lg.set old x, n, h.hB, h.hBb, ?_, ?_, ?_, h.len, h.pos, by rw [List.length_set]; exact h.most, .inr ⟨by rw [List.length_set]; exact hl, hn⟩⟩, ?_, fun k hk => .inl hk⟩⟩
  · have := hgW.put 3 (.int .i64 (n : Int))
    simpa using this
  · exact h.row.same (s n gb hgb h.ne.symm (Ne.symm n2))
  · rw [List.length_set]
    refine ⟨by rw [logCells_length, List.length_set], .inr ?_⟩
    rcases h.log.2 with ⟨h', _⟩ | ⟨g', cap', cur, h', hB, hh, h3, h4, h5, h6⟩
    · simp at h'
    · simp only [Value.slice.injEq, Option.some.injEq, Addr.mk.injEq, and_true, true_and] at h'
      obtain ⟨rfl, rfl⟩ := h'
      have hh2 := put4_row w gl (old * 4) x 141 cur hh
      have hh3 : Blk (W.setCell ⟨g, 3, none⟩ (.int .i64 (n : Int))) gl 141 _ := (hh2.same (s0 gl hlt)).other n1 3 _
      refine ⟨gl, cap, _, rfl, hB, hh3, h3, h4, by simpa using h5, ?_⟩
      have hk : old * 4 + 3 < lg.length * 4 := by omega
      rw [← logCells_set lg old x (by omega), ← h6]
      simp only [Array.toList_setIfInBounds, List.take_set]
  · exact ⟨p1, p2, p3, (by rw [show (W.setCell ⟨g, 3, none⟩ (.int .i64 (n : Int))).heap.size = W.heap.size by simp [World.setCell], p4]; omega), fun k hk a _ c => s n k hk a (fun e => c (by rw [hgl, e]))⟩

set_option maxRecDepth 100000 in
set_option maxHeartbeats 1000000 in
theorem record_full {B g gb : Nat} {lv : Value} {xs : List UInt8} {ag : Int} {lg : List Acc} {old : Nat} {w : World} (h : MemR B g gb lv xs ag lg old w) (a n : Int) (wr : Bool) (hn : n ≠ 0) (hl : lg.length = 4096) (ho : old < 4096) :
    Calls Try.prog 51 #[.pointer (some ⟨g, 0, none⟩), .int .i64 a, .int .i64 n, .bool wr] w fun e w' => e = .returned (.tuple #[]) ∧ Noted B g gb lv xs w w' := by
  have hn0 : (n == 0) = false := by simpa using hn
  clear hn
  obtain ⟨gl, cap, rfl, hge, hltl⟩ := h.log.form (by omega)
  have hgl : (Value.slice (some ⟨gl, 0, none⟩) lg.length cap).ownBlock = some gl := rfl
  have n1 : gl ≠ g := fun e => h.lne (by rw [hgl, e])
  have HF := Lib.hid (fun W o => noted_full (x := ⟨ag, a, n, wr⟩) (W := W) (o := o) h hl ho)
  have hcell : ∀ j, j < lg.length * 4 → ∃ u, w.cell? ⟨gl, j, none⟩ = some u := by
    intro j hj
    have hc := h.log.cells (g := gl) rfl
    have hlen := logCells_length lg
    refine ⟨(logCells lg)[j]'(by omega), ?_⟩
    have := hc j _ (List.getElem?_eq_getElem (by omega))
    have e : (⟨gl, 0, none⟩ : Addr).add j = ⟨gl, j, none⟩ := by unfold Addr.add; split <;> simp_all
    rwa [e] at this
  have hfz : ∀ j, w.frozen? ⟨gl, j, none⟩ = false := by
    intro j
    rcases h.log.2 with ⟨h', _⟩ | ⟨g', cap', cur, h', hB, hh, h3, h4, h5, h6⟩
    · simp at h'
    · simp only [Value.slice.injEq, Option.some.injEq, Addr.mk.injEq, and_true, true_and] at h'
      obtain ⟨rfl, rfl⟩ := h'
      exact (show Blk w gl 141 cur from hh).frozen j
  obtain ⟨u0, q0⟩ := hcell (old * 4) (by omega)
  obtain ⟨u1, q1⟩ := hcell (old * 4 + 1) (by omega)
  obtain ⟨u2, q2⟩ := hcell (old * 4 + 2) (by omega)
  obtain ⟨u3, q3⟩ := hcell (old * 4 + 3) (by omega)
  have z0 := hfz (old * 4)
  have z1 := hfz (old * 4 + 1)
  have z2 := hfz (old * 4 + 2)
  have z3 := hfz (old * 4 + 3)
  have hc1 := h.c1
  have hc2 := h.c2
  have hc3 := h.c3
  have hf := h.fz 2
  have hf3 := h.fz 3
  have hlt := h.blk.lt
  have hne := Nat.ne_of_lt hlt
  have hnel := Nat.ne_of_lt hltl
  rw [hl] at hc2
  clear hcell hfz h hgl hge
  go_enter Try.func51, Try.ntmps51
  go_wp2
  go_region
  obtain ⟨W, hW⟩ : ∃ W, ((put4 w gl (old * 4) ⟨ag, a, n, wr⟩).alloc (.cells #[.int .i64 ag, .int .i64 a, .int .i64 n, .bool wr] 141)).drew = W := ⟨_, rfl⟩
  obtain ⟨⟨c3, f3⟩, HN⟩ := HF.out W _ hW
  have HN := Lib.hid HN
  simp only [put4] at hW
  rw [hW]
  clear hW
  clear q0 q1 q2 q3 z0 z1 z2 z3 hc1 hc2 hc3 hf hf3 HF
  go_wp2
  go_end0
  refine ⟨rfl, ?_⟩
  have e : ((old : Int) + 1) % 4096 = (((old + 1) % 4096 : Nat) : Int) := by omega
  (rw [e]; exact HN.out _ (by omega))
theorem record_m {B g gb : Nat} {lv : Value} {xs : List UInt8} {w : World} (h : Mem B g gb lv xs w) (a n : Int) (wr : Bool) :
    Calls Try.prog 51 #[.pointer (some ⟨g, 0, none⟩), .int .i64 a, .int .i64 n, .bool wr] w fun e w' => e = .returned (.tuple #[]) ∧ Noted B g gb lv xs w w' := by
  by_cases hn : n = 0
  · subst hn
    exact record_none h a wr
  · obtain ⟨ag, lg, old, h⟩ := h
    by_cases hl : lg.length < 4096
    · exact record_some h a n wr hn hl
    · have hm := h.most
      refine record_full h a n wr hn (by omega) ?_
      rcases h.full with e | e
      · omega
      · exact e.2
end Go.Proofs.Ytbpgblmhacpjlaa

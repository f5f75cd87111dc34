/-
  A guest's memory as it lies in the program's memory: its block, its row of bytes, its log; what keeps it; no condition.
-/
import Derived.Test.YtjcnjigmeopllaaPut
import Derived.Deep.AppendLies
import Derived.Deep.Draws
import Derived.Laws.CopyOwn
namespace Go.Proofs.Ytjcnjigmeopllaa
open Go.RowKit

/-! A block known whole -/
def Blk (w : World) (g : Nat) (t : TypeId) (cs : Array Value) : Prop := w.heap[g]? = some (.cells cs t (0, 0))
section
variable {w w' : World} {g : Nat} {t : TypeId} {cs : Array Value}
theorem Blk.lt (h : Blk w g t cs) : g < w.heap.size := by
  rcases Nat.lt_or_ge g w.heap.size with hlt | hge
  · exact hlt
  · unfold Blk at h; rw [Array.getElem?_eq_none hge] at h; cases h
theorem Blk.cell (h : Blk w g t cs) (i : Nat) : w.cell? ⟨g, i, none⟩ = cs[i]? := cell_of_row w g i cs t (0, 0) h
theorem Blk.frozen (h : Blk w g t cs) (i : Nat) : w.frozen? ⟨g, i, none⟩ = false := by
  unfold Blk at h
  simp [World.frozen?, h]
theorem Blk.new (w : World) (t : TypeId) (cs : Array Value) : Blk (w.alloc (.cells cs t)) w.heap.size t cs := heap_alloc_new w _
theorem Blk.drew (h : Blk w g t cs) : Blk w.drew g t cs := h
theorem Blk.alloc (h : Blk w g t cs) (o : Obj) : Blk (w.alloc o) g t cs := (Below.heap_alloc w o g h.lt).trans h
theorem Blk.put (h : Blk w g t cs) (i : Nat) (u : Value) : Blk (w.setCell ⟨g, i, none⟩ u) g t (cs.setIfInBounds i u) := by
  unfold Blk at h ⊢
  simp [World.setCell, Array.getElem?_modify, h]
theorem Blk.same (h : Blk w g t cs) (hb : w'.heap[g]? = w.heap[g]?) : Blk w' g t cs := hb.trans h
theorem Blk.ne {g' : Nat} {t' : TypeId} {cs' : Array Value} (h : Blk w g t cs) (h' : Blk w g' t' cs') (hne : t ≠ t') : g ≠ g' := by
  rintro rfl
  unfold Blk at h h'
  rw [h] at h'
  injection h' with h'
  injection h' with _ ht
  exact hne ht
theorem own_ne {base : Nat} {e : TypeId} {size n : Nat} {v : Value} {xs : List Value} (h : w.ownsRow base e size v n xs) (hg : Blk w g t cs) (hne : e ≠ t) : v.ownBlock ≠ some g := by
  rcases h.2 with ⟨rfl, _⟩ | ⟨g', cap, cur, rfl, _, hh, _⟩
  · simp [Value.ownBlock]
  · intro he
    have : g' = g := by simpa [Value.ownBlock] using he
    subst this
    exact Blk.ne (t := e) hh hg hne rfl
theorem own_same {base : Nat} {e : TypeId} {size n : Nat} {v : Value} {xs : List Value} (h : w.ownsRow base e size v n xs) (hb : ∀ k, v.ownBlock = some k → w'.heap[k]? = w.heap[k]?) : w'.ownsRow base e size v n xs := by
  refine ⟨h.1, ?_⟩
  rcases h.2 with hn | ⟨g, cap, cur, rfl, h1, hgg, rest⟩
  · exact .inl hn
  · exact .inr ⟨g, cap, cur, rfl, h1, (hb g rfl).trans hgg, rest⟩
end

/-- An access. -/
structure Acc where
  ag : Int
  at_ : Int
  n : Int
  wr : Bool
def accCells (a : Acc) : List Value := [.int .i64 a.ag, .int .i64 a.at_, .int .i64 a.n, .bool a.wr]
def logCells (l : List Acc) : List Value := l.flatMap accCells
theorem logCells_append (l m : List Acc) : logCells (l ++ m) = logCells l ++ logCells m := by simp [logCells]
theorem logCells_length (l : List Acc) : (logCells l).length = l.length * 4 := by
  induction l with
  | nil => rfl
  | cons a l ih => simp only [logCells, List.flatMap_cons, List.length_append, List.length_cons] at ih ⊢; rw [ih]; simp [accCells]; omega

/-- The memory behind a pointer: its block g, its bytes' block gb, its log's value lv. -/
structure Mem (B g gb : Nat) (lv : Value) (xs : List UInt8) (ag : Int) (lg : List Acc) (w : World) : Prop where
  hB : B ≤ g
  hBb : B ≤ gb
  blk : Blk w g 60 #[.slice (some ⟨gb, 0, none⟩) xs.length xs.length, .int .i64 ag, lv, .int .i64 0]
  row : Blk w gb 5 (xs.map byteV).toArray
  log : w.ownsRow B 44 4 lv lg.length (logCells lg)
  len : xs.length ≤ 1048576
  pos : 0 < xs.length

/-- Nothing but a memory's own blocks is another one. -/
structure Touch (g gb : Nat) (lv : Value) (w w' : World) : Prop where
  os : w'.os = w.os
  tape : w'.tape = w.tape
  output : w'.output = w.output
  size : w.heap.size ≤ w'.heap.size
  block : ∀ k, k < w.heap.size → k ≠ g → k ≠ gb → lv.ownBlock ≠ some k → w'.heap[k]? = w.heap[k]?

section
variable {B g gb : Nat} {lv : Value} {xs : List UInt8} {ag : Int} {lg : List Acc} {w w' : World}
theorem Mem.ne (h : Mem B g gb lv xs ag lg w) : g ≠ gb := h.blk.ne h.row (by decide)
theorem Mem.lne (h : Mem B g gb lv xs ag lg w) : lv.ownBlock ≠ some g := own_ne h.log h.blk (by decide)
theorem Mem.lneb (h : Mem B g gb lv xs ag lg w) : lv.ownBlock ≠ some gb := own_ne h.log h.row (by decide)
theorem Mem.lge (h : Mem B g gb lv xs ag lg w) {k : Nat} (hk : lv.ownBlock = some k) : B ≤ k ∧ k < w.heap.size := h.log.lt k hk
theorem Mem.base (h : Mem B g gb lv xs ag lg w) : B ≤ w.heap.size := by have := h.hB; have := h.blk.lt; omega
theorem Mem.c0 (h : Mem B g gb lv xs ag lg w) : w.cell? ⟨g, 0, none⟩ = some (.slice (some ⟨gb, 0, none⟩) xs.length xs.length) := h.blk.cell 0
theorem Mem.c1 (h : Mem B g gb lv xs ag lg w) : w.cell? ⟨g, 1, none⟩ = some (.int .i64 ag) := h.blk.cell 1
theorem Mem.c2 (h : Mem B g gb lv xs ag lg w) : w.cell? ⟨g, 2, none⟩ = some lv := h.blk.cell 2
theorem Mem.c3 (h : Mem B g gb lv xs ag lg w) : w.cell? ⟨g, 3, none⟩ = some (.int .i64 0) := h.blk.cell 3
theorem Mem.fz (h : Mem B g gb lv xs ag lg w) (i : Nat) : w.frozen? ⟨g, i, none⟩ = false := h.blk.frozen i
theorem Mem.byte (h : Mem B g gb lv xs ag lg w) (j : Nat) (hj : j < xs.length) : w.cell? ⟨gb, j, none⟩ = some (byteV xs[j]) := by
  rw [h.row.cell j]; simp [hj]
theorem Mem.drew (h : Mem B g gb lv xs ag lg w) : Mem B g gb lv xs ag lg w.drew := ⟨h.hB, h.hBb, h.blk, h.row, h.log, h.len, h.pos⟩
/-- Whatever leaves its three blocks alone leaves it. -/
theorem Mem.kept (h : Mem B g gb lv xs ag lg w) (h1 : w'.heap[g]? = w.heap[g]?) (h2 : w'.heap[gb]? = w.heap[gb]?) (h3 : ∀ k, lv.ownBlock = some k → w'.heap[k]? = w.heap[k]?) : Mem B g gb lv xs ag lg w' :=
  ⟨h.hB, h.hBb, h.blk.same h1, h.row.same h2, own_same h.log h3, h.len, h.pos⟩
theorem Mem.below {n : Nat} (h : Mem B g gb lv xs ag lg w) (hb : Below n w w') (hn : w.heap.size ≤ n) : Mem B g gb lv xs ag lg w' :=
  h.kept (hb.block g (by have := h.blk.lt; omega)) (hb.block gb (by have := h.row.lt; omega)) (fun k hk => hb.block k (by have := (h.lge hk).2; omega))
theorem Touch.refl : Touch g gb lv w w := ⟨rfl, rfl, rfl, Nat.le_refl _, fun _ _ _ _ _ => rfl⟩
theorem Touch.of_below (hb : Below w.heap.size w w') : Touch g gb lv w w' := ⟨hb.os, hb.tape, hb.output, hb.size, fun k hk _ _ _ => hb.block k hk⟩
theorem Touch.under (h : Mem B g gb lv xs ag lg w) (ht : Touch g gb lv w w') : Below B w w' :=
  ⟨ht.os, ht.tape, ht.output, ht.size, fun k hk => ht.block k (by have := h.base; omega) (by have := h.hB; omega) (by have := h.hBb; omega) (fun e => by have := (h.lge e).1; omega)⟩
/-- Two steps, of which the first may have laid a new log. -/
theorem Touch.trans {lv1 : Value} {w1 : World} (h1 : Touch g gb lv w w1) (h2 : Touch g gb lv1 w1 w') (hl : ∀ k, lv1.ownBlock = some k → lv.ownBlock = some k ∨ w.heap.size ≤ k) : Touch g gb lv w w' :=
  ⟨h2.os.trans h1.os, h2.tape.trans h1.tape, h2.output.trans h1.output, Nat.le_trans h1.size h2.size, fun k hk a b c =>
    (h2.block k (by have := h1.size; omega) a b (fun e => by rcases hl k e with e | e; exact c e; omega)).trans (h1.block k hk a b c)⟩
theorem Touch.drew (h : Touch g gb lv w w') : Touch g gb lv w w'.drew := ⟨h.os, h.tape, h.output, h.size, h.block⟩
end

/-- One memory of the call's own, for the laws' walks. -/
def M (w0 : World) (g : Nat) (xs : List UInt8) (ag : Int) (lg : List Acc) (w : World) : Prop :=
  ∃ gb lv, Mem w0.heap.size g gb lv xs ag lg w ∧ Below w0.heap.size w0 w
theorem M.below {w0 w w' : World} {g : Nat} {xs : List UInt8} {ag : Int} {lg : List Acc} (h : M w0 g xs ag lg w) (hb : Below w.heap.size w w') : M w0 g xs ag lg w' := by
  obtain ⟨gb, lv, hm, hl⟩ := h
  exact ⟨gb, lv, hm.below hb (Nat.le_refl _), hl.trans (hb.mono hm.base)⟩
theorem M.under {w0 w : World} {g : Nat} {xs : List UInt8} {ag : Int} {lg : List Acc} (h : M w0 g xs ag lg w) : Below w0.heap.size w0 w := by
  obtain ⟨gb, lv, hm, hl⟩ := h
  exact hl
theorem M.drew {w0 w : World} {g : Nat} {xs : List UInt8} {ag : Int} {lg : List Acc} (h : M w0 g xs ag lg w) : M w0 g xs ag lg w.drew := by
  obtain ⟨gb, lv, hm, hl⟩ := h
  exact ⟨gb, lv, hm.drew, hl.drew⟩

theorem Try.info44 : (Try.prog.info? 44).map (fun i => (i.zero, i.size, i.bytes)) = some (some (.agg #[.int .i64 0, .int .i64 0, .int .i64 0, .bool false]), 4, 32) := by kernel_rfl
end Go.Proofs.Ytjcnjigmeopllaa

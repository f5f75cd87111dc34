/-
  A block known whole; a variable in its block, all else as it was; no condition.
-/
import Derived.Test.YtbpgblmhacpjlaaBytes
namespace Go.Proofs.Ytbpgblmhacpjlaa
open Go.RowKit

def Blk (w : World) (g : Nat) (t : TypeId) (cs : Array Value) : Prop := w.heap[g]? = some (.cells cs t (0, 0))
section
variable {w w' : World} {g : Nat} {t : TypeId} {cs : Array Value}
theorem Blk.lt (h : Blk w g t cs) : g < w.heap.size := by
  rcases Nat.lt_or_ge g w.heap.size with hlt | hge
  · exact hlt
  · unfold Blk at h; rw [Array.getElem?_eq_none hge] at h; cases h
theorem Blk.cell (h : Blk w g t cs) (i : Nat) : w.cell? ⟨g, i, none⟩ = cs[i]? := cell_of_row w g i cs t (0, 0) h
theorem Blk.frozen (h : Blk w g t cs) (i : Nat) : w.frozen? ⟨g, i, none⟩ = false := by
  unfold Blk at h
  simp [World.frozen?, h]
theorem Blk.new (w : World) (t : TypeId) (cs : Array Value) : Blk (w.alloc (.cells cs t)) w.heap.size t cs := heap_alloc_new w _
theorem Blk.alloc (h : Blk w g t cs) (o : Obj) : Blk (w.alloc o) g t cs := (Below.heap_alloc w o g h.lt).trans h
theorem Blk.put (h : Blk w g t cs) (i : Nat) (u : Value) : Blk (w.setCell ⟨g, i, none⟩ u) g t (cs.setIfInBounds i u) := by
  unfold Blk at h ⊢
  simp [World.setCell, Array.getElem?_modify, h]
theorem Blk.other (h : Blk w g t cs) {k : Nat} (hk : g ≠ k) (i : Nat) (u : Value) : Blk (w.setCell ⟨k, i, none⟩ u) g t cs := (Below.heap_setCell w _ u g hk).trans h
theorem Blk.same (h : Blk w g t cs) (hb : w'.heap[g]? = w.heap[g]?) : Blk w' g t cs := hb.trans h
end
/-- A variable in its block, and all else as it was. -/
structure Held (w0 : World) (t : TypeId) (cs : Array Value) (w : World) : Prop where
  blk : Blk w w0.heap.size t cs
  below : Below w0.heap.size w0 w
theorem Held.new (w : World) (t : TypeId) (cs : Array Value) : Held w t cs (w.alloc (.cells cs t)) := ⟨Blk.new w t _, (Below.refl _ _).alloc (Nat.le_refl _) _⟩
theorem Held.next {w w1 w' : World} {t : TypeId} {cs : Array Value} (h : Held w t cs w1) (hq : Below w1.heap.size w1 w') : Held w t cs w' :=
  ⟨h.blk.same (hq.block _ h.blk.lt), h.below.trans (hq.mono (by have := h.blk.lt; omega))⟩
theorem Held.drew {w w1 : World} {t : TypeId} {cs : Array Value} (h : Held w t cs w1) : Held w t cs w1.drew := ⟨h.blk, h.below.drew⟩
theorem bl {n : Nat} {w w1 w2 : World} (h : Below n w w1) (hn : n ≤ w1.heap.size) (hq : Below w1.heap.size w1 w2) : Below n w w2 := h.trans (hq.mono hn)
theorem b0 {w w1 w2 : World} (h : Below w.heap.size w w1) (hq : Below w1.heap.size w1 w2) : Below w.heap.size w w2 := h.trans (hq.mono h.size)
theorem ba {w w1 : World} (h : Below w.heap.size w w1) (o : Obj) : Below w.heap.size w (w1.alloc o) := h.alloc h.size o
/-- a variable of four cells, its cells said one by one -/
def H4 (w : World) (t : TypeId) (a b c d : Value) (w' : World) : Prop :=
  (w'.cell? ⟨w.heap.size, 0, none⟩ = some a ∧ w'.cell? ⟨w.heap.size, 1, none⟩ = some b ∧ w'.cell? ⟨w.heap.size, 2, none⟩ = some c ∧ w'.cell? ⟨w.heap.size, 3, none⟩ = some d) ∧ Held w t #[a, b, c, d] w'
theorem H4.of {w w' : World} {t : TypeId} {a b c d : Value} (h : Held w t #[a, b, c, d] w') : H4 w t a b c d w' :=
  ⟨⟨h.blk.cell 0, h.blk.cell 1, h.blk.cell 2, h.blk.cell 3⟩, h⟩
theorem H4.new (w : World) (t : TypeId) (a b c d : Value) : H4 w t a b c d (w.alloc (.cells #[a, b, c, d] t)) := H4.of (Held.new w t _)
theorem H4.next {w w1 w' : World} {t : TypeId} {a b c d : Value} (h : H4 w t a b c d w1) (hq : Below w1.heap.size w1 w') : H4 w t a b c d w' := H4.of (h.2.next hq)
theorem H4.drew {w w1 : World} {t : TypeId} {a b c d : Value} (h : H4 w t a b c d w1) : H4 w t a b c d w1.drew := H4.of h.2.drew
theorem H4.below {w w1 : World} {t : TypeId} {a b c d : Value} (h : H4 w t a b c d w1) : Below w.heap.size w w1 := h.2.below
end Go.Proofs.Ytbpgblmhacpjlaa

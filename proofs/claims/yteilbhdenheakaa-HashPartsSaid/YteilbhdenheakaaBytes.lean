/-
  Rows of bytes that a call itself made: their cells, what a store does to them, what they are as a string; no condition.
-/
import Derived.Test.YteilbhdenheakaaFixed
import Derived.Laws.BytesArg
namespace Go.Proofs.Yteilbhdenheakaa
open Go.RowKit

theorem Try.info5 : (Try.prog.info? 5).map (fun i => (i.zero, i.size, i.bytes)) = some (some (.int .u8 0), 1, 1) := by kernel_rfl

def byteV (c : UInt8) : Value := .int .u8 (c.toNat : Int)
/-- The row that begins block g holds the bytes xs. -/
def Row (B g : Nat) (xs : List UInt8) (w : World) : Prop :=
  w.ownsRow B 5 1 (.slice (some ⟨g, 0, none⟩) xs.length xs.length) xs.length (xs.map byteV)
theorem Row.cell {B g : Nat} {xs : List UInt8} {w : World} (h : Row B g xs w) (j : Nat) (hj : j < xs.length) : w.cell? ⟨g, j, none⟩ = some (byteV xs[j]) := by
  rw [World.ownsRow.cellAt h j (by omega)]
  simp [hj]
theorem Row.free {B g : Nat} {xs : List UInt8} {w : World} (h : Row B g xs w) (j : Nat) : w.frozen? ⟨g, j, none⟩ = false :=
  World.ownsRow.frozenAt h j
theorem Row.set {B g : Nat} {xs : List UInt8} {w : World} (h : Row B g xs w) (j : Nat) (c : UInt8) : Row B g (xs.set j c) (w.setCell ⟨g, j, none⟩ (byteV c)) := by
  have := (World.ownsRow.stored h j (byteV c)).1
  unfold Row
  rw [List.length_set, List.map_set]
  exact this
theorem Row.zero {B g n : Nat} {w : World} (h : w.ownsRow B 5 1 (.slice (some ⟨g, 0, none⟩) n n) n (madeCells (Value.cells (.int .u8 0)) (n * 1)).toList) : Row B g (List.replicate n 0) w := by
  unfold Row
  have e : (madeCells (Value.cells (.int .u8 0)) (n * 1)).toList = List.replicate n (.int .u8 0) := by
    rw [Nat.mul_one]; exact toList_madeCells_one _ n
  rw [e] at h
  simp only [List.length_replicate, List.map_replicate]
  exact h
theorem Row.base {B g : Nat} {xs : List UInt8} {w : World} (h : Row B g xs w) : B ≤ g := by
  rcases h.2 with ⟨h', _⟩ | ⟨g', cap', cur, h', hB, _⟩
  · simp at h'
  · simp only [Value.slice.injEq, Option.some.injEq, Addr.mk.injEq, and_true] at h'
    rw [h'.1]; exact hB
theorem Row.below {B g : Nat} {xs : List UInt8} {w0 w : World} (h : Row B g xs w) (hb : Below B w0 w) (j : Nat) (c : UInt8) : Below B w0 (w.setCell ⟨g, j, none⟩ (byteV c)) :=
  hb.setCell h.base _

/-- The cells of a row, alone. -/
def Cells (g : Nat) (xs : List UInt8) (w : World) : Prop := ∀ (j : Nat) (hj : j < xs.length), w.cell? ⟨g, j, none⟩ = some (byteV xs[j])
theorem Row.cells {B g : Nat} {xs : List UInt8} {w : World} (h : Row B g xs w) : Cells g xs w := fun j hj => h.cell j hj
theorem Cells.kept {g n : Nat} {xs : List UInt8} {w w' : World} (h : Cells g xs w) (hb : Below n w w') (hg : g < n) : Cells g xs w' := fun j hj => (hb.cell (p := ⟨g, j, none⟩) hg).trans (h j hj)
theorem Cells.text {g : Nat} {xs : List UInt8} {w : World} (h : Cells g xs w) (cap : Nat) :
    (convert 29 9 (.slice (some ⟨g, 0, none⟩) xs.length cap)).run Try.prog w = .ok (.string ⟨xs.toArray⟩) w := by
  refine run_convert_bytes_back w 29 9 5 ⟨g, 0, none⟩ cap xs Try.underlying29 Try.underlying5 Try.underlying9 ?_
  intro j hj
  have e : (⟨g, 0, none⟩ : Addr).add j = ⟨g, j, none⟩ := by unfold Addr.add; split <;> simp_all
  rw [e]; exact h j hj
theorem Row.lt {B g : Nat} {xs : List UInt8} {w : World} (h : Row B g xs w) (h0 : 0 < xs.length) : g < w.heap.size := by
  have h1 := h.cell 0 h0
  unfold World.cell? at h1
  by_cases hg : g < w.heap.size
  · exact hg
  · exfalso
    have : w.heap[g]? = none := by rw [Array.getElem?_eq_none_iff]; omega
    simp [this] at h1
end Go.Proofs.Yteilbhdenheakaa

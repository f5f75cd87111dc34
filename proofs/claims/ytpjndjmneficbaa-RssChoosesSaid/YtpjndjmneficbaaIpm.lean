/-
  What ip's isFrom0To, isOptions, isCommon, isPacket4 and isPacket6 answer: for every packet whose strings are within the language's own reach.
-/
import Derived.Test.YtpjndjmneficbaaIpk
namespace Go.Proofs.Ytpjndjmneficbaa
open Go.RowKit

/-- A variable in its block, and all else as it was. -/
structure Held (w0 : World) (t : TypeId) (cs : Array Value) (w : World) : Prop where
  blk : Blk w w0.heap.size t cs
  below : Below w0.heap.size w0 w
theorem Held.new (w : World) (t : TypeId) (cs : Array Value) : Held w t cs (w.alloc (.cells cs t)) := ⟨Blk.new w t _, (Below.refl _ _).alloc (Nat.le_refl _) _⟩
theorem Held.next {w w1 w' : World} {t : TypeId} {cs : Array Value} (h : Held w t cs w1) (hq : Below w1.heap.size w1 w') : Held w t cs w' :=
  ⟨h.blk.same (hq.block _ h.blk.lt), h.below.trans (hq.mono (by have := h.blk.lt; omega))⟩
theorem Held.drew {w w1 : World} {t : TypeId} {cs : Array Value} (h : Held w t cs w1) : Held w t cs w1.drew := ⟨h.blk, h.below.drew⟩
theorem pk_cells {w0 w : World} {v : Int} {src dst : ByteArray} {proto hops cls id flags off label : Int} {opt body : ByteArray} (h : Held w0 56 #[.int .i64 v, .string src, .string dst, .int .i64 proto, .int .i64 hops, .int .i64 cls, .int .i64 id, .int .i64 flags, .int .i64 off, .int .i64 label, .string opt, .string body] w) :
    w.cell? ⟨w0.heap.size, 0, none⟩ = some (.int .i64 v) ∧ w.cell? ⟨w0.heap.size, 1, none⟩ = some (.string src) ∧ w.cell? ⟨w0.heap.size, 2, none⟩ = some (.string dst) ∧ w.cell? ⟨w0.heap.size, 3, none⟩ = some (.int .i64 proto) ∧ w.cell? ⟨w0.heap.size, 4, none⟩ = some (.int .i64 hops) ∧ w.cell? ⟨w0.heap.size, 5, none⟩ = some (.int .i64 cls) ∧ w.cell? ⟨w0.heap.size, 6, none⟩ = some (.int .i64 id) ∧ w.cell? ⟨w0.heap.size, 7, none⟩ = some (.int .i64 flags) ∧ w.cell? ⟨w0.heap.size, 8, none⟩ = some (.int .i64 off) ∧ w.cell? ⟨w0.heap.size, 9, none⟩ = some (.int .i64 label) ∧ w.cell? ⟨w0.heap.size, 10, none⟩ = some (.string opt) ∧ w.cell? ⟨w0.heap.size, 11, none⟩ = some (.string body) :=
  ⟨h.blk.cell 0, h.blk.cell 1, h.blk.cell 2, h.blk.cell 3, h.blk.cell 4, h.blk.cell 5, h.blk.cell 6, h.blk.cell 7, h.blk.cell 8, h.blk.cell 9, h.blk.cell 10, h.blk.cell 11⟩
def inB (v m : Int) : Bool := decide (0 ≤ v) && decide (v ≤ m)
def optB (s : ByteArray) : Bool := decide (s.size ≤ 40) && decide (s.size % 4 = 0)
end Go.Proofs.Ytpjndjmneficbaa

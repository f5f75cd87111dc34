/-
  What the code's Build answers, for every frame.
-/
import Derived.Test.YtboinnejkghfiaaParse
namespace Go.Proofs.Ytboinnejkghfiaa
open Go.RowKit

def tagS (v p : Int) : ByteArray := if v = -1 then ⟨#[]⟩ else two 33024 ++ two (8192 * p + v)
theorem tag_or (v p : Int) (h0 : 0 ≤ v) (h1 : v ≤ 4094) (h2 : 0 ≤ p) (h3 : p ≤ 7) : bits .or .i64 (p * 8192) v = 8192 * p + v := by
  refine (bits_join .i64 63 (by decide) (fun n a b => IntWalk.i64_in n (by omega)) 13 _ _ (by omega) ?_ (by omega) h0 (by omega) (by omega)).trans (by omega)
  omega
theorem held_new (w : World) (d r : ByteArray) (v p t : Int) (b : ByteArray) : (w.alloc (.cells #[.string d, .string r, .int .i64 v, .int .i64 p, .int .i64 t, .string b] 49)).drew.cell? ⟨w.heap.size, 3, none⟩ = some (.int .i64 p) ∧
    (w.alloc (.cells #[.string d, .string r, .int .i64 v, .int .i64 p, .int .i64 t, .string b] 49)).drew.cell? ⟨w.heap.size, 2, none⟩ = some (.int .i64 v) ∧ w.heap.size < (w.alloc (.cells #[.string d, .string r, .int .i64 v, .int .i64 p, .int .i64 t, .string b] 49)).drew.heap.size ∧ Below w.heap.size w (w.alloc (.cells #[.string d, .string r, .int .i64 v, .int .i64 p, .int .i64 t, .string b] 49)).drew :=
  ⟨(Blk.new w 49 #[.string d, .string r, .int .i64 v, .int .i64 p, .int .i64 t, .string b]).cell 3, (Blk.new w 49 #[.string d, .string r, .int .i64 v, .int .i64 p, .int .i64 t, .string b]).cell 2, by simp, ((Below.refl _ _).alloc (Nat.le_refl _) _).drew⟩
theorem held_next {w w1 w' : World} {x y : Value} (h : w1.cell? ⟨w.heap.size, 3, none⟩ = some x ∧ w1.cell? ⟨w.heap.size, 2, none⟩ = some y ∧ w.heap.size < w1.heap.size ∧ Below w.heap.size w w1) (hq : Below w1.heap.size w1 w') :
    w'.cell? ⟨w.heap.size, 3, none⟩ = some x ∧ w'.cell? ⟨w.heap.size, 2, none⟩ = some y ∧ w.heap.size < w'.heap.size ∧ Below w.heap.size w w' :=
  ⟨(hq.cell h.2.2.1).trans h.1, (hq.cell h.2.2.1).trans h.2.1, by have := hq.size; have := h.2.2.1; omega, h.2.2.2.trans (hq.mono (by have := h.2.2.1; omega))⟩
theorem tagB_cases {v p : Int} (h : tagB v p = true) : v = -1 ∧ p = 0 ∨ (0 ≤ v ∧ v ≤ 4094 ∧ 0 ≤ p ∧ p ≤ 7) := by
  unfold tagB at h
  split at h
  · exact .inl ⟨by assumption, of_decide_eq_true h⟩
  · exact .inr (of_decide_eq_true h)
theorem tagS_size (v p : Int) : (tagS v p).size = if v = -1 then 0 else 4 := by
  unfold tagS; split
  · rfl
  · rw [ByteArray.size_append, two_size, two_size]
theorem frameB_iff {f : Fr} : frameB f = true ↔ f.d.size = 6 ∧ f.r.size = 6 ∧ tagB f.v f.p = true ∧ kindB f.t = true := by
  unfold frameB; exact decide_eq_true_iff
theorem kindB_iff {t : Int} : kindB t = true ↔ 1536 ≤ t ∧ t ≤ 65535 ∧ t ≠ 33024 := by
  unfold kindB; exact decide_eq_true_iff

/-- The six cells of a frame, and all else as it was. -/
structure Six (w : World) (d r : ByteArray) (v p t : Int) (b : ByteArray) (w' : World) : Prop where
  blk : Blk w' w.heap.size 49 #[.string d, .string r, .int .i64 v, .int .i64 p, .int .i64 t, .string b]
  below : Below w.heap.size w w'
theorem Six.new (w : World) (d r : ByteArray) (v p t : Int) (b : ByteArray) : Six w d r v p t b (w.alloc (.cells #[.string d, .string r, .int .i64 v, .int .i64 p, .int .i64 t, .string b] 49)) := ⟨Blk.new w 49 _, (Below.refl _ _).alloc (Nat.le_refl _) _⟩
theorem Six.next {w w1 w' : World} {d r : ByteArray} {v p t : Int} {b : ByteArray} (h : Six w d r v p t b w1) (hq : Below w1.heap.size w1 w') : Six w d r v p t b w' :=
  ⟨h.blk.same (hq.block _ h.blk.lt), h.below.trans (hq.mono (by have := h.blk.lt; omega))⟩
theorem Six.drew {w w1 : World} {d r : ByteArray} {v p t : Int} {b : ByteArray} (h : Six w d r v p t b w1) : Six w d r v p t b w1.drew := ⟨h.blk, h.below.drew⟩
theorem Six.cells {w w1 : World} {d r : ByteArray} {v p t : Int} {b : ByteArray} (h : Six w d r v p t b w1) : w1.cell? ⟨w.heap.size, 0, none⟩ = some (.string d) ∧ w1.cell? ⟨w.heap.size, 1, none⟩ = some (.string r) ∧ w1.cell? ⟨w.heap.size, 2, none⟩ = some (.int .i64 v) ∧
    w1.cell? ⟨w.heap.size, 3, none⟩ = some (.int .i64 p) ∧ w1.cell? ⟨w.heap.size, 4, none⟩ = some (.int .i64 t) ∧ w1.cell? ⟨w.heap.size, 5, none⟩ = some (.string b) ∧ Six w d r v p t b w1 :=
  ⟨h.blk.cell 0, h.blk.cell 1, h.blk.cell 2, h.blk.cell 3, h.blk.cell 4, h.blk.cell 5, h⟩
theorem six_next {w w1 w' : World} {d r : ByteArray} {v p t : Int} {b : ByteArray} (h : w1.cell? ⟨w.heap.size, 0, none⟩ = some (.string d) ∧ w1.cell? ⟨w.heap.size, 1, none⟩ = some (.string r) ∧ w1.cell? ⟨w.heap.size, 2, none⟩ = some (.int .i64 v) ∧
    w1.cell? ⟨w.heap.size, 3, none⟩ = some (.int .i64 p) ∧ w1.cell? ⟨w.heap.size, 4, none⟩ = some (.int .i64 t) ∧ w1.cell? ⟨w.heap.size, 5, none⟩ = some (.string b) ∧ Six w d r v p t b w1) (hq : Below w1.heap.size w1 w') :
    w'.cell? ⟨w.heap.size, 0, none⟩ = some (.string d) ∧ w'.cell? ⟨w.heap.size, 1, none⟩ = some (.string r) ∧ w'.cell? ⟨w.heap.size, 2, none⟩ = some (.int .i64 v) ∧
    w'.cell? ⟨w.heap.size, 3, none⟩ = some (.int .i64 p) ∧ w'.cell? ⟨w.heap.size, 4, none⟩ = some (.int .i64 t) ∧ w'.cell? ⟨w.heap.size, 5, none⟩ = some (.string b) ∧ Six w d r v p t b w' := (h.2.2.2.2.2.2.next hq).cells
def buildE (f : Fr) : Int := if frameB f = true ∧ f.d.size + f.r.size + (tagS f.v f.p).size + 2 + f.b.size ≤ 1518 then 0 else 61
def buildS (f : Fr) : ByteArray := if frameB f = true ∧ f.d.size + f.r.size + (tagS f.v f.p).size + 2 + f.b.size ≤ 1518 then f.d ++ f.r ++ tagS f.v f.p ++ two f.t ++ f.b else ⟨#[]⟩
end Go.Proofs.Ytboinnejkghfiaa

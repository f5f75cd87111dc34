/-
  Rows of bytes that a call itself made, grown by append or filled: what they are as a string; no condition.
-/
import Derived.Test.YthknggabioadhaaSmall
import Derived.Deep.AppendLies
import Derived.OwnWalk
import Derived.Laws.BytesArg
namespace Go.Proofs.Ythknggabioadhaa
open Go.RowKit

theorem Try.info5 : (Try.prog.info? 5).map (fun i => (i.zero, i.size, i.bytes)) = some (some (.int .u8 0), 1, 1) := by kernel_rfl

def byteV (c : UInt8) : Value := .int .u8 (c.toNat : Int)
theorem byteV_one (xs : List UInt8) : ∀ u ∈ xs.map byteV, u.oneCell' = true := by
  intro u hu
  obtain ⟨c, _, rfl⟩ := List.mem_map.1 hu
  rfl
/-- The row that begins block g, of n bytes, holds xs; below B all is as in w0. -/
def Grow (B g n cap : Nat) (xs : List UInt8) (w0 w : World) : Prop :=
  xs.length = n ∧ w.ownsRow B 5 1 (.slice (some ⟨g, 0, none⟩) n cap) n (xs.map byteV) ∧ Below B w0 w ∧ B ≤ w.heap.size
theorem Grow.cell {B g n cap : Nat} {xs : List UInt8} {w0 w : World} (h : Grow B g n cap xs w0 w) (j : Nat) (hj : j < xs.length) : w.cell? ⟨g, j, none⟩ = some (byteV xs[j]) := by
  obtain ⟨h1, h2, _⟩ := h
  rw [World.ownsRow.cellAt h2 j (by omega)]
  simp [hj]
theorem Grow.text {B g n cap : Nat} {xs : List UInt8} {w0 w : World} (h : Grow B g n cap xs w0 w) :
    (convert 33 9 (.slice (some ⟨g, 0, none⟩) n cap)).run Try.prog w = .ok (.string ⟨xs.toArray⟩) w := by
  have h1 := h.1
  subst h1
  refine run_convert_bytes_back w 33 9 5 ⟨g, 0, none⟩ cap xs Try.underlying33 Try.underlying5 Try.underlying9 ?_
  intro j hj
  have e : (⟨g, 0, none⟩ : Addr).add j = ⟨g, j, none⟩ := by unfold Addr.add; split <;> simp_all
  rw [e]; exact h.cell j hj
theorem Grow.below {B g n cap : Nat} {xs : List UInt8} {w0 w : World} (h : Grow B g n cap xs w0 w) : Below B w0 w := h.2.2.1
theorem Grow.base {B g n cap : Nat} {xs : List UInt8} {w0 w : World} (h : Grow B g n cap xs w0 w) : B ≤ g := by
  rcases h.2.1.2 with ⟨h', _⟩ | ⟨g', cap', cur, h', hB, _⟩
  · simp at h'
  · simp only [Value.slice.injEq, Option.some.injEq, Addr.mk.injEq, and_true] at h'
    rw [h'.1]; exact hB
theorem Grow.empty {B cap : Nat} {w w1 : World} (hB : B = w.heap.size) (h : w1.ownsRow B 5 1 (.slice (some ⟨w.heap.size, 0, none⟩) 0 cap) 0 []) (hg : w.grownBy w1 none) : Grow B w.heap.size 0 cap [] w w1 := by
  subst hB
  exact ⟨rfl, h, (Below.refl _ _).grown hg (Nat.le_refl _) (by simp), hg.size⟩
/-- what lies ready for an append of bytes laid into a block of their own -/
theorem Grow.ready {B g n cap : Nat} {xs : List UInt8} {w0 w : World} (h : Grow B g n cap xs w0 w) (ys : List UInt8) (w1 : World) (e : w1 = w.alloc (.cells (ys.map byteV).toArray 5) ∨ w1 = (w.alloc (.cells (ys.map byteV).toArray 5)).drew) :
    w1.ownsRow B 5 1 (.slice (some ⟨g, 0, none⟩) n cap) n (xs.map byteV) ∧
    (∀ j u, (ys.map byteV)[j]? = some u → w1.cell? ((⟨w.heap.size, 0, none⟩ : Addr).add j) = some u) ∧ Below B w0 w1 ∧ B ≤ w1.heap.size := by
  obtain ⟨h1, h2, h3, h4⟩ := h
  have hc : ∀ j u, (ys.map byteV)[j]? = some u → (w.alloc (.cells (ys.map byteV).toArray 5)).cell? ((⟨w.heap.size, 0, none⟩ : Addr).add j) = some u := by
    have := World.news_of_block (B := w.heap.size) (cs := (ys.map byteV).toArray) (t := 5) (fr := (0, 0)) (heap_alloc_new w _)
    simpa using this
  have hz : B ≤ (w.alloc (.cells (ys.map byteV).toArray 5)).heap.size := by simp; omega
  rcases e with rfl | rfl
  · exact ⟨h2.alloc _, hc, h3.alloc h4 _, hz⟩
  · exact ⟨h2.alloc _, hc, (h3.alloc h4 _).drew, hz⟩
theorem Grow.more {B g n cap m g' cap' : Nat} {xs ys : List UInt8} {w0 w1 w2 : World} (hx : xs.length = n) (hm : ys.length = m) (hb : Below B w0 w1) (hB : B ≤ w1.heap.size) (hg : B ≤ g)
    (hown : w2.ownsRow B 5 1 (.slice (some ⟨g', 0, none⟩) (n + m) cap') (n + m) (xs.map byteV ++ ys.map byteV)) (hgrow : w1.grownBy w2 (Value.slice (some ⟨g, 0, none⟩) n cap).ownBlock) :
    Grow B g' (n + m) cap' (xs ++ ys) w0 w2 := by
  refine ⟨by simp [hx, hm], by rw [List.map_append]; exact hown, hb.grown hgrow hB ?_, Nat.le_trans hB hgrow.size⟩
  intro k hk
  have : g = k := by simpa [Value.ownBlock] using hk
  omega
end Go.Proofs.Ythknggabioadhaa

/-
  One step, and whether it is told; a position's variable and an event's, held through calls; no condition.
-/
import Derived.Test.YtcofbaioflfehaaSfx
namespace Go.Proofs.Ytcofbaioflfehaa
open Go.RowKit

theorem next_to {a n k : Int} {b : Bool} {A : Int} {B : Bool} (h : nxE a n k = 0) (hA : nxA a n k = A) (hB : nxB a n k b = B) (W : World) :
    Calls Try.prog 10 #[.agg #[.int .i64 a, .bool b], .int .i64 k, .int .i64 n] W fun e w' => e = .returned (.tuple #[.agg #[.int .i64 A, .bool B], .int .i64 0]) ∧ Below W.heap.size W w' := by
  have H := next_any a n k b W
  rw [h, hA, hB] at H
  exact H
theorem next_low1 {x n : Int} (y : Bool) (n1 : 1 ≤ n) (n2 : n ≤ 32768) (x0 : 0 ≤ x) (h : x < n - 1) (W : World) :
    Calls Try.prog 10 #[.agg #[.int .i64 x, .bool y], .int .i64 1, .int .i64 n] W fun e w' => e = .returned (.tuple #[.agg #[.int .i64 (x + 1), .bool y], .int .i64 0]) ∧ Below W.heap.size W w' := by
  have f : nxE x n 1 = 0 := nxE_in n1 n2 x0 (by omega) (by omega) (by omega)
  obtain ⟨p, q⟩ := nx_low y f (by omega)
  exact next_to f p q W
theorem next_top1 {n : Int} (y : Bool) (n1 : 1 ≤ n) (n2 : n ≤ 32768) (W : World) :
    Calls Try.prog 10 #[.agg #[.int .i64 (n - 1), .bool y], .int .i64 1, .int .i64 n] W fun e w' => e = .returned (.tuple #[.agg #[.int .i64 0, .bool (!y)], .int .i64 0]) ∧ Below W.heap.size W w' := by
  have f : nxE (n - 1) n 1 = 0 := nxE_in n1 n2 (by omega) (by omega) (by omega) (by omega)
  obtain ⟨p, q⟩ := nx_high y f (by omega)
  exact next_to f (p.trans (by omega)) q W
/-- one step is told just if it starts where the event is -/
theorem need_step {p x z n : Int} {u y t : Bool} (n1 : 1 ≤ n) (n2 : n ≤ 32768) (x0 : 0 ≤ x) (x1 : x < n) (z0 : 0 ≤ z) (z1 : z < n) (p0 : 0 ≤ p) (p1 : p < n) (hg : gp x z n y t = 1) (W : World) :
    Calls Try.prog 21 #[.agg #[.int .i64 p, .bool u, .int .i64 2], .agg #[.int .i64 x, .bool y], .agg #[.int .i64 z, .bool t], .int .i64 n] W fun e w' => e = .returned (.bool (decide (x = p ∧ y = u))) ∧ Below W.heap.size W w' := by
  have H := need_any p 2 x z n u y t W
  have e1 := gpE_in n1 n2 x0 x1 z0 z1
  have e2 := gpE_in n1 n2 x0 x1 p0 p1
  have l := gp_low (b := y) (d := u) x0 x1 p0 p1
  have e : needV p u 2 x y z t n = decide (x = p ∧ y = u) := by
    rw [needV, hg, if_neg (by omega), e2, if_neg (by decide), if_pos rfl]
    refine decide_eq_decide.2 ⟨fun h => ?_, fun h => ?_⟩
    · exact gp_inj x1 x0 p0 p1 x0 x1 ((gp_same x n y).trans (by omega : (0 : Int) = gp x p n y u))
    · obtain ⟨rfl, rfl⟩ := h
      rw [gp_same]
      exact ⟨rfl, by decide⟩
  rw [e] at H
  exact H
theorem gp_low1 {x n : Int} (y : Bool) (x0 : 0 ≤ x) (h : x < n - 1) : gp x (x + 1) n y y = 1 := by
  have _ := x0; have _ := h
  rw [gp, if_pos rfl, if_pos (by omega)]; omega
theorem gp_top1 {n : Int} (y : Bool) : gp (n - 1) 0 n y (!y) = 1 := by
  rw [gp, if_neg (by cases y <;> decide)]; omega
theorem need_low {p x n : Int} {u y : Bool} (n1 : 1 ≤ n) (n2 : n ≤ 32768) (x0 : 0 ≤ x) (h : x < n - 1) (p0 : 0 ≤ p) (p1 : p < n) {Q : Bool} (hQ : decide (x = p ∧ y = u) = Q) (W : World) :
    Calls Try.prog 21 #[.agg #[.int .i64 p, .bool u, .int .i64 2], .agg #[.int .i64 x, .bool y], .agg #[.int .i64 (x + 1), .bool y], .int .i64 n] W fun e w' => e = .returned (.bool Q) ∧ Below W.heap.size W w' := by
  subst hQ
  exact need_step n1 n2 x0 (by omega) (by omega) (by omega) p0 p1 (gp_low1 y x0 h) W
theorem need_top {p n : Int} {u y : Bool} (n1 : 1 ≤ n) (n2 : n ≤ 32768) (p0 : 0 ≤ p) (p1 : p < n) {Q : Bool} (hQ : decide (n - 1 = p ∧ y = u) = Q) (W : World) :
    Calls Try.prog 21 #[.agg #[.int .i64 p, .bool u, .int .i64 2], .agg #[.int .i64 (n - 1), .bool y], .agg #[.int .i64 0, .bool (!y)], .int .i64 n] W fun e w' => e = .returned (.bool Q) ∧ Below W.heap.size W w' := by
  subst hQ
  exact need_step n1 n2 (by omega) (by omega) (by omega) (by omega) p0 p1 (gp_top1 y) W
/-- a position's variable, an event's, and all else as it was -/
structure SV (w : World) (g h : Nat) (x y p u v : Value) (w' : World) : Prop where
  l : Blk w' g 25 #[x, y]
  r : Blk w' h 23 #[p, u, v]
  below : Below w.heap.size w w'
  low : w.heap.size ≤ g
  ne : g < h
section
variable {w w1 w' : World} {g h : Nat} {x y p u v : Value}
theorem SV.next (k : SV w g h x y p u v w1) (hq : Below w1.heap.size w1 w') : SV w g h x y p u v w' :=
  ⟨k.l.same (hq.block _ k.l.lt), k.r.same (hq.block _ k.r.lt), b0 k.below hq, k.low, k.ne⟩
theorem SV.alloc (k : SV w g h x y p u v w1) (ob : Obj) : SV w g h x y p u v (w1.alloc ob) := ⟨k.l.alloc ob, k.r.alloc ob, ba k.below ob, k.low, k.ne⟩
theorem SV.set (k : SV w g h x y p u v w1) (a b : Value) : SV w g h a b p u v ((w1.setCell ⟨g, 0, none⟩ a).setCell ⟨g, 1, none⟩ b) :=
  have e := k.ne
  ⟨by have := (k.l.put 0 a).put 1 b; simpa using this, (k.r.other (by omega) 0 a).other (by omega) 1 b, (k.below.setCell k.low _).setCell k.low _, k.low, k.ne⟩
theorem SV.facts (k : SV w g h x y p u v w1) :
    w1.cell? ⟨g, 0, none⟩ = some x ∧ w1.cell? ⟨g, 1, none⟩ = some y ∧ w1.cell? ⟨h, 0, none⟩ = some p ∧ w1.cell? ⟨h, 1, none⟩ = some u ∧ w1.cell? ⟨h, 2, none⟩ = some v ∧
    w1.frozen? ⟨g, 0, none⟩ = false ∧ w1.frozen? ⟨g, 1, none⟩ = false ∧ g < w1.heap.size ∧ h < w1.heap.size ∧ g ≠ w1.heap.size ∧ h ≠ w1.heap.size :=
  ⟨k.l.cell 0, k.l.cell 1, k.r.cell 0, k.r.cell 1, k.r.cell 2, k.l.frozen 0, k.l.frozen 1, k.l.lt, k.r.lt, Nat.ne_of_lt k.l.lt, Nat.ne_of_lt k.r.lt⟩
end
end Go.Proofs.Ytcofbaioflfehaa

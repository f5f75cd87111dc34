/-
  An event, and an event with two positions and two numbers, that come in by value, opened; no condition.
-/
import Derived.Test.YtcofbaioflfehaaLaw
import Derived.Test.YtcofbaioflfehaaDbk
import Derived.Test.YtcofbaioflfehaaBit
import Derived.Deep.Strs
import Derived.BigQuiet
namespace Go.Proofs.Ytcofbaioflfehaa
open Go.Joins Go.ChangeShapes Go.WideShapes Go.ChangeAt Go.RowKit Go.Deep
open Go.ChangeMaps (open_string shut_string)

theorem Try.cells23 : Try.prog.cellsOf 23 = 3 := by kernel_rfl
theorem Try.cells25 : Try.prog.cellsOf 25 = 2 := by kernel_rfl
theorem Try.cells27 : Try.prog.cellsOf 27 = 9 := by kernel_rfl
theorem Try.cells3 : Try.prog.cellsOf 3 = 1 := by kernel_rfl
theorem Try.cells4 : Try.prog.cellsOf 4 = 1 := by kernel_rfl
/-- a variable of nine cells, its cells said one by one -/
def H9 (w : World) (t : TypeId) (o u f a b c d k n : Value) (w' : World) : Prop :=
  (w'.cell? ⟨w.heap.size, 0, none⟩ = some o ∧ w'.cell? ⟨w.heap.size, 1, none⟩ = some u ∧ w'.cell? ⟨w.heap.size, 2, none⟩ = some f ∧ w'.cell? ⟨w.heap.size, 3, none⟩ = some a ∧ w'.cell? ⟨w.heap.size, 4, none⟩ = some b ∧ w'.cell? ⟨w.heap.size, 5, none⟩ = some c ∧ w'.cell? ⟨w.heap.size, 6, none⟩ = some d ∧ w'.cell? ⟨w.heap.size, 7, none⟩ = some k ∧ w'.cell? ⟨w.heap.size, 8, none⟩ = some n) ∧ Held w t #[o, u, f, a, b, c, d, k, n] w'
section
variable {w w1 w' : World} {t : TypeId} {o u f a b c d k n : Value}
theorem H9.of (h : Held w t #[o, u, f, a, b, c, d, k, n] w') : H9 w t o u f a b c d k n w' := ⟨⟨h.blk.cell 0, h.blk.cell 1, h.blk.cell 2, h.blk.cell 3, h.blk.cell 4, h.blk.cell 5, h.blk.cell 6, h.blk.cell 7, h.blk.cell 8⟩, h⟩
theorem H9.new (w : World) (t : TypeId) (o u f a b c d k n : Value) : H9 w t o u f a b c d k n (w.alloc (.cells #[o, u, f, a, b, c, d, k, n] t)) := H9.of (Held.new w t _)
theorem H9.next (h : H9 w t o u f a b c d k n w1) (hq : Below w1.heap.size w1 w') : H9 w t o u f a b c d k n w' := H9.of (h.2.next hq)
theorem H9.alloc (h : H9 w t o u f a b c d k n w1) (ob : Obj) : H9 w t o u f a b c d k n (w1.alloc ob) := H9.of ⟨h.2.blk.alloc ob, ba h.2.below ob⟩
theorem H9.drew (h : H9 w t o u f a b c d k n w1) : H9 w t o u f a b c d k n w1.drew := H9.of h.2.drew
end
/-- three variables of two cells each, their cells said one by one -/
def H6 (w : World) (g h j : Nat) (a b c d e f : Value) (w' : World) : Prop :=
  (w'.cell? ⟨g, 0, none⟩ = some a ∧ w'.cell? ⟨g, 1, none⟩ = some b ∧ w'.cell? ⟨h, 0, none⟩ = some c ∧ w'.cell? ⟨h, 1, none⟩ = some d ∧ w'.cell? ⟨j, 0, none⟩ = some e ∧ w'.cell? ⟨j, 1, none⟩ = some f) ∧
    (Blk w' g 25 #[a, b] ∧ Blk w' h 25 #[c, d] ∧ Blk w' j 25 #[e, f] ∧ Below w.heap.size w w')
section
variable {w w1 w' : World} {g h j : Nat} {a b c d e f : Value}
theorem H6.of (x : Blk w' g 25 #[a, b]) (y : Blk w' h 25 #[c, d]) (z : Blk w' j 25 #[e, f]) (v : Below w.heap.size w w') : H6 w g h j a b c d e f w' := ⟨⟨x.cell 0, x.cell 1, y.cell 0, y.cell 1, z.cell 0, z.cell 1⟩, x, y, z, v⟩
theorem H6.next (x : H6 w g h j a b c d e f w1) (hq : Below w1.heap.size w1 w') : H6 w g h j a b c d e f w' :=
  H6.of (x.2.1.same (hq.block _ x.2.1.lt)) (x.2.2.1.same (hq.block _ x.2.2.1.lt)) (x.2.2.2.1.same (hq.block _ x.2.2.2.1.lt)) (b0 x.2.2.2.2 hq)
theorem H6.drew (x : H6 w g h j a b c d e f w1) : H6 w g h j a b c d e f w1.drew := H6.of x.2.1 x.2.2.1 x.2.2.2.1 x.2.2.2.2.drew
end
/-- an event's variable and three positions', their cells said one by one -/
def H8 (w : World) (i g h j : Nat) (o u p a b c d e f : Value) (w' : World) : Prop :=
  (w'.cell? ⟨i, 0, none⟩ = some o ∧ w'.cell? ⟨i, 1, none⟩ = some u ∧ w'.cell? ⟨i, 2, none⟩ = some p ∧ w'.cell? ⟨g, 0, none⟩ = some a ∧ w'.cell? ⟨g, 1, none⟩ = some b ∧ w'.cell? ⟨h, 0, none⟩ = some c ∧ w'.cell? ⟨h, 1, none⟩ = some d ∧ w'.cell? ⟨j, 0, none⟩ = some e ∧ w'.cell? ⟨j, 1, none⟩ = some f) ∧
    (Blk w' i 23 #[o, u, p] ∧ Blk w' g 25 #[a, b] ∧ Blk w' h 25 #[c, d] ∧ Blk w' j 25 #[e, f] ∧ Below w.heap.size w w')
section
variable {w w1 w' : World} {i g h j : Nat} {o u p a b c d e f : Value}
theorem H8.of (q : Blk w' i 23 #[o, u, p]) (x : Blk w' g 25 #[a, b]) (y : Blk w' h 25 #[c, d]) (z : Blk w' j 25 #[e, f]) (v : Below w.heap.size w w') : H8 w i g h j o u p a b c d e f w' :=
  ⟨⟨q.cell 0, q.cell 1, q.cell 2, x.cell 0, x.cell 1, y.cell 0, y.cell 1, z.cell 0, z.cell 1⟩, q, x, y, z, v⟩
theorem H8.next (x : H8 w i g h j o u p a b c d e f w1) (hq : Below w1.heap.size w1 w') : H8 w i g h j o u p a b c d e f w' :=
  H8.of (x.2.1.same (hq.block _ x.2.1.lt)) (x.2.2.1.same (hq.block _ x.2.2.1.lt)) (x.2.2.2.1.same (hq.block _ x.2.2.2.1.lt)) (x.2.2.2.2.1.same (hq.block _ x.2.2.2.2.1.lt)) (b0 x.2.2.2.2.2 hq)
theorem H8.drew (x : H8 w i g h j o u p a b c d e f w1) : H8 w i g h j o u p a b c d e f w1.drew := H8.of x.2.1 x.2.2.1 x.2.2.2.1 x.2.2.2.2.1 x.2.2.2.2.2.drew
end
theorem region_class {P : Program} {id : Nat} {Q : Exit → Act → World → Prop} {a : Act} {w : World} {l : List Oper} (C : World → Prop) (hm : P.follows .mixedOrders = true) (hB : Region.lexB .any l.toArray = true) (hC : C w.drew)
    (h : wpQuiet P l.toArray C (fun a' => ∀ w', C w' → Q .normal a' w') l a) : (Code.region id l.toArray true).wp P Q a w :=
  wp_region_quiet (C := C) hm hB hC (by simpa using h)
theorem low15 (n : Int) : ∃ K : Nat, K < 32768 ∧ bits .and .i64 n 32767 = (K : Int) := by
  have e : (BitVec.ofInt 64 32767).toNat = 2 ^ 15 - 1 := by decide
  have k : (BitVec.ofInt 64 n &&& BitVec.ofInt 64 32767).toNat = (n % ((2 ^ 64 : Nat) : Int)).toNat % 2 ^ 15 := by
    rw [BitVec.toNat_and, BitVec.toNat_ofInt, e, Nat.and_two_pow_sub_one_eq_mod]
  refine ⟨(n % ((2 ^ 64 : Nat) : Int)).toNat % 2 ^ 15, by omega, ?_⟩
  show IntKind.i64.wrap ((BitVec.ofInt 64 n &&& BitVec.ofInt 64 32767).toNat : Nat) = _
  rw [k, IntKind.wrap_i64]
  omega
/-- a place in a ring of n -/
theorem pos_in (A : Nat) (n : Int) (h : 1 ≤ n) : ∃ x : Int, (A : Int).tmod n = x ∧ 0 ≤ x ∧ x < n := by
  refine ⟨_, rfl, ?_, ?_⟩
  · rw [Int.tmod_eq_emod_of_nonneg (by omega)]; exact Int.emod_nonneg _ (by omega)
  · rw [Int.tmod_eq_emod_of_nonneg (by omega)]; exact Int.emod_lt_of_pos _ (by omega)
section
variable {H : Type} {enc : TypeId × Value → H} {w : World} {base : Nat} {spare : Nat → Bool} {held : Bool}
theorem cells_event {m : Nat} {c0 c1 c2 : Value} {x : DataW H × List MemPlace} (h : DataW.trod enc Try.prog w base spare held m 23 [c0, c1, c2] = some x) :
    ∃ (o : Int) (v : Bool) (f : Int), c0 = .int .i64 o ∧ c1 = .bool v ∧ c2 = .int .i64 f ∧ (-9223372036854775808 ≤ o ∧ o ≤ 9223372036854775807) ∧ (-9223372036854775808 ≤ f ∧ f ≤ 9223372036854775807) := by
  obtain ⟨y0, y1, y2, n, _, _, h0, h1, h2⟩ := trod_struct3 Try.underlying23 h
  simp only [Try.cells3, Try.cells4] at h0 h1 h2
  obtain ⟨o, e0, _, k0⟩ := DataW.trod_int Try.underlying3 h0
  obtain ⟨v, e1, _⟩ := DataW.trod_bool Try.underlying4 h1
  obtain ⟨f, e2, _, k2⟩ := DataW.trod_int Try.underlying3 h2
  simp at e0 e1 e2
  exact ⟨o, v, f, e0, e1, e2, bounds_i64 k0, bounds_i64 k2⟩
theorem cells_spot {m : Nat} {c0 c1 : Value} {x : DataW H × List MemPlace} (h : DataW.trod enc Try.prog w base spare held m 25 [c0, c1] = some x) :
    ∃ (a : Int) (b : Bool), c0 = .int .i64 a ∧ c1 = .bool b ∧ (-9223372036854775808 ≤ a ∧ a ≤ 9223372036854775807) := by
  obtain ⟨y0, y1, n, _, _, h0, h1⟩ := trod_struct2 Try.underlying25 h
  simp only [Try.cells3, Try.cells4] at h0 h1
  obtain ⟨a, e0, _, k0⟩ := DataW.trod_int Try.underlying3 h0
  obtain ⟨b, e1, _⟩ := DataW.trod_bool Try.underlying4 h1
  simp at e0 e1
  exact ⟨a, b, e0, e1, bounds_i64 k0⟩
theorem open_event {b0 : Nat} {v : Value} {d : DataW H} {p : List MemPlace} (hv : Value.okWide Try.prog w .any b0 23 v) (h : DataW.Trod enc Try.prog w base spare held 23 v d p) :
    ∃ (o : Int) (u : Bool) (f : Int), v = .agg #[.int .i64 o, .bool u, .int .i64 f] ∧ (-9223372036854775808 ≤ o ∧ o ≤ 9223372036854775807) ∧ (-9223372036854775808 ≤ f ∧ f ≤ 9223372036854775807) := by
  obtain ⟨cs, rfl, hsize⟩ := okWide_struct Try.underlying23 hv
  obtain ⟨fuel, hf⟩ := h
  rw [Try.cells23] at hsize
  obtain ⟨l⟩ := cs
  have hl : l.length = 3 := hsize
  match l, hl with
  | [c0, c1, c2], _ =>
  obtain ⟨o, u, f, rfl, rfl, rfl, k0, k1⟩ := cells_event (c0 := c0) (c1 := c1) (c2 := c2) hf
  exact ⟨o, u, f, rfl, k0, k1⟩
set_option maxRecDepth 100000 in
theorem open_walk {b0 : Nat} {v : Value} {d : DataW H} {p : List MemPlace} (hv : Value.okWide Try.prog w .any b0 27 v) (h : DataW.Trod enc Try.prog w base spare held 27 v d p) :
    ∃ (o : Int) (u : Bool) (f a : Int) (b : Bool) (c : Int) (e : Bool) (k n : Int), v = .agg #[.int .i64 o, .bool u, .int .i64 f, .int .i64 a, .bool b, .int .i64 c, .bool e, .int .i64 k, .int .i64 n] ∧
      (-9223372036854775808 ≤ o ∧ o ≤ 9223372036854775807) ∧ (-9223372036854775808 ≤ f ∧ f ≤ 9223372036854775807) ∧ (-9223372036854775808 ≤ a ∧ a ≤ 9223372036854775807) ∧ (-9223372036854775808 ≤ c ∧ c ≤ 9223372036854775807) ∧
      (-9223372036854775808 ≤ k ∧ k ≤ 9223372036854775807) ∧ (-9223372036854775808 ≤ n ∧ n ≤ 9223372036854775807) := by
  obtain ⟨cs, rfl, hsize⟩ := okWide_struct Try.underlying27 hv
  obtain ⟨fuel, hf⟩ := h
  rw [Try.cells27] at hsize
  obtain ⟨l⟩ := cs
  have hl : l.length = 9 := hsize
  match l, hl with
  | [c0, c1, c2, c3, c4, c5, c6, c7, c8], _ =>
  obtain ⟨ys, m, _, _, _, hyl, hg⟩ := DataW.trod_struct Try.underlying27 hf
  match ys, hyl with
  | [y0, y1, y2, y3, y4], _ =>
  have g0 := hg 0 _ rfl
  have g1 := hg 1 _ rfl
  have g2 := hg 2 _ rfl
  have g3 := hg 3 _ rfl
  have g4 := hg 4 _ rfl
  change DataW.trod enc Try.prog w base spare held m 23 (List.take (Try.prog.cellsOf 23) (List.drop 0 [c0, c1, c2, c3, c4, c5, c6, c7, c8])) = some y0 at g0
  rw [Try.cells23] at g0
  change DataW.trod enc Try.prog w base spare held m 25 (List.take (Try.prog.cellsOf 25) (List.drop 3 [c0, c1, c2, c3, c4, c5, c6, c7, c8])) = some y1 at g1
  rw [Try.cells25] at g1
  change DataW.trod enc Try.prog w base spare held m 25 (List.take (Try.prog.cellsOf 25) (List.drop 5 [c0, c1, c2, c3, c4, c5, c6, c7, c8])) = some y2 at g2
  rw [Try.cells25] at g2
  change DataW.trod enc Try.prog w base spare held m 3 (List.take (Try.prog.cellsOf 3) (List.drop 7 [c0, c1, c2, c3, c4, c5, c6, c7, c8])) = some y3 at g3
  rw [Try.cells3] at g3
  change DataW.trod enc Try.prog w base spare held m 3 (List.take (Try.prog.cellsOf 3) (List.drop 8 [c0, c1, c2, c3, c4, c5, c6, c7, c8])) = some y4 at g4
  rw [Try.cells3] at g4
  obtain ⟨o, u, f, rfl, rfl, rfl, k0, k1⟩ := cells_event (c0 := c0) (c1 := c1) (c2 := c2) g0
  obtain ⟨a, b, rfl, rfl, k2⟩ := cells_spot (c0 := c3) (c1 := c4) g1
  obtain ⟨c, e, rfl, rfl, k3⟩ := cells_spot (c0 := c5) (c1 := c6) g2
  obtain ⟨k, e7, _, k7⟩ := DataW.trod_int Try.underlying3 (cs := [c7]) g3
  obtain ⟨n, e8, _, k8⟩ := DataW.trod_int Try.underlying3 (cs := [c8]) g4
  obtain rfl := (List.cons.inj e7).1
  obtain rfl := (List.cons.inj e8).1
  exact ⟨o, u, f, a, b, c, e, k, n, rfl, k0, k1, k2, k3, bounds_i64 k7, bounds_i64 k8⟩
end
end Go.Proofs.Ytcofbaioflfehaa

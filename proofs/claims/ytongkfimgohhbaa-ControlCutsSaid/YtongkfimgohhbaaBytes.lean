/-
  Rows of bytes that a call itself made: what a store does to them, what they are as a string; no condition.
-/
import Derived.Test.YtongkfimgohhbaaGet
namespace Go.Proofs.Ytongkfimgohhbaa
open Go.RowKit

theorem Try.info5 : (Try.prog.info? 5).map (fun i => (i.zero, i.size, i.bytes)) = some (some (.int .u8 0), 1, 1) := by kernel_rfl

def byteV (c : UInt8) : Value := .int .u8 (c.toNat : Int)
/-- The row that begins block g holds the bytes xs. -/
def Row (B g : Nat) (xs : List UInt8) (w : World) : Prop :=
  w.ownsRow B 5 1 (.slice (some ⟨g, 0, none⟩) xs.length xs.length) xs.length (xs.map byteV)
theorem Row.cell {B g : Nat} {xs : List UInt8} {w : World} (h : Row B g xs w) (j : Nat) (hj : j < xs.length) : w.cell? ⟨g, j, none⟩ = some (byteV xs[j]) := by
  rw [World.ownsRow.cellAt h j (by omega)]
  simp [hj]
theorem Row.free {B g : Nat} {xs : List UInt8} {w : World} (h : Row B g xs w) (j : Nat) : w.frozen? ⟨g, j, none⟩ = false :=
  World.ownsRow.frozenAt h j
theorem Row.set {B g : Nat} {xs : List UInt8} {w : World} (h : Row B g xs w) (j : Nat) (c : UInt8) : Row B g (xs.set j c) (w.setCell ⟨g, j, none⟩ (byteV c)) := by
  have := (World.ownsRow.stored h j (byteV c)).1
  unfold Row
  rw [List.length_set, List.map_set]
  exact this
theorem Row.zero {B g n : Nat} {w : World} (h : w.ownsRow B 5 1 (.slice (some ⟨g, 0, none⟩) n n) n (madeCells (Value.cells (.int .u8 0)) (n * 1)).toList) : Row B g (List.replicate n 0) w := by
  unfold Row
  have e : (madeCells (Value.cells (.int .u8 0)) (n * 1)).toList = List.replicate n (.int .u8 0) := by
    rw [Nat.mul_one]; exact toList_madeCells_one _ n
  rw [e] at h
  simp only [List.length_replicate, List.map_replicate]
  exact h
theorem Row.text {B g : Nat} {xs : List UInt8} {w : World} (h : Row B g xs w) (cap : Nat) :
    (convert 69 9 (.slice (some ⟨g, 0, none⟩) xs.length cap)).run Try.prog w = .ok (.string ⟨xs.toArray⟩) w := by
  refine run_convert_bytes_back w 69 9 5 ⟨g, 0, none⟩ cap xs Try.underlying69 Try.underlying5 Try.underlying9 ?_
  intro j hj
  have e : (⟨g, 0, none⟩ : Addr).add j = ⟨g, j, none⟩ := by unfold Addr.add; split <;> simp_all
  rw [e]; exact h.cell j hj
theorem Row.below {B g : Nat} {xs : List UInt8} {w0 w : World} (h : Row B g xs w) (hb : Below B w0 w) (j : Nat) (c : UInt8) : Below B w0 (w.setCell ⟨g, j, none⟩ (byteV c)) := by
  refine hb.setCell ?_ _
  rcases h.2 with ⟨h', _⟩ | ⟨g', cap', cur, h', hB, _⟩
  · simp at h'
  · simp only [Value.slice.injEq, Option.some.injEq, Addr.mk.injEq, and_true] at h'
    rw [h'.1]; exact hB

/-- A row of l.length bytes at block B, those of which D speaks being l's. -/
def Fill (B : Nat) (l : List UInt8) (D : Nat → Prop) (w0 wr : World) : Prop :=
  ∃ xs : List UInt8, xs.length = l.length ∧ (∀ j, j < l.length → D j → xs[j]? = l[j]?) ∧ Row B B xs wr ∧ Below B w0 wr
theorem Fill.start {l : List UInt8} {n : Nat} {w w1 : World} (hn : l.length = n)
    (h : w1.ownsRow w.heap.size 5 1 (.slice (some ⟨w.heap.size, 0, none⟩) n n) n (madeCells (Value.cells (.int .u8 0)) (n * 1)).toList) (hg : w.grownBy w1 none) :
    Fill w.heap.size l (fun _ => False) w w1 :=
  ⟨List.replicate n 0, by simp [hn], fun _ _ h => h.elim, Row.zero h, (Below.refl _ _).grown hg (Nat.le_refl _) (by simp)⟩
theorem Fill.mono {B : Nat} {l : List UInt8} {D D' : Nat → Prop} {w0 wr : World} (h : Fill B l D w0 wr) (hD : ∀ j, j < l.length → D' j → D j) : Fill B l D' w0 wr := by
  obtain ⟨xs, h1, h2, h3, h4⟩ := h
  exact ⟨xs, h1, fun j hj hd => h2 j hj (hD j hj hd), h3, h4⟩
theorem Fill.cell {B : Nat} {l : List UInt8} {D : Nat → Prop} {w0 wr : World} (h : Fill B l D w0 wr) (j : Nat) (hj : j < l.length) : ∃ u : Int, wr.cell? ⟨B, j, none⟩ = some (.int .u8 u) := by
  obtain ⟨xs, h1, h2, h3, h4⟩ := h
  exact ⟨_, h3.cell j (by omega)⟩
theorem Fill.free {B : Nat} {l : List UInt8} {D : Nat → Prop} {w0 wr : World} (h : Fill B l D w0 wr) (j : Nat) : wr.frozen? ⟨B, j, none⟩ = false := by
  obtain ⟨xs, h1, h2, h3, h4⟩ := h
  exact h3.free j
theorem Fill.step {B : Nat} {l : List UInt8} {D : Nat → Prop} {w0 wr : World} (h : Fill B l D w0 wr) (j : Nat) (hj : j < l.length) :
    Fill B l (fun i => D i ∨ i = j) w0 (wr.setCell ⟨B, j, none⟩ (byteV l[j])) := by
  obtain ⟨xs, h1, h2, h3, h4⟩ := h
  refine ⟨xs.set j l[j], by simp [h1], ?_, h3.set j l[j], h3.below h4 j _⟩
  intro i hi hd
  rw [List.getElem?_set]
  by_cases e : j = i
  · subst e
    simp [h1, hi]
  · rw [if_neg e]
    rcases hd with hd | hd
    · exact h2 i hi hd
    · exact absurd hd.symm e
theorem Fill.text {B : Nat} {l : List UInt8} {w0 wr : World} (h : Fill B l (fun _ => True) w0 wr) (cap : Nat) :
    (convert 69 9 (.slice (some ⟨B, 0, none⟩) l.length cap)).run Try.prog wr = .ok (.string ⟨l.toArray⟩) wr := by
  obtain ⟨xs, h1, h2, h3, h4⟩ := h
  have e : xs = l := by
    apply List.ext_getElem?
    intro j
    by_cases hj : j < l.length
    · exact h2 j hj trivial
    · rw [List.getElem?_eq_none (by omega), List.getElem?_eq_none (by omega)]
  subst e
  exact h3.text cap
theorem Fill.below {B : Nat} {l : List UInt8} {D : Nat → Prop} {w0 wr : World} (h : Fill B l D w0 wr) : Below B w0 wr := by
  obtain ⟨xs, h1, h2, h3, h4⟩ := h
  exact h4
/-- The byte that a round of Put stores. -/
theorem enc_get (v n k : Nat) (big : Bool) (hk : k < n) : (enc v n big)[k]'(by rw [enc_length]; exact hk) = UInt8.ofNat (v / 256 ^ plc n k big) := by
  cases big
  · simp only [enc, plc, Bool.false_eq_true, if_false]; exact digs_get v n k hk
  · simp only [enc, plc, if_true]
    rw [List.getElem_reverse]
    simp only [digs_length]
    exact digs_get v n (n - 1 - k) (by omega)
theorem byte_round (v n k : Nat) (big : Bool) (hk : k < n) : Value.int .u8 (IntKind.u8.wrap ((v : Int) / 2 ^ (8 * plc n k big))) = byteV ((enc v n big)[k]'(by rw [enc_length]; exact hk)) := by
  rw [enc_get v n k big hk, byteV, pow_eq, IntKind.wrap_u8, ← Int.natCast_ediv]
  simp [UInt8.toNat_ofNat']
end Go.Proofs.Ytongkfimgohhbaa

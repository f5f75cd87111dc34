/-
  Descriptors and parts that lie in memory; the places of a ring; no condition.
-/
import Derived.Test.YtbpgblmhacpjlaaGreatSGm3
import Derived.Test.YtbpgblmhacpjlaaGreatZh
import Derived.Test.YtbpgblmhacpjlaaGreatZf
namespace Go.Proofs.YtbpgblmhacpjlaaGreat
open Go.RowKit

/-- A descriptor. -/
structure De where
  a : Nat
  n : Nat
  id : Nat
  f : Nat
structure De.Ok (d : De) : Prop where
  a : d.a < 18446744073709551616
  n : d.n < 4294967296
  id : d.id < 65536
  f : d.f < 65536
def De.cells (d : De) : List Value := [.int .u64 (d.a : Int), .int .u32 (d.n : Int), .int .i64 (d.id : Int), .int .i64 (d.f : Int)]
def De.v (d : De) : Value := .agg #[.int .u64 (d.a : Int), .int .u32 (d.n : Int), .int .i64 (d.id : Int), .int .i64 (d.f : Int)]
def desCells (l : List De) : List Value := l.flatMap De.cells
theorem desCells_append (l m : List De) : desCells (l ++ m) = desCells l ++ desCells m := by simp [desCells]
theorem desCells_length (l : List De) : (desCells l).length = l.length * 4 := by
  induction l with
  | nil => rfl
  | cons a l ih => simp only [desCells, List.flatMap_cons, List.length_append, List.length_cons] at ih ⊢; rw [ih]; simp [De.cells]; omega
theorem des_one (d : De) : ∀ u ∈ d.cells, u.oneCell' = true := by
  intro u hu
  simp only [De.cells, List.mem_cons, List.not_mem_nil, or_false] at hu
  rcases hu with rfl | rfl | rfl | rfl <;> rfl
theorem desCells_at (l : List De) (k : Nat) (h : k < l.length) :
    (desCells l)[k * 4]? = some (.int .u64 (l[k].a : Int)) ∧ (desCells l)[k * 4 + 1]? = some (.int .u32 (l[k].n : Int)) ∧ (desCells l)[k * 4 + 2]? = some (.int .i64 (l[k].id : Int)) ∧ (desCells l)[k * 4 + 3]? = some (.int .i64 (l[k].f : Int)) := by
  induction l generalizing k with
  | nil => simp at h
  | cons a l ih =>
    have e : ∀ l : List De, desCells (a :: l) = a.cells ++ desCells l := fun l => by simp [desCells]
    cases k with
    | zero => simp [desCells, De.cells]
    | succ k =>
      obtain ⟨h0, h1, h2, h3⟩ := ih k (by simpa using h)
      have z : a.cells.length = 4 := rfl
      rw [e, List.getElem?_append_right (by rw [z]; omega), List.getElem?_append_right (by rw [z]; omega), List.getElem?_append_right (by rw [z]; omega), List.getElem?_append_right (by rw [z]; omega), z]
      refine ⟨?_, ?_, ?_, ?_⟩
      · rw [show (k + 1) * 4 - 4 = k * 4 by omega]; exact h0
      · rw [show (k + 1) * 4 + 1 - 4 = k * 4 + 1 by omega]; exact h1
      · rw [show (k + 1) * 4 + 2 - 4 = k * 4 + 2 by omega]; exact h2
      · rw [show (k + 1) * 4 + 3 - 4 = k * 4 + 3 by omega]; exact h3

/-- the sixteen bytes at a place; the descriptor there -/
def cut16 (xs : List UInt8) (n : Nat) : ByteArray := ⟨((xs.drop n).take 16).toArray⟩
theorem cut16_size (xs : List UInt8) (n : Nat) (h : n + 16 ≤ xs.length) : (cut16 xs n).size = 16 := by
  show ((xs.drop n).take 16).toArray.size = 16
  simp; omega
def deOf (s : ByteArray) : De := ⟨gn s 0 8, gn s 8 4, gn s 12 2, gn s 14 2⟩
def deAt (xs : List UInt8) (n : Nat) : De := deOf (cut16 xs n)
theorem deAt_ok (xs : List UInt8) (n : Nat) (h : n + 16 ≤ xs.length) : (deAt xs n).Ok := by
  have hs := cut16_size xs n h
  exact ⟨gn_lt _ 0 8 (by omega), gn_lt _ 8 4 (by omega), gn_lt _ 12 2 (by omega), gn_lt _ 14 2 (by omega)⟩
/-- has it this flag? -/
def De.bit (d : De) (b : Nat) : Bool := d.f / b % 2 == 1

def stA (size a k : Nat) : Nat := if a + k < size then a + k else a + k - size
def stW (size a k : Nat) (w : Bool) : Bool := if a + k < size then w else !w
theorem stA_lt {size a k : Nat} (ha : a < size) (hk : k ≤ size) : stA size a k < size := by unfold stA; split <;> omega
theorem nx_st {size a k : Nat} (w : Bool) (h1 : 1 ≤ size) (h2 : size ≤ 32768) (ha : a < size) (hk : k ≤ size) :
    Sp.nxE a size k = 0 ∧ Sp.nxA a size k = (stA size a k : Int) ∧ Sp.nxB a size k w = stW size a k w := by
  have e : Sp.nxE a size k = 0 := Sp.nxE_in (by omega) (by omega) (by omega) (by omega) (by omega) (by omega)
  refine ⟨e, ?_⟩
  by_cases h : a + k < size
  · have := Sp.nx_low w e (by omega)
    rw [this.1, this.2, stA, stW, if_pos h, if_pos h]; exact ⟨by omega, rfl⟩
  · have := Sp.nx_high w e (by omega)
    rw [this.1, this.2, stA, stW, if_neg h, if_neg h]; exact ⟨by omega, rfl⟩

/-- A part. -/
structure Pt where
  at_ : Nat
  n : Nat
  wr : Bool
def Pt.cells (p : Pt) : List Value := [.int .i64 (p.at_ : Int), .int .i64 (p.n : Int), .bool p.wr]
def ptCells (l : List Pt) : List Value := l.flatMap Pt.cells
theorem ptCells_append (l m : List Pt) : ptCells (l ++ m) = ptCells l ++ ptCells m := by simp [ptCells]
theorem ptCells_length (l : List Pt) : (ptCells l).length = l.length * 3 := by
  induction l with
  | nil => rfl
  | cons a l ih => simp only [ptCells, List.flatMap_cons, List.length_append, List.length_cons] at ih ⊢; rw [ih]; simp [Pt.cells]; omega
theorem pt_one (d : Pt) : ∀ u ∈ d.cells, u.oneCell' = true := by
  intro u hu
  simp only [Pt.cells, List.mem_cons, List.not_mem_nil, or_false] at hu
  rcases hu with rfl | rfl | rfl <;> rfl
theorem ptCells_at (l : List Pt) (k : Nat) (h : k < l.length) :
    (ptCells l)[k * 3]? = some (.int .i64 (l[k].at_ : Int)) ∧ (ptCells l)[k * 3 + 1]? = some (.int .i64 (l[k].n : Int)) ∧ (ptCells l)[k * 3 + 2]? = some (.bool l[k].wr) := by
  induction l generalizing k with
  | nil => simp at h
  | cons a l ih =>
    have e : ∀ l : List Pt, ptCells (a :: l) = a.cells ++ ptCells l := fun l => by simp [ptCells]
    cases k with
    | zero => simp [ptCells, Pt.cells]
    | succ k =>
      obtain ⟨h0, h1, h2⟩ := ih k (by simpa using h)
      have z : a.cells.length = 3 := rfl
      rw [e, List.getElem?_append_right (by rw [z]; omega), List.getElem?_append_right (by rw [z]; omega), List.getElem?_append_right (by rw [z]; omega), z]
      refine ⟨?_, ?_, ?_⟩
      · rw [show (k + 1) * 3 - 3 = k * 3 by omega]; exact h0
      · rw [show (k + 1) * 3 + 1 - 3 = k * 3 + 1 by omega]; exact h1
      · rw [show (k + 1) * 3 + 2 - 3 = k * 3 + 2 by omega]; exact h2
def availB (f : Nat) (w : Bool) : Bool := (f / 128 % 2 == 1) == w && !((f / 32768 % 2 == 1) == w)
theorem four_results (f : Func) (w : World) (tmps : Array Value) (t : Tmp) (gf : Nat) (hf : f.results = #[.cell t 89]) (h : tmps[t]?.getD undef = .pointer (some ⟨gf, 0, none⟩)) (a b c d : Value)
    (hF : Blk w gf 89 #[a, b, c, d]) : (results f tmps).run Tryz.prog w = .ok (.agg #[a, b, c, d]) w := by
  have c0 := hF.cell 0
  have c1 := hF.cell 1
  have c2 := hF.cell 2
  have c3 := hF.cell 3
  simp only [List.getElem?_toArray, List.getElem?_cons_zero, List.getElem?_cons_succ] at c0 c1 c2 c3
  simp [results, hf, go_sem, h, c0, c1, c2, c3]
theorem two_results (f : Func) (w : World) (tmps : Array Value) (t : Tmp) (gf : Nat) (hf : f.results = #[.cell t 44]) (h : tmps[t]?.getD undef = .pointer (some ⟨gf, 0, none⟩)) (a b : Value)
    (hF : Blk w gf 44 #[a, b]) : (results f tmps).run Tryz.prog w = .ok (.agg #[a, b]) w := by
  have c0 := hF.cell 0
  have c1 := hF.cell 1
  simp only [List.getElem?_toArray, List.getElem?_cons_zero, List.getElem?_cons_succ] at c0 c1
  simp [results, hf, go_sem, h, c0, c1]

theorem parse_cut (xs : List UInt8) (n : Nat) (h : n + 16 ≤ xs.length) (w : World) :
    Calls Tryz.prog 68 #[.string ⟨((xs.drop n).take 16).toArray⟩] w fun e w' => e = .returned (.tuple #[(deAt xs n).v, .int .i64 0]) ∧ Below w.heap.size w w' := parse_ok (cut16 xs n) (cut16_size xs n h) w
theorem bcell {w w1 : World} (hb : Below w.heap.size w w1) : (∀ b o, b < w.heap.size → w1.cell? ⟨b, o, none⟩ = w.cell? ⟨b, o, none⟩) ∧ (∀ b o, b < w.heap.size → w1.frozen? ⟨b, o, none⟩ = w.frozen? ⟨b, o, none⟩) :=
  ⟨fun b o h => hb.cell (p := ⟨b, o, none⟩) h, fun b o h => hb.frozen (p := ⟨b, o, none⟩) h⟩
theorem blk_third (w : World) (o o' : Obj) (t : TypeId) (cs : Array Value) : Blk ((((w.alloc o).alloc o').alloc (.cells cs t)).drew) (w.heap.size + 1 + 1) t cs := by
  have := (Blk.new ((w.alloc o).alloc o') t cs).drew
  have e : ((w.alloc o).alloc o').heap.size = w.heap.size + 1 + 1 := by simp
  rwa [e] at this
end Go.Proofs.YtbpgblmhacpjlaaGreat

/-
  A queue's numbers; descriptors that lie in memory; the chain that stands at a place: what Next, Done, Tell, Ask answer, as functions; no condition.
-/
import Derived.Test.YtoblemgeacllkaaGm3
import Derived.Test.YtoblemgeacllkaaDpa
import Derived.Test.YtoblemgeacllkaaSnd
import Derived.Test.YtoblemgeacllkaaSev
namespace Go.Proofs.Ytoblemgeacllkaa
open Go.RowKit

/-- A descriptor. -/
structure De where
  a : Nat
  n : Nat
  id : Nat
  f : Nat
structure De.Ok (d : De) : Prop where
  a : d.a < 18446744073709551616
  n : d.n < 4294967296
  id : d.id < 65536
  f : d.f < 65536
def De.cells (d : De) : List Value := [.int .u64 (d.a : Int), .int .u32 (d.n : Int), .int .i64 (d.id : Int), .int .i64 (d.f : Int)]
def De.v (d : De) : Value := .agg #[.int .u64 (d.a : Int), .int .u32 (d.n : Int), .int .i64 (d.id : Int), .int .i64 (d.f : Int)]
def desCells (l : List De) : List Value := l.flatMap De.cells
theorem desCells_append (l m : List De) : desCells (l ++ m) = desCells l ++ desCells m := by simp [desCells]
theorem desCells_length (l : List De) : (desCells l).length = l.length * 4 := by
  induction l with
  | nil => rfl
  | cons a l ih => simp only [desCells, List.flatMap_cons, List.length_append, List.length_cons] at ih ⊢; rw [ih]; simp [De.cells]; omega
theorem des_one (d : De) : ∀ u ∈ d.cells, u.oneCell' = true := by
  intro u hu
  simp only [De.cells, List.mem_cons, List.not_mem_nil, or_false] at hu
  rcases hu with rfl | rfl | rfl | rfl <;> rfl
theorem desCells_at (l : List De) (k : Nat) (h : k < l.length) :
    (desCells l)[k * 4]? = some (.int .u64 (l[k].a : Int)) ∧ (desCells l)[k * 4 + 1]? = some (.int .u32 (l[k].n : Int)) ∧ (desCells l)[k * 4 + 2]? = some (.int .i64 (l[k].id : Int)) ∧ (desCells l)[k * 4 + 3]? = some (.int .i64 (l[k].f : Int)) := by
  induction l generalizing k with
  | nil => simp at h
  | cons a l ih =>
    have e : ∀ l : List De, desCells (a :: l) = a.cells ++ desCells l := fun l => by simp [desCells]
    cases k with
    | zero => simp [desCells, De.cells]
    | succ k =>
      obtain ⟨h0, h1, h2, h3⟩ := ih k (by simpa using h)
      have z : a.cells.length = 4 := rfl
      rw [e, List.getElem?_append_right (by rw [z]; omega), List.getElem?_append_right (by rw [z]; omega), List.getElem?_append_right (by rw [z]; omega), List.getElem?_append_right (by rw [z]; omega), z]
      refine ⟨?_, ?_, ?_, ?_⟩
      · rw [show (k + 1) * 4 - 4 = k * 4 by omega]; exact h0
      · rw [show (k + 1) * 4 + 1 - 4 = k * 4 + 1 by omega]; exact h1
      · rw [show (k + 1) * 4 + 2 - 4 = k * 4 + 2 by omega]; exact h2
      · rw [show (k + 1) * 4 + 3 - 4 = k * 4 + 3 by omega]; exact h3

/-- the sixteen bytes at a place; the descriptor there -/
def cut16 (xs : List UInt8) (n : Nat) : ByteArray := ⟨((xs.drop n).take 16).toArray⟩
theorem cut16_size (xs : List UInt8) (n : Nat) (h : n + 16 ≤ xs.length) : (cut16 xs n).size = 16 := by
  show ((xs.drop n).take 16).toArray.size = 16
  simp; omega
def deOf (s : ByteArray) : De := ⟨gn s 0 8, gn s 8 4, gn s 12 2, gn s 14 2⟩
def deAt (xs : List UInt8) (n : Nat) : De := deOf (cut16 xs n)
theorem deAt_ok (xs : List UInt8) (n : Nat) (h : n + 16 ≤ xs.length) : (deAt xs n).Ok := by
  have hs := cut16_size xs n h
  exact ⟨gn_lt _ 0 8 (by omega), gn_lt _ 8 4 (by omega), gn_lt _ 12 2 (by omega), gn_lt _ 14 2 (by omega)⟩
/-- has it this flag? -/
def De.bit (d : De) (b : Nat) : Bool := d.f / b % 2 == 1

/-! the places of a ring -/
def stA (size a k : Nat) : Nat := if a + k < size then a + k else a + k - size
def stW (size a k : Nat) (w : Bool) : Bool := if a + k < size then w else !w
theorem stA_lt {size a k : Nat} (ha : a < size) (hk : k ≤ size) : stA size a k < size := by unfold stA; split <;> omega
theorem nx_st {size a k : Nat} (w : Bool) (h1 : 1 ≤ size) (h2 : size ≤ 32768) (ha : a < size) (hk : k ≤ size) :
    Sp.nxE a size k = 0 ∧ Sp.nxA a size k = (stA size a k : Int) ∧ Sp.nxB a size k w = stW size a k w := by
  have e : Sp.nxE a size k = 0 := Sp.nxE_in (by omega) (by omega) (by omega) (by omega) (by omega) (by omega)
  refine ⟨e, ?_⟩
  by_cases h : a + k < size
  · have := Sp.nx_low w e (by omega)
    rw [this.1, this.2, stA, stW, if_pos h, if_pos h]; exact ⟨by omega, rfl⟩
  · have := Sp.nx_high w e (by omega)
    rw [this.1, this.2, stA, stW, if_neg h, if_neg h]; exact ⟨by omega, rfl⟩

/-- A queue's numbers. -/
structure Qs where
  ring : Nat
  size : Nat
  drv : Nat
  dev : Nat
  na : Nat
  nw : Bool
  ba : Nat
  bw : Bool
  ta : Nat
  tw : Bool
  since : Nat
  out : Nat
  broken : Bool
structure Qs.Ok (q : Qs) (n : Nat) : Prop where
  s1 : 1 ≤ q.size
  s2 : q.size ≤ 32768
  r : q.ring + 16 * q.size ≤ n
  drv : q.drv + 4 ≤ n
  dev : q.dev + 4 ≤ n
  na : q.na < q.size
  ba : q.ba < q.size
  ta : q.ta < q.size
  out : q.out ≤ q.size
/-- the code's queue as it lies in its block; the document's -/
def Qs.cells (q : Qs) (g : Nat) : Array Value :=
  #[.pointer (some ⟨g, 0, none⟩), .int .i64 (q.ring : Int), .int .i64 (q.size : Int), .int .i64 (q.drv : Int), .int .i64 (q.dev : Int), .int .i64 (q.na : Int), .bool q.nw, .int .i64 (q.ba : Int), .bool q.bw, .int .i64 (q.out : Int), .int .i64 (q.ta : Int), .bool q.tw, .int .i64 (q.since : Int), .bool q.broken]
def Qs.cellsR (q : Qs) (g : Nat) : Array Value :=
  #[.pointer (some ⟨g, 0, none⟩), .int .i64 (q.ring : Int), .int .i64 (q.size : Int), .int .i64 (q.drv : Int), .int .i64 (q.dev : Int), .int .i64 (q.na : Int), .bool q.nw, .int .i64 (q.ba : Int), .bool q.bw, .int .i64 (q.ta : Int), .bool q.tw, .int .i64 (q.since : Int), .int .i64 (q.out : Int), .bool q.broken]

/-! the chain -/
def ringGo (xs : List UInt8) (ring size : Nat) : Nat → Nat → List De → De → Option (List De)
  | 0, _, l, d => if d.bit 1 then none else some (l ++ [d])
  | f + 1, a, l, d => if d.bit 1 then ringGo xs ring size f (stA size a 1) (l ++ [d]) (deAt xs (ring + 16 * stA size a 1)) else some (l ++ [d])
theorem ringGo_end {xs : List UInt8} {ring size f a : Nat} {l : List De} {d : De} (h : d.bit 1 = false) : ringGo xs ring size f a l d = some (l ++ [d]) := by
  cases f <;> simp [ringGo, h]
theorem ringGo_none {xs : List UInt8} {ring size a : Nat} {l : List De} {d : De} (h : d.bit 1 = true) : ringGo xs ring size 0 a l d = none := by simp [ringGo, h]
theorem ringGo_step {xs : List UInt8} {ring size f a : Nat} {l : List De} {d : De} (h : d.bit 1 = true) : ringGo xs ring size (f + 1) a l d = ringGo xs ring size f (stA size a 1) (l ++ [d]) (deAt xs (ring + 16 * stA size a 1)) := by simp [ringGo, h]
theorem ringGo_length {xs : List UInt8} {ring size : Nat} : ∀ {f a : Nat} {l : List De} {d : De} {r : List De}, ringGo xs ring size f a l d = some r → l.length + 1 ≤ r.length ∧ r.length ≤ l.length + 1 + f := by
  intro f
  induction f with
  | zero =>
    intro a l d r h
    cases hb : d.bit 1
    · rw [ringGo_end hb] at h; injection h with h; subst h; simp
    · rw [ringGo_none hb] at h; cases h
  | succ f ih =>
    intro a l d r h
    cases hb : d.bit 1
    · rw [ringGo_end hb] at h; injection h with h; subst h; simp
    · rw [ringGo_step hb] at h
      have := ih h
      simp at this
      omega
def allowed (q : Qs) : Nat := min (q.size - q.out) 64
def ringV (xs : List UInt8) (q : Qs) : Option (List De) := ringGo xs q.ring q.size (allowed q - 1) q.na [] (deAt xs (q.ring + 16 * q.na))

/-- a table's descriptors -/
def tabOk (xs : List UInt8) (d : De) : Bool := decide (0 < d.n ∧ d.n % 16 = 0 ∧ d.n ≤ 1024 ∧ d.a + d.n ≤ xs.length)
def tabL (xs : List UInt8) (d : De) : List De := (List.range (d.n / 16)).map fun i => deAt xs (d.a + 16 * i)
def nameV (xs : List UInt8) (l : List De) : Option (List De) :=
  match l with
  | [d] => if d.bit 4 then (if tabOk xs d then some (tabL xs d) else none) else some [d]
  | l => some l

/-- A part. -/
structure Pt where
  at_ : Nat
  n : Nat
  wr : Bool
def Pt.cells (p : Pt) : List Value := [.int .i64 (p.at_ : Int), .int .i64 (p.n : Int), .bool p.wr]
def ptCells (l : List Pt) : List Value := l.flatMap Pt.cells
theorem ptCells_append (l m : List Pt) : ptCells (l ++ m) = ptCells l ++ ptCells m := by simp [ptCells]
theorem ptCells_length (l : List Pt) : (ptCells l).length = l.length * 3 := by
  induction l with
  | nil => rfl
  | cons a l ih => simp only [ptCells, List.flatMap_cons, List.length_append, List.length_cons] at ih ⊢; rw [ih]; simp [Pt.cells]; omega
theorem pt_one (d : Pt) : ∀ u ∈ d.cells, u.oneCell' = true := by
  intro u hu
  simp only [Pt.cells, List.mem_cons, List.not_mem_nil, or_false] at hu
  rcases hu with rfl | rfl | rfl <;> rfl
theorem ptCells_at (l : List Pt) (k : Nat) (h : k < l.length) :
    (ptCells l)[k * 3]? = some (.int .i64 (l[k].at_ : Int)) ∧ (ptCells l)[k * 3 + 1]? = some (.int .i64 (l[k].n : Int)) ∧ (ptCells l)[k * 3 + 2]? = some (.bool l[k].wr) := by
  induction l generalizing k with
  | nil => simp at h
  | cons a l ih =>
    have e : ∀ l : List Pt, ptCells (a :: l) = a.cells ++ ptCells l := fun l => by simp [ptCells]
    cases k with
    | zero => simp [ptCells, Pt.cells]
    | succ k =>
      obtain ⟨h0, h1, h2⟩ := ih k (by simpa using h)
      have z : a.cells.length = 3 := rfl
      rw [e, List.getElem?_append_right (by rw [z]; omega), List.getElem?_append_right (by rw [z]; omega), List.getElem?_append_right (by rw [z]; omega), z]
      refine ⟨?_, ?_, ?_⟩
      · rw [show (k + 1) * 3 - 3 = k * 3 by omega]; exact h0
      · rw [show (k + 1) * 3 + 1 - 3 = k * 3 + 1 by omega]; exact h1
      · rw [show (k + 1) * 3 + 2 - 3 = k * 3 + 2 by omega]; exact h2
/-- has this descriptor bytes within memory, and does it name no table? -/
def De.fit (xs : List UInt8) (d : De) : Bool := decide (0 < d.n ∧ d.a + d.n ≤ xs.length)
def partsGo (xs : List UInt8) : List De → Bool → Option (List Pt)
  | [], _ => some []
  | d :: r, w => if !d.bit 4 && d.fit xs && (d.bit 2 || !w) then (partsGo xs r (d.bit 2)).map (⟨d.a, d.n, d.bit 2⟩ :: ·) else none
/-- A chain. -/
structure Ch where
  id : Nat
  count : Nat
  parts : List Pt
def lastId (l : List De) : Nat := match l.getLast? with | some d => d.id | none => 0
def chainV (xs : List UInt8) (q : Qs) : Option Ch :=
  (ringV xs q).bind fun l => (nameV xs l).bind fun n => (partsGo xs n false).map fun p => ⟨lastId l, l.length, p⟩

/-! what is asked of a queue -/
def availB (f : Nat) (w : Bool) : Bool := (f / 128 % 2 == 1) == w && !((f / 32768 % 2 == 1) == w)
def noCh : Ch := ⟨0, 0, []⟩
/-- Next: the chain, is there one, the error, the queue then -/
def nextC (xs : List UInt8) (q : Qs) : Ch × Bool × Int × Qs :=
  if q.broken then (noCh, false, 141, q) else
  if q.out = q.size then (noCh, false, 0, q) else
  if availB (deAt xs (q.ring + 16 * q.na)).f q.nw then
    match chainV xs q with
    | none => (noCh, false, 141, { q with broken := true })
    | some c => (c, true, 0, { q with na := stA q.size q.na c.count, nw := stW q.size q.na c.count q.nw, out := q.out + c.count })
  else (noCh, false, 0, q)
end Go.Proofs.Ytoblemgeacllkaa

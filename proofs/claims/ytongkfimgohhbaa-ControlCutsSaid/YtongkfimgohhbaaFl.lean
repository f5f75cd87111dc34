/-
  Filters as values; slices that lie below a block; a variable's block; what a list of networks must be; no condition.
-/
import Derived.Test.YtongkfimgohhbaaCatch
import Derived.Test.YtongkfimgohhbaaKd
import Derived.Deep.AppendLies
import Derived.OwnWalk
namespace Go.Proofs.Ytongkfimgohhbaa
open Go.RowKit

/-- A slice whose cells, below block B, are these values. -/
def Rd (B : Nat) (A : Option Addr) (xs : List Value) (w : World) : Prop :=
  0 < xs.length → ∃ b off, A = some ⟨b, off, none⟩ ∧ b < B ∧ ∀ (i : Nat) (h : i < xs.length), w.cell? ⟨b, off + i, none⟩ = some xs[i]
section
variable {B B' : Nat} {A : Option Addr} {xs : List Value} {w w' : World}
theorem Rd.far (h : Rd B A xs w) (hB : B ≤ B') (hq : Below B' w w') : Rd B A xs w' := by
  intro hn
  obtain ⟨b, off, hA, hlt, hc⟩ := h hn
  exact ⟨b, off, hA, hlt, fun i hi => (hq.cell (p := ⟨b, off + i, none⟩) (Nat.lt_of_lt_of_le hlt hB)).trans (hc i hi)⟩
theorem Rd.more (h : Rd B A xs w) (hB : B ≤ B') : Rd B' A xs w := by
  intro hn
  obtain ⟨b, off, hA, hlt, hc⟩ := h hn
  exact ⟨b, off, hA, Nat.lt_of_lt_of_le hlt hB, hc⟩
theorem Rd.take (h : Rd B A xs w) (n : Nat) : Rd B A (xs.take n) w := by
  intro hn
  have hl : 0 < xs.length := by rw [List.length_take] at hn; omega
  obtain ⟨b, off, hA, hlt, hc⟩ := h hl
  refine ⟨b, off, hA, hlt, fun i hi => ?_⟩
  rw [List.getElem_take]
  exact hc i (by rw [List.length_take] at hi; omega)
theorem Rd.nil : Rd B A [] w := fun h => absurd h (by simp)
theorem Rd.none_ (h : Rd B none xs w) : xs = [] := by
  cases xs with
  | nil => rfl
  | cons x r =>
    obtain ⟨b, off, hA, _⟩ := h (by simp)
    cases hA
theorem Rd.of_own {base n c : Nat} {e : TypeId} (h : w.ownsRow base e 1 (.slice A n c) n xs) : Rd w.heap.size A xs w := by
  intro hn
  have hl : xs.length = n := by have := h.1; omega
  have hlt := h.lt
  rcases h.2 with ⟨hv, hz⟩ | ⟨g, cap, cur, hv, hb, hg, _⟩
  · omega
  · injection hv with hA
    subst hA
    refine ⟨g, 0, rfl, (hlt g rfl).2, fun i hi => ?_⟩
    rw [Nat.zero_add, World.ownsRow.cellAt h i (by omega)]
    simp [hi]
theorem Rd.own {base n c : Nat} {e : TypeId} (h : w.ownsRow base e 1 (.slice A n c) n xs) (hB : w.heap.size ≤ B) : Rd B A xs w := (Rd.of_own h).more hB
end
def intV (x : Int) : Value := .int .i64 x
def strV (s : ByteArray) : Value := .string s
theorem Rd.str {B : Nat} {A : Option Addr} {us : List ByteArray} {w : World} (h : Rd B A (us.map strV) w) (k : Nat) (hk : k < us.length) : ∃ b off x, A = some ⟨b, off, none⟩ ∧ us[k] = x ∧ w.cell? ⟨b, off + k, none⟩ = some (.string x) := by
  obtain ⟨b, off, hA, _, hc⟩ := h (by rw [List.length_map]; omega)
  refine ⟨b, off, _, hA, rfl, ?_⟩
  have := hc k (by rw [List.length_map]; omega)
  simpa [strV] using this
theorem Rd.int {B : Nat} {A : Option Addr} {L : List Int} {w : World} (h : Rd B A (L.map intV) w) (k : Nat) (hk : k < L.length) : ∃ b off x, A = some ⟨b, off, none⟩ ∧ L[k] = x ∧ w.cell? ⟨b, off + k, none⟩ = some (.int .i64 x) := by
  obtain ⟨b, off, hA, _, hc⟩ := h (by rw [List.length_map]; omega)
  refine ⟨b, off, _, hA, rfl, ?_⟩
  have := hc k (by rw [List.length_map]; omega)
  simpa [intV] using this
/-- A filter, with the places of its lists. -/
structure Fl where
  mac : ByteArray
  pr : Bool
  au : Bool
  am : Bool
  nu : Bool
  nm : Bool
  na : Bool
  U : Option Addr
  us : List ByteArray
  uc : Nat
  M : Option Addr
  ms : List ByteArray
  mc : Nat
  vo : Bool
  V : Option Addr
  vs : List Int
  vc : Nat
@[reducible] def Fl.cells (F : Fl) : Array Value := #[.string F.mac, .bool F.pr, .bool F.au, .bool F.am, .bool F.nu, .bool F.nm, .bool F.na, .slice F.U F.us.length F.uc, .slice F.M F.ms.length F.mc, .bool F.vo, .slice F.V F.vs.length F.vc]
@[reducible] def Fl.val (F : Fl) : Value := .agg F.cells
/-- Its lists stand in memory, below block B. -/
structure Fl.At (F : Fl) (B : Nat) (w : World) : Prop where
  u : Rd B F.U (F.us.map strV) w
  m : Rd B F.M (F.ms.map strV) w
  v : Rd B F.V (F.vs.map intV) w
theorem Fl.At.far {F : Fl} {B B' : Nat} {w w' : World} (h : F.At B w) (hB : B ≤ B') (hq : Below B' w w') : F.At B w' := ⟨h.u.far hB hq, h.m.far hB hq, h.v.far hB hq⟩
theorem Fl.At.more {F : Fl} {B B' : Nat} {w : World} (h : F.At B w) (hB : B ≤ B') : F.At B' w := ⟨h.u.more hB, h.m.more hB, h.v.more hB⟩
/-- How long its lists may be, and are. -/
structure Fl.Fit (F : Fl) : Prop where
  u : F.us.length ≤ F.uc
  m : F.ms.length ≤ F.mc
  v : F.vs.length ≤ F.vc
  nu : F.U = none → F.uc = 0
  nm : F.M = none → F.mc = 0
  nv : F.V = none → F.vc = 0
/-- A variable's block; all that was there is as it was. -/
structure Held (w0 : World) (t : TypeId) (cs : Array Value) (w : World) : Prop where
  blk : Blk w w0.heap.size t cs
  below : Below w0.heap.size w0 w
theorem Held.new (w : World) (t : TypeId) (cs : Array Value) : Held w t cs (w.alloc (.cells cs t)) := ⟨Blk.new w t _, (Below.refl _ _).alloc (Nat.le_refl _) _⟩
theorem Held.next {w w1 w' : World} {t : TypeId} {cs : Array Value} (h : Held w t cs w1) (hq : Below w1.heap.size w1 w') : Held w t cs w' :=
  ⟨h.blk.same (hq.block _ h.blk.lt), h.below.trans (hq.mono h.below.size)⟩
theorem Held.drew {w w1 : World} {t : TypeId} {cs : Array Value} (h : Held w t cs w1) : Held w t cs w1.drew := ⟨h.blk, h.below.drew⟩
theorem b0 (w : World) : Below w.heap.size w w := Below.refl _ _
theorem ba {w w1 : World} (h : Below w.heap.size w w1) (o : Obj) : Below w.heap.size w (w1.alloc o) := h.alloc h.size o
theorem bt2 {w w1 w2 : World} (h : Below w.heap.size w w1) (g : Below w1.heap.size w1 w2) : Below w.heap.size w w2 := h.trans (g.mono h.size)
/-- may a network have this number? -/
def isV (v : Int) : Bool := decide (0 ≤ v) && decide (v ≤ 4094)
def ascG : Int → List Int → Bool
  | _, [] => true
  | m, v :: r => isV v && decide (m ≤ v) && ascG (v + 1) r
/-- may networks be? -/
def ascB (L : List Int) : Bool := ascG 0 L
def lastP (L : List Int) (k : Nat) : Int := if h : 0 < k ∧ k ≤ L.length then L[k - 1]'(by omega) + 1 else 0
theorem lastP_zero (L : List Int) : lastP L 0 = 0 := by simp [lastP]
theorem lastP_next (L : List Int) (k : Nat) (hk : k < L.length) : lastP L (k + 1) = L[k] + 1 := by
  unfold lastP
  rw [dif_pos (by omega)]
  rfl
theorem asc_end (L : List Int) (m : Int) (k : Nat) (hk : L.length ≤ k) (h : ascG m (L.drop k) = ascB L) : ascB L = true := by
  rw [← h, List.drop_eq_nil_of_le hk]; rfl
theorem asc_next (L : List Int) (m : Int) (k : Nat) (hk : k < L.length) (h : ascG m (L.drop k) = ascB L) (h1 : isV L[k] = true) (h2 : m ≤ L[k]) : ascG (L[k] + 1) (L.drop (k + 1)) = ascB L := by
  rw [List.drop_eq_getElem_cons hk] at h
  simpa [ascG, h1, h2] using h
theorem asc_bad (L : List Int) (m : Int) (k : Nat) (hk : k < L.length) (h : ascG m (L.drop k) = ascB L) (h1 : isV L[k] = false ∨ L[k] < m) : ascB L = false := by
  rw [List.drop_eq_getElem_cons hk] at h
  rw [← h]
  rcases h1 with h1 | h1
  · simp [ascG, h1]
  · have : ¬ m ≤ L[k] := by omega
    simp [ascG, this]
theorem ascG_iff : ∀ (L : List Int) (m : Int), ascG m L = true ↔ (∀ v ∈ L, m ≤ v ∧ 0 ≤ v ∧ v ≤ 4094) ∧ L.Pairwise (· < ·)
  | [], m => by simp [ascG]
  | v :: r, m => by
    rw [ascG, Bool.and_eq_true, Bool.and_eq_true, isV, Bool.and_eq_true, decide_eq_true_eq, decide_eq_true_eq, decide_eq_true_eq, ascG_iff r (v + 1), List.pairwise_cons]
    constructor
    · rintro ⟨⟨⟨h0, h1⟩, h2⟩, h3, h4⟩
      refine ⟨fun x hx => ?_, fun x hx => ?_, h4⟩
      · rcases List.mem_cons.1 hx with rfl | hx
        · exact ⟨h2, h0, h1⟩
        · have := h3 x hx; omega
      · have := h3 x hx; omega
    · rintro ⟨h1, h2, h3⟩
      have hv := h1 v (by simp)
      refine ⟨⟨⟨hv.2.1, hv.2.2⟩, hv.1⟩, fun x hx => ?_, h3⟩
      have := h1 x (by simp [hx])
      have := h2 x hx
      omega
theorem ascB_iff (L : List Int) : ascB L = true ↔ (∀ v ∈ L, 0 ≤ v ∧ v ≤ 4094) ∧ L.Pairwise (· < ·) := by
  rw [ascB, ascG_iff]
  constructor
  · rintro ⟨h, g⟩; exact ⟨fun v hv => (h v hv).2, g⟩
  · rintro ⟨h, g⟩; exact ⟨fun v hv => ⟨(h v hv).1, h v hv⟩, g⟩
end Go.Proofs.Ytongkfimgohhbaa

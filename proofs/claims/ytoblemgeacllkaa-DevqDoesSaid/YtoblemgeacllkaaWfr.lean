/-
  A world of a queue's script that comes in by value, opened: its numbers, and each call of its script, wherever it lies; no condition.
-/
import Derived.Test.YtoblemgeacllkaaLaw
import Derived.Test.YtoblemgeacllkaaDbk
import Derived.Test.YtoblemgeacllkaaGm1
import Derived.Deep.Strs
import Derived.Deep.Slices
import Derived.ChangeSlices
import Derived.BigQuiet
namespace Go.Proofs.Ytoblemgeacllkaa
open Go.Joins Go.ChangeShapes Go.WideShapes Go.ChangeAt Go.RowKit Go.Deep
open Go.ChangeMaps (open_string shut_string)

theorem Try.cells3 : Try.prog.cellsOf 3 = 1 := by kernel_rfl
theorem Try.cells4 : Try.prog.cellsOf 4 = 1 := by kernel_rfl
theorem Try.cells9 : Try.prog.cellsOf 9 = 1 := by kernel_rfl
theorem Try.cells23 : Try.prog.cellsOf 23 = 4 := by kernel_rfl
theorem Try.cells24 : Try.prog.cellsOf 24 = 1 := by kernel_rfl
theorem Try.cells26 : Try.prog.cellsOf 26 = 6 := by kernel_rfl
theorem Try.cells32 : Try.prog.cellsOf 32 = 1 := by kernel_rfl
theorem Try.cells33 : Try.prog.cellsOf 33 = 1 := by kernel_rfl
theorem Try.cells35 : Try.prog.cellsOf 35 = 4 := by kernel_rfl
theorem Try.cells37 : Try.prog.cellsOf 37 = 3 := by kernel_rfl
theorem Try.cells39 : Try.prog.cellsOf 39 = 13 := by kernel_rfl
/-- A call of a script. -/
structure OpV where
  k : Int
  a : Int
  da : Nat
  dn : Nat
  di : Int
  df : Int
  s : ByteArray
  n : Int
  wr : Int
  eo : Int
  ew : Bool
  ef : Int
  v : Bool
def OpV.cells (o : OpV) : List Value := [.int .i64 o.k, .int .i64 o.a, .int .u64 (o.da : Int), .int .u32 (o.dn : Int), .int .i64 o.di, .int .i64 o.df, .string o.s, .int .i64 o.n, .int .i64 o.wr, .int .i64 o.eo, .bool o.ew, .int .i64 o.ef, .bool o.v]
structure OpV.Ok (o : OpV) : Prop where
  da : o.da < 18446744073709551616
  dn : o.dn < 4294967296
/-- A slice of calls that came in, nil let in. -/
def OpsAt (A : Option Addr) (n : Nat) (w : World) : Prop := 0 < n → ∃ b off, A = some ⟨b, off, none⟩ ∧ b < w.heap.size ∧ ∀ i, i < n → ∃ o : OpV, o.Ok ∧ ∀ (j : Nat) (u : Value), o.cells[j]? = some u → w.cell? ⟨b, off + (i * 13 + j), none⟩ = some u
theorem OpsAt.below {A : Option Addr} {n : Nat} {w w' : World} (h : OpsAt A n w) (hb : Below w.heap.size w w') : OpsAt A n w' := by
  intro hn
  obtain ⟨b, off, hA, hlt, hc⟩ := h hn
  refine ⟨b, off, hA, by have := hb.size; omega, fun i hi => ?_⟩
  obtain ⟨o, ho, hj⟩ := hc i hi
  exact ⟨o, ho, fun j u hu => (hb.cell (p := ⟨b, off + (i * 13 + j), none⟩) hlt).trans (hj j u hu)⟩
theorem OpsAt.far {A : Option Addr} {n : Nat} {w w' : World} (h : OpsAt A n w) {B : Nat} (hB : w.heap.size ≤ B) (hb : Below B w w') : OpsAt A n w' := by
  intro hn
  obtain ⟨b, off, hA, hlt, hc⟩ := h hn
  refine ⟨b, off, hA, by have := hb.size; omega, fun i hi => ?_⟩
  obtain ⟨o, ho, hj⟩ := hc i hi
  exact ⟨o, ho, fun j u hu => (hb.cell (p := ⟨b, off + (i * 13 + j), none⟩) (Nat.lt_of_lt_of_le hlt hB)).trans (hj j u hu)⟩
section
variable {H : Type} {enc : TypeId × Value → H} {w : World} {base : Nat} {spare : Nat → Bool} {held : Bool}
theorem cells_lay {m : Nat} {c0 c1 c2 c3 : Value} {x : DataW H × List MemPlace} (h : DataW.trod enc Try.prog w base spare held m 23 [c0, c1, c2, c3] = some x) :
    ∃ (a b c d : Int), c0 = .int .i64 a ∧ c1 = .int .i64 b ∧ c2 = .int .i64 c ∧ c3 = .int .i64 d := by
  obtain ⟨ys, m, _, _, _, hyl, hg⟩ := DataW.trod_struct Try.underlying23 h
  match ys, hyl with
  | [y0, y1, y2, y3], _ =>
  have g0 := hg 0 _ rfl
  have g1 := hg 1 _ rfl
  have g2 := hg 2 _ rfl
  have g3 := hg 3 _ rfl
  change DataW.trod enc Try.prog w base spare held m 3 (List.take (Try.prog.cellsOf 3) (List.drop 0 [c0, c1, c2, c3])) = some y0 at g0
  rw [Try.cells3] at g0
  change DataW.trod enc Try.prog w base spare held m 3 (List.take (Try.prog.cellsOf 3) (List.drop 1 [c0, c1, c2, c3])) = some y1 at g1
  rw [Try.cells3] at g1
  change DataW.trod enc Try.prog w base spare held m 3 (List.take (Try.prog.cellsOf 3) (List.drop 2 [c0, c1, c2, c3])) = some y2 at g2
  rw [Try.cells3] at g2
  change DataW.trod enc Try.prog w base spare held m 3 (List.take (Try.prog.cellsOf 3) (List.drop 3 [c0, c1, c2, c3])) = some y3 at g3
  rw [Try.cells3] at g3
  obtain ⟨a, e0, _, _⟩ := DataW.trod_int Try.underlying3 (cs := [c0]) g0
  obtain ⟨b, e1, _, _⟩ := DataW.trod_int Try.underlying3 (cs := [c1]) g1
  obtain ⟨c, e2, _, _⟩ := DataW.trod_int Try.underlying3 (cs := [c2]) g2
  obtain ⟨d, e3, _, _⟩ := DataW.trod_int Try.underlying3 (cs := [c3]) g3
  simp at e0 e1 e2 e3
  exact ⟨a, b, c, d, e0, e1, e2, e3⟩
theorem cells_desc {m : Nat} {c0 c1 c2 c3 : Value} {x : DataW H × List MemPlace} (h : DataW.trod enc Try.prog w base spare held m 35 [c0, c1, c2, c3] = some x) :
    ∃ (a b : Nat) (c d : Int), c0 = .int .u64 (a : Int) ∧ c1 = .int .u32 (b : Int) ∧ c2 = .int .i64 c ∧ c3 = .int .i64 d ∧ a < 18446744073709551616 ∧ b < 4294967296 := by
  obtain ⟨ys, m, _, _, _, hyl, hg⟩ := DataW.trod_struct Try.underlying35 h
  match ys, hyl with
  | [y0, y1, y2, y3], _ =>
  have g0 := hg 0 _ rfl
  have g1 := hg 1 _ rfl
  have g2 := hg 2 _ rfl
  have g3 := hg 3 _ rfl
  change DataW.trod enc Try.prog w base spare held m 32 (List.take (Try.prog.cellsOf 32) (List.drop 0 [c0, c1, c2, c3])) = some y0 at g0
  rw [Try.cells32] at g0
  change DataW.trod enc Try.prog w base spare held m 33 (List.take (Try.prog.cellsOf 33) (List.drop 1 [c0, c1, c2, c3])) = some y1 at g1
  rw [Try.cells33] at g1
  change DataW.trod enc Try.prog w base spare held m 3 (List.take (Try.prog.cellsOf 3) (List.drop 2 [c0, c1, c2, c3])) = some y2 at g2
  rw [Try.cells3] at g2
  change DataW.trod enc Try.prog w base spare held m 3 (List.take (Try.prog.cellsOf 3) (List.drop 3 [c0, c1, c2, c3])) = some y3 at g3
  rw [Try.cells3] at g3
  obtain ⟨a, e0, _, k0⟩ := DataW.trod_int Try.underlying32 (cs := [c0]) g0
  obtain ⟨b, e1, _, k1⟩ := DataW.trod_int Try.underlying33 (cs := [c1]) g1
  obtain ⟨c, e2, _, _⟩ := DataW.trod_int Try.underlying3 (cs := [c2]) g2
  obtain ⟨d, e3, _, _⟩ := DataW.trod_int Try.underlying3 (cs := [c3]) g3
  simp at e0 e1 e2 e3
  have k0 := bounds_u64 k0
  have k1 := bounds_u32 k1
  obtain ⟨a, rfl⟩ := Int.eq_ofNat_of_zero_le k0.1
  obtain ⟨b, rfl⟩ := Int.eq_ofNat_of_zero_le k1.1
  exact ⟨a, b, c, d, e0, e1, e2, e3, by omega, by omega⟩
theorem cells_event {m : Nat} {c0 c1 c2 : Value} {x : DataW H × List MemPlace} (h : DataW.trod enc Try.prog w base spare held m 37 [c0, c1, c2] = some x) :
    ∃ (o : Int) (v : Bool) (f : Int), c0 = .int .i64 o ∧ c1 = .bool v ∧ c2 = .int .i64 f := by
  obtain ⟨ys, m, _, _, _, hyl, hg⟩ := DataW.trod_struct Try.underlying37 h
  match ys, hyl with
  | [y0, y1, y2], _ =>
  have g0 := hg 0 _ rfl
  have g1 := hg 1 _ rfl
  have g2 := hg 2 _ rfl
  change DataW.trod enc Try.prog w base spare held m 3 (List.take (Try.prog.cellsOf 3) (List.drop 0 [c0, c1, c2])) = some y0 at g0
  rw [Try.cells3] at g0
  change DataW.trod enc Try.prog w base spare held m 4 (List.take (Try.prog.cellsOf 4) (List.drop 1 [c0, c1, c2])) = some y1 at g1
  rw [Try.cells4] at g1
  change DataW.trod enc Try.prog w base spare held m 3 (List.take (Try.prog.cellsOf 3) (List.drop 2 [c0, c1, c2])) = some y2 at g2
  rw [Try.cells3] at g2
  obtain ⟨a, e0, _, _⟩ := DataW.trod_int Try.underlying3 (cs := [c0]) g0
  obtain ⟨b, e1, _⟩ := DataW.trod_bool Try.underlying4 (cs := [c1]) g1
  obtain ⟨c, e2, _, _⟩ := DataW.trod_int Try.underlying3 (cs := [c2]) g2
  simp at e0 e1 e2
  exact ⟨a, b, c, e0, e1, e2⟩
set_option maxRecDepth 100000 in
theorem cells_op {m : Nat} {l : List Value} {x : DataW H × List MemPlace} (hl : l.length = 13) (h : DataW.trod enc Try.prog w base spare held m 39 l = some x) :
    ∃ o : OpV, o.Ok ∧ l = o.cells := by
  match l, hl with
  | [c0, c1, c2, c3, c4, c5, c6, c7, c8, c9, c10, c11, c12], _ =>
  obtain ⟨ys, m, _, _, _, hyl, hg⟩ := DataW.trod_struct Try.underlying39 h
  match ys, hyl with
  | [y0, y1, y2, y3, y4, y5, y6, y7], _ =>
  have g0 := hg 0 _ rfl
  have g1 := hg 1 _ rfl
  have g2 := hg 2 _ rfl
  have g3 := hg 3 _ rfl
  have g4 := hg 4 _ rfl
  have g5 := hg 5 _ rfl
  have g6 := hg 6 _ rfl
  have g7 := hg 7 _ rfl
  change DataW.trod enc Try.prog w base spare held m 3 (List.take (Try.prog.cellsOf 3) (List.drop 0 [c0, c1, c2, c3, c4, c5, c6, c7, c8, c9, c10, c11, c12])) = some y0 at g0
  rw [Try.cells3] at g0
  change DataW.trod enc Try.prog w base spare held m 3 (List.take (Try.prog.cellsOf 3) (List.drop 1 [c0, c1, c2, c3, c4, c5, c6, c7, c8, c9, c10, c11, c12])) = some y1 at g1
  rw [Try.cells3] at g1
  change DataW.trod enc Try.prog w base spare held m 35 (List.take (Try.prog.cellsOf 35) (List.drop 2 [c0, c1, c2, c3, c4, c5, c6, c7, c8, c9, c10, c11, c12])) = some y2 at g2
  rw [Try.cells35] at g2
  change DataW.trod enc Try.prog w base spare held m 9 (List.take (Try.prog.cellsOf 9) (List.drop 6 [c0, c1, c2, c3, c4, c5, c6, c7, c8, c9, c10, c11, c12])) = some y3 at g3
  rw [Try.cells9] at g3
  change DataW.trod enc Try.prog w base spare held m 3 (List.take (Try.prog.cellsOf 3) (List.drop 7 [c0, c1, c2, c3, c4, c5, c6, c7, c8, c9, c10, c11, c12])) = some y4 at g4
  rw [Try.cells3] at g4
  change DataW.trod enc Try.prog w base spare held m 3 (List.take (Try.prog.cellsOf 3) (List.drop 8 [c0, c1, c2, c3, c4, c5, c6, c7, c8, c9, c10, c11, c12])) = some y5 at g5
  rw [Try.cells3] at g5
  change DataW.trod enc Try.prog w base spare held m 37 (List.take (Try.prog.cellsOf 37) (List.drop 9 [c0, c1, c2, c3, c4, c5, c6, c7, c8, c9, c10, c11, c12])) = some y6 at g6
  rw [Try.cells37] at g6
  change DataW.trod enc Try.prog w base spare held m 4 (List.take (Try.prog.cellsOf 4) (List.drop 12 [c0, c1, c2, c3, c4, c5, c6, c7, c8, c9, c10, c11, c12])) = some y7 at g7
  rw [Try.cells4] at g7
  obtain ⟨k, e0, _, _⟩ := DataW.trod_int Try.underlying3 (cs := [c0]) g0
  obtain ⟨a, e1, _, _⟩ := DataW.trod_int Try.underlying3 (cs := [c1]) g1
  obtain ⟨da, dn, di, df, rfl, rfl, rfl, rfl, b0, b1⟩ := cells_desc (c0 := c2) (c1 := c3) (c2 := c4) (c3 := c5) g2
  obtain ⟨s, e3, _, _⟩ := DataW.trod_string Try.underlying9 (cs := [c6]) g3
  obtain ⟨n, e4, _, _⟩ := DataW.trod_int Try.underlying3 (cs := [c7]) g4
  obtain ⟨wr, e5, _, _⟩ := DataW.trod_int Try.underlying3 (cs := [c8]) g5
  obtain ⟨eo, ew, ef, rfl, rfl, rfl⟩ := cells_event (c0 := c9) (c1 := c10) (c2 := c11) g6
  obtain ⟨v, e7, _⟩ := DataW.trod_bool Try.underlying4 (cs := [c12]) g7
  obtain rfl := (List.cons.inj e0).1
  obtain rfl := (List.cons.inj e1).1
  obtain rfl := (List.cons.inj e3).1
  obtain rfl := (List.cons.inj e4).1
  obtain rfl := (List.cons.inj e5).1
  obtain rfl := (List.cons.inj e7).1
  exact ⟨⟨k, a, da, dn, di, df, s, n, wr, eo, ew, ef, v⟩, ⟨b0, b1⟩, rfl⟩
theorem open_ops {m : Nat} {c : Value} {x : DataW H × List MemPlace} (h : DataW.trod enc Try.prog w base spare held m 24 [c] = some x) :
    ∃ (A : Option Addr) (n cap : Nat), c = .slice A n cap ∧ OpsAt A n w ∧ n ≤ 9223372036854775807 := by
  rcases open_slice Try.underlying24 h with ⟨hcs, _⟩ | ⟨a, len, cap, mm, fu, Dd, Pl, hcs, _, hle, hcap, hmm, _, hx⟩
  · simp at hcs
    exact ⟨none, 0, 0, hcs, fun h => absurd h (Nat.lt_irrefl _), by omega⟩
  · simp at hcs
    refine ⟨some a, len, cap, hcs, ?_, by unfold maxLen at hcap; omega⟩
    have hlm : len ≤ mm := by rw [hmm]; split <;> omega
    have each : ∀ i, i < len → ∃ o : OpV, o.Ok ∧ ∀ (j : Nat) (u : Value), o.cells[j]? = some u → w.cell? ((a.add (i * 13)).add j) = some u := by
      intro i hi
      obtain ⟨cs', h1, h2⟩ := hx i (by omega)
      rw [Try.cells39] at h1
      obtain ⟨_, hlen, hc⟩ := World.cells?_some h1
      obtain ⟨o, ho, rfl⟩ := cells_op hlen h2
      refine ⟨o, ho, fun j u hu => ?_⟩
      have hj : j < 13 := by
        have := (List.getElem?_eq_some_iff.1 hu).1
        simpa [OpV.cells] using this
      rw [hc j hj]; exact hu
    intro hn
    obtain ⟨b, off, sp⟩ := a
    obtain ⟨o, ho, h0⟩ := each 0 hn
    have h0 := h0 0 _ rfl
    have e0 : ((⟨b, off, sp⟩ : Addr).add (0 * 13)).add 0 = ⟨b, off, sp⟩ := rfl
    rw [e0] at h0
    have hlt : b < w.heap.size := World.block_lt_of_cell? w _ h0
    have hs : sp = none := by
      unfold World.cell? at h0
      split at h0
      · split at h0
        · cases h0
        · rename_i hq
          simpa using hq
      · cases h0
    subst hs
    refine ⟨b, off, rfl, hlt, fun i hi => ?_⟩
    obtain ⟨o, ho, hj⟩ := each i hi
    refine ⟨o, ho, fun j u hu => ?_⟩
    have e : (⟨b, off + (i * 13 + j), none⟩ : Addr) = ((⟨b, off, none⟩ : Addr).add (i * 13)).add j := by
      unfold Addr.add
      by_cases h1 : i * 13 = 0 <;> by_cases h2 : j = 0 <;> simp [h1, h2]
      · omega
    rw [e]; exact hj j u hu
set_option maxRecDepth 100000 in
theorem open_world {b0 : Nat} {v : Value} {d : DataW H} {p : List MemPlace} (hv : Value.okWide Try.prog w .any b0 26 v) (h : DataW.Trod enc Try.prog w base spare held 26 v d p) :
    ∃ (b r z x y : Int) (A : Option Addr) (n cap : Nat), v = .agg #[.int .i64 b, .int .i64 r, .int .i64 z, .int .i64 x, .int .i64 y, .slice A n cap] ∧ OpsAt A n w ∧ n ≤ 9223372036854775807 := by
  obtain ⟨cs, rfl, hsize⟩ := okWide_struct Try.underlying26 hv
  obtain ⟨fuel, hf⟩ := h
  rw [Try.cells26] at hsize
  obtain ⟨l⟩ := cs
  have hl : l.length = 6 := hsize
  match l, hl with
  | [c0, c1, c2, c3, c4, c5], _ =>
  obtain ⟨ys, m, _, _, _, hyl, hg⟩ := DataW.trod_struct Try.underlying26 hf
  match ys, hyl with
  | [y0, y1, y2], _ =>
  have g0 := hg 0 _ rfl
  have g1 := hg 1 _ rfl
  have g2 := hg 2 _ rfl
  change DataW.trod enc Try.prog w base spare held m 3 (List.take (Try.prog.cellsOf 3) (List.drop 0 [c0, c1, c2, c3, c4, c5])) = some y0 at g0
  rw [Try.cells3] at g0
  change DataW.trod enc Try.prog w base spare held m 23 (List.take (Try.prog.cellsOf 23) (List.drop 1 [c0, c1, c2, c3, c4, c5])) = some y1 at g1
  rw [Try.cells23] at g1
  change DataW.trod enc Try.prog w base spare held m 24 (List.take (Try.prog.cellsOf 24) (List.drop 5 [c0, c1, c2, c3, c4, c5])) = some y2 at g2
  rw [Try.cells24] at g2
  obtain ⟨b, e0, _, _⟩ := DataW.trod_int Try.underlying3 (cs := [c0]) g0
  obtain rfl := (List.cons.inj e0).1
  obtain ⟨r, z, x, y, rfl, rfl, rfl, rfl⟩ := cells_lay (c0 := c1) (c1 := c2) (c2 := c3) (c3 := c4) g1
  obtain ⟨A, n, cap, rfl, hA, hn⟩ := open_ops (c := c5) g2
  exact ⟨b, r, z, x, y, A, n, cap, rfl, hA, hn⟩
end
end Go.Proofs.Ytoblemgeacllkaa

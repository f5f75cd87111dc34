/-
  A world opened; the law's parts and used.
-/
import Derived.Test.YtbpgblmhacpjlaaGreatSLaw
import Derived.Test.YtbpgblmhacpjlaaGreatZn
import Derived.Test.YtbpgblmhacpjlaaGreatZk
import Derived.Deep.Strs
import Derived.Deep.Slices
import Derived.ChangeSlices
import Derived.BigQuiet
import Derived.Test.YtbpgblmhacpjlaaGreatZg
import Derived.Deep.RegionHeld3
import Derived.Deep.QuietTactic
namespace Go.Proofs.YtbpgblmhacpjlaaGreat
open Go.Joins Go.ChangeShapes Go.WideShapes Go.ChangeAt Go.RowKit Go.Deep
open Go.ChangeMaps (open_string shut_string)

theorem Tryz.cells3 : Tryz.prog.cellsOf 3 = 1 := by kernel_rfl
theorem Tryz.cells4 : Tryz.prog.cellsOf 4 = 1 := by kernel_rfl
theorem Tryz.cells9 : Tryz.prog.cellsOf 9 = 1 := by kernel_rfl
theorem Tryz.cells23 : Tryz.prog.cellsOf 23 = 4 := by kernel_rfl
theorem Tryz.cells24 : Tryz.prog.cellsOf 24 = 1 := by kernel_rfl
theorem Tryz.cells26 : Tryz.prog.cellsOf 26 = 6 := by kernel_rfl
theorem Tryz.cells32 : Tryz.prog.cellsOf 32 = 1 := by kernel_rfl
theorem Tryz.cells56 : Tryz.prog.cellsOf 56 = 3 := by kernel_rfl
theorem Tryz.cells34 : Tryz.prog.cellsOf 34 = 3 := by kernel_rfl
theorem Tryz.cells36 : Tryz.prog.cellsOf 36 = 10 := by kernel_rfl
/-- A call of a script. -/
structure OpV where
  k : Int
  a : Int
  id : Int
  n : Int
  pA : Option Addr
  pl : List IPt
  pc : Nat
  s : ByteArray
  eo : Int
  ew : Bool
  ef : Int
  wr : Bool
def OpV.cells (o : OpV) : List Value := [.int .i64 o.k, .int .i64 o.a, .int .i64 o.id, .int .i64 o.n, .slice o.pA o.pl.length o.pc, .string o.s, .int .i64 o.eo, .bool o.ew, .int .i64 o.ef, .bool o.wr]
structure OpV.Ok (o : OpV) (w : World) : Prop where
  parts : PsAt o.pA o.pl w
  most : o.pl.length ≤ o.pc ∧ o.pc ≤ maxLen
  fit : ∀ (j : Nat) (h : j < o.pl.length), o.pl[j].n < 9223372036854775808
  n64 : -9223372036854775808 ≤ o.n ∧ o.n < 9223372036854775808
  s63 : o.s.size ≤ 9223372036854775807
theorem PsAt.far {A : Option Addr} {l : List IPt} {w w' : World} {B : Nat} (h : PsAt A l w) (hB : w.heap.size ≤ B) (hb : Below B w w') : PsAt A l w' := by
  intro j hj
  obtain ⟨b, off, e, hlt, c0, c1, c2⟩ := h j hj
  have hc : ∀ o, w'.cell? ⟨b, o, none⟩ = w.cell? ⟨b, o, none⟩ := fun o => hb.cell (p := ⟨b, o, none⟩) (Nat.lt_of_lt_of_le hlt hB)
  exact ⟨b, off, e, by have := hb.size; omega, (hc _).trans c0, (hc _).trans c1, (hc _).trans c2⟩
theorem OpV.Ok.far {o : OpV} {w w' : World} {B : Nat} (h : o.Ok w) (hB : w.heap.size ≤ B) (hb : Below B w w') : o.Ok w' := ⟨h.parts.far hB hb, h.most, h.fit, h.n64, h.s63⟩
/-- A slice of calls that came in, nil let in. -/
def OpsAt (A : Option Addr) (n : Nat) (w : World) : Prop := 0 < n → ∃ b off, A = some ⟨b, off, none⟩ ∧ b < w.heap.size ∧ ∀ i, i < n → ∃ o : OpV, o.Ok w ∧ ∀ (j : Nat) (u : Value), o.cells[j]? = some u → w.cell? ⟨b, off + (i * 10 + j), none⟩ = some u
theorem OpsAt.far {A : Option Addr} {n : Nat} {w w' : World} (h : OpsAt A n w) {B : Nat} (hB : w.heap.size ≤ B) (hb : Below B w w') : OpsAt A n w' := by
  intro hn
  obtain ⟨b, off, hA, hlt, hc⟩ := h hn
  refine ⟨b, off, hA, by have := hb.size; omega, fun i hi => ?_⟩
  obtain ⟨o, ho, hj⟩ := hc i hi
  exact ⟨o, ho.far hB hb, fun j u hu => (hb.cell (p := ⟨b, off + (i * 10 + j), none⟩) (Nat.lt_of_lt_of_le hlt hB)).trans (hj j u hu)⟩
theorem list_of {α : Type} (n : Nat) (P : Nat → α → Prop) (h : ∀ i, i < n → ∃ x, P i x) : ∃ l : List α, l.length = n ∧ ∀ (i : Nat) (hi : i < l.length), P i l[i] := by
  induction n with
  | zero => exact ⟨[], rfl, fun i hi => absurd hi (Nat.not_lt_zero _)⟩
  | succ n ih =>
    obtain ⟨l, hl, hP⟩ := ih (fun i hi => h i (by omega))
    obtain ⟨x, hx⟩ := h n (by omega)
    refine ⟨l ++ [x], by simp [hl], fun i hi => ?_⟩
    rw [List.length_append] at hi
    by_cases hlt : i < l.length
    · rw [List.getElem_append_left hlt]; exact hP i hlt
    · have e : i = l.length := by simp at hi; omega
      subst e
      rw [List.getElem_append_right (Nat.le_refl _)]
      simp only [Nat.sub_self, List.getElem_cons_zero]
      rw [hl]; exact hx
section
variable {H : Type} {enc : TypeId × Value → H} {w : World} {base : Nat} {spare : Nat → Bool} {held : Bool}
theorem cells_lay {m : Nat} {c0 c1 c2 c3 : Value} {x : DataW H × List MemPlace} (h : DataW.trod enc Tryz.prog w base spare held m 23 [c0, c1, c2, c3] = some x) :
    ∃ (a b c d : Int), c0 = .int .i64 a ∧ c1 = .int .i64 b ∧ c2 = .int .i64 c ∧ c3 = .int .i64 d := by
  obtain ⟨ys, m, _, _, _, hyl, hg⟩ := DataW.trod_struct Tryz.underlying23 h
  match ys, hyl with
  | [y0, y1, y2, y3], _ =>
  have g0 := hg 0 _ rfl
  have g1 := hg 1 _ rfl
  have g2 := hg 2 _ rfl
  have g3 := hg 3 _ rfl
  change DataW.trod enc Tryz.prog w base spare held m 3 (List.take (Tryz.prog.cellsOf 3) (List.drop 0 [c0, c1, c2, c3])) = some y0 at g0
  rw [Tryz.cells3] at g0
  change DataW.trod enc Tryz.prog w base spare held m 3 (List.take (Tryz.prog.cellsOf 3) (List.drop 1 [c0, c1, c2, c3])) = some y1 at g1
  rw [Tryz.cells3] at g1
  change DataW.trod enc Tryz.prog w base spare held m 3 (List.take (Tryz.prog.cellsOf 3) (List.drop 2 [c0, c1, c2, c3])) = some y2 at g2
  rw [Tryz.cells3] at g2
  change DataW.trod enc Tryz.prog w base spare held m 3 (List.take (Tryz.prog.cellsOf 3) (List.drop 3 [c0, c1, c2, c3])) = some y3 at g3
  rw [Tryz.cells3] at g3
  obtain ⟨a, e0, _, _⟩ := DataW.trod_int Tryz.underlying3 (cs := [c0]) g0
  obtain ⟨b, e1, _, _⟩ := DataW.trod_int Tryz.underlying3 (cs := [c1]) g1
  obtain ⟨c, e2, _, _⟩ := DataW.trod_int Tryz.underlying3 (cs := [c2]) g2
  obtain ⟨d, e3, _, _⟩ := DataW.trod_int Tryz.underlying3 (cs := [c3]) g3
  simp at e0 e1 e2 e3
  exact ⟨a, b, c, d, e0, e1, e2, e3⟩
theorem cells_event {m : Nat} {c0 c1 c2 : Value} {x : DataW H × List MemPlace} (h : DataW.trod enc Tryz.prog w base spare held m 34 [c0, c1, c2] = some x) :
    ∃ (o : Int) (v : Bool) (f : Int), c0 = .int .i64 o ∧ c1 = .bool v ∧ c2 = .int .i64 f := by
  obtain ⟨ys, m, _, _, _, hyl, hg⟩ := DataW.trod_struct Tryz.underlying34 h
  match ys, hyl with
  | [y0, y1, y2], _ =>
  have g0 := hg 0 _ rfl
  have g1 := hg 1 _ rfl
  have g2 := hg 2 _ rfl
  change DataW.trod enc Tryz.prog w base spare held m 3 (List.take (Tryz.prog.cellsOf 3) (List.drop 0 [c0, c1, c2])) = some y0 at g0
  rw [Tryz.cells3] at g0
  change DataW.trod enc Tryz.prog w base spare held m 4 (List.take (Tryz.prog.cellsOf 4) (List.drop 1 [c0, c1, c2])) = some y1 at g1
  rw [Tryz.cells4] at g1
  change DataW.trod enc Tryz.prog w base spare held m 3 (List.take (Tryz.prog.cellsOf 3) (List.drop 2 [c0, c1, c2])) = some y2 at g2
  rw [Tryz.cells3] at g2
  obtain ⟨a, e0, _, _⟩ := DataW.trod_int Tryz.underlying3 (cs := [c0]) g0
  obtain ⟨b, e1, _⟩ := DataW.trod_bool Tryz.underlying4 (cs := [c1]) g1
  obtain ⟨c, e2, _, _⟩ := DataW.trod_int Tryz.underlying3 (cs := [c2]) g2
  simp at e0 e1 e2
  exact ⟨a, b, c, e0, e1, e2⟩
theorem cells_part {m : Nat} {l : List Value} {x : DataW H × List MemPlace} (hl : l.length = 3) (h : DataW.trod enc Tryz.prog w base spare held m 56 l = some x) :
    ∃ p : IPt, p.n < 9223372036854775808 ∧ l = p.cells := by
  match l, hl with
  | [c0, c1, c2], _ =>
  obtain ⟨ys, m, _, _, _, hyl, hg⟩ := DataW.trod_struct Tryz.underlying56 h
  match ys, hyl with
  | [y0, y1, y2], _ =>
  have g0 := hg 0 _ rfl
  have g1 := hg 1 _ rfl
  have g2 := hg 2 _ rfl
  change DataW.trod enc Tryz.prog w base spare held m 3 (List.take (Tryz.prog.cellsOf 3) (List.drop 0 [c0, c1, c2])) = some y0 at g0
  rw [Tryz.cells3] at g0
  change DataW.trod enc Tryz.prog w base spare held m 3 (List.take (Tryz.prog.cellsOf 3) (List.drop 1 [c0, c1, c2])) = some y1 at g1
  rw [Tryz.cells3] at g1
  change DataW.trod enc Tryz.prog w base spare held m 4 (List.take (Tryz.prog.cellsOf 4) (List.drop 2 [c0, c1, c2])) = some y2 at g2
  rw [Tryz.cells4] at g2
  obtain ⟨a, e0, _, _⟩ := DataW.trod_int Tryz.underlying3 (cs := [c0]) g0
  obtain ⟨n, e1, _, k1⟩ := DataW.trod_int Tryz.underlying3 (cs := [c1]) g1
  obtain ⟨b, e2, _⟩ := DataW.trod_bool Tryz.underlying4 (cs := [c2]) g2
  obtain rfl := (List.cons.inj e0).1
  obtain rfl := (List.cons.inj e1).1
  obtain rfl := (List.cons.inj e2).1
  have k1 := bounds_i64 k1
  exact ⟨⟨a, n, b⟩, by show n < _; omega, rfl⟩
/-- a slice of structs of a known count of cells, its head and each one's cells -/
theorem slice_head {a : Addr} {size len : Nat} {α : Type} {cells : α → List Value} {Q : α → Prop} (hz : 0 < size) (hn : 0 < len) (hcl : ∀ x, (cells x).length = size)
    (each : ∀ i, i < len → ∃ o : α, Q o ∧ ∀ (j : Nat) (u : Value), (cells o)[j]? = some u → w.cell? ((a.add (i * size)).add j) = some u) :
    ∃ b off, a = ⟨b, off, none⟩ ∧ b < w.heap.size ∧ ∀ i, i < len → ∃ o : α, Q o ∧ ∀ (j : Nat) (u : Value), (cells o)[j]? = some u → w.cell? ⟨b, off + (i * size + j), none⟩ = some u := by
  obtain ⟨b, off, sp⟩ := a
  obtain ⟨o, ho, h0⟩ := each 0 hn
  obtain ⟨u, hu⟩ : ∃ u, (cells o)[0]? = some u := ⟨_, List.getElem?_eq_getElem (by rw [hcl]; exact hz)⟩
  have h0 := h0 0 u hu
  have e0 : ((⟨b, off, sp⟩ : Addr).add (0 * size)).add 0 = ⟨b, off, sp⟩ := by rw [Nat.zero_mul]; rfl
  rw [e0] at h0
  have hlt : b < w.heap.size := World.block_lt_of_cell? w _ h0
  have hs : sp = none := by
    unfold World.cell? at h0
    split at h0
    · split at h0
      · cases h0
      · rename_i hq
        simpa using hq
    · cases h0
  subst hs
  refine ⟨b, off, rfl, hlt, fun i hi => ?_⟩
  obtain ⟨o, ho, hj⟩ := each i hi
  refine ⟨o, ho, fun j u hu => ?_⟩
  have e : (⟨b, off + (i * size + j), none⟩ : Addr) = ((⟨b, off, none⟩ : Addr).add (i * size)).add j := by
    unfold Addr.add
    by_cases h1 : i * size = 0 <;> by_cases h2 : j = 0 <;> simp [h1, h2]
    · omega
  rw [e]; exact hj j u hu
theorem open_parts {m : Nat} {c : Value} {x : DataW H × List MemPlace} (h : DataW.trod enc Tryz.prog w base spare held m 32 [c] = some x) :
    ∃ (A : Option Addr) (l : List IPt) (cap : Nat), c = .slice A l.length cap ∧ PsAt A l w ∧ (l.length ≤ cap ∧ cap ≤ maxLen) ∧ ∀ (j : Nat) (h : j < l.length), l[j].n < 9223372036854775808 := by
  rcases open_slice Tryz.underlying32 h with ⟨hcs, _⟩ | ⟨a, len, cap, mm, fu, Dd, Pl, hcs, _, hle, hcap, hmm, _, hx⟩
  · simp at hcs
    exact ⟨none, [], 0, hcs, fun j hj => absurd hj (Nat.not_lt_zero _), ⟨Nat.le_refl _, Nat.zero_le _⟩, fun j hj => absurd hj (Nat.not_lt_zero _)⟩
  · simp at hcs
    have hlm : len ≤ mm := by rw [hmm]; split <;> omega
    have each : ∀ i, i < len → ∃ p : IPt, p.n < 9223372036854775808 ∧ ∀ (j : Nat) (u : Value), p.cells[j]? = some u → w.cell? ((a.add (i * 3)).add j) = some u := by
      intro i hi
      obtain ⟨cs', h1, h2⟩ := hx i (by omega)
      rw [Tryz.cells56] at h1
      obtain ⟨_, hlen, hc⟩ := World.cells?_some h1
      obtain ⟨p, hp, rfl⟩ := cells_part hlen h2
      refine ⟨p, hp, fun j u hu => ?_⟩
      have hj : j < 3 := by
        have := (List.getElem?_eq_some_iff.1 hu).1
        simpa [IPt.cells] using this
      rw [hc j hj]; exact hu
    rcases Nat.eq_zero_or_pos len with hz | hn
    · subst hz
      exact ⟨some a, [], cap, hcs, fun j hj => absurd hj (Nat.not_lt_zero _), ⟨Nat.zero_le _, hcap⟩, fun j hj => absurd hj (Nat.not_lt_zero _)⟩
    · obtain ⟨b, off, rfl, hlt, hh⟩ := slice_head (a := a) (size := 3) (cells := IPt.cells) (Q := fun p => p.n < 9223372036854775808) (by decide) hn (fun p : IPt => rfl) each
      obtain ⟨l, hl, hP⟩ := list_of len _ hh
      subst hl
      refine ⟨some ⟨b, off, none⟩, l, cap, hcs, fun j hj => ?_, ⟨hle, hcap⟩, fun j hj => (hP j hj).1⟩
      have hc := (hP j hj).2
      exact ⟨b, off, rfl, hlt, hc 0 _ rfl, hc 1 _ rfl, hc 2 _ rfl⟩
set_option maxRecDepth 100000 in
theorem cells_op {m : Nat} {l : List Value} {x : DataW H × List MemPlace} (hl : l.length = 10) (h : DataW.trod enc Tryz.prog w base spare held m 36 l = some x) :
    ∃ o : OpV, o.Ok w ∧ l = o.cells := by
  match l, hl with
  | [c0, c1, c2, c3, c4, c5, c6, c7, c8, c9], _ =>
  obtain ⟨ys, m, _, _, _, hyl, hg⟩ := DataW.trod_struct Tryz.underlying36 h
  match ys, hyl with
  | [y0, y1, y2, y3, y4, y5, y6, y7], _ =>
  have g0 := hg 0 _ rfl
  have g1 := hg 1 _ rfl
  have g2 := hg 2 _ rfl
  have g3 := hg 3 _ rfl
  have g4 := hg 4 _ rfl
  have g5 := hg 5 _ rfl
  have g6 := hg 6 _ rfl
  have g7 := hg 7 _ rfl
  change DataW.trod enc Tryz.prog w base spare held m 3 (List.take (Tryz.prog.cellsOf 3) (List.drop 0 [c0, c1, c2, c3, c4, c5, c6, c7, c8, c9])) = some y0 at g0
  rw [Tryz.cells3] at g0
  change DataW.trod enc Tryz.prog w base spare held m 3 (List.take (Tryz.prog.cellsOf 3) (List.drop 1 [c0, c1, c2, c3, c4, c5, c6, c7, c8, c9])) = some y1 at g1
  rw [Tryz.cells3] at g1
  change DataW.trod enc Tryz.prog w base spare held m 3 (List.take (Tryz.prog.cellsOf 3) (List.drop 2 [c0, c1, c2, c3, c4, c5, c6, c7, c8, c9])) = some y2 at g2
  rw [Tryz.cells3] at g2
  change DataW.trod enc Tryz.prog w base spare held m 3 (List.take (Tryz.prog.cellsOf 3) (List.drop 3 [c0, c1, c2, c3, c4, c5, c6, c7, c8, c9])) = some y3 at g3
  rw [Tryz.cells3] at g3
  change DataW.trod enc Tryz.prog w base spare held m 32 (List.take (Tryz.prog.cellsOf 32) (List.drop 4 [c0, c1, c2, c3, c4, c5, c6, c7, c8, c9])) = some y4 at g4
  rw [Tryz.cells32] at g4
  change DataW.trod enc Tryz.prog w base spare held m 9 (List.take (Tryz.prog.cellsOf 9) (List.drop 5 [c0, c1, c2, c3, c4, c5, c6, c7, c8, c9])) = some y5 at g5
  rw [Tryz.cells9] at g5
  change DataW.trod enc Tryz.prog w base spare held m 34 (List.take (Tryz.prog.cellsOf 34) (List.drop 6 [c0, c1, c2, c3, c4, c5, c6, c7, c8, c9])) = some y6 at g6
  rw [Tryz.cells34] at g6
  change DataW.trod enc Tryz.prog w base spare held m 4 (List.take (Tryz.prog.cellsOf 4) (List.drop 9 [c0, c1, c2, c3, c4, c5, c6, c7, c8, c9])) = some y7 at g7
  rw [Tryz.cells4] at g7
  obtain ⟨k, e0, _, _⟩ := DataW.trod_int Tryz.underlying3 (cs := [c0]) g0
  obtain ⟨a, e1, _, _⟩ := DataW.trod_int Tryz.underlying3 (cs := [c1]) g1
  obtain ⟨id, e2, _, _⟩ := DataW.trod_int Tryz.underlying3 (cs := [c2]) g2
  obtain ⟨n, e3, _, k3⟩ := DataW.trod_int Tryz.underlying3 (cs := [c3]) g3
  obtain ⟨pA, pl, pc, rfl, hP, hm, hf⟩ := open_parts (c := c4) g4
  obtain ⟨s, e5, _, k5⟩ := DataW.trod_string Tryz.underlying9 (cs := [c5]) g5
  obtain ⟨eo, ew, ef, rfl, rfl, rfl⟩ := cells_event (c0 := c6) (c1 := c7) (c2 := c8) g6
  obtain ⟨v, e7, _⟩ := DataW.trod_bool Tryz.underlying4 (cs := [c9]) g7
  obtain rfl := (List.cons.inj e0).1
  obtain rfl := (List.cons.inj e1).1
  obtain rfl := (List.cons.inj e2).1
  obtain rfl := (List.cons.inj e3).1
  obtain rfl := (List.cons.inj e5).1
  obtain rfl := (List.cons.inj e7).1
  have k3 := bounds_i64 k3
  exact ⟨⟨k, a, id, n, pA, pl, pc, s, eo, ew, ef, v⟩, ⟨hP, hm, hf, ⟨k3.1, by show n < _; omega⟩, k5⟩, rfl⟩
theorem open_ops {m : Nat} {c : Value} {x : DataW H × List MemPlace} (h : DataW.trod enc Tryz.prog w base spare held m 24 [c] = some x) :
    ∃ (A : Option Addr) (n cap : Nat), c = .slice A n cap ∧ OpsAt A n w ∧ n ≤ 9223372036854775807 := by
  rcases open_slice Tryz.underlying24 h with ⟨hcs, _⟩ | ⟨a, len, cap, mm, fu, Dd, Pl, hcs, _, hle, hcap, hmm, _, hx⟩
  · simp at hcs
    exact ⟨none, 0, 0, hcs, fun h => absurd h (Nat.lt_irrefl _), by omega⟩
  · simp at hcs
    refine ⟨some a, len, cap, hcs, ?_, by unfold maxLen at hcap; omega⟩
    have hlm : len ≤ mm := by rw [hmm]; split <;> omega
    intro hn
    obtain ⟨b, off, rfl, hlt, hh⟩ := slice_head (a := a) (size := 10) (cells := OpV.cells) (Q := fun o => o.Ok w) (by decide) hn (fun o : OpV => rfl) (by
      intro i hi
      obtain ⟨cs', h1, h2⟩ := hx i (by omega)
      rw [Tryz.cells36] at h1
      obtain ⟨_, hlen, hc⟩ := World.cells?_some h1
      obtain ⟨o, ho, rfl⟩ := cells_op hlen h2
      refine ⟨o, ho, fun j u hu => ?_⟩
      have hj : j < 10 := by
        have := (List.getElem?_eq_some_iff.1 hu).1
        simpa [OpV.cells] using this
      rw [hc j hj]; exact hu)
    exact ⟨b, off, rfl, hlt, hh⟩
set_option maxRecDepth 100000 in
theorem open_world {b0 : Nat} {v : Value} {d : DataW H} {p : List MemPlace} (hv : Value.okWide Tryz.prog w .any b0 26 v) (h : DataW.Trod enc Tryz.prog w base spare held 26 v d p) :
    ∃ (b r z x y : Int) (A : Option Addr) (n cap : Nat), v = .agg #[.int .i64 b, .int .i64 r, .int .i64 z, .int .i64 x, .int .i64 y, .slice A n cap] ∧ OpsAt A n w ∧ n ≤ 9223372036854775807 := by
  obtain ⟨cs, rfl, hsize⟩ := okWide_struct Tryz.underlying26 hv
  obtain ⟨fuel, hf⟩ := h
  rw [Tryz.cells26] at hsize
  obtain ⟨l⟩ := cs
  have hl : l.length = 6 := hsize
  match l, hl with
  | [c0, c1, c2, c3, c4, c5], _ =>
  obtain ⟨ys, m, _, _, _, hyl, hg⟩ := DataW.trod_struct Tryz.underlying26 hf
  match ys, hyl with
  | [y0, y1, y2], _ =>
  have g0 := hg 0 _ rfl
  have g1 := hg 1 _ rfl
  have g2 := hg 2 _ rfl
  change DataW.trod enc Tryz.prog w base spare held m 3 (List.take (Tryz.prog.cellsOf 3) (List.drop 0 [c0, c1, c2, c3, c4, c5])) = some y0 at g0
  rw [Tryz.cells3] at g0
  change DataW.trod enc Tryz.prog w base spare held m 23 (List.take (Tryz.prog.cellsOf 23) (List.drop 1 [c0, c1, c2, c3, c4, c5])) = some y1 at g1
  rw [Tryz.cells23] at g1
  change DataW.trod enc Tryz.prog w base spare held m 24 (List.take (Tryz.prog.cellsOf 24) (List.drop 5 [c0, c1, c2, c3, c4, c5])) = some y2 at g2
  rw [Tryz.cells24] at g2
  obtain ⟨b, e0, _, _⟩ := DataW.trod_int Tryz.underlying3 (cs := [c0]) g0
  obtain rfl := (List.cons.inj e0).1
  obtain ⟨r, z, x, y, rfl, rfl, rfl, rfl⟩ := cells_lay (c0 := c1) (c1 := c2) (c2 := c3) (c3 := c4) g1
  obtain ⟨A, n, cap, rfl, hA, hn⟩ := open_ops (c := c5) g2
  exact ⟨b, r, z, x, y, A, n, cap, rfl, hA, hn⟩
end
end Go.Proofs.YtbpgblmhacpjlaaGreat
namespace Go.Proofs.YtbpgblmhacpjlaaGreat
open Go.RowKit

set_option maxHeartbeats 1600000 in
theorem parts_v (o : OpV) (w w0 : World) (ho : o.Ok w0) :
    Calls Tryz.prog 6 #[.agg #[.int .i64 o.k, .int .i64 o.a, .int .i64 o.id, .int .i64 o.n, .slice o.pA o.pl.length o.pc, .string o.s, .int .i64 o.eo, .bool o.ew, .int .i64 o.ef, .bool o.wr]] w fun e w' => e = .returned (.slice o.pA (o.pl.take 70).length o.pc) ∧ Below w.heap.size w w' := by
  obtain ⟨k, a, id, n, pA, pl, pc, s, eo, ew, ef, wr⟩ := o
  obtain ⟨h1, h2⟩ := ho.most
  have h1 : pl.length ≤ pc := h1
  have h2 : pc ≤ maxLen := h2
  unfold maxLen at h2
  have el : (pl.take 70).length = min 70 pl.length := List.length_take
  clear ho
  show Calls Tryz.prog 6 #[.agg #[.int .i64 k, .int .i64 a, .int .i64 id, .int .i64 n, .slice pA pl.length pc, .string s, .int .i64 eo, .bool ew, .int .i64 ef, .bool wr]] w fun e w' => e = .returned (.slice pA (pl.take 70).length pc) ∧ Below w.heap.size w w'
  rw [el]
  generalize pl.length = L at *
  have HB := Lib.hid (ba (Below.refl w.heap.size w) (.cells #[.int .i64 k, .int .i64 a, .int .i64 id, .int .i64 n, .slice pA L pc, .string s, .int .i64 eo, .bool ew, .int .i64 ef, .bool wr] 36))
  by_cases hL : L ≤ 70
  · obtain ⟨M, hM, hM2⟩ : ∃ M : Int, min (L : Int) 70 = M ∧ M = (L : Int) := ⟨_, rfl, by omega⟩
    rw [show min 70 L = L by omega]
    go_enter Tryz.func6, Tryz.ntmps6
    go_wp2_with fail
    go_ret
    exact ⟨rfl, HB.out⟩
  · obtain ⟨M, hM, hM2⟩ : ∃ M : Int, min (L : Int) 70 = M ∧ M = 70 := ⟨_, rfl, by omega⟩
    rw [show min 70 L = 70 by omega]
    go_enter Tryz.func6, Tryz.ntmps6
    go_wp2_with fail
    go_ret
    exact ⟨rfl, HB.out⟩
theorem u32_wrap (n : Int) : ∃ L : Nat, L < 4294967296 ∧ IntKind.u32.wrap n = (L : Int) := by
  refine ⟨(n % 4294967296).toNat, by omega, ?_⟩
  show n % 4294967296 = _
  omega
/-- where used reads -/
def UF (w : World) (n d : Int) (v : Bool) (W : World) : Prop :=
  (W.cell? ⟨w.heap.size, 3, none⟩ = some (.int .i64 n) ∧ W.cell? ⟨w.heap.size, 2, none⟩ = some (.int .i64 d) ∧ W.cell? ⟨w.heap.size, 9, none⟩ = some (.bool v)) ∧ ∃ l, St (fun _ => False) w (stars l) W
theorem UF.below {w W W' : World} {n d : Int} {v : Bool} (h : UF w n d v W) (hb : Below W.heap.size W W') : UF w n d v W' := by
  obtain ⟨⟨a, b, c⟩, l, hS⟩ := h
  have hl := World.block_lt_of_cell? W _ a
  exact ⟨⟨(hb.cell (p := ⟨w.heap.size, 3, none⟩) hl).trans a, (hb.cell (p := ⟨w.heap.size, 2, none⟩) hl).trans b, (hb.cell (p := ⟨w.heap.size, 9, none⟩) hl).trans c⟩, l, hS.below hb⟩
set_option maxHeartbeats 3200000 in
/-- the used descriptor's last eight bytes: a string that hangs on the op and the wrap alone -/
theorem used_v (o : OpV) (v : Bool) (w0 : World) (ho : o.Ok w0) : ∃ t : ByteArray, t.size = 8 ∧ ∀ w : World,
    Calls Tryz.prog 11 #[.agg #[.int .i64 o.k, .int .i64 o.a, .int .i64 o.id, .int .i64 o.n, .slice o.pA o.pl.length o.pc, .string o.s, .int .i64 o.eo, .bool o.ew, .int .i64 o.ef, .bool o.wr], .bool v] w fun e w' => e = .returned (.string t) ∧ Below w.heap.size w w' := by
  obtain ⟨k, a, id, n, pA, pl, pc, s, eo, ew, ef, wr⟩ := o
  obtain ⟨L, hL, eL⟩ := u32_wrap n
  obtain ⟨X, hX, eX⟩ := and16 id
  obtain ⟨z, hz⟩ : ∃ z : Bool, (v == wr) = z := ⟨_, rfl⟩
  obtain ⟨F, hF, hF2⟩ : ∃ F : Nat, mk z (z == true) = F ∧ F < 65536 := ⟨_, rfl, by cases z <;> decide⟩
  obtain ⟨S, hS⟩ : ∃ S, desB 0 L X F = S := ⟨_, rfl⟩
  have hS16 : S.size = 16 := by
    rw [← hS]
    unfold desB
    simp [ByteArray.size_append, pb_size]
  have HM : ∀ W, Calls Tryz.prog 35 #[.int .i64 0, .bool z, .bool true] W fun e W' => e = .returned (.int .i64 (F : Int)) ∧ W = W' := fun W => by
    have := rmark_any 0 ⟨by decide, by decide, by decide⟩ false false z true W
    rw [Nat.zero_add, Nat.zero_add, hF] at this
    exact this
  have HB : ∀ W, Calls Tryz.prog 34 #[.agg #[.int .u64 0, .int .u32 (L : Int), .int .i64 (X : Int), .int .i64 (F : Int)]] W fun e W' => e = .returned (.tuple #[.string S, .int .i64 0]) ∧ Below W.heap.size W W' := fun W => by
    have := rbuild_any 0 L (X : Int) (F : Int) (by omega) hL W
    rw [buS, buE, if_pos ⟨by omega, by omega⟩, if_pos ⟨by omega, by omega⟩] at this
    rw [← hS]
    exact this
  have HM := Lib.hid HM
  have HB := Lib.hid HB
  refine ⟨S.extract 8 16, by rw [ByteArray.size_extract]; omega, fun w => ?_⟩
  have Z1 : UF w n id wr (w.alloc (.cells #[.int .i64 k, .int .i64 a, .int .i64 id, .int .i64 n, .slice pA pl.length pc, .string s, .int .i64 eo, .bool ew, .int .i64 ef, .bool wr] 36)).drew := by
    have S1 := ((St.begin w).push 36 #[.int .i64 k, .int .i64 a, .int .i64 id, .int .i64 n, .slice pA pl.length pc, .string s, .int .i64 eo, .bool ew, .int .i64 ef, .bool wr]).drew
    have b := S1.blk 0 (by simp) rfl
    exact ⟨⟨b.cell 3, b.cell 2, b.cell 9⟩, _, S1⟩
  have X1 := Lib.hid Z1
  clear ho hF hS Z1 hL hX
  show Calls Tryz.prog 11 #[.agg #[.int .i64 k, .int .i64 a, .int .i64 id, .int .i64 n, .slice pA pl.length pc, .string s, .int .i64 eo, .bool ew, .int .i64 ef, .bool wr], .bool v] w fun e w' => e = .returned (.string (S.extract 8 16)) ∧ Below w.heap.size w w'
  go_enter Tryz.func11, Tryz.ntmps11
  go_wp2_with fail
  go_region_held3 (fun W => (W.cell? ⟨w.heap.size, 3, none⟩ = some (.int .i64 n) ∧ W.cell? ⟨w.heap.size, 2, none⟩ = some (.int .i64 id) ∧ W.cell? ⟨w.heap.size, 9, none⟩ = some (.bool wr)) ∧ ∃ l, St (fun _ => False) w (stars l) W)
    ((refine (_root_.id (α := UF w n id wr _) ?_); with_reducible (first | exact X1.out | exact Z2)))
    (first | (go_at_call 35; ((with_reducible refine (HM.out _).mono ?_); rintro e W2 ⟨rfl, rfl⟩)) | (go_at_call 34; ((with_reducible refine (HB.out _).mono ?_); rintro e w6 ⟨rfl, hb⟩; have Z2 := UF.below X1.out hb)))
  obtain ⟨-, l, S6⟩ := Z2
  have HE := Lib.hid S6.law
  clear S6 X1 HM HB
  go_wp2_with fail
  go_ret
  exact ⟨rfl, HE.out⟩
end Go.Proofs.YtbpgblmhacpjlaaGreat

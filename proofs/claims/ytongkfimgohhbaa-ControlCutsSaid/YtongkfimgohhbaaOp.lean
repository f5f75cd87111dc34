/-
  Settings, rules and commands that come in by value, opened; no condition.
-/
import Derived.Test.YtongkfimgohhbaaBn
namespace Go.Proofs.Ytongkfimgohhbaa
open Go.Joins Go.ChangeShapes Go.WideShapes Go.ChangeAt Go.RowKit Go.Deep
open Go.ChangeMaps (open_string shut_string)

theorem Try.cells3 : Try.prog.cellsOf 3 = 1 := by kernel_rfl
theorem Try.cells4 : Try.prog.cellsOf 4 = 1 := by kernel_rfl
theorem Try.cells9 : Try.prog.cellsOf 9 = 1 := by kernel_rfl
theorem Try.cells22 : Try.prog.cellsOf 22 = 1 := by kernel_rfl
theorem Try.cells23 : Try.prog.cellsOf 23 = 1 := by kernel_rfl
theorem Try.cells25 : Try.prog.cellsOf 25 = 11 := by kernel_rfl
theorem Try.cells27 : Try.prog.cellsOf 27 = 4 := by kernel_rfl
theorem Try.cells29 : Try.prog.cellsOf 29 = 18 := by kernel_rfl
theorem Try.cells37 : Try.prog.cellsOf 37 = 11 := by kernel_rfl
section
variable {H : Type} {enc : TypeId × Value → H} {P : Program} {w : World} {base : Nat} {spare : Nat → Bool} {held : Bool}
theorem rd_of_cells {a : Addr} {xs : List Value} (h : ∀ i (hi : i < xs.length), w.cell? (a.add i) = some xs[i]) : Rd w.heap.size (some a) xs w := by
  intro hn
  obtain ⟨b, off, sp⟩ := a
  have h0 := h 0 hn
  have e0 : (⟨b, off, sp⟩ : Addr).add 0 = ⟨b, off, sp⟩ := rfl
  rw [e0] at h0
  have hlt : b < w.heap.size := World.block_lt_of_cell? w _ h0
  have hs : sp = none := by
    unfold World.cell? at h0
    split at h0
    · split at h0
      · cases h0
      · rename_i hq
        simpa using hq
    · cases h0
  subst hs
  refine ⟨b, off, rfl, hlt, fun i hi => ?_⟩
  have := h i hi
  have e : (⟨b, off, none⟩ : Addr).add i = ⟨b, off + i, none⟩ := by unfold Addr.add; split <;> simp_all
  rwa [e] at this
theorem cells_strs {m : Nat} {c : Value} {x : DataW H × List MemPlace} (h : DataW.trod enc Try.prog w base spare held m 22 [c] = some x) :
    ∃ (A : Option Addr) (n : Nat) (us : List ByteArray), c = .slice A us.length n ∧ Rd w.heap.size A (us.map strV) w ∧ us.length ≤ n ∧ (A = none → n = 0) := by
  rcases open_strs Try.underlying22 Try.underlying9 Try.cells9 h with ⟨hcs, _⟩ | ⟨a, len, cap, k, Sx, hcs, _, hle, _, hk, _, hcell⟩
  · simp at hcs
    subst hcs
    exact ⟨none, 0, [], rfl, Rd.nil, Nat.le_refl _, fun _ => rfl⟩
  · simp at hcs
    subst hcs
    have hkk : len ≤ k := by rw [hk]; split <;> omega
    refine ⟨some a, cap, (List.range len).map Sx, by simp, rd_of_cells fun i hi => ?_, by simp; exact hle, fun h => by cases h⟩
    simp only [List.length_map, List.length_range] at hi
    rw [(hcell i (by omega)).1]
    simp [strV]
theorem cells_ints {m : Nat} {c : Value} {x : DataW H × List MemPlace} (h : DataW.trod enc Try.prog w base spare held m 23 [c] = some x) :
    ∃ (A : Option Addr) (n : Nat) (L : List Int), c = .slice A L.length n ∧ Rd w.heap.size A (L.map intV) w ∧ L.length ≤ n ∧ (A = none → n = 0) := by
  rcases open_ints Try.underlying23 Try.underlying3 Try.cells3 h with ⟨hcs, _⟩ | ⟨a, len, cap, zs, hcs, _, hle, _, hzl, _, hcell, _⟩
  · simp at hcs
    subst hcs
    exact ⟨none, 0, [], rfl, Rd.nil, Nat.le_refl _, fun _ => rfl⟩
  · simp at hcs
    subst hcs
    have hzz : len ≤ zs.length := by rw [hzl]; split <;> omega
    have hll : (zs.take len).length = len := by rw [List.length_take]; omega
    refine ⟨some a, cap, zs.take len, by rw [hll], rd_of_cells fun i hi => ?_, by rw [hll]; exact hle, fun h => by cases h⟩
    rw [List.length_map, hll] at hi
    rw [hcell i (by omega), List.getElem_map, List.getElem_take, List.getD_eq_getElem?_getD, List.getElem?_eq_getElem (by omega)]
    rfl
set_option maxRecDepth 100000 in
theorem cells_filter {m0 : Nat} {c0 c1 c2 c3 c4 c5 c6 c7 c8 c9 c10 : Value} {y : DataW H × List MemPlace} (hf : DataW.trod enc Try.prog w base spare held m0 25 [c0, c1, c2, c3, c4, c5, c6, c7, c8, c9, c10] = some y) :
    ∃ F : Fl, [c0, c1, c2, c3, c4, c5, c6, c7, c8, c9, c10] = F.cells.toList ∧ F.At w.heap.size w ∧ F.Fit := by
  obtain ⟨ys, m, _, _, _, hyl, hg⟩ := DataW.trod_struct Try.underlying25 hf
  match ys, hyl with
  | [y0, y1, y2, y3, y4, y5, y6, y7, y8, y9, y10], _ =>
  have g0 := hg 0 _ rfl
  change DataW.trod enc Try.prog w base spare held m 9 (List.take (Try.prog.cellsOf 9) (List.drop 0 [c0, c1, c2, c3, c4, c5, c6, c7, c8, c9, c10])) = some y0 at g0
  rw [Try.cells9] at g0
  have g1 := hg 1 _ rfl
  change DataW.trod enc Try.prog w base spare held m 4 (List.take (Try.prog.cellsOf 4) (List.drop 1 [c0, c1, c2, c3, c4, c5, c6, c7, c8, c9, c10])) = some y1 at g1
  rw [Try.cells4] at g1
  have g2 := hg 2 _ rfl
  change DataW.trod enc Try.prog w base spare held m 4 (List.take (Try.prog.cellsOf 4) (List.drop 2 [c0, c1, c2, c3, c4, c5, c6, c7, c8, c9, c10])) = some y2 at g2
  rw [Try.cells4] at g2
  have g3 := hg 3 _ rfl
  change DataW.trod enc Try.prog w base spare held m 4 (List.take (Try.prog.cellsOf 4) (List.drop 3 [c0, c1, c2, c3, c4, c5, c6, c7, c8, c9, c10])) = some y3 at g3
  rw [Try.cells4] at g3
  have g4 := hg 4 _ rfl
  change DataW.trod enc Try.prog w base spare held m 4 (List.take (Try.prog.cellsOf 4) (List.drop 4 [c0, c1, c2, c3, c4, c5, c6, c7, c8, c9, c10])) = some y4 at g4
  rw [Try.cells4] at g4
  have g5 := hg 5 _ rfl
  change DataW.trod enc Try.prog w base spare held m 4 (List.take (Try.prog.cellsOf 4) (List.drop 5 [c0, c1, c2, c3, c4, c5, c6, c7, c8, c9, c10])) = some y5 at g5
  rw [Try.cells4] at g5
  have g6 := hg 6 _ rfl
  change DataW.trod enc Try.prog w base spare held m 4 (List.take (Try.prog.cellsOf 4) (List.drop 6 [c0, c1, c2, c3, c4, c5, c6, c7, c8, c9, c10])) = some y6 at g6
  rw [Try.cells4] at g6
  have g7 := hg 7 _ rfl
  change DataW.trod enc Try.prog w base spare held m 22 (List.take (Try.prog.cellsOf 22) (List.drop 7 [c0, c1, c2, c3, c4, c5, c6, c7, c8, c9, c10])) = some y7 at g7
  rw [Try.cells22] at g7
  have g8 := hg 8 _ rfl
  change DataW.trod enc Try.prog w base spare held m 22 (List.take (Try.prog.cellsOf 22) (List.drop 8 [c0, c1, c2, c3, c4, c5, c6, c7, c8, c9, c10])) = some y8 at g8
  rw [Try.cells22] at g8
  have g9 := hg 9 _ rfl
  change DataW.trod enc Try.prog w base spare held m 4 (List.take (Try.prog.cellsOf 4) (List.drop 9 [c0, c1, c2, c3, c4, c5, c6, c7, c8, c9, c10])) = some y9 at g9
  rw [Try.cells4] at g9
  have g10 := hg 10 _ rfl
  change DataW.trod enc Try.prog w base spare held m 23 (List.take (Try.prog.cellsOf 23) (List.drop 10 [c0, c1, c2, c3, c4, c5, c6, c7, c8, c9, c10])) = some y10 at g10
  rw [Try.cells23] at g10
  obtain ⟨s0, e0, _, _⟩ := DataW.trod_string Try.underlying9 (cs := [c0]) g0
  obtain rfl := (List.cons.inj e0).1
  obtain ⟨s1, e1, _⟩ := DataW.trod_bool Try.underlying4 (cs := [c1]) g1
  obtain rfl := (List.cons.inj e1).1
  obtain ⟨s2, e2, _⟩ := DataW.trod_bool Try.underlying4 (cs := [c2]) g2
  obtain rfl := (List.cons.inj e2).1
  obtain ⟨s3, e3, _⟩ := DataW.trod_bool Try.underlying4 (cs := [c3]) g3
  obtain rfl := (List.cons.inj e3).1
  obtain ⟨s4, e4, _⟩ := DataW.trod_bool Try.underlying4 (cs := [c4]) g4
  obtain rfl := (List.cons.inj e4).1
  obtain ⟨s5, e5, _⟩ := DataW.trod_bool Try.underlying4 (cs := [c5]) g5
  obtain rfl := (List.cons.inj e5).1
  obtain ⟨s6, e6, _⟩ := DataW.trod_bool Try.underlying4 (cs := [c6]) g6
  obtain rfl := (List.cons.inj e6).1
  obtain ⟨A7, n7, l7, rfl, r7, q7, z7⟩ := cells_strs (c := c7) g7
  obtain ⟨A8, n8, l8, rfl, r8, q8, z8⟩ := cells_strs (c := c8) g8
  obtain ⟨s9, e9, _⟩ := DataW.trod_bool Try.underlying4 (cs := [c9]) g9
  obtain rfl := (List.cons.inj e9).1
  obtain ⟨A10, n10, l10, rfl, r10, q10, z10⟩ := cells_ints (c := c10) g10
  exact ⟨⟨s0, s1, s2, s3, s4, s5, s6, A7, l7, n7, A8, l8, n8, s9, A10, l10, n10⟩, rfl, ⟨r7, r8, r10⟩, ⟨q7, q8, q10, z7, z8, z10⟩⟩
set_option maxRecDepth 100000 in
theorem cells_rss {m0 : Nat} {c0 c1 c2 c3 : Value} {y : DataW H × List MemPlace} (hf : DataW.trod enc Try.prog w base spare held m0 27 [c0, c1, c2, c3] = some y) :
    ∃ (k : Int) (A : Option Addr) (n : Nat) (L : List Int) (x : ByteArray) (d : Int), c0 = .int .i64 k ∧ c1 = .slice A L.length n ∧ c2 = .string x ∧ c3 = .int .i64 d ∧ Rd w.heap.size A (L.map intV) w ∧ L.length ≤ n ∧ (A = none → n = 0) ∧
      (-9223372036854775808 ≤ k ∧ k ≤ 9223372036854775807) ∧ (-9223372036854775808 ≤ d ∧ d ≤ 9223372036854775807) := by
  obtain ⟨ys, m, _, _, _, hyl, hg⟩ := DataW.trod_struct Try.underlying27 hf
  match ys, hyl with
  | [y0, y1, y2, y3], _ =>
  have g0 := hg 0 _ rfl
  change DataW.trod enc Try.prog w base spare held m 3 (List.take (Try.prog.cellsOf 3) (List.drop 0 [c0, c1, c2, c3])) = some y0 at g0
  rw [Try.cells3] at g0
  have g1 := hg 1 _ rfl
  change DataW.trod enc Try.prog w base spare held m 23 (List.take (Try.prog.cellsOf 23) (List.drop 1 [c0, c1, c2, c3])) = some y1 at g1
  rw [Try.cells23] at g1
  have g2 := hg 2 _ rfl
  change DataW.trod enc Try.prog w base spare held m 9 (List.take (Try.prog.cellsOf 9) (List.drop 2 [c0, c1, c2, c3])) = some y2 at g2
  rw [Try.cells9] at g2
  have g3 := hg 3 _ rfl
  change DataW.trod enc Try.prog w base spare held m 3 (List.take (Try.prog.cellsOf 3) (List.drop 3 [c0, c1, c2, c3])) = some y3 at g3
  rw [Try.cells3] at g3
  obtain ⟨s0, e0, _, k0⟩ := DataW.trod_int Try.underlying3 (cs := [c0]) g0
  obtain rfl := (List.cons.inj e0).1
  replace k0 := bounds_i64 k0
  obtain ⟨A1, n1, l1, rfl, r1, q1, z1⟩ := cells_ints (c := c1) g1
  obtain ⟨s2, e2, _, _⟩ := DataW.trod_string Try.underlying9 (cs := [c2]) g2
  obtain rfl := (List.cons.inj e2).1
  obtain ⟨s3, e3, _, k3⟩ := DataW.trod_int Try.underlying3 (cs := [c3]) g3
  obtain rfl := (List.cons.inj e3).1
  replace k3 := bounds_i64 k3
  exact ⟨s0, A1, n1, l1, s2, s3, rfl, rfl, rfl, rfl, r1, q1, z1, k0, k3⟩
set_option maxRecDepth 100000 in
theorem open_config {b0 : Nat} {v : Value} {d : DataW H} {p : List MemPlace} (hv : Value.okWide Try.prog w .any b0 29 v) (h : DataW.Trod enc Try.prog w base spare held 29 v d p) :
    ∃ K : Cg, v = .agg K.cells ∧ K.At w.heap.size w ∧ K.Fit ∧ (-9223372036854775808 ≤ K.mx ∧ K.mx ≤ 9223372036854775807) ∧ (-9223372036854775808 ≤ K.kinds ∧ K.kinds ≤ 9223372036854775807) := by
  obtain ⟨cs, rfl, hsize⟩ := okWide_struct Try.underlying29 hv
  obtain ⟨fuel, hf⟩ := h
  rw [Try.cells29] at hsize
  obtain ⟨l⟩ := cs
  have hl : l.length = 18 := hsize
  match l, hl with
  | [c0, c1, c2, c3, c4, c5, c6, c7, c8, c9, c10, c11, c12, c13, c14, c15, c16, c17], _ =>
  obtain ⟨ys, m, _, _, _, hyl, hg⟩ := DataW.trod_struct Try.underlying29 hf
  match ys, hyl with
  | [y0, y1, y2, y3, y4], _ =>
  have g0 := hg 0 _ rfl
  change DataW.trod enc Try.prog w base spare held m 25 (List.take (Try.prog.cellsOf 25) (List.drop 0 [c0, c1, c2, c3, c4, c5, c6, c7, c8, c9, c10, c11, c12, c13, c14, c15, c16, c17])) = some y0 at g0
  rw [Try.cells25] at g0
  have g1 := hg 1 _ rfl
  change DataW.trod enc Try.prog w base spare held m 3 (List.take (Try.prog.cellsOf 3) (List.drop 11 [c0, c1, c2, c3, c4, c5, c6, c7, c8, c9, c10, c11, c12, c13, c14, c15, c16, c17])) = some y1 at g1
  rw [Try.cells3] at g1
  have g2 := hg 2 _ rfl
  change DataW.trod enc Try.prog w base spare held m 3 (List.take (Try.prog.cellsOf 3) (List.drop 12 [c0, c1, c2, c3, c4, c5, c6, c7, c8, c9, c10, c11, c12, c13, c14, c15, c16, c17])) = some y2 at g2
  rw [Try.cells3] at g2
  have g3 := hg 3 _ rfl
  change DataW.trod enc Try.prog w base spare held m 4 (List.take (Try.prog.cellsOf 4) (List.drop 13 [c0, c1, c2, c3, c4, c5, c6, c7, c8, c9, c10, c11, c12, c13, c14, c15, c16, c17])) = some y3 at g3
  rw [Try.cells4] at g3
  have g4 := hg 4 _ rfl
  change DataW.trod enc Try.prog w base spare held m 27 (List.take (Try.prog.cellsOf 27) (List.drop 14 [c0, c1, c2, c3, c4, c5, c6, c7, c8, c9, c10, c11, c12, c13, c14, c15, c16, c17])) = some y4 at g4
  rw [Try.cells27] at g4
  obtain ⟨F, eF, hF, fF⟩ := cells_filter g0
  obtain ⟨k, A, n, L, x, df, rfl, rfl, rfl, rfl, hT, q, z, kk, _⟩ := cells_rss (c0 := c14) (c1 := c15) (c2 := c16) (c3 := c17) g4
  obtain ⟨s1, e1, _, k1⟩ := DataW.trod_int Try.underlying3 (cs := [c11]) g1
  obtain rfl := (List.cons.inj e1).1
  replace k1 := bounds_i64 k1
  obtain ⟨s2, e2, _, k2⟩ := DataW.trod_int Try.underlying3 (cs := [c12]) g2
  obtain rfl := (List.cons.inj e2).1
  replace k2 := bounds_i64 k2
  obtain ⟨s3, e3, _⟩ := DataW.trod_bool Try.underlying4 (cs := [c13]) g3
  obtain rfl := (List.cons.inj e3).1
  have e2 : [c0, c1, c2, c3, c4, c5, c6, c7, c8, c9, c10] = [Value.string F.mac, .bool F.pr, .bool F.au, .bool F.am, .bool F.nu, .bool F.nm, .bool F.na, .slice F.U F.us.length F.uc, .slice F.M F.ms.length F.mc, .bool F.vo, .slice F.V F.vs.length F.vc] := eF
  injection e2 with e0 e2
  injection e2 with e20 e2
  injection e2 with e21 e2
  injection e2 with e22 e2
  injection e2 with e23 e2
  injection e2 with e24 e2
  injection e2 with e25 e2
  injection e2 with e26 e2
  injection e2 with e27 e2
  injection e2 with e28 e2
  injection e2 with e29 e2
  subst e0 e20 e21 e22 e23 e24 e25 e26 e27 e28 e29
  exact ⟨⟨F, s1, s2, s3, k, A, L, n, x, df⟩, rfl, ⟨hF, hT⟩, ⟨fF, q, z⟩, k2, kk⟩
end
/-- A command's parts. -/
structure Cm where
  n : Int
  vl : Int
  pr : Int
  on : Bool
  U : Option Addr
  us : List ByteArray
  uc : Nat
  M : Option Addr
  ms : List ByteArray
  mc : Nat
  mac : ByteArray
  kinds : Int
  T : Option Addr
  tb : List Int
  tc : Nat
  key : ByteArray
  df : Int
@[reducible] def Cm.cells (O : Cm) : Array Value := #[.int .i64 O.n, .int .i64 O.vl, .int .i64 O.pr, .bool O.on, .slice O.U O.us.length O.uc, .slice O.M O.ms.length O.mc, .string O.mac, .int .i64 O.kinds, .slice O.T O.tb.length O.tc, .string O.key, .int .i64 O.df]
@[reducible] def Cm.th (O : Cm) : Th := ⟨37, O.cells, [(O.U, O.us.map strV), (O.M, O.ms.map strV), (O.T, O.tb.map intV)]⟩
structure Cm.At (O : Cm) (B : Nat) (w : World) : Prop where
  u : Rd B O.U (O.us.map strV) w
  m : Rd B O.M (O.ms.map strV) w
  t : Rd B O.T (O.tb.map intV) w
structure Cm.Fit (O : Cm) : Prop where
  u : O.us.length ≤ O.uc
  m : O.ms.length ≤ O.mc
  t : O.tb.length ≤ O.tc
  nu : O.U = none → O.uc = 0
  nm : O.M = none → O.mc = 0
  nt : O.T = none → O.tc = 0
section
variable {H : Type} {enc : TypeId × Value → H} {P : Program} {w : World} {base : Nat} {spare : Nat → Bool} {held : Bool}
set_option maxRecDepth 100000 in
theorem open_cmd {b0 : Nat} {v : Value} {d : DataW H} {p : List MemPlace} (hv : Value.okWide Try.prog w .any b0 37 v) (h : DataW.Trod enc Try.prog w base spare held 37 v d p) :
    ∃ O : Cm, v = .agg O.cells ∧ O.At w.heap.size w ∧ O.Fit ∧ (-9223372036854775808 ≤ O.kinds ∧ O.kinds ≤ 9223372036854775807) ∧ (-9223372036854775808 ≤ O.df ∧ O.df ≤ 9223372036854775807) := by
  obtain ⟨cs, rfl, hsize⟩ := okWide_struct Try.underlying37 hv
  obtain ⟨fuel, hf⟩ := h
  rw [Try.cells37] at hsize
  obtain ⟨l⟩ := cs
  have hl : l.length = 11 := hsize
  match l, hl with
  | [c0, c1, c2, c3, c4, c5, c6, c7, c8, c9, c10], _ =>
  obtain ⟨ys, m, _, _, _, hyl, hg⟩ := DataW.trod_struct Try.underlying37 hf
  match ys, hyl with
  | [y0, y1, y2, y3, y4, y5, y6, y7], _ =>
  have g0 := hg 0 _ rfl
  change DataW.trod enc Try.prog w base spare held m 3 (List.take (Try.prog.cellsOf 3) (List.drop 0 [c0, c1, c2, c3, c4, c5, c6, c7, c8, c9, c10])) = some y0 at g0
  rw [Try.cells3] at g0
  have g1 := hg 1 _ rfl
  change DataW.trod enc Try.prog w base spare held m 3 (List.take (Try.prog.cellsOf 3) (List.drop 1 [c0, c1, c2, c3, c4, c5, c6, c7, c8, c9, c10])) = some y1 at g1
  rw [Try.cells3] at g1
  have g2 := hg 2 _ rfl
  change DataW.trod enc Try.prog w base spare held m 3 (List.take (Try.prog.cellsOf 3) (List.drop 2 [c0, c1, c2, c3, c4, c5, c6, c7, c8, c9, c10])) = some y2 at g2
  rw [Try.cells3] at g2
  have g3 := hg 3 _ rfl
  change DataW.trod enc Try.prog w base spare held m 4 (List.take (Try.prog.cellsOf 4) (List.drop 3 [c0, c1, c2, c3, c4, c5, c6, c7, c8, c9, c10])) = some y3 at g3
  rw [Try.cells4] at g3
  have g4 := hg 4 _ rfl
  change DataW.trod enc Try.prog w base spare held m 22 (List.take (Try.prog.cellsOf 22) (List.drop 4 [c0, c1, c2, c3, c4, c5, c6, c7, c8, c9, c10])) = some y4 at g4
  rw [Try.cells22] at g4
  have g5 := hg 5 _ rfl
  change DataW.trod enc Try.prog w base spare held m 22 (List.take (Try.prog.cellsOf 22) (List.drop 5 [c0, c1, c2, c3, c4, c5, c6, c7, c8, c9, c10])) = some y5 at g5
  rw [Try.cells22] at g5
  have g6 := hg 6 _ rfl
  change DataW.trod enc Try.prog w base spare held m 9 (List.take (Try.prog.cellsOf 9) (List.drop 6 [c0, c1, c2, c3, c4, c5, c6, c7, c8, c9, c10])) = some y6 at g6
  rw [Try.cells9] at g6
  have g7 := hg 7 _ rfl
  change DataW.trod enc Try.prog w base spare held m 27 (List.take (Try.prog.cellsOf 27) (List.drop 7 [c0, c1, c2, c3, c4, c5, c6, c7, c8, c9, c10])) = some y7 at g7
  rw [Try.cells27] at g7
  obtain ⟨k, A, n, L, x, df, rfl, rfl, rfl, rfl, hT, q, z, kk, kd⟩ := cells_rss (c0 := c7) (c1 := c8) (c2 := c9) (c3 := c10) g7
  obtain ⟨s0, e0, _, k0⟩ := DataW.trod_int Try.underlying3 (cs := [c0]) g0
  obtain rfl := (List.cons.inj e0).1
  replace k0 := bounds_i64 k0
  obtain ⟨s1, e1, _, k1⟩ := DataW.trod_int Try.underlying3 (cs := [c1]) g1
  obtain rfl := (List.cons.inj e1).1
  replace k1 := bounds_i64 k1
  obtain ⟨s2, e2, _, k2⟩ := DataW.trod_int Try.underlying3 (cs := [c2]) g2
  obtain rfl := (List.cons.inj e2).1
  replace k2 := bounds_i64 k2
  obtain ⟨s3, e3, _⟩ := DataW.trod_bool Try.underlying4 (cs := [c3]) g3
  obtain rfl := (List.cons.inj e3).1
  obtain ⟨A4, n4, l4, rfl, r4, q4, z4⟩ := cells_strs (c := c4) g4
  obtain ⟨A5, n5, l5, rfl, r5, q5, z5⟩ := cells_strs (c := c5) g5
  obtain ⟨s6, e6, _, _⟩ := DataW.trod_string Try.underlying9 (cs := [c6]) g6
  obtain rfl := (List.cons.inj e6).1
  exact ⟨⟨s0, s1, s2, s3, A4, l4, n4, A5, l5, n5, s6, k, A, L, n, x, df⟩, rfl, ⟨r4, r5, hT⟩, ⟨q4, q5, q, z4, z5, z⟩, kk, kd⟩
end
end Go.Proofs.Ytongkfimgohhbaa

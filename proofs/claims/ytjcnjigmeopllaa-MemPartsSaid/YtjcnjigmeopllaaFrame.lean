/-
  The arguments of two laws that are structs by value, opened; no condition.
-/
import Derived.Test.YtjcnjigmeopllaaLaw
namespace Go.Proofs.Ytjcnjigmeopllaa
open Go.Joins Go.ChangeShapes Go.WideShapes Go.ChangeAt Go.RowKit Go.Deep
open Go.ChangeMaps (open_string shut_string)

theorem Try.cells36 : Try.prog.cellsOf 36 = 5 := by kernel_rfl
theorem Try.cells57 : Try.prog.cellsOf 57 = 4 := by kernel_rfl

section
variable {H : Type} {enc : TypeId × Value → H} {P : Program} {w : World} {base : Nat} {spare : Nat → Bool} {held : Bool}
/-- A struct by value whose fields have a cell each: every field's own value and reading, whatever their number. -/
theorem open_fields {r : Reach} {b0 : Nat} {t : TypeId} {fs : Array Field} {v : Value} {d : DataW H} {p : List MemPlace} (hs : P.underlying t = some (.struct fs)) (hone : oneCellFields P fs = true) (hC : P.cellsOf t = fs.size)
    (hv : Value.okWide P w r b0 t v) (h : DataW.Trod enc P w base spare held t v d p) :
    ∃ (cs : List Value) (ys : List (DataW H × List MemPlace)), v = .agg cs.toArray ∧ d = .agg (ys.map (·.1)) ∧ cs.length = fs.size ∧ ys.length = fs.size ∧
      ∀ (i : Nat) (f : Field), fs[i]? = some f → ∃ (c : Value) (y : DataW H × List MemPlace) (n : Nat), cs[i]? = some c ∧ ys[i]? = some y ∧ DataW.trod enc P w base spare held n f.type [c] = some y := by
  obtain ⟨cs, rfl, hsize⟩ := okWide_struct hs hv
  obtain ⟨fuel, hf⟩ := h
  obtain ⟨ys, n, _, hx, hl, hyl, hg⟩ := DataW.trod_struct hs hf
  have hcl : cs.toList.length = fs.size := by rw [Array.length_toList, hsize, hC]
  refine ⟨cs.toList, ys, by simp, by simpa using congrArg Prod.fst hx, hcl, hyl, ?_⟩
  intro i f hi
  obtain ⟨ho, hk⟩ := hone_of hone i f hi
  have hlt : i < fs.size := (Array.getElem?_eq_some_iff.1 hi).1
  have hgi := hg i f hi
  rw [ho, hk] at hgi
  have ecut : (List.drop i (Value.agg cs).cells.toList).take 1 = [cs.toList[i]'(by omega)] := by
    have e : (Value.agg cs).cells = cs := rfl
    rw [e, List.drop_eq_getElem_cons (by omega)]; rfl
  rw [ecut] at hgi
  exact ⟨_, _, n, List.getElem?_eq_getElem (by omega), List.getElem?_eq_getElem (by omega), hgi.trans (List.getElem?_eq_getElem (by omega))⟩


/-- a call of a script, opened -/
theorem open_op {b0 : Nat} {v : Value} {d : DataW H} {p : List MemPlace} (hv : Value.okWide Try.prog w .any b0 36 v) (h : DataW.Trod enc Try.prog w base spare held 36 v d p) :
    ∃ (k a n u : Int) (s : ByteArray), v = .agg #[.int .i64 k, .int .i64 a, .int .i64 n, .int .u64 u, .string s] ∧ d = .agg [.lit (.int .i64 k), .lit (.int .i64 a), .lit (.int .i64 n), .lit (.int .u64 u), .lit (.string s.data.toList)] ∧ (Lit.int .i64 a).wf = true := by
  obtain ⟨cs, ys, rfl, rfl, hcl, hyl, hf⟩ := open_fields Try.underlying36 (by kernel_rfl) Try.cells36 hv h
  match cs, ys, hcl, hyl with
  | [v0, v1, v2, v3, v4], [y0, y1, y2, y3, y4], _, _ =>
  obtain ⟨_, _, _, i0, j0, h0⟩ := hf 0 _ rfl
  obtain ⟨_, _, _, i1, j1, h1⟩ := hf 1 _ rfl
  obtain ⟨_, _, _, i2, j2, h2⟩ := hf 2 _ rfl
  obtain ⟨_, _, _, i3, j3, h3⟩ := hf 3 _ rfl
  obtain ⟨_, _, _, i4, j4, h4⟩ := hf 4 _ rfl
  obtain ⟨k, e0, d0, hk⟩ := DataW.trod_int Try.underlying3 h0
  obtain ⟨a, e1, d1, ha⟩ := DataW.trod_int Try.underlying3 h1
  obtain ⟨n, e2, d2, hn⟩ := DataW.trod_int Try.underlying3 h2
  obtain ⟨u, e3, d3, hu⟩ := DataW.trod_int Try.underlying34 h3
  obtain ⟨s, e4, d4, hs⟩ := DataW.trod_string Try.underlying9 h4
  simp at i0 i1 i2 i3 i4 j0 j1 j2 j3 j4 e0 e1 e2 e3 e4
  subst i0 i1 i2 i3 i4 j0 j1 j2 j3 j4 e0 e1 e2 e3 e4 d0 d1 d2 d3 d4
  exact ⟨k, a, n, u, s, rfl, rfl, ha⟩
/-- an image and where it is cut, opened -/
theorem open_cut {b0 : Nat} {v : Value} {d : DataW H} {p : List MemPlace} (hv : Value.okWide Try.prog w .any b0 57 v) (h : DataW.Trod enc Try.prog w base spare held 57 v d p) :
    ∃ (s : ByteArray) (a n c : Int), v = .agg #[.string s, .int .i64 a, .int .i64 n, .int .i64 c] ∧ d = .agg [.lit (.string s.data.toList), .lit (.int .i64 a), .lit (.int .i64 n), .lit (.int .i64 c)] := by
  obtain ⟨cs, ys, rfl, rfl, hcl, hyl, hf⟩ := open_fields Try.underlying57 (by kernel_rfl) Try.cells57 hv h
  match cs, ys, hcl, hyl with
  | [v0, v1, v2, v3], [y0, y1, y2, y3], _, _ =>
  obtain ⟨_, _, _, i0, j0, h0⟩ := hf 0 _ rfl
  obtain ⟨_, _, _, i1, j1, h1⟩ := hf 1 _ rfl
  obtain ⟨_, _, _, i2, j2, h2⟩ := hf 2 _ rfl
  obtain ⟨_, _, _, i3, j3, h3⟩ := hf 3 _ rfl
  obtain ⟨s, e0, d0, hs⟩ := DataW.trod_string Try.underlying9 h0
  obtain ⟨a, e1, d1, ha⟩ := DataW.trod_int Try.underlying3 h1
  obtain ⟨n, e2, d2, hn⟩ := DataW.trod_int Try.underlying3 h2
  obtain ⟨c, e3, d3, hc⟩ := DataW.trod_int Try.underlying3 h3
  simp at i0 i1 i2 i3 j0 j1 j2 j3 e0 e1 e2 e3
  subst i0 i1 i2 i3 j0 j1 j2 j3 e0 e1 e2 e3 d0 d1 d2 d3
  exact ⟨s, a, n, c, rfl, rfl⟩
end
end Go.Proofs.Ytjcnjigmeopllaa

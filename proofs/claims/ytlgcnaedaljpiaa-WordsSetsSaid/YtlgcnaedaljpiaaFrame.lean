/-
  The argument of three laws, a struct of a string, three numbers and a bool, opened; no condition.
-/
import Derived.Test.YtlgcnaedaljpiaaLaw
namespace Go.Proofs.Ytlgcnaedaljpiaa
open Go.Joins Go.ChangeShapes Go.WideShapes Go.ChangeAt Go.RowKit Go.Deep
open Go.ChangeMaps (open_string shut_string)

theorem Try.own : ownKnob Try.prog.godebug = none := by kernel_rfl
theorem Try.laidOut : laidOutB Try.prog = true := by kernel_rfl
theorem Try.cells24 : Try.prog.cellsOf 24 = 5 := by kernel_rfl

section
variable {H : Type} {enc : TypeId × Value → H} {P : Program} {w : World} {base : Nat} {spare : Nat → Bool} {held : Bool}
/-- A struct by value whose fields have a cell each: every field's own value and reading, whatever their number. -/
theorem open_fields {r : Reach} {b0 : Nat} {t : TypeId} {fs : Array Field} {v : Value} {d : DataW H} {p : List MemPlace} (hs : P.underlying t = some (.struct fs)) (hone : oneCellFields P fs = true) (hC : P.cellsOf t = fs.size)
    (hv : Value.okWide P w r b0 t v) (h : DataW.Trod enc P w base spare held t v d p) :
    ∃ (cs : List Value) (ys : List (DataW H × List MemPlace)), v = .agg cs.toArray ∧ d = .agg (ys.map (·.1)) ∧ cs.length = fs.size ∧ ys.length = fs.size ∧
      ∀ (i : Nat) (f : Field), fs[i]? = some f → ∃ (c : Value) (y : DataW H × List MemPlace) (n : Nat), cs[i]? = some c ∧ ys[i]? = some y ∧ DataW.trod enc P w base spare held n f.type [c] = some y := by
  obtain ⟨cs, rfl, hsize⟩ := okWide_struct hs hv
  obtain ⟨fuel, hf⟩ := h
  obtain ⟨ys, n, _, hx, hl, hyl, hg⟩ := DataW.trod_struct hs hf
  have hcl : cs.toList.length = fs.size := by rw [Array.length_toList, hsize, hC]
  refine ⟨cs.toList, ys, by simp, by simpa using congrArg Prod.fst hx, hcl, hyl, ?_⟩
  intro i f hi
  obtain ⟨ho, hk⟩ := hone_of hone i f hi
  have hlt : i < fs.size := (Array.getElem?_eq_some_iff.1 hi).1
  have hgi := hg i f hi
  rw [ho, hk] at hgi
  have ecut : (List.drop i (Value.agg cs).cells.toList).take 1 = [cs.toList[i]'(by omega)] := by
    have e : (Value.agg cs).cells = cs := rfl
    rw [e, List.drop_eq_getElem_cons (by omega)]; rfl
  rw [ecut] at hgi
  exact ⟨_, _, n, List.getElem?_eq_getElem (by omega), List.getElem?_eq_getElem (by omega), hgi.trans (List.getElem?_eq_getElem (by omega))⟩

/-- The laws' argument, opened. -/
theorem open_spot {b0 : Nat} {v : Value} {d : DataW H} {p : List MemPlace} (hv : Value.okWide Try.prog w .any b0 24 v) (h : DataW.Trod enc Try.prog w base spare held 24 v d p)
    (hsz : (DataW.weightsEach Try.prog [24] [d]).all (· ≤ reachBytes) = true) :
    ∃ (s : ByteArray) (a n u : Int) (big : Bool), v = .agg #[.string s, .int .i64 a, .int .i64 n, .int .u64 u, .bool big] ∧ s.size ≤ 140737488351232 ∧ 0 ≤ u ∧ u < 18446744073709551616 ∧ (Lit.int .i64 a).wf = true ∧ (Lit.int .i64 n).wf = true := by
  obtain ⟨cs, ys, rfl, rfl, hcl, hyl, hf⟩ := open_fields Try.underlying24 (by kernel_rfl) Try.cells24 hv h
  match cs, ys, hcl, hyl with
  | [v0, v1, v2, v3, v4], [y0, y1, y2, y3, y4], _, _ =>
  obtain ⟨_, _, _, i0, j0, h0⟩ := hf 0 _ rfl
  obtain ⟨_, _, _, i1, j1, h1⟩ := hf 1 _ rfl
  obtain ⟨_, _, _, i2, j2, h2⟩ := hf 2 _ rfl
  obtain ⟨_, _, _, i3, j3, h3⟩ := hf 3 _ rfl
  obtain ⟨_, _, _, i4, j4, h4⟩ := hf 4 _ rfl
  obtain ⟨s, e0, d0, hs⟩ := DataW.trod_string Try.underlying9 h0
  obtain ⟨a, e1, d1, ha⟩ := DataW.trod_int Try.underlying3 h1
  obtain ⟨n, e2, d2, hn⟩ := DataW.trod_int Try.underlying3 h2
  obtain ⟨u, e3, d3, hu⟩ := DataW.trod_int Try.underlying22 h3
  obtain ⟨big, e4, d4⟩ := DataW.trod_bool Try.underlying4 h4
  simp at i0 i1 i2 i3 i4 j0 j1 j2 j3 j4 e0 e1 e2 e3 e4
  subst i0 i1 i2 i3 i4 j0 j1 j2 j3 j4 e0 e1 e2 e3 e4 d0 d1 d2 d3 d4
  have hm : s.data.toList.length ∈ DataW.weightsEach Try.prog [24] [DataW.agg [(DataW.lit (.string s.data.toList) : DataW H), .lit (.int .i64 a), .lit (.int .i64 n), .lit (.int .u64 u), .lit (.bool big)]] := by
    refine DataW.weights_mem_each (j := 0) (t := 24) rfl rfl _ ?_
    simp only [DataW.weights, Try.underlying24]
    exact DataW.weights_mem_each (j := 0) (t := 9) rfl rfl _ (by simp [DataW.weights])
  have hlen : s.data.toList.length ≤ reachBytes := of_decide_eq_true (List.all_eq_true.1 hsz _ hm)
  simp only [reachBytes] at hlen
  have hu' := bounds_u64 hu
  exact ⟨s, a, n, u, big, rfl, hlen, by omega, by omega, ha, hn⟩
end
end Go.Proofs.Ytlgcnaedaljpiaa

/-
  A frame that comes in by value, opened; no condition.
-/
import Derived.Test.YtdfllobhcfajjaaLaw
import Derived.Test.YtdfllobhcfajjaaRead
namespace Go.Proofs.Ytdfllobhcfajjaa
open Go.Joins Go.ChangeShapes Go.WideShapes Go.ChangeAt Go.RowKit Go.Deep
open Go.ChangeMaps (open_string shut_string)

theorem Try.cells23 : Try.prog.cellsOf 23 = 6 := by kernel_rfl

section
variable {H : Type} {enc : TypeId × Value → H} {P : Program} {w : World} {base : Nat} {spare : Nat → Bool} {held : Bool}
/-- A struct by value whose fields have a cell each: every field's own value and reading, whatever their number. -/
theorem open_fields {r : Reach} {b0 : Nat} {t : TypeId} {fs : Array Field} {v : Value} {d : DataW H} {p : List MemPlace} (hs : P.underlying t = some (.struct fs)) (hone : oneCellFields P fs = true) (hC : P.cellsOf t = fs.size)
    (hv : Value.okWide P w r b0 t v) (h : DataW.Trod enc P w base spare held t v d p) :
    ∃ (cs : List Value) (ys : List (DataW H × List MemPlace)), v = .agg cs.toArray ∧ d = .agg (ys.map (·.1)) ∧ cs.length = fs.size ∧ ys.length = fs.size ∧
      ∀ (i : Nat) (f : Field), fs[i]? = some f → ∃ (c : Value) (y : DataW H × List MemPlace) (n : Nat), cs[i]? = some c ∧ ys[i]? = some y ∧ DataW.trod enc P w base spare held n f.type [c] = some y := by
  obtain ⟨cs, rfl, hsize⟩ := okWide_struct hs hv
  obtain ⟨fuel, hf⟩ := h
  obtain ⟨ys, n, _, hx, hl, hyl, hg⟩ := DataW.trod_struct hs hf
  have hcl : cs.toList.length = fs.size := by rw [Array.length_toList, hsize, hC]
  refine ⟨cs.toList, ys, by simp, by simpa using congrArg Prod.fst hx, hcl, hyl, ?_⟩
  intro i f hi
  obtain ⟨ho, hk⟩ := hone_of hone i f hi
  have hlt : i < fs.size := (Array.getElem?_eq_some_iff.1 hi).1
  have hgi := hg i f hi
  rw [ho, hk] at hgi
  have ecut : (List.drop i (Value.agg cs).cells.toList).take 1 = [cs.toList[i]'(by omega)] := by
    have e : (Value.agg cs).cells = cs := rfl
    rw [e, List.drop_eq_getElem_cons (by omega)]; rfl
  rw [ecut] at hgi
  exact ⟨_, _, n, List.getElem?_eq_getElem (by omega), List.getElem?_eq_getElem (by omega), hgi.trans (List.getElem?_eq_getElem (by omega))⟩


def ethD (f : Fr) : DataW H := .agg [.lit (.string f.d.data.toList), .lit (.string f.r.data.toList), .lit (.int .i64 f.v), .lit (.int .i64 f.p), .lit (.int .i64 f.t), .lit (.string f.b.data.toList)]
/-- a frame, opened -/
theorem open_eth {b0 : Nat} {v : Value} {d : DataW H} {p : List MemPlace} (hv : Value.okWide Try.prog w .any b0 23 v) (h : DataW.Trod enc Try.prog w base spare held 23 v d p) :
    ∃ f : Fr, v = .agg #[.string f.d, .string f.r, .int .i64 f.v, .int .i64 f.p, .int .i64 f.t, .string f.b] ∧ d = ethD f := by
  obtain ⟨cs, ys, rfl, rfl, hcl, hyl, hf⟩ := open_fields Try.underlying23 (by kernel_rfl) Try.cells23 hv h
  match cs, ys, hcl, hyl with
  | [v0, v1, v2, v3, v4, v5], [y0, y1, y2, y3, y4, y5], _, _ =>
  obtain ⟨_, _, _, i0, j0, h0⟩ := hf 0 _ rfl
  obtain ⟨_, _, _, i1, j1, h1⟩ := hf 1 _ rfl
  obtain ⟨_, _, _, i2, j2, h2⟩ := hf 2 _ rfl
  obtain ⟨_, _, _, i3, j3, h3⟩ := hf 3 _ rfl
  obtain ⟨_, _, _, i4, j4, h4⟩ := hf 4 _ rfl
  obtain ⟨_, _, _, i5, j5, h5⟩ := hf 5 _ rfl
  obtain ⟨s0, e0, d0, _⟩ := DataW.trod_string Try.underlying9 h0
  obtain ⟨s1, e1, d1, _⟩ := DataW.trod_string Try.underlying9 h1
  obtain ⟨n2, e2, d2, _⟩ := DataW.trod_int Try.underlying3 h2
  obtain ⟨n3, e3, d3, _⟩ := DataW.trod_int Try.underlying3 h3
  obtain ⟨n4, e4, d4, _⟩ := DataW.trod_int Try.underlying3 h4
  obtain ⟨s5, e5, d5, _⟩ := DataW.trod_string Try.underlying9 h5
  simp at i0 i1 i2 i3 i4 i5 j0 j1 j2 j3 j4 j5 e0 e1 e2 e3 e4 e5
  subst i0 i1 i2 i3 i4 i5 j0 j1 j2 j3 j4 j5 e0 e1 e2 e3 e4 e5 d0 d1 d2 d3 d4 d5
  exact ⟨⟨s0, s1, n2, n3, n4, s5⟩, rfl, rfl⟩
theorem eth_sized {ts : List TypeId} {ds : List (DataW H)} {j : Nat} {f : Fr} (hsz : (DataW.weightsEach Try.prog ts ds).all (· ≤ reachBytes) = true) (ht : ts[j]? = some 23) (hd : ds[j]? = some (ethD f)) : f.b.size ≤ 140737488351232 := by
  have hm : f.b.data.toList.length ∈ DataW.weightsEach Try.prog ts ds := by
    refine DataW.weights_mem_each (j := j) (t := 23) ht hd _ ?_
    simp only [ethD, DataW.weights, Try.underlying23]
    exact DataW.weights_mem_each (j := 5) (t := 9) rfl rfl _ (by simp [DataW.weights])
  have hlen : f.b.data.toList.length ≤ reachBytes := of_decide_eq_true (List.all_eq_true.1 hsz _ hm)
  simp only [reachBytes] at hlen
  exact hlen
end
end Go.Proofs.Ytdfllobhcfajjaa

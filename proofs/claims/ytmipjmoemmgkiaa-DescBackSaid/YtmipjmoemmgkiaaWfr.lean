/-
  A descriptor that comes in by value, opened; no condition.
-/
import Derived.Test.YtmipjmoemmgkiaaLaw
namespace Go.Proofs.Ytmipjmoemmgkiaa
open Go.Joins Go.ChangeShapes Go.WideShapes Go.ChangeAt Go.RowKit Go.Deep
open Go.ChangeMaps (open_string shut_string)

theorem Try.cells25 : Try.prog.cellsOf 25 = 4 := by kernel_rfl
section
variable {H : Type} {enc : TypeId × Value → H} {P : Program} {w : World} {base : Nat} {spare : Nat → Bool} {held : Bool}
/-- A struct by value whose fields have a cell each: every field's own value and reading, whatever their number. -/
theorem open_fields {r : Reach} {b0 : Nat} {t : TypeId} {fs : Array Field} {v : Value} {d : DataW H} {p : List MemPlace} (hs : P.underlying t = some (.struct fs)) (hone : oneCellFields P fs = true) (hC : P.cellsOf t = fs.size)
    (hv : Value.okWide P w r b0 t v) (h : DataW.Trod enc P w base spare held t v d p) :
    ∃ (cs : List Value) (ys : List (DataW H × List MemPlace)), v = .agg cs.toArray ∧ d = .agg (ys.map (·.1)) ∧ cs.length = fs.size ∧ ys.length = fs.size ∧
      ∀ (i : Nat) (f : Field), fs[i]? = some f → ∃ (c : Value) (y : DataW H × List MemPlace) (n : Nat), cs[i]? = some c ∧ ys[i]? = some y ∧ DataW.trod enc P w base spare held n f.type [c] = some y := by
  obtain ⟨cs, rfl, hsize⟩ := okWide_struct hs hv
  obtain ⟨fuel, hf⟩ := h
  obtain ⟨ys, n, _, hx, hl, hyl, hg⟩ := DataW.trod_struct hs hf
  have hcl : cs.toList.length = fs.size := by rw [Array.length_toList, hsize, hC]
  refine ⟨cs.toList, ys, by simp, by simpa using congrArg Prod.fst hx, hcl, hyl, ?_⟩
  intro i f hi
  obtain ⟨ho, hk⟩ := hone_of hone i f hi
  have hlt : i < fs.size := (Array.getElem?_eq_some_iff.1 hi).1
  have hgi := hg i f hi
  rw [ho, hk] at hgi
  have ecut : (List.drop i (Value.agg cs).cells.toList).take 1 = [cs.toList[i]'(by omega)] := by
    have e : (Value.agg cs).cells = cs := rfl
    rw [e, List.drop_eq_getElem_cons (by omega)]; rfl
  rw [ecut] at hgi
  exact ⟨_, _, n, List.getElem?_eq_getElem (by omega), List.getElem?_eq_getElem (by omega), hgi.trans (List.getElem?_eq_getElem (by omega))⟩
set_option maxRecDepth 100000 in
theorem open_desc {b0 : Nat} {v : Value} {d : DataW H} {p : List MemPlace} (hv : Value.okWide Try.prog w .any b0 25 v) (h : DataW.Trod enc Try.prog w base spare held 25 v d p) :
    ∃ (A L : Nat) (I F : Int), v = .agg #[.int .u64 (A : Int), .int .u32 (L : Int), .int .i64 I, .int .i64 F] ∧ A < 18446744073709551616 ∧ L < 4294967296 ∧ (-9223372036854775808 ≤ I ∧ I ≤ 9223372036854775807) ∧ (-9223372036854775808 ≤ F ∧ F ≤ 9223372036854775807) := by
  obtain ⟨cs, ys, rfl, rfl, hcl, hyl, hf⟩ := open_fields Try.underlying25 (by kernel_rfl) Try.cells25 hv h
  match cs, ys, hcl, hyl with
  | [v0, v1, v2, v3], [y0, y1, y2, y3], _, _ =>
  obtain ⟨_, _, _, i0, j0, h0⟩ := hf 0 _ rfl
  obtain ⟨_, _, _, i1, j1, h1⟩ := hf 1 _ rfl
  obtain ⟨_, _, _, i2, j2, h2⟩ := hf 2 _ rfl
  obtain ⟨_, _, _, i3, j3, h3⟩ := hf 3 _ rfl
  obtain ⟨s0, e0, d0, k0⟩ := DataW.trod_int Try.underlying22 h0
  obtain ⟨s1, e1, d1, k1⟩ := DataW.trod_int Try.underlying23 h1
  obtain ⟨s2, e2, d2, k2⟩ := DataW.trod_int Try.underlying3 h2
  obtain ⟨s3, e3, d3, k3⟩ := DataW.trod_int Try.underlying3 h3
  simp at i0 i1 i2 i3 e0 e1 e2 e3
  subst i0 i1 i2 i3 e0 e1 e2 e3
  have b0 := bounds_u64 k0
  have b1 := bounds_u32 k1
  obtain ⟨A, rfl⟩ := Int.eq_ofNat_of_zero_le (show 0 ≤ s0 by omega)
  obtain ⟨L, rfl⟩ := Int.eq_ofNat_of_zero_le (show 0 ≤ s1 by omega)
  exact ⟨A, L, s2, s3, rfl, by omega, by omega, bounds_i64 k2, bounds_i64 k3⟩
end
end Go.Proofs.Ytmipjmoemmgkiaa

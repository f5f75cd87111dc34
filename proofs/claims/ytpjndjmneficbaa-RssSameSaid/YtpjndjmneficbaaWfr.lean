/-
  Rules that come in by value, opened; what the laws' bound leaves of them.
-/
import Derived.Test.YtpjndjmneficbaaLaw
import Derived.Test.YtpjndjmneficbaaRck
import Derived.ChangeSlices
namespace Go.Proofs.Ytpjndjmneficbaa
open Go.Joins Go.ChangeShapes Go.WideShapes Go.ChangeAt Go.RowKit Go.Deep
open Go.ChangeMaps (open_string shut_string)

theorem Try.cells24 : Try.prog.cellsOf 24 = 4 := by kernel_rfl
theorem Try.cells3 : Try.prog.cellsOf 3 = 1 := by kernel_rfl
section
variable {H : Type} {enc : TypeId × Value → H} {P : Program} {w : World} {base : Nat} {spare : Nat → Bool} {held : Bool}
/-- A struct by value whose fields have a cell each: every field's own value and reading, whatever their number. -/
theorem open_fields {r : Reach} {b0 : Nat} {t : TypeId} {fs : Array Field} {v : Value} {d : DataW H} {p : List MemPlace} (hs : P.underlying t = some (.struct fs)) (hone : oneCellFields P fs = true) (hC : P.cellsOf t = fs.size)
    (hv : Value.okWide P w r b0 t v) (h : DataW.Trod enc P w base spare held t v d p) :
    ∃ (cs : List Value) (ys : List (DataW H × List MemPlace)), v = .agg cs.toArray ∧ d = .agg (ys.map (·.1)) ∧ cs.length = fs.size ∧ ys.length = fs.size ∧
      ∀ (i : Nat) (f : Field), fs[i]? = some f → ∃ (c : Value) (y : DataW H × List MemPlace) (n : Nat), cs[i]? = some c ∧ ys[i]? = some y ∧ DataW.trod enc P w base spare held n f.type [c] = some y := by
  obtain ⟨cs, rfl, hsize⟩ := okWide_struct hs hv
  obtain ⟨fuel, hf⟩ := h
  obtain ⟨ys, n, _, hx, hl, hyl, hg⟩ := DataW.trod_struct hs hf
  have hcl : cs.toList.length = fs.size := by rw [Array.length_toList, hsize, hC]
  refine ⟨cs.toList, ys, by simp, by simpa using congrArg Prod.fst hx, hcl, hyl, ?_⟩
  intro i f hi
  obtain ⟨ho, hk⟩ := hone_of hone i f hi
  have hlt : i < fs.size := (Array.getElem?_eq_some_iff.1 hi).1
  have hgi := hg i f hi
  rw [ho, hk] at hgi
  have ecut : (List.drop i (Value.agg cs).cells.toList).take 1 = [cs.toList[i]'(by omega)] := by
    have e : (Value.agg cs).cells = cs := rfl
    rw [e, List.drop_eq_getElem_cons (by omega)]; rfl
  rw [ecut] at hgi
  exact ⟨_, _, n, List.getElem?_eq_getElem (by omega), List.getElem?_eq_getElem (by omega), hgi.trans (List.getElem?_eq_getElem (by omega))⟩
theorem tab_of_cells {a : Addr} {L : List Int} (h : ∀ i (hi : i < L.length), w.cell? (a.add i) = some (.int .i64 L[i])) : Tab (some a) L w := by
  intro hn
  obtain ⟨b, off, sp⟩ := a
  have h0 := h 0 hn
  have e0 : (⟨b, off, sp⟩ : Addr).add 0 = ⟨b, off, sp⟩ := rfl
  rw [e0] at h0
  have hlt : b < w.heap.size := World.block_lt_of_cell? w _ h0
  have hs : sp = none := by
    unfold World.cell? at h0
    split at h0
    · split at h0
      · cases h0
      · rename_i hq
        simpa using hq
    · cases h0
  subst hs
  refine ⟨b, off, rfl, hlt, fun i hi => ?_⟩
  have := h i hi
  have e : (⟨b, off, none⟩ : Addr).add i = ⟨b, off + i, none⟩ := by unfold Addr.add; split <;> simp_all
  rwa [e] at this
/-- a table in a slice that came in -/
def Tin (A : Option Addr) (c : Nat) (L : List Int) (w : World) : Prop := Tab A L w ∧ L.length ≤ c ∧ (A = none → L = [] ∧ c = 0)
set_option maxRecDepth 100000 in
theorem open_rss {b0 : Nat} {v : Value} {d : DataW H} {p : List MemPlace} (hv : Value.okWide Try.prog w .any b0 24 v) (h : DataW.Trod enc Try.prog w base spare held 24 v d p) :
    ∃ (k : Int) (A : Option Addr) (c : Nat) (L : List Int) (x : ByteArray) (dv : Int), v = .agg #[.int .i64 k, .slice A L.length c, .string x, .int .i64 dv] ∧ Tin A c L w ∧ (-9223372036854775808 ≤ k ∧ k ≤ 9223372036854775807) ∧ (-9223372036854775808 ≤ dv ∧ dv ≤ 9223372036854775807) := by
  obtain ⟨cs, ys, rfl, rfl, hcl, hyl, hf⟩ := open_fields Try.underlying24 (by kernel_rfl) Try.cells24 hv h
  match cs, ys, hcl, hyl with
  | [v0, v1, v2, v3], [y0, y1, y2, y3], _, _ =>
  obtain ⟨_, _, _, i0, j0, h0⟩ := hf 0 _ rfl
  obtain ⟨_, _, _, i1, j1, h1⟩ := hf 1 _ rfl
  obtain ⟨_, _, _, i2, j2, h2⟩ := hf 2 _ rfl
  obtain ⟨_, _, _, i3, j3, h3⟩ := hf 3 _ rfl
  obtain ⟨s0, e0, d0, k0⟩ := DataW.trod_int Try.underlying3 h0
  obtain ⟨s2, e2, d2, _⟩ := DataW.trod_string Try.underlying9 h2
  obtain ⟨s3, e3, d3, k3⟩ := DataW.trod_int Try.underlying3 h3
  have ht := open_ints Try.underlying22 Try.underlying3 Try.cells3 h1
  simp at i0 i1 i2 i3 j0 j1 j2 j3 e0 e2 e3
  subst i0 i1 i2 i3 e0 e2 e3
  rcases ht with ⟨hcs, _⟩ | ⟨a, len, cap, zs, hcs, _, hle, _, hzl, _, hcell, _⟩
  · simp at hcs
    subst hcs
    exact ⟨s0, none, 0, [], s2, s3, rfl, ⟨fun h => absurd h (Nat.lt_irrefl _), Nat.le_refl _, fun _ => ⟨rfl, rfl⟩⟩, bounds_i64 k0, bounds_i64 k3⟩
  · simp at hcs
    subst hcs
    have hzz : len ≤ zs.length := by rw [hzl]; split <;> omega
    have hll : (zs.take len).length = len := by rw [List.length_take]; omega
    refine ⟨s0, some a, cap, zs.take len, s2, s3, by rw [hll], ⟨tab_of_cells fun i hi => ?_, by rw [hll]; exact hle, fun h => by cases h⟩, bounds_i64 k0, bounds_i64 k3⟩
    rw [hll] at hi
    rw [hcell i (by omega), List.getElem_take, List.getD_eq_getElem?_getD, List.getElem?_eq_getElem (by omega)]
    rfl
end
theorem Tab.take {A : Option Addr} {L : List Int} {w : World} (h : Tab A L w) (n : Nat) : Tab A (L.take n) w := by
  intro hn
  have hl : 0 < L.length := by rw [List.length_take] at hn; omega
  obtain ⟨b, off, hA, hlt, hc⟩ := h hl
  refine ⟨b, off, hA, hlt, fun i hi => ?_⟩
  rw [List.getElem_take]
  exact hc i (by rw [List.length_take] at hi; omega)
theorem bound_any (k d : Int) (A : Option Addr) (c : Nat) (L : List Int) (x : ByteArray) (w : World) (h : Tin A c L w) :
    Calls Try.prog 10 #[.agg #[.int .i64 k, .slice A L.length c, .string x, .int .i64 d]] w fun e w' => e = .returned (.agg #[.int .i64 k, .slice A (L.take 300).length c, .string (x.extract 0 60), .int .i64 d]) ∧ Below w.heap.size w w' := by
  obtain ⟨_, hc, hn⟩ := h
  by_cases hx : x.size ≤ 60
  · have ex : x.extract 0 60 = x := by
      have : x.extract 0 60 = x.extract 0 x.size := by
        apply ByteArray.ext
        simp only [ByteArray.data_extract]
        apply Array.ext
        · simp only [Array.size_extract, ByteArray.size_data]; omega
        · intro i _ _
          simp
      rw [this, cut_own]
    rw [ex]
    cases A with
    | none =>
      obtain ⟨rfl, rfl⟩ := hn rfl
      exact bound_nil_short k d x hx w
    | some a =>
      by_cases hl : L.length ≤ 300
      · rw [List.take_of_length_le hl]
        exact bound_small_short k d x a L.length c hc hl hx w
      · rw [show (L.take 300).length = 300 by rw [List.length_take]; omega]
        exact bound_great_short k d x a L.length c hc (by omega) hx w
  · generalize ey : x.extract 0 60 = y
    cases A with
    | none =>
      obtain ⟨rfl, rfl⟩ := hn rfl
      exact bound_nil_long k d x y ey (by omega) w
    | some a =>
      by_cases hl : L.length ≤ 300
      · rw [List.take_of_length_le hl]
        exact bound_small_long k d x a L.length c hc hl y ey (by omega) w
      · rw [show (L.take 300).length = 300 by rw [List.length_take]; omega]
        exact bound_great_long k d x a L.length c hc (by omega) y ey (by omega) w
theorem Held.set4 {w w1 : World} {a0 a1 a2 a3 : Value} (h : Held w 24 #[a0, a1, a2, a3] w1) (b0 b1 b2 b3 : Value) :
    Held w 24 #[b0, b1, b2, b3] ((((w1.setCell ⟨w.heap.size, 0, none⟩ b0).setCell ⟨w.heap.size, 1, none⟩ b1).setCell ⟨w.heap.size, 2, none⟩ b2).setCell ⟨w.heap.size, 3, none⟩ b3) := by
  refine ⟨?_, (((h.below.setCell (Nat.le_refl _) _).setCell (Nat.le_refl _) _).setCell (Nat.le_refl _) _).setCell (Nat.le_refl _) _⟩
  have := (((h.blk.put 0 b0).put 1 b1).put 2 b2).put 3 b3
  simpa using this
end Go.Proofs.Ytpjndjmneficbaa

/-
  Variables that hold filters; the laws' framed; filters that come in by value, opened; no condition.
-/
import Derived.Test.YtboinnejkghfiaaSt
import Derived.Test.YtboinnejkghfiaaSa
import Derived.Test.YtboinnejkghfiaaRa
import Derived.Test.YtboinnejkghfiaaLaw
import Derived.ChangeSlices
import Derived.Deep.Strs
namespace Go.Proofs.Ytboinnejkghfiaa
open Go.Joins Go.ChangeShapes Go.WideShapes Go.ChangeAt Go.RowKit Go.Deep
open Go.ChangeMaps (open_string shut_string)

/-- Its lists do not stand in this block. -/
def Fl.Off (F : Fl) (g : Nat) : Prop :=
  (∀ b off, 0 < F.us.length → F.U = some ⟨b, off, none⟩ → b ≠ g) ∧ (∀ b off, 0 < F.ms.length → F.M = some ⟨b, off, none⟩ → b ≠ g) ∧ (∀ b off, 0 < F.vs.length → F.V = some ⟨b, off, none⟩ → b ≠ g)
theorem rd_off {B g : Nat} {A : Option Addr} {xs : List Value} {w : World} (h : Rd B A xs w) (hg : B ≤ g) : ∀ b off, 0 < xs.length → A = some ⟨b, off, none⟩ → b ≠ g := by
  intro b off hn hA
  obtain ⟨b', off', hA', hb, _⟩ := h hn
  rw [hA] at hA'
  injection hA' with hA'
  injection hA' with h1 _ _
  omega
theorem Fl.At.off {F : Fl} {B g : Nat} {w : World} (h : F.At B w) (hg : B ≤ g) : F.Off g :=
  ⟨fun b off hn hA => rd_off h.u hg b off (by simpa using hn) hA, fun b off hn hA => rd_off h.m hg b off (by simpa using hn) hA, fun b off hn hA => rd_off h.v hg b off (by simpa using hn) hA⟩
theorem own_off {w : World} {base n c g : Nat} {e : TypeId} {A : Option Addr} {xs : List Value} (h : w.ownsRow base e 1 (.slice A n c) n xs) (hg : g < base) : ∀ b off, A = some ⟨b, off, none⟩ → b ≠ g := by
  intro b off hA
  subst hA
  have := own_ge h b rfl
  omega
theorem Fl.Own.off {F : Fl} {base g : Nat} {w : World} (h : F.Own base w) (hg : g < base) : F.Off g := ⟨fun b off _ hA => own_off h.u hg b off hA, fun b off _ hA => own_off h.m hg b off hA, fun b off _ hA => own_off h.v hg b off hA⟩
theorem rd_set {B g i : Nat} {A : Option Addr} {xs : List Value} {w : World} {u : Value} (h : Rd B A xs w) (hn : ∀ b off, 0 < xs.length → A = some ⟨b, off, none⟩ → b ≠ g) : Rd B A xs (w.setCell ⟨g, i, none⟩ u) := by
  intro hl
  obtain ⟨b, off, hA, hb, hc⟩ := h hl
  exact ⟨b, off, hA, hb, fun j hj => (World.cell?_of_block (Below.heap_setCell w _ u b (hn b off hl hA))).trans (hc j hj)⟩
theorem Fl.At.set {F : Fl} {B g i : Nat} {w : World} {u : Value} (h : F.At B w) (hn : F.Off g) : F.At B (w.setCell ⟨g, i, none⟩ u) :=
  ⟨rd_set h.u (fun b off hl hA => hn.1 b off (by simpa using hl) hA), rd_set h.m (fun b off hl hA => hn.2.1 b off (by simpa using hl) hA), rd_set h.v (fun b off hl hA => hn.2.2 b off (by simpa using hl) hA)⟩
/-- Variables with filters in them: each in a block of its own, its lists somewhere else; all that was there is as it was. -/
structure Vs (w0 : World) (L : List (Nat × Fl)) (w : World) : Prop where
  below : Below w0.heap.size w0 w
  blk : ∀ p ∈ L, w0.heap.size ≤ p.1 ∧ Blk w p.1 25 p.2.cells ∧ p.2.At w.heap.size w ∧ p.2.Few
  off : ∀ p ∈ L, ∀ q ∈ L, p.2.Off q.1
section
variable {w0 w w' : World} {L L' : List (Nat × Fl)}
theorem Vs.next (h : Vs w0 L w) (hq : Below w.heap.size w w') : Vs w0 L w' :=
  ⟨bt2 h.below hq, fun p hp => by
    obtain ⟨h1, h2, h3, h4⟩ := h.blk p hp
    exact ⟨h1, h2.next hq, (h3.far (Nat.le_refl _) hq).more hq.size, h4⟩, h.off⟩
theorem Vs.drew (h : Vs w0 L w) : Vs w0 L w.drew := h.next (Below.refl _ _).drew
theorem Vs.drewN (h : Vs w0 L w) (n : Nat) : Vs w0 L (w.drewN n) := h.next (below_drewN (Below.refl _ _) n)
theorem Vs.alloc (h : Vs w0 L w) (o : Obj) : Vs w0 L (w.alloc o) := h.next ((Below.refl _ _).alloc (Nat.le_refl _) o)
theorem Vs.less (h : Vs w0 L w) (hL : ∀ p ∈ L', p ∈ L) : Vs w0 L' w := ⟨h.below, fun p hp => h.blk p (hL p hp), fun p hp q hq => h.off p (hL p hp) q (hL q hq)⟩
theorem Vs.lt (h : Vs w0 L w) {g : Nat} {F : Fl} (hm : (g, F) ∈ L) : g < w.heap.size := (h.blk _ hm).2.1.lt
theorem Vs.get (h : Vs w0 L w) {g : Nat} {F : Fl} (hm : (g, F) ∈ L) : Blk w g 25 F.cells := (h.blk _ hm).2.1
theorem Vs.at (h : Vs w0 L w) {g : Nat} {F : Fl} (hm : (g, F) ∈ L) : F.At w.heap.size w := (h.blk _ hm).2.2.1
theorem Vs.few (h : Vs w0 L w) {g : Nat} {F : Fl} (hm : (g, F) ∈ L) : F.Few := (h.blk _ hm).2.2.2
theorem Vs.new (h : Vs w0 L w) {F : Fl} (hF : F.At w.heap.size w) (hl : F.Few) (ho : ∀ q ∈ L, F.Off q.1) : Vs w0 ((w.heap.size, F) :: L) (w.alloc (.cells F.cells 25)) :=
  ⟨ba h.below _, fun p hp => by
    rcases List.mem_cons.1 hp with rfl | hp
    · exact ⟨h.below.size, Blk.new w 25 _, (hF.far (Nat.le_refl _) ((Below.refl _ _).alloc (Nat.le_refl _) _)).more (by simp), hl⟩
    · exact (h.alloc _).blk p hp, fun p hp q hq => by
    rcases List.mem_cons.1 hp with rfl | hp
    · rcases List.mem_cons.1 hq with rfl | hq
      · exact hF.off (Nat.le_refl _)
      · exact ho q hq
    · rcases List.mem_cons.1 hq with rfl | hq
      · exact (h.blk p hp).2.2.1.off (Nat.le_refl _)
      · exact h.off p hp q hq⟩
/-- the same lists, in the same places -/
structure Fl.Alike (F G : Fl) : Prop where
  U : G.U = F.U
  us : G.us = F.us
  M : G.M = F.M
  ms : G.ms = F.ms
  V : G.V = F.V
  vs : G.vs = F.vs
theorem Fl.Alike.at {F G : Fl} (e : F.Alike G) {B : Nat} {w : World} (h : F.At B w) : G.At B w := ⟨by rw [e.U, e.us]; exact h.u, by rw [e.M, e.ms]; exact h.m, by rw [e.V, e.vs]; exact h.v⟩
theorem Fl.Alike.off {F G : Fl} (e : F.Alike G) {g : Nat} (h : F.Off g) : G.Off g := by
  unfold Fl.Off
  rw [e.U, e.us, e.M, e.ms, e.V, e.vs]
  exact h
theorem Fl.Alike.few {F G : Fl} (e : F.Alike G) (h : F.Few) : G.Few := ⟨by rw [e.us]; exact h.u, by rw [e.ms]; exact h.m, by rw [e.vs]; exact h.v⟩
theorem Vs.put (h : Vs w0 L w) {g i : Nat} {u : Value} {F G : Fl} (hm : (g, F) ∈ L) (hc : F.cells.setIfInBounds i u = G.cells) (e : F.Alike G) (hL : ∀ p ∈ L', p = (g, G) ∨ (p ∈ L ∧ p.1 ≠ g)) : Vs w0 L' (w.setCell ⟨g, i, none⟩ u) := by
  have hg := (h.blk _ hm).1
  have hs : (w.setCell ⟨g, i, none⟩ u).heap.size = w.heap.size := setCell_size _ _ _
  refine ⟨h.below.setCell hg _, fun p hp => ?_, fun p hp q hq => ?_⟩
  · rw [hs]
    rcases hL p hp with rfl | ⟨hp, hne⟩
    · refine ⟨hg, ?_, (e.at (h.at hm)).set (e.off (h.off _ hm _ hm)), e.few (h.few hm)⟩
      have := (h.get hm).put i u
      rw [hc] at this
      exact this
    · obtain ⟨h1, h2, h3, h4⟩ := h.blk p hp
      exact ⟨h1, h2.other hne i u, h3.set (h.off p hp _ hm), h4⟩
  · have hq1 : ∃ Q, (q.1, Q) ∈ L := by
      rcases hL q hq with rfl | ⟨hq, _⟩
      · exact ⟨F, hm⟩
      · exact ⟨q.2, hq⟩
    obtain ⟨Q, hQ⟩ := hq1
    rcases hL p hp with rfl | ⟨hp, _⟩
    · exact e.off (h.off _ hm (q.1, Q) hQ)
    · exact h.off p hp (q.1, Q) hQ
end
def fram (a b : ByteArray) : ByteArray := a ++ b ++ ⟨#[8, 0]⟩
theorem framed_any (a b : ByteArray) (w : World) (h : a.size + b.size ≤ 100000) : Calls Try.prog 20 #[.string a, .string b] w fun e w' => e = .returned (.string (fram a b)) ∧ w = w' := by
  have h2 : (a ++ b).size ≤ 100000 := by rw [ByteArray.size_append]; exact h
  go_enter Try.func20, Try.ntmps20
  go_wp2
  go_ret
  exact ⟨rfl, rfl⟩
theorem Try.cells25 : Try.prog.cellsOf 25 = 11 := by kernel_rfl
theorem Try.cells3 : Try.prog.cellsOf 3 = 1 := by kernel_rfl
theorem Try.cells9 : Try.prog.cellsOf 9 = 1 := by kernel_rfl
section
variable {H : Type} {enc : TypeId × Value → H} {P : Program} {w : World} {base : Nat} {spare : Nat → Bool} {held : Bool}
/-- A struct by value whose fields have a cell each: every field's own value and reading, whatever their number. -/
theorem open_fields {r : Reach} {b0 : Nat} {t : TypeId} {fs : Array Field} {v : Value} {d : DataW H} {p : List MemPlace} (hs : P.underlying t = some (.struct fs)) (hone : oneCellFields P fs = true) (hC : P.cellsOf t = fs.size)
    (hv : Value.okWide P w r b0 t v) (h : DataW.Trod enc P w base spare held t v d p) :
    ∃ (cs : List Value) (ys : List (DataW H × List MemPlace)), v = .agg cs.toArray ∧ d = .agg (ys.map (·.1)) ∧ cs.length = fs.size ∧ ys.length = fs.size ∧
      ∀ (i : Nat) (f : Field), fs[i]? = some f → ∃ (c : Value) (y : DataW H × List MemPlace) (n : Nat), cs[i]? = some c ∧ ys[i]? = some y ∧ DataW.trod enc P w base spare held n f.type [c] = some y := by
  obtain ⟨cs, rfl, hsize⟩ := okWide_struct hs hv
  obtain ⟨fuel, hf⟩ := h
  obtain ⟨ys, n, _, hx, hl, hyl, hg⟩ := DataW.trod_struct hs hf
  have hcl : cs.toList.length = fs.size := by rw [Array.length_toList, hsize, hC]
  refine ⟨cs.toList, ys, by simp, by simpa using congrArg Prod.fst hx, hcl, hyl, ?_⟩
  intro i f hi
  obtain ⟨ho, hk⟩ := hone_of hone i f hi
  have hlt : i < fs.size := (Array.getElem?_eq_some_iff.1 hi).1
  have hgi := hg i f hi
  rw [ho, hk] at hgi
  have ecut : (List.drop i (Value.agg cs).cells.toList).take 1 = [cs.toList[i]'(by omega)] := by
    have e : (Value.agg cs).cells = cs := rfl
    rw [e, List.drop_eq_getElem_cons (by omega)]; rfl
  rw [ecut] at hgi
  exact ⟨_, _, n, List.getElem?_eq_getElem (by omega), List.getElem?_eq_getElem (by omega), hgi.trans (List.getElem?_eq_getElem (by omega))⟩

theorem rd_of_cells {a : Addr} {xs : List Value} (h : ∀ i (hi : i < xs.length), w.cell? (a.add i) = some xs[i]) : Rd w.heap.size (some a) xs w := by
  intro hn
  obtain ⟨b, off, sp⟩ := a
  have h0 := h 0 hn
  have e0 : (⟨b, off, sp⟩ : Addr).add 0 = ⟨b, off, sp⟩ := rfl
  rw [e0] at h0
  have hlt : b < w.heap.size := World.block_lt_of_cell? w _ h0
  have hs : sp = none := by
    unfold World.cell? at h0
    split at h0
    · split at h0
      · cases h0
      · rename_i hq
        simpa using hq
    · cases h0
  subst hs
  refine ⟨b, off, rfl, hlt, fun i hi => ?_⟩
  have := h i hi
  have e : (⟨b, off, none⟩ : Addr).add i = ⟨b, off + i, none⟩ := by unfold Addr.add; split <;> simp_all
  rwa [e] at this
theorem cells_strs {m : Nat} {c : Value} {x : DataW H × List MemPlace} (h : DataW.trod enc Try.prog w base spare held m 22 [c] = some x) :
    ∃ (A : Option Addr) (n : Nat) (us : List ByteArray), c = .slice A us.length n ∧ Rd w.heap.size A (us.map strV) w ∧ us.length ≤ n ∧ (A = none → n = 0) := by
  rcases open_strs Try.underlying22 Try.underlying9 Try.cells9 h with ⟨hcs, _⟩ | ⟨a, len, cap, k, Sx, hcs, _, hle, _, hk, _, hcell⟩
  · simp at hcs
    subst hcs
    exact ⟨none, 0, [], rfl, Rd.nil, Nat.le_refl _, fun _ => rfl⟩
  · simp at hcs
    subst hcs
    have hkk : len ≤ k := by rw [hk]; split <;> omega
    refine ⟨some a, cap, (List.range len).map Sx, by simp, rd_of_cells fun i hi => ?_, by simp; exact hle, fun h => by cases h⟩
    simp only [List.length_map, List.length_range] at hi
    rw [(hcell i (by omega)).1]
    simp [strV]
theorem cells_ints {m : Nat} {c : Value} {x : DataW H × List MemPlace} (h : DataW.trod enc Try.prog w base spare held m 23 [c] = some x) :
    ∃ (A : Option Addr) (n : Nat) (L : List Int), c = .slice A L.length n ∧ Rd w.heap.size A (L.map intV) w ∧ L.length ≤ n ∧ (A = none → n = 0) := by
  rcases open_ints Try.underlying23 Try.underlying3 Try.cells3 h with ⟨hcs, _⟩ | ⟨a, len, cap, zs, hcs, _, hle, _, hzl, _, hcell, _⟩
  · simp at hcs
    subst hcs
    exact ⟨none, 0, [], rfl, Rd.nil, Nat.le_refl _, fun _ => rfl⟩
  · simp at hcs
    subst hcs
    have hzz : len ≤ zs.length := by rw [hzl]; split <;> omega
    have hll : (zs.take len).length = len := by rw [List.length_take]; omega
    refine ⟨some a, cap, zs.take len, by rw [hll], rd_of_cells fun i hi => ?_, by rw [hll]; exact hle, fun h => by cases h⟩
    rw [List.length_map, hll] at hi
    rw [hcell i (by omega), List.getElem_map, List.getElem_take, List.getD_eq_getElem?_getD, List.getElem?_eq_getElem (by omega)]
    rfl
set_option maxRecDepth 100000 in
theorem open_filter {b0 : Nat} {v : Value} {d : DataW H} {p : List MemPlace} (hv : Value.okWide Try.prog w .any b0 25 v) (h : DataW.Trod enc Try.prog w base spare held 25 v d p) :
    ∃ F : Fl, v = F.val ∧ F.At w.heap.size w ∧ F.Fit := by
  obtain ⟨cs, ys, rfl, rfl, hcl, hyl, hf⟩ := open_fields Try.underlying25 (by kernel_rfl) Try.cells25 hv h
  match cs, ys, hcl, hyl with
  | [v0, v1, v2, v3, v4, v5, v6, v7, v8, v9, v10], [y0, y1, y2, y3, y4, y5, y6, y7, y8, y9, y10], _, _ =>
  obtain ⟨_, _, _, i0, j0, h0⟩ := hf 0 _ rfl
  obtain ⟨_, _, _, i1, j1, h1⟩ := hf 1 _ rfl
  obtain ⟨_, _, _, i2, j2, h2⟩ := hf 2 _ rfl
  obtain ⟨_, _, _, i3, j3, h3⟩ := hf 3 _ rfl
  obtain ⟨_, _, _, i4, j4, h4⟩ := hf 4 _ rfl
  obtain ⟨_, _, _, i5, j5, h5⟩ := hf 5 _ rfl
  obtain ⟨_, _, _, i6, j6, h6⟩ := hf 6 _ rfl
  obtain ⟨_, _, _, i7, j7, h7⟩ := hf 7 _ rfl
  obtain ⟨_, _, _, i8, j8, h8⟩ := hf 8 _ rfl
  obtain ⟨_, _, _, i9, j9, h9⟩ := hf 9 _ rfl
  obtain ⟨_, _, _, i10, j10, h10⟩ := hf 10 _ rfl
  obtain ⟨s0, e0, _, _⟩ := DataW.trod_string Try.underlying9 h0
  obtain ⟨s1, e1, _⟩ := DataW.trod_bool Try.underlying4 h1
  obtain ⟨s2, e2, _⟩ := DataW.trod_bool Try.underlying4 h2
  obtain ⟨s3, e3, _⟩ := DataW.trod_bool Try.underlying4 h3
  obtain ⟨s4, e4, _⟩ := DataW.trod_bool Try.underlying4 h4
  obtain ⟨s5, e5, _⟩ := DataW.trod_bool Try.underlying4 h5
  obtain ⟨s6, e6, _⟩ := DataW.trod_bool Try.underlying4 h6
  obtain ⟨A7, n7, l7, e7, r7, q7, z7⟩ := cells_strs h7
  obtain ⟨A8, n8, l8, e8, r8, q8, z8⟩ := cells_strs h8
  obtain ⟨s9, e9, _⟩ := DataW.trod_bool Try.underlying4 h9
  obtain ⟨A10, n10, l10, e10, r10, q10, z10⟩ := cells_ints h10
  simp at i0 i1 i2 i3 i4 i5 i6 i7 i8 i9 i10
  subst i0 i1 i2 i3 i4 i5 i6 i7 i8 i9 i10
  simp at e0 e1 e2 e3 e4 e5 e6 e9
  subst e0 e1 e2 e3 e4 e5 e6 e7 e8 e9 e10
  exact ⟨⟨s0, s1, s2, s3, s4, s5, s6, A7, l7, n7, A8, l8, n8, s9, A10, l10, n10⟩, rfl, ⟨r7, r8, r10⟩, ⟨q7, q8, q10, z7, z8, z10⟩⟩
end
end Go.Proofs.Ytboinnejkghfiaa

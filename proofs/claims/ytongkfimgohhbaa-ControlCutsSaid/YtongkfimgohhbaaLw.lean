/-
  The beginning of the laws: settings that are bound, and a command, each in a variable; no condition.
-/
import Derived.Test.YtongkfimgohhbaaOp
import Derived.Test.YtongkfimgohhbaaMx
namespace Go.Proofs.Ytongkfimgohhbaa
open Go.RowKit

theorem Cm.At.rds {O : Cm} {B : Nat} {w : World} (h : O.At B w) : ∀ a ∈ O.th.ls, Rd B a.1 a.2 w := by
  intro a ha
  simp only [List.mem_cons, List.not_mem_nil, or_false] at ha
  rcases ha with rfl | rfl | rfl
  · exact h.u
  · exact h.m
  · exact h.t
theorem vs_law {K0 K : Cg} {O : Cm} {w w1 : World} (hK : K.At w.heap.size w) (hO : O.At w.heap.size w)
    (hq : Below ((w.alloc (.cells K0.cells 29)).alloc (.cells O.cells 37)).heap.size ((w.alloc (.cells K0.cells 29)).alloc (.cells O.cells 37)) w1) :
    Vs w [(w.heap.size + 1, O.th), (w.heap.size, K.th)] (w1.setCells w.heap.size 0 K.cells.toList) := by
  have ha : Below w.heap.size w (w.alloc (.cells K0.cells 29)) := (Below.refl _ _).alloc (Nat.le_refl _) _
  have h0 : Vs w [] (w.alloc (.cells K0.cells 29)) := (Vs.begin w).alloc _
  have h1 := h0.new (t := O.th) (fun a ha' => ((hO.rds a ha').far (Nat.le_refl _) ha).more ha.size) (fun a _ q hq => absurd hq (by simp))
  rw [show (w.alloc (.cells K0.cells 29)).heap.size = w.heap.size + 1 by simp] at h1
  have h2 := h1.next hq
  have hk : Blk w1 w.heap.size 29 K0.cells := ((Blk.new w _ _).alloc _).next hq
  have hw1 : Below w.heap.size w w1 := h2.below
  have h3 := h2.var1 (g := w.heap.size) (G := K) (Nat.le_refl _) (fun p hp => by
      have : p = (w.heap.size + 1, O.th) := by simpa using hp
      subst this
      show w.heap.size + 1 ≠ w.heap.size
      omega) (fun p hp a ha' => by
      have : p = (w.heap.size + 1, O.th) := by simpa using hp
      subst this
      exact offL_rd (hO.rds a ha') (Nat.le_refl _)) hk rfl ((hK.far (Nat.le_refl _) hw1).more hw1.size) (hK.ofs (Nat.le_refl _)) (fun q hq' => by
      have : q = (w.heap.size + 1, O.th) := by simpa using hq'
      subst this
      exact hK.ofs (by show w.heap.size ≤ w.heap.size + 1; omega))
  exact h3.less (fun p hp => by
    simp only [List.mem_cons, List.not_mem_nil, or_false] at hp ⊢
    exact hp.symm)
theorem Cg.Ofs.all {G : Cg} {k : Nat} (ho : G.Ofs k) : ∀ a ∈ G.th.ls, offL a.1 a.2 k := by
  intro a ha
  simp only [List.mem_cons, List.not_mem_nil, or_false] at ha
  rcases ha with rfl | rfl | rfl | rfl
  · exact ho.f.u
  · exact ho.f.m
  · exact ho.f.v
  · exact ho.t
/-- two variables' settings copied into two new variables -/
theorem Vs.var2 {w0 wr V : World} {L : List (Nat × Th)} {g1 g2 gx gy : Nat} {G1 G2 : Cg} {c1 c2 : Array Value} (hv : Vs w0 L wr) (h : Vs w0 L V) (h1 : (g1, G1.th) ∈ L) (h2 : (g2, G2.th) ∈ L) (hx : wr.heap.size ≤ gx) (hy : wr.heap.size ≤ gy) (hne : gx ≠ gy)
    (kx : Blk V gx 29 c1) (ky : Blk V gy 29 c2) (s1 : c1.size = 18) (s2 : c2.size = 18) :
    Vs w0 ((gx, G1.th) :: L) (V.setCells gx 0 G1.cells.toList) ∧ Vs w0 ((gy, G2.th) :: (gx, G1.th) :: L) ((V.setCells gx 0 G1.cells.toList).setCells gy 0 G2.cells.toList) := by
  have e1 := h.var hv hx kx s1 (h.at h1) ((hv.at h1).ofs hx) (hv.ofs h1)
  refine ⟨e1, ?_⟩
  have hsz := setCells_size (g := gx) G1.cells.toList 0 V
  have hw0 := hv.below.size
  refine e1.var1 (by omega) (fun p hp => ?_) (fun p hp a ha => ?_) (ky.far (fun e => hne e.symm) 0 _) s2 (e1.at (g := g2) (List.mem_cons_of_mem _ h2)) ((hv.at h2).ofs hy) (fun q hq => ?_)
  · rcases List.mem_cons.1 hp with rfl | hp
    · exact hne
    · have := hv.lt hp; omega
  · rcases List.mem_cons.1 hp with rfl | hp
    · exact ((hv.at h1).ofs hy).all a ha
    · exact offL_rd ((hv.blk p hp).2.2 a ha) hy
  · rcases List.mem_cons.1 hq with rfl | hq
    · exact (hv.at h2).ofs hx
    · exact hv.ofs h2 q hq
end Go.Proofs.Ytongkfimgohhbaa

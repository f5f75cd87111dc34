/-
  Variables that hold settings and other things, each with the lists it names; no condition.
-/
import Derived.Test.YtongkfimgohhbaaCs
import Derived.Test.YtongkfimgohhbaaCd
import Derived.Test.YtongkfimgohhbaaLaw
import Derived.ChangeSlices
import Derived.Deep.Strs
import Derived.OrdersHeld
import Derived.Deep.RegionHeld3
namespace Go.Proofs.Ytongkfimgohhbaa
open Go.RowKit

/-- a thing in a variable: its type, its cells, the lists that it names -/
structure Th where
  t : TypeId
  cs : Array Value
  ls : List (Option Addr × List Value)
@[reducible] def Cg.th (K : Cg) : Th := ⟨29, K.cells, [(K.f.U, K.f.us.map strV), (K.f.M, K.f.ms.map strV), (K.f.V, K.f.vs.map intV), (K.T, K.tb.map intV)]⟩
/-- Variables, each in a block of its own, their lists elsewhere; all that was there is as it was. -/
structure Vs (w0 : World) (L : List (Nat × Th)) (w : World) : Prop where
  below : Below w0.heap.size w0 w
  blk : ∀ p ∈ L, w0.heap.size ≤ p.1 ∧ Blk w p.1 p.2.t p.2.cs ∧ ∀ a ∈ p.2.ls, Rd w.heap.size a.1 a.2 w
  off : ∀ p ∈ L, ∀ a ∈ p.2.ls, ∀ q ∈ L, offL a.1 a.2 q.1
section
variable {w0 w w' : World} {L L' : List (Nat × Th)}
theorem Vs.next (h : Vs w0 L w) (hq : Below w.heap.size w w') : Vs w0 L w' :=
  ⟨bt2 h.below hq, fun p hp => ⟨(h.blk p hp).1, (h.blk p hp).2.1.next hq, fun a ha => (((h.blk p hp).2.2 a ha).far (Nat.le_refl _) hq).more hq.size⟩, h.off⟩
theorem Vs.drew (h : Vs w0 L w) : Vs w0 L w.drew := h.next (Below.refl _ _).drew
theorem Vs.drewN (h : Vs w0 L w) (n : Nat) : Vs w0 L (w.drewN n) := h.next (below_drewN (Below.refl _ _) n)
theorem Vs.alloc (h : Vs w0 L w) (o : Obj) : Vs w0 L (w.alloc o) := h.next ((Below.refl _ _).alloc (Nat.le_refl _) o)
theorem Vs.less (h : Vs w0 L w) (hL : ∀ p ∈ L', p ∈ L) : Vs w0 L' w := ⟨h.below, fun p hp => h.blk p (hL p hp), fun p hp a ha q hq => h.off p (hL p hp) a ha q (hL q hq)⟩
theorem Vs.get (h : Vs w0 L w) {g : Nat} {t : Th} (hm : (g, t) ∈ L) : Blk w g t.t t.cs := (h.blk _ hm).2.1
theorem Vs.lt (h : Vs w0 L w) {p : Nat × Th} (hm : p ∈ L) : p.1 < w.heap.size := (h.blk _ hm).2.1.lt
theorem Vs.ge (h : Vs w0 L w) {p : Nat × Th} (hm : p ∈ L) : w0.heap.size ≤ p.1 := (h.blk _ hm).1
theorem Vs.begin (w : World) : Vs w [] w := ⟨b0 w, by simp, by simp⟩
theorem Vs.at (h : Vs w0 L w) {g : Nat} {K : Cg} (hm : (g, K.th) ∈ L) : K.At w.heap.size w := by
  have := (h.blk _ hm).2.2
  exact ⟨⟨this (K.f.U, K.f.us.map strV) (by simp), this (K.f.M, K.f.ms.map strV) (by simp), this (K.f.V, K.f.vs.map intV) (by simp)⟩, this (K.T, K.tb.map intV) (by simp)⟩
/-- a new thing in a new block -/
theorem Vs.new (h : Vs w0 L w) {t : Th} (hF : ∀ a ∈ t.ls, Rd w.heap.size a.1 a.2 w) (ho : ∀ a ∈ t.ls, ∀ q ∈ L, offL a.1 a.2 q.1) : Vs w0 ((w.heap.size, t) :: L) (w.alloc (.cells t.cs t.t)) := by
  have hb : Below w.heap.size w (w.alloc (.cells t.cs t.t)) := (Below.refl _ _).alloc (Nat.le_refl _) _
  refine ⟨ba h.below _, fun p hp => ?_, fun p hp a ha q hq => ?_⟩
  · rcases List.mem_cons.1 hp with rfl | hp
    · exact ⟨h.below.size, Blk.new w t.t _, fun a ha => ((hF a ha).far (Nat.le_refl _) hb).more (by simp)⟩
    · exact (h.alloc _).blk p hp
  · rcases List.mem_cons.1 hp with rfl | hp
    · rcases List.mem_cons.1 hq with rfl | hq
      · exact offL_rd (hF a ha) (Nat.le_refl _)
      · exact ho a ha q hq
    · rcases List.mem_cons.1 hq with rfl | hq
      · exact offL_rd ((h.blk p hp).2.2 a ha) (Nat.le_refl _)
      · exact h.off p hp a ha q hq
/-- settings that a call handed back, put into a block that is no other variable's -/
theorem Vs.var1 (h : Vs w0 L w) {g : Nat} {cs : Array Value} {G : Cg} (hw0 : w0.heap.size ≤ g) (hne : ∀ p ∈ L, p.1 ≠ g) (ofl : ∀ p ∈ L, ∀ a ∈ p.2.ls, offL a.1 a.2 g) (hb : Blk w g 29 cs) (hs : cs.size = 18)
    (hG : G.At w.heap.size w) (og : G.Ofs g) (oq : ∀ q ∈ L, G.Ofs q.1) : Vs w0 ((g, G.th) :: L) (w.setCells g 0 G.cells.toList) := by
  have hsz := setCells_size (g := g) G.cells.toList 0 w
  have hT : Tch [g] w (w.setCells g 0 G.cells.toList) := Tch.store _ 0 _ (Tch.refl _ _) (.inl (by simp))
  have hGo : ∀ a ∈ G.th.ls, offL a.1 a.2 g := by
    intro a ha
    simp only [List.mem_cons, List.not_mem_nil, or_false] at ha
    rcases ha with rfl | rfl | rfl | rfl
    · exact og.f.u
    · exact og.f.m
    · exact og.f.v
    · exact og.t
  have hGr : ∀ a ∈ G.th.ls, Rd w.heap.size a.1 a.2 w := by
    intro a ha
    simp only [List.mem_cons, List.not_mem_nil, or_false] at ha
    rcases ha with rfl | rfl | rfl | rfl
    · exact hG.f.u
    · exact hG.f.m
    · exact hG.f.v
    · exact hG.t
  refine ⟨below_puts h.below h.below.size (by omega) 0 _, fun p hp => ?_, fun p hp a ha q hq => ?_⟩
  · rw [hsz]
    rcases List.mem_cons.1 hp with rfl | hp
    · exact ⟨hw0, hb.all hs, fun a ha => hT.rd (hGr a ha) (Nat.le_refl _) (by intro k hk; simp only [List.mem_cons, List.not_mem_nil, or_false] at hk; subst hk; exact hGo a ha)⟩
    · exact ⟨(h.blk p hp).1, (h.blk p hp).2.1.far (hne p hp) 0 _, fun a ha => hT.rd ((h.blk p hp).2.2 a ha) (Nat.le_refl _) (fun k hk => by
        have hk : k = g := by simpa using hk
        rw [hk]
        exact ofl p hp a ha)⟩
  · rcases List.mem_cons.1 hp with rfl | hp
    · rcases List.mem_cons.1 hq with rfl | hq
      · exact hGo a ha
      · have hq' := oq q hq
        simp only [List.mem_cons, List.not_mem_nil, or_false] at ha
        rcases ha with rfl | rfl | rfl | rfl
        · exact hq'.f.u
        · exact hq'.f.m
        · exact hq'.f.v
        · exact hq'.t
    · rcases List.mem_cons.1 hq with rfl | hq
      · exact ofl p hp a ha
      · exact h.off p hp a ha q hq
theorem Vs.var (h : Vs w0 L w) {W : World} {g : Nat} {cs : Array Value} {G : Cg} (hW : Vs w0 L W) (hg : W.heap.size ≤ g) (hb : Blk w g 29 cs) (hs : cs.size = 18)
    (hG : G.At w.heap.size w) (og : G.Ofs g) (oq : ∀ q ∈ L, G.Ofs q.1) : Vs w0 ((g, G.th) :: L) (w.setCells g 0 G.cells.toList) :=
  h.var1 (Nat.le_trans hW.below.size hg) (fun p hp => by have := hW.lt hp; omega) (fun p hp a ha => offL_rd ((hW.blk p hp).2.2 a ha) hg) hb hs hG og oq
theorem Vs.ofs (h : Vs w0 L w) {g : Nat} {K : Cg} (hm : (g, K.th) ∈ L) : ∀ q ∈ L, K.Ofs q.1 := fun q hq => by
  have := fun a ha => h.off _ hm a ha q hq
  exact ⟨⟨this (K.f.U, K.f.us.map strV) (by simp), this (K.f.M, K.f.ms.map strV) (by simp), this (K.f.V, K.f.vs.map intV) (by simp)⟩, this (K.T, K.tb.map intV) (by simp)⟩
/-- a field that is no list of a variable with settings is put -/
theorem Vs.put (h : Vs w0 L w) {g i : Nat} {u : Value} {K G : Cg} (hm : (g, K.th) ∈ L) (hc : K.cells.setIfInBounds i u = G.cells) (hG : G.At w.heap.size w) (oq : ∀ q ∈ L, G.Ofs q.1) (hL : ∀ p ∈ L', p = (g, G.th) ∨ (p ∈ L ∧ p.1 ≠ g)) : Vs w0 L' (w.setCell ⟨g, i, none⟩ u) := by
  have hs : (w.setCell ⟨g, i, none⟩ u).heap.size = w.heap.size := setCell_size _ _ _
  have hT : Tch [g] w (w.setCell ⟨g, i, none⟩ u) := (Tch.refl _ _).setCell (.inl (by simp)) i u
  have hGg := oq _ hm
  have sp : ∀ {k : Nat}, G.Ofs k → ∀ a ∈ G.th.ls, offL a.1 a.2 k := by
    intro k ho a ha
    simp only [List.mem_cons, List.not_mem_nil, or_false] at ha
    rcases ha with rfl | rfl | rfl | rfl
    · exact ho.f.u
    · exact ho.f.m
    · exact ho.f.v
    · exact ho.t
  have hGr : ∀ a ∈ G.th.ls, Rd w.heap.size a.1 a.2 w := by
    intro a ha
    simp only [List.mem_cons, List.not_mem_nil, or_false] at ha
    rcases ha with rfl | rfl | rfl | rfl
    · exact hG.f.u
    · exact hG.f.m
    · exact hG.f.v
    · exact hG.t
  refine ⟨h.below.setCell (p := ⟨g, i, none⟩) (h.blk _ hm).1 _, fun p hp => ?_, fun p hp a ha q hq => ?_⟩
  · rw [hs]
    rcases hL p hp with rfl | ⟨hp, hne⟩
    · refine ⟨(h.blk _ hm).1, ?_, fun a ha => hT.rd (hGr a ha) (Nat.le_refl _) (by simpa using sp hGg a ha)⟩
      have := (h.get hm).put i u
      rw [hc] at this
      exact this
    · exact ⟨(h.blk p hp).1, (h.blk p hp).2.1.other hne i u, fun a ha => hT.rd ((h.blk p hp).2.2 a ha) (Nat.le_refl _) (by simpa using h.off p hp a ha _ hm)⟩
  · have hq1 : ∃ Q, (q.1, Q) ∈ L := by
      rcases hL q hq with rfl | ⟨hq, _⟩
      · exact ⟨_, hm⟩
      · exact ⟨q.2, hq⟩
    obtain ⟨Q, hQ⟩ := hq1
    rcases hL p hp with rfl | ⟨hp, _⟩
    · exact sp (oq (q.1, Q) hQ) a ha
    · exact h.off p hp a ha (q.1, Q) hQ
end
theorem Vs.puth {w0 w : World} {L : List (Nat × Th)} {g i : Nat} {u : Value} {t t' : Th} (h : Vs w0 ((g, t) :: L) w) (hne : ∀ p ∈ L, p.1 ≠ g) (ht : t'.t = t.t) (hc : t.cs.setIfInBounds i u = t'.cs) (hls : t'.ls = t.ls) : Vs w0 ((g, t') :: L) (w.setCell ⟨g, i, none⟩ u) := by
  have hs : (w.setCell ⟨g, i, none⟩ u).heap.size = w.heap.size := setCell_size _ _ _
  have hT : Tch [g] w (w.setCell ⟨g, i, none⟩ u) := (Tch.refl _ _).setCell (.inl (by simp)) i u
  have h0 := h.blk (g, t) (by simp)
  refine ⟨h.below.setCell (p := ⟨g, i, none⟩) h0.1 _, fun p hp => ?_, fun p hp a ha q hq => ?_⟩
  · rw [hs]
    rcases List.mem_cons.1 hp with rfl | hp
    · refine ⟨h0.1, ?_, fun a ha => hT.rd (h0.2.2 a (by rw [← hls]; exact ha)) (Nat.le_refl _) (by simpa using h.off (g, t) (by simp) a (by rw [← hls]; exact ha) (g, t) (by simp))⟩
      have := h0.2.1.put i u
      show Blk _ g t'.t t'.cs
      rw [ht, ← hc]
      exact this
    · have hp' : p ∈ (g, t) :: L := by simp [hp]
      exact ⟨(h.blk p hp').1, (h.blk p hp').2.1.other (hne p hp) i u, fun a ha => hT.rd ((h.blk p hp').2.2 a ha) (Nat.le_refl _) (by simpa using h.off p hp' a ha (g, t) (by simp))⟩
  · have hq1 : ∃ Q, (q.1, Q) ∈ (g, t) :: L := by
      rcases List.mem_cons.1 hq with rfl | hq
      · exact ⟨t, by simp⟩
      · exact ⟨q.2, by simp [hq]⟩
    obtain ⟨Q, hQ⟩ := hq1
    rcases List.mem_cons.1 hp with rfl | hp
    · exact h.off (g, t) (by simp) a (by rw [← hls]; exact ha) (q.1, Q) hQ
    · exact h.off p (by simp [hp]) a ha (q.1, Q) hQ
theorem Vs.app {w0 W w2 : World} {L : List (Nat × Th)} {G : Cg} (h : Vs w0 L W) (hO : G.Own W.heap.size w2) (hb : Below W.heap.size W w2) :
    Vs w0 ((w2.heap.size, G.th) :: L) ((w2.alloc (.cells zeroC 29)).setCells w2.heap.size 0 G.cells.toList) := by
  have h2 := h.next hb
  have ha : Below w2.heap.size w2 (w2.alloc (.cells zeroC 29)) := (Below.refl _ _).alloc (Nat.le_refl _) _
  have hO2 := hO.next ha
  have hs := hb.size
  refine (h2.alloc _).var h2 (Nat.le_refl _) (Blk.new w2 _ _) rfl (hO2.at (Nat.le_refl _)) ((hO.at (Nat.le_refl w2.heap.size)).ofs (Nat.le_refl _)) (fun q hq => hO.ofs (h.lt hq))
/-- settings out of a variable, behind a guard that says yes -/
theorem lwg_cfg {w : World} {g : Nat} {K : Cg} {ops : Array Oper} {rest : List Oper} {o : Oper} {a : Act} {Q : Exit → Act → World → Prop} (h : Blk w g 29 K.cells) (hw : Region.wanted o (yielded ops a.tmps) = true) (x : Operand) (ho : o.op = .load 29 x) (hx : a.eval x = .pointer (some ⟨g, 0, none⟩))
    (hn : wpList Try.prog ops Q rest (a.put o.dst (.agg K.cells)) w) : wpList Try.prog ops Q (o :: rest) a w :=
  wpList_step fun k hk => by
    rw [if_pos hw]
    exact wp_load_row _ x ho g hx _ _ (0, 0) _ h Try.underlying29 rfl Try.size29 (hk _ _ hn)
/-- what a drawn region keeps: the variables, and all that was there -/
structure Sg (w0 : World) (L : List (Nat × Th)) (wr w : World) : Prop where
  vs : Vs w0 L w
  bl : Below wr.heap.size wr w
theorem Sg.next {w0 wr w w' : World} {L : List (Nat × Th)} (h : Sg w0 L wr w) (hq : Below w.heap.size w w') : Sg w0 L wr w' := ⟨h.vs.next hq, bt2 h.bl hq⟩
theorem Sg.alloc {w0 wr w : World} {L : List (Nat × Th)} (h : Sg w0 L wr w) (o : Obj) : Sg w0 L wr (w.alloc o) := h.next ((Below.refl _ _).alloc (Nat.le_refl _) o)
theorem Sg.start {w0 wr : World} {L : List (Nat × Th)} (h : Vs w0 L wr) : Sg w0 L wr wr.drew := ⟨h.drew, (Below.refl _ _).drew⟩
theorem Cg.At.alloc {K : Cg} {w : World} (h : K.At w.heap.size w) (o : Obj) : K.At (w.alloc o).heap.size (w.alloc o) := (h.far (Nat.le_refl _) ((Below.refl _ _).alloc (Nat.le_refl _) o)).more (by simp)
theorem Cg.At.next {K : Cg} {w w' : World} (h : K.At w.heap.size w) (hq : Below w.heap.size w w') : K.At w'.heap.size w' := (h.far (Nat.le_refl _) hq).more hq.size
theorem row_cfg {w0 wr : World} {L : List (Nat × Th)} {g : Nat} {K : Cg} (hm : (g, K.th) ∈ L) : ∀ W, Sg w0 L wr W → W.rangeAt g 0 K.cells.toList := fun W h => by
  have hb : Blk W g 29 K.cells := h.vs.get hm
  exact range_of_blk hb 0 _ (fun j v hv => by simpa using hv)
/-- A drawn region's end, told once for all its orders. -/
theorem region_cut {P : Program} {id : Nat} {ops : Array Oper} {b : Bool} {Q : Exit → Act → World → Prop} {a : Act} {w : World} (R : Act → Act → World → Prop)
    (h1 : (Code.region id ops b).wp P (fun e a' w' => e = .normal ∧ R a a' w') a w) (h2 : ∀ a' w', R a a' w' → Q .normal a' w') : (Code.region id ops b).wp P Q a w :=
  Code.wp_mono (fun e a' w' ⟨he, hr⟩ => by subst he; exact h2 a' w' hr) h1
end Go.Proofs.Ytongkfimgohhbaa

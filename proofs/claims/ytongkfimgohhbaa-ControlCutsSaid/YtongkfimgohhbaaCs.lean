/-
  The document's Same of settings that are the same; no condition.
-/
import Derived.Test.YtongkfimgohhbaaAp
import Derived.Test.YtongkfimgohhbaaSa
import Derived.Test.YtongkfimgohhbaaSsm
namespace Go.Proofs.Ytongkfimgohhbaa
open Go.RowKit

set_option maxHeartbeats 2000000 in
theorem csame_walk (K : Cg) (F : Fl) (T : Option Addr) (c : Nat) (w : World)
    (A1 : ∀ W, Below w.heap.size w W → Calls Try.prog 26 #[.agg K.f.cells, .agg F.cells] W fun e w' => e = .returned (.bool true) ∧ Below W.heap.size W w')
    (A2 : ∀ W, Below w.heap.size w W → Calls Try.prog 28 #[.slice K.T K.tb.length K.tc, .slice T K.tb.length c] W fun e w' => e = .returned (.bool true) ∧ Below W.heap.size W w') :
    Calls Try.prog 12 #[.agg K.cells, .agg (Cg.cells { K with f := F, T := T, tc := c })] w fun e w' => e = .returned (.bool true) ∧ Below w.heap.size w w' := by
  have H1 := Lib.hid A1
  have H2 := Lib.hid A2
  have k0 : Blk ((w.alloc (.cells K.cells 29)).alloc (.cells (Cg.cells { K with f := F, T := T, tc := c }) 29)) w.heap.size 29 K.cells := (Blk.new w 29 _).alloc _
  have z0 : Blk ((w.alloc (.cells K.cells 29)).alloc (.cells (Cg.cells { K with f := F, T := T, tc := c }) 29)) (w.heap.size + 1) 29 (Cg.cells { K with f := F, T := T, tc := c }) := Blk.new2 w _ _ _
  have hb0 : Below w.heap.size w ((w.alloc (.cells K.cells 29)).alloc (.cells (Cg.cells { K with f := F, T := T, tc := c }) 29)) := ba (ba (b0 w) _) _
  have KK := Lib.hid k0
  have KZ := Lib.hid z0
  have HB := Lib.hid hb0
  clear k0 z0 hb0 A1 A2
  go_enter Try.func12, Try.ntmps12
  go_wp2_with (first
    | ((with_reducible refine lw_fil KK.out ?_ (.tmp 5) ?_ ?_ ?_); (· rfl); (· rfl); (· rfl); simp only [Act.put, List.setIfInBounds_toArray, List.set_cons_succ, List.set_cons_zero])
    | ((with_reducible refine lw_fil KZ.out ?_ (.tmp 7) ?_ ?_ ?_); (· rfl); (· rfl); (· rfl); simp only [Act.put, List.setIfInBounds_toArray, List.set_cons_succ, List.set_cons_zero]))
  refine (H1.out _ HB.out).mono ?_
  rintro e w1 ⟨rfl, hq⟩
  have hk := KK.out.next hq
  have hz := KZ.out.next hq
  have c11 := hk.cell 11
  have c12 := hk.cell 12
  have c13 := hk.cell 13
  have c14 := hk.cell 14
  have c15 := hk.cell 15
  have c16 := hk.cell 16
  have c17 := hk.cell 17
  simp only [List.getElem?_toArray, List.getElem?_cons_zero, List.getElem?_cons_succ] at c11 c12 c13 c14 c15 c16 c17
  have d11 := hz.cell 11
  have d12 := hz.cell 12
  have d13 := hz.cell 13
  have d14 := hz.cell 14
  have d15 := hz.cell 15
  have d16 := hz.cell 16
  have d17 := hz.cell 17
  simp only [List.getElem?_toArray, List.getElem?_cons_zero, List.getElem?_cons_succ] at d11 d12 d13 d14 d15 d16 d17
  replace HB := Lib.hid (bt2 HB.out hq)
  clear hk hz hq H1
  dsimp only
  go_wp2_with fail
  refine (H2.out _ HB.out).mono ?_
  rintro e w2 ⟨rfl, hq⟩
  replace HB := Lib.hid (bt2 HB.out hq)
  clear hq H2
  go_wp2
  go_ret
  exact ⟨rfl, HB.out⟩
theorem csame_yes (K G : Cg) (B : Nat) (w : World) (hS : K.Same G) (hK : K.At B w) (hG : G.At B w) (hB : B ≤ w.heap.size) (hl : K.Few) :
    Calls Try.prog 12 #[.agg K.cells, .agg G.cells] w fun e w' => e = .returned (.bool true) ∧ Below w.heap.size w w' := by
  obtain ⟨F, pairs, mx, on, kinds, T, tb, tc, key, df⟩ := G
  obtain ⟨hf, e1, e2, e3, e4, e5, e6, e7⟩ := hS
  simp only at hf e1 e2 e3 e4 e5 e6 e7
  subst e1 e2 e3 e4 e5 e6 e7
  refine csame_walk K F T tc w (fun W hb => same_yes K.f F B W hf (hK.f.far hB hb) (hG.f.far hB hb) (Nat.le_trans hB hb.size) hl.f) (fun W hb => ?_)
  exact Rs.same_yes K.tb K.T T K.tc tc W (by have := hl.t; omega) ((hK.t.far hB hb).tab (Nat.le_trans hB hb.size)) ((hG.t.far hB hb).tab (Nat.le_trans hB hb.size))
end Go.Proofs.Ytongkfimgohhbaa

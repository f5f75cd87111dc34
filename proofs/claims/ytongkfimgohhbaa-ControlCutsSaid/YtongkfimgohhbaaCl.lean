/-
  control.clone: settings whose lists are one's own; no condition.
-/
import Derived.Test.YtongkfimgohhbaaWr
namespace Go.Proofs.Ytongkfimgohhbaa
open Go.RowKit

@[reducible] def zeroC : Array Value := #[.string ⟨#[]⟩, .bool false, .bool false, .bool false, .bool false, .bool false, .bool false, .slice none 0 0, .slice none 0 0, .bool false, .slice none 0 0, .int .i64 0, .int .i64 0, .bool false, .int .i64 0, .slice none 0 0, .string ⟨#[]⟩, .int .i64 0]
/-- what clone hands back -/
def CloneC (K : Cg) (w : World) (e : Ending) (w' : World) : Prop :=
  ∃ G : Cg, K.Same G ∧ e = .returned G.val ∧ G.Own w.heap.size w' ∧ Below w.heap.size w w'
set_option maxHeartbeats 4000000 in
theorem cclone_walk (K : Cg) (w : World)
    (A1 : ∀ W, Below w.heap.size w W → Calls Try.prog 56 #[.slice K.f.U K.f.us.length K.f.uc] W fun e w' => ∃ A c, e = .returned (.slice A K.f.us.length c) ∧ OwnS W.heap.size A c K.f.us w' ∧ Below W.heap.size W w')
    (A2 : ∀ W, Below w.heap.size w W → Calls Try.prog 56 #[.slice K.f.M K.f.ms.length K.f.mc] W fun e w' => ∃ A c, e = .returned (.slice A K.f.ms.length c) ∧ OwnS W.heap.size A c K.f.ms w' ∧ Below W.heap.size W w')
    (A3 : ∀ W, Below w.heap.size w W → Calls Try.prog 57 #[.slice K.f.V K.f.vs.length K.f.vc] W fun e w' => ∃ A c, e = .returned (.slice A K.f.vs.length c) ∧ OwnI W.heap.size A c K.f.vs w' ∧ Below W.heap.size W w')
    (A4 : ∀ W, Below w.heap.size w W → Calls Try.prog 57 #[.slice K.T K.tb.length K.tc] W fun e w' => ∃ A c, e = .returned (.slice A K.tb.length c) ∧ OwnI W.heap.size A c K.tb w' ∧ Below W.heap.size W w') :
    Calls Try.prog 37 #[.agg K.cells] w (CloneC K w) := by
  have H1 := Lib.hid A1
  have H2 := Lib.hid A2
  have H3 := Lib.hid A3
  have H4 := Lib.hid A4
  clear A1 A2 A3 A4
  have k0 : Blk ((w.alloc (.cells K.cells 29)).alloc (.cells #[.string ⟨#[]⟩, .bool false, .bool false, .bool false, .bool false, .bool false, .bool false, .slice none 0 0, .slice none 0 0, .bool false, .slice none 0 0, .int .i64 0, .int .i64 0, .bool false, .int .i64 0, .slice none 0 0, .string ⟨#[]⟩, .int .i64 0] 29)) w.heap.size 29 K.cells := (Blk.new w 29 _).alloc _
  have z0 : Blk ((w.alloc (.cells K.cells 29)).alloc (.cells #[.string ⟨#[]⟩, .bool false, .bool false, .bool false, .bool false, .bool false, .bool false, .slice none 0 0, .slice none 0 0, .bool false, .slice none 0 0, .int .i64 0, .int .i64 0, .bool false, .int .i64 0, .slice none 0 0, .string ⟨#[]⟩, .int .i64 0] 29)) (w.heap.size + 1) 29 #[.string ⟨#[]⟩, .bool false, .bool false, .bool false, .bool false, .bool false, .bool false, .slice none 0 0, .slice none 0 0, .bool false, .slice none 0 0, .int .i64 0, .int .i64 0, .bool false, .int .i64 0, .slice none 0 0, .string ⟨#[]⟩, .int .i64 0] := Blk.new2 w _ _ _
  have hb0 : Below w.heap.size w ((w.alloc (.cells K.cells 29)).alloc (.cells #[.string ⟨#[]⟩, .bool false, .bool false, .bool false, .bool false, .bool false, .bool false, .slice none 0 0, .slice none 0 0, .bool false, .slice none 0 0, .int .i64 0, .int .i64 0, .bool false, .int .i64 0, .slice none 0 0, .string ⟨#[]⟩, .int .i64 0] 29)) := ba (ba (b0 w) _) _
  have KK := Lib.hid k0
  have KZ := Lib.hid z0
  have HB := Lib.hid hb0
  clear k0 z0 hb0
  go_enter Try.func37, Try.ntmps37
  go_wp2_with fail
  refine (H1.out _ HB.out).mono ?_
  rintro e w1 ⟨U1, uc1, rfl, hO, hq⟩
  replace hO := own_less (base' := w.heap.size + 2) hO (by have := KZ.out.lt; omega)
  have hk := KK.out.next hq
  have hz := KZ.out.next hq
  have hb := bt2 HB.out hq
  have hkl := hk.lt
  have hzl := hz.lt
  have f7 := hk.frozen 7
  have c7 := hk.cell 7
  have c8 := hk.cell 8
  simp only [List.getElem?_toArray, List.getElem?_cons_zero, List.getElem?_cons_succ] at c7 c8
  have hk2 : Blk (w1.setCell ⟨w.heap.size, 7, none⟩ (.slice U1 K.f.us.length uc1)) w.heap.size 29 (Cg.cells { K with f := { K.f with U := U1, uc := uc1 } }) := hk.put 7 (.slice U1 K.f.us.length uc1)
  have hz2 := hz.other (k := w.heap.size) (by omega) 7 (.slice U1 K.f.us.length uc1)
  have hb2 : Below w.heap.size w (w1.setCell ⟨w.heap.size, 7, none⟩ (.slice U1 K.f.us.length uc1)) := hb.setCell (p := ⟨w.heap.size, 7, none⟩) (Nat.le_refl _) (.slice U1 K.f.us.length uc1)
  have qO7 := own_set hO (g := w.heap.size) (by omega) 7 (.slice U1 K.f.us.length uc1)
  have O7 := Lib.hid qO7
  replace KK := Lib.hid hk2
  replace KZ := Lib.hid hz2
  replace HB := Lib.hid hb2
  clear hO hq hk hz hb hkl hzl hk2 hz2 hb2  qO7 H1
  go_wp2_with fail
  clear f7 c7 c8
  refine (H2.out _ HB.out).mono ?_
  rintro e w3 ⟨M1, mc1, rfl, hO, hq⟩
  replace hO := own_less (base' := w.heap.size + 2) hO (by have := KZ.out.lt; omega)
  have hk := KK.out.next hq
  have hz := KZ.out.next hq
  have hb := bt2 HB.out hq
  have hkl := hk.lt
  have hzl := hz.lt
  have f8 := hk.frozen 8
  have c8 := hk.cell 8
  have c10 := hk.cell 10
  simp only [List.getElem?_toArray, List.getElem?_cons_zero, List.getElem?_cons_succ] at c8 c10
  have hk2 : Blk (w3.setCell ⟨w.heap.size, 8, none⟩ (.slice M1 K.f.ms.length mc1)) w.heap.size 29 (Cg.cells { K with f := { K.f with U := U1, uc := uc1, M := M1, mc := mc1 } }) := hk.put 8 (.slice M1 K.f.ms.length mc1)
  have hz2 := hz.other (k := w.heap.size) (by omega) 8 (.slice M1 K.f.ms.length mc1)
  have hb2 : Below w.heap.size w (w3.setCell ⟨w.heap.size, 8, none⟩ (.slice M1 K.f.ms.length mc1)) := hb.setCell (p := ⟨w.heap.size, 8, none⟩) (Nat.le_refl _) (.slice M1 K.f.ms.length mc1)
  have qO7 := own_set (own_next O7.out hq) (g := w.heap.size) (by omega) 8 (.slice M1 K.f.ms.length mc1)
  have qO8 := own_set hO (g := w.heap.size) (by omega) 8 (.slice M1 K.f.ms.length mc1)
  replace O7 := Lib.hid qO7
  have O8 := Lib.hid qO8
  replace KK := Lib.hid hk2
  replace KZ := Lib.hid hz2
  replace HB := Lib.hid hb2
  clear hO hq hk hz hb hkl hzl hk2 hz2 hb2 qO7 qO8 H2
  go_wp2_with fail
  clear f8 c8 c10
  refine (H3.out _ HB.out).mono ?_
  rintro e w5 ⟨V1, vc1, rfl, hO, hq⟩
  replace hO := own_less (base' := w.heap.size + 2) hO (by have := KZ.out.lt; omega)
  have hk := KK.out.next hq
  have hz := KZ.out.next hq
  have hb := bt2 HB.out hq
  have hkl := hk.lt
  have hzl := hz.lt
  have f10 := hk.frozen 10
  have c10 := hk.cell 10
  have c15 := hk.cell 15
  simp only [List.getElem?_toArray, List.getElem?_cons_zero, List.getElem?_cons_succ] at c10 c15
  have hk2 : Blk (w5.setCell ⟨w.heap.size, 10, none⟩ (.slice V1 K.f.vs.length vc1)) w.heap.size 29 (Cg.cells { K with f := { K.f with U := U1, uc := uc1, M := M1, mc := mc1, V := V1, vc := vc1 } }) := hk.put 10 (.slice V1 K.f.vs.length vc1)
  have hz2 := hz.other (k := w.heap.size) (by omega) 10 (.slice V1 K.f.vs.length vc1)
  have hb2 : Below w.heap.size w (w5.setCell ⟨w.heap.size, 10, none⟩ (.slice V1 K.f.vs.length vc1)) := hb.setCell (p := ⟨w.heap.size, 10, none⟩) (Nat.le_refl _) (.slice V1 K.f.vs.length vc1)
  have qO7 := own_set (own_next O7.out hq) (g := w.heap.size) (by omega) 10 (.slice V1 K.f.vs.length vc1)
  have qO8 := own_set (own_next O8.out hq) (g := w.heap.size) (by omega) 10 (.slice V1 K.f.vs.length vc1)
  have qO10 := own_set hO (g := w.heap.size) (by omega) 10 (.slice V1 K.f.vs.length vc1)
  replace O7 := Lib.hid qO7
  replace O8 := Lib.hid qO8
  have O10 := Lib.hid qO10
  replace KK := Lib.hid hk2
  replace KZ := Lib.hid hz2
  replace HB := Lib.hid hb2
  clear hO hq hk hz hb hkl hzl hk2 hz2 hb2 qO7 qO8 qO10 H3
  go_wp2_with fail
  clear f10 c10 c15
  refine (H4.out _ HB.out).mono ?_
  rintro e w7 ⟨T1, tc1, rfl, hO, hq⟩
  replace hO := own_less (base' := w.heap.size + 2) hO (by have := KZ.out.lt; omega)
  have hk := KK.out.next hq
  have hz := KZ.out.next hq
  have hb := bt2 HB.out hq
  have hkl := hk.lt
  have hzl := hz.lt
  have f15 := hk.frozen 15
  have c15 := hk.cell 15
  simp only [List.getElem?_toArray, List.getElem?_cons_zero, List.getElem?_cons_succ] at c15
  have hk2 : Blk (w7.setCell ⟨w.heap.size, 15, none⟩ (.slice T1 K.tb.length tc1)) w.heap.size 29 (Cg.cells { K with f := { K.f with U := U1, uc := uc1, M := M1, mc := mc1, V := V1, vc := vc1 }, T := T1, tc := tc1 }) := hk.put 15 (.slice T1 K.tb.length tc1)
  have hz2 := hz.other (k := w.heap.size) (by omega) 15 (.slice T1 K.tb.length tc1)
  have hb2 : Below w.heap.size w (w7.setCell ⟨w.heap.size, 15, none⟩ (.slice T1 K.tb.length tc1)) := hb.setCell (p := ⟨w.heap.size, 15, none⟩) (Nat.le_refl _) (.slice T1 K.tb.length tc1)
  have qO7 := own_set (own_next O7.out hq) (g := w.heap.size) (by omega) 15 (.slice T1 K.tb.length tc1)
  have qO8 := own_set (own_next O8.out hq) (g := w.heap.size) (by omega) 15 (.slice T1 K.tb.length tc1)
  have qO10 := own_set (own_next O10.out hq) (g := w.heap.size) (by omega) 15 (.slice T1 K.tb.length tc1)
  have qO15 := own_set hO (g := w.heap.size) (by omega) 15 (.slice T1 K.tb.length tc1)
  replace O7 := Lib.hid qO7
  replace O8 := Lib.hid qO8
  replace O10 := Lib.hid qO10
  have O15 := Lib.hid qO15
  replace KK := Lib.hid hk2
  replace KZ := Lib.hid hz2
  replace HB := Lib.hid hb2
  clear hO hq hk hz hb hkl hzl hk2 hz2 hb2 qO7 qO8 qO10 qO15 H4
  have hz : Blk ((w7.setCell ⟨w.heap.size, 15, none⟩ (.slice T1 K.tb.length tc1)).setCells (w.heap.size + 1) 0 (Cg.cells { K with f := { K.f with U := U1, uc := uc1, M := M1, mc := mc1, V := V1, vc := vc1 }, T := T1, tc := tc1 }).toList) (w.heap.size + 1) 29 (Cg.cells { K with f := { K.f with U := U1, uc := uc1, M := M1, mc := mc1, V := V1, vc := vc1 }, T := T1, tc := tc1 }) := KZ.out.all rfl
  have hzl := KZ.out.lt
  have hb : Below w.heap.size w ((w7.setCell ⟨w.heap.size, 15, none⟩ (.slice T1 K.tb.length tc1)).setCells (w.heap.size + 1) 0 (Cg.cells { K with f := { K.f with U := U1, uc := uc1, M := M1, mc := mc1, V := V1, vc := vc1 }, T := T1, tc := tc1 }).toList) := below_puts HB.out HB.out.size (by omega) 0 _
  have r7 := own_puts O7.out (g := w.heap.size + 1) (by omega) 0 (Cg.cells { K with f := { K.f with U := U1, uc := uc1, M := M1, mc := mc1, V := V1, vc := vc1 }, T := T1, tc := tc1 }).toList
  have r8 := own_puts O8.out (g := w.heap.size + 1) (by omega) 0 (Cg.cells { K with f := { K.f with U := U1, uc := uc1, M := M1, mc := mc1, V := V1, vc := vc1 }, T := T1, tc := tc1 }).toList
  have r10 := own_puts O10.out (g := w.heap.size + 1) (by omega) 0 (Cg.cells { K with f := { K.f with U := U1, uc := uc1, M := M1, mc := mc1, V := V1, vc := vc1 }, T := T1, tc := tc1 }).toList
  have r15 := own_puts O15.out (g := w.heap.size + 1) (by omega) 0 (Cg.cells { K with f := { K.f with U := U1, uc := uc1, M := M1, mc := mc1, V := V1, vc := vc1 }, T := T1, tc := tc1 }).toList
  have HZ := Lib.hid hz
  have HB2 := Lib.hid hb
  have R7 := Lib.hid r7
  have R8 := Lib.hid r8
  have R10 := Lib.hid r10
  have R15 := Lib.hid r15
  clear hz hb r7 r8 r10 r15 hzl
  have HE0 : (CloneC K w (.returned (.agg (Cg.cells { K with f := { K.f with U := U1, uc := uc1, M := M1, mc := mc1, V := V1, vc := vc1 }, T := T1, tc := tc1 }))) ((w7.setCell ⟨w.heap.size, 15, none⟩ (.slice T1 K.tb.length tc1)).setCells (w.heap.size + 1) 0 (Cg.cells { K with f := { K.f with U := U1, uc := uc1, M := M1, mc := mc1, V := V1, vc := vc1 }, T := T1, tc := tc1 }).toList)) := ⟨{ K with f := { K.f with U := U1, uc := uc1, M := M1, mc := mc1, V := V1, vc := vc1 }, T := T1, tc := tc1 }, ⟨⟨rfl, rfl, rfl, rfl, rfl, rfl, rfl, rfl, rfl, rfl, rfl⟩, rfl, rfl, rfl, rfl, rfl, rfl, rfl⟩, rfl, ⟨⟨own_less R7.out (by omega), own_less R8.out (by omega), own_less R10.out (by omega)⟩, own_less R15.out (by omega)⟩, HB2.out⟩
  have HE := Lib.hid HE0
  clear HE0
  dsimp only
  go_wp2_with (first
    | ((with_reducible refine lw_cfg KK.out ?_ (.tmp 1) ?_ ?_ ?_); (· rfl); (· rfl); (· rfl); simp only [Act.put, List.setIfInBounds_toArray, List.set_cons_succ, List.set_cons_zero])
    | ((with_reducible refine sw_cfg (G := { K with f := { K.f with U := U1, uc := uc1, M := M1, mc := mc1, V := V1, vc := vc1 }, T := T1, tc := tc1 }) KZ.out ?_ ?_ (.tmp 2) (.tmp 27) ?_ ?_ ?_ ?_); (· rfl); (· rfl); (· rfl); (· rfl); (· rfl); simp only [Act.put])
    | ((with_reducible refine bodyPost_ret (v := .agg (Cg.cells { K with f := { K.f with U := U1, uc := uc1, M := M1, mc := mc1, V := V1, vc := vc1 }, T := T1, tc := tc1 })) ?_ ?_ ?_); (· exact results_cell_row rfl _ _ _ _ _ (0, 0) _ rfl HZ.out Try.underlying29 rfl Try.size29); (· rfl); (· exact HE.out)))
theorem cclone_any (K : Cg) (B : Nat) (w : World) (hK : K.At B w) (hB : B ≤ w.heap.size) (hl : K.Few) : Calls Try.prog 37 #[.agg K.cells] w (CloneC K w) :=
  cclone_walk K w
    (fun W hb => cloneS_any B K.f.U K.f.uc K.f.us W (hK.f.u.far hB hb) hl.f.u) (fun W hb => cloneS_any B K.f.M K.f.mc K.f.ms W (hK.f.m.far hB hb) hl.f.m)
    (fun W hb => cloneI_any B K.f.V K.f.vc K.f.vs W (hK.f.v.far hB hb) hl.f.v) (fun W hb => cloneI_any B K.T K.tc K.tb W (hK.t.far hB hb) hl.t)
end Go.Proofs.Ytongkfimgohhbaa

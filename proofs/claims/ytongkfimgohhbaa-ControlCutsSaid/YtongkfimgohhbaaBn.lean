/-
  The laws' bound: settings whose lists are cut; settings and commands that come in by value, opened; no condition.
-/
import Derived.Test.YtongkfimgohhbaaFx
import Derived.Test.YtongkfimgohhbaaSl
namespace Go.Proofs.Ytongkfimgohhbaa
open Go.RowKit

theorem add_zero_map' (A : Option Addr) : A.map (fun x => x.add 0) = A := by
  cases A with
  | none => rfl
  | some a => rfl
/-- what the bound leaves of settings -/
def bndC (K : Cg) : Cg := { K with f := { K.f with us := K.f.us.take 20, ms := K.f.ms.take 20, vs := K.f.vs.take 60 }, tb := K.tb.take 130 }
theorem bndC_room (K : Cg) : (bndC K).Room := by
  refine ⟨?_, ?_, ?_, ?_⟩
  · show (K.f.us.take 20).length ≤ 400; rw [List.length_take]; omega
  · show (K.f.ms.take 20).length ≤ 400; rw [List.length_take]; omega
  · show (K.f.vs.take 60).length ≤ 399; rw [List.length_take]; omega
  · show (K.tb.take 130).length ≤ 400; rw [List.length_take]; omega
theorem bndC_at {K : Cg} {B : Nat} {w : World} (h : K.At B w) : (bndC K).At B w := by
  refine ⟨⟨?_, ?_, ?_⟩, ?_⟩
  · show Rd B K.f.U ((K.f.us.take 20).map strV) w
    rw [List.map_take]; exact h.f.u.take 20
  · show Rd B K.f.M ((K.f.ms.take 20).map strV) w
    rw [List.map_take]; exact h.f.m.take 20
  · show Rd B K.f.V ((K.f.vs.take 60).map intV) w
    rw [List.map_take]; exact h.f.v.take 60
  · show Rd B K.T ((K.tb.take 130).map intV) w
    rw [List.map_take]; exact h.t.take 130
set_option maxHeartbeats 4000000 in
set_option maxRecDepth 100000 in
theorem bound_any (K : Cg) (w : World) (hF : K.Fit) : Calls Try.prog 9 #[.agg K.cells] w fun e w' => e = .returned (.agg (Cg.cells (bndC K))) ∧ Below w.heap.size w w' := by
  have hU := add_zero_map' K.f.U
  have hM := add_zero_map' K.f.M
  have hV := add_zero_map' K.f.V
  have hT := add_zero_map' K.T
  have qau : (0 : Int) ≤ min (K.f.us.length : Int) 20 := by omega
  have qbu : min (K.f.us.length : Int) 20 ≤ K.f.uc := by have := hF.f.u; omega
  have qcu : (min (K.f.us.length : Int) 20).toNat = min 20 K.f.us.length := by omega
  have qam : (0 : Int) ≤ min (K.f.ms.length : Int) 20 := by omega
  have qbm : min (K.f.ms.length : Int) 20 ≤ K.f.mc := by have := hF.f.m; omega
  have qcm : (min (K.f.ms.length : Int) 20).toNat = min 20 K.f.ms.length := by omega
  have qav : (0 : Int) ≤ min (K.f.vs.length : Int) 60 := by omega
  have qbv : min (K.f.vs.length : Int) 60 ≤ K.f.vc := by have := hF.f.v; omega
  have qcv : (min (K.f.vs.length : Int) 60).toNat = min 60 K.f.vs.length := by omega
  have qat : (0 : Int) ≤ min (K.tb.length : Int) 130 := by omega
  have qbt : min (K.tb.length : Int) 130 ≤ K.tc := by have := hF.t; omega
  have qct : (min (K.tb.length : Int) 130).toNat = min 130 K.tb.length := by omega
  obtain ⟨W, hW⟩ : ∃ W, ((w.alloc (.cells K.cells 29)).alloc (.cells #[.string ⟨#[]⟩, .bool false, .bool false, .bool false, .bool false, .bool false, .bool false, .slice none 0 0, .slice none 0 0, .bool false, .slice none 0 0, .int .i64 0, .int .i64 0, .bool false, .int .i64 0, .slice none 0 0, .string ⟨#[]⟩, .int .i64 0] 29)) = W := ⟨_, rfl⟩
  have hk : Blk W w.heap.size 29 K.cells := hW ▸ ((Blk.new w 29 _).alloc _)
  have hz : Blk W (w.heap.size + 1) 29 zeroC := hW ▸ Blk.new2 w _ _ _
  have hb : Below w.heap.size w W := hW ▸ ba (ba (b0 w) _) _
  have x7 := hk.cell 7
  have x8 := hk.cell 8
  have x10 := hk.cell 10
  have x15 := hk.cell 15
  simp only [List.getElem?_toArray, List.getElem?_cons_zero, List.getElem?_cons_succ] at x7 x8 x10 x15
  have y7 := hk.frozen 7
  have y8 := hk.frozen 8
  have y10 := hk.frozen 10
  have y15 := hk.frozen 15
  have k4 : Blk ((((W.setCell ⟨w.heap.size, 7, none⟩ (.slice K.f.U (min 20 K.f.us.length) K.f.uc)).setCell ⟨w.heap.size, 8, none⟩ (.slice K.f.M (min 20 K.f.ms.length) K.f.mc)).setCell ⟨w.heap.size, 10, none⟩ (.slice K.f.V (min 60 K.f.vs.length) K.f.vc)).setCell ⟨w.heap.size, 15, none⟩ (.slice K.T (min 130 K.tb.length) K.tc)) w.heap.size 29 (Cg.cells (bndC K)) := by
    have h4 := (((hk.put 7 (.slice K.f.U (min 20 K.f.us.length) K.f.uc)).put 8 (.slice K.f.M (min 20 K.f.ms.length) K.f.mc)).put 10 (.slice K.f.V (min 60 K.f.vs.length) K.f.vc)).put 15 (.slice K.T (min 130 K.tb.length) K.tc)
    have e : Cg.cells (bndC K) = #[.string K.f.mac, .bool K.f.pr, .bool K.f.au, .bool K.f.am, .bool K.f.nu, .bool K.f.nm, .bool K.f.na, .slice K.f.U (min 20 K.f.us.length) K.f.uc, .slice K.f.M (min 20 K.f.ms.length) K.f.mc, .bool K.f.vo, .slice K.f.V (min 60 K.f.vs.length) K.f.vc, .int .i64 K.pairs, .int .i64 K.mx, .bool K.on, .int .i64 K.kinds, .slice K.T (min 130 K.tb.length) K.tc, .string K.key, .int .i64 K.df] := by simp only [Cg.cells, bndC, List.length_take]
    rw [e]
    exact h4
  have z4 : Blk ((((W.setCell ⟨w.heap.size, 7, none⟩ (.slice K.f.U (min 20 K.f.us.length) K.f.uc)).setCell ⟨w.heap.size, 8, none⟩ (.slice K.f.M (min 20 K.f.ms.length) K.f.mc)).setCell ⟨w.heap.size, 10, none⟩ (.slice K.f.V (min 60 K.f.vs.length) K.f.vc)).setCell ⟨w.heap.size, 15, none⟩ (.slice K.T (min 130 K.tb.length) K.tc)) (w.heap.size + 1) 29 zeroC := (((hz.other (by omega) 7 _).other (by omega) 8 _).other (by omega) 10 _).other (by omega) 15 _
  have b4 : Below w.heap.size w ((((W.setCell ⟨w.heap.size, 7, none⟩ (.slice K.f.U (min 20 K.f.us.length) K.f.uc)).setCell ⟨w.heap.size, 8, none⟩ (.slice K.f.M (min 20 K.f.ms.length) K.f.mc)).setCell ⟨w.heap.size, 10, none⟩ (.slice K.f.V (min 60 K.f.vs.length) K.f.vc)).setCell ⟨w.heap.size, 15, none⟩ (.slice K.T (min 130 K.tb.length) K.tc)) := (((hb.setCell (p := ⟨w.heap.size, 7, none⟩) (Nat.le_refl _) _).setCell (p := ⟨w.heap.size, 8, none⟩) (Nat.le_refl _) _).setCell (p := ⟨w.heap.size, 10, none⟩) (Nat.le_refl _) _).setCell (p := ⟨w.heap.size, 15, none⟩) (Nat.le_refl _) _
  have HW := Lib.hid hW
  obtain ⟨V, hV4⟩ : ∃ V, ((((W.setCell ⟨w.heap.size, 7, none⟩ (.slice K.f.U (min 20 K.f.us.length) K.f.uc)).setCell ⟨w.heap.size, 8, none⟩ (.slice K.f.M (min 20 K.f.ms.length) K.f.mc)).setCell ⟨w.heap.size, 10, none⟩ (.slice K.f.V (min 60 K.f.vs.length) K.f.vc)).setCell ⟨w.heap.size, 15, none⟩ (.slice K.T (min 130 K.tb.length) K.tc)) = V := ⟨_, rfl⟩
  rw [hV4] at k4 z4 b4
  have HV := Lib.hid hV4
  have K4 := Lib.hid k4
  have Z4 := Lib.hid z4
  have hzz : Blk (V.setCells (w.heap.size + 1) 0 (Cg.cells (bndC K)).toList) (w.heap.size + 1) 29 (Cg.cells (bndC K)) := z4.all rfl
  have hbb : Below w.heap.size w (V.setCells (w.heap.size + 1) 0 (Cg.cells (bndC K)).toList) := below_puts b4 b4.size (by omega) 0 _
  have HZ := Lib.hid hzz
  have HE := Lib.hid (show Ending.returned (.agg (Cg.cells (bndC K))) = .returned (.agg (Cg.cells (bndC K))) ∧ Below w.heap.size w (V.setCells (w.heap.size + 1) 0 (Cg.cells (bndC K)).toList) from ⟨rfl, hbb⟩)
  clear hW hV4 hk hz hb k4 z4 b4 hzz hbb hF
  go_enter Try.func9, Try.ntmps9
  go_wp2_with (first
    | (rw [HW.out])
    | (rw [HV.out])
    | ((with_reducible refine lw_cfg K4.out ?_ (.tmp 1) ?_ ?_ ?_); (· rfl); (· rfl); (· rfl); simp only [Act.put, List.setIfInBounds_toArray, List.set_cons_succ, List.set_cons_zero])
    | ((with_reducible refine sw_cfg (G := bndC K) Z4.out ?_ ?_ (.tmp 2) (.tmp 47) ?_ ?_ ?_ ?_); (· rfl); (· rfl); (· rfl); (· rfl); (· rfl); simp only [Act.put])
    | ((with_reducible refine bodyPost_ret (v := .agg (Cg.cells (bndC K))) ?_ ?_ ?_); (· exact results_cell_row rfl _ _ _ _ _ (0, 0) _ rfl HZ.out Try.underlying29 rfl Try.size29); (· rfl); (· exact HE.out)))
end Go.Proofs.Ytongkfimgohhbaa

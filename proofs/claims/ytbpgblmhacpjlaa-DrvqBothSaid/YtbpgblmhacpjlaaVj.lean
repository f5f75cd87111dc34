/-
  drvq: Clone; calls on the driver's queue that only read; no condition.
-/
import Derived.Test.YtbpgblmhacpjlaaVi
import Derived.Test.YtbpgblmhacpjlaaVg
namespace Go.Proofs.Ytbpgblmhacpjlaa
open Go.RowKit

theorem drv_cells {F : Nat → Prop} {w : World} {gq g : Nat} {q : Vs} (h : (drvA gq g q).P F w) : ∃ bm low, LowOk low q.hs ∧ Blk w gq 90 (q.cells g bm low) ∧ MapAt bm q.hs w := by
  obtain ⟨bm, low, hl, F1, F2, -, -, a, b⟩ := h
  exact ⟨bm, low, hl, a.1, b.1⟩
theorem dfree_v {F : Nat → Prop} {w : World} {gq g : Nat} {q : Vs} (h : (drvA gq g q).P F w) :
    Calls Try.prog 12 #[.pointer (some ⟨gq, 0, none⟩)] w fun e w' => e = .returned (.int .i64 (q.free : Int)) ∧ w = w' := by
  obtain ⟨bm, low, -, hb, -⟩ := drv_cells h
  exact free_v (hb.cell 10)
theorem dback_v {F : Nat → Prop} {w : World} {gq g : Nat} {q : Vs} (h : (drvA gq g q).P F w) :
    Calls Try.prog 24 #[.pointer (some ⟨gq, 0, none⟩)] w fun e w' => e = .returned (.agg #[.int .i64 (q.ba : Int), .bool q.bw]) ∧ Below w.heap.size w w' := by
  obtain ⟨bm, low, -, hb, -⟩ := drv_cells h
  exact back_v hb.lt (hb.cell 7) (hb.cell 8) ⟨_, rfl⟩ ⟨_, rfl⟩
theorem dheld_v {F : Nat → Prop} {w : World} {gq g : Nat} {q : Vs} (h : (drvA gq g q).P F w) (hl : q.hs.length ≤ 32768) : Calls Try.prog 19 #[.pointer (some ⟨gq, 0, none⟩)] w (HeldP q.hs w) := by
  obtain ⟨bm, low, -, hb, hm⟩ := drv_cells h
  exact held_v (hb.cell 9) hm hl
def CloneD (g2 : Nat) (q : Vs) (w : World) (e : Ending) (w' : World) : Prop :=
  ∃ k F', e = .returned (.pointer (some ⟨k, 0, none⟩)) ∧ (drvA k g2 q).P F' w' ∧ (∀ x, F' x → w.heap.size ≤ x) ∧ Below w.heap.size w w'
set_option maxRecDepth 100000 in
set_option maxHeartbeats 1600000 in
theorem dclone_v {F : Nat → Prop} {w : World} {gq g g2 : Nat} {q : Vs} (h : (drvA gq g q).P F w) :
    Calls Try.prog 30 #[.pointer (some ⟨gq, 0, none⟩), .pointer (some ⟨g2, 0, none⟩)] w (CloneD g2 q w) := by
  obtain ⟨bm, low, hl, hb, hm⟩ := drv_cells h
  have c0 : w.cell? ⟨gq, 0, none⟩ = some (.pointer (some ⟨g, 0, none⟩)) := hb.cell 0
  have c1 : w.cell? ⟨gq, 1, none⟩ = some (.int .i64 (q.ring : Int)) := hb.cell 1
  have c2 : w.cell? ⟨gq, 2, none⟩ = some (.int .i64 (q.size : Int)) := hb.cell 2
  have c3 : w.cell? ⟨gq, 3, none⟩ = some (.int .i64 (q.drv : Int)) := hb.cell 3
  have c4 : w.cell? ⟨gq, 4, none⟩ = some (.int .i64 (q.dev : Int)) := hb.cell 4
  have c5 : w.cell? ⟨gq, 5, none⟩ = some (.int .i64 (q.na : Int)) := hb.cell 5
  have c6 : w.cell? ⟨gq, 6, none⟩ = some (.bool q.nw) := hb.cell 6
  have c7 : w.cell? ⟨gq, 7, none⟩ = some (.int .i64 (q.ba : Int)) := hb.cell 7
  have c8 : w.cell? ⟨gq, 8, none⟩ = some (.bool q.bw) := hb.cell 8
  have c9 : w.cell? ⟨gq, 9, none⟩ = some (.map (some bm)) := hb.cell 9
  have c10 : w.cell? ⟨gq, 10, none⟩ = some (.int .i64 (q.free : Int)) := hb.cell 10
  have c11 : w.cell? ⟨gq, 11, none⟩ = some (.int .i64 (low : Int)) := hb.cell 11
  have c12 : w.cell? ⟨gq, 12, none⟩ = some (.int .i64 (q.ta : Int)) := hb.cell 12
  have c13 : w.cell? ⟨gq, 13, none⟩ = some (.bool q.tw) := hb.cell 13
  have c14 : w.cell? ⟨gq, 14, none⟩ = some (.int .i64 (q.since : Int)) := hb.cell 14
  have hlt := hb.lt
  have hne := Nat.ne_of_lt hlt
  have kb := Blk.new w 90 (q.cells g2 bm low)
  have hb1 := ba (Below.refl w.heap.size w) (.cells (q.cells g2 bm low) 90)
  have HC := clone_map (hm.same (hb1.block bm hm.lt))
  have HC := Lib.hid HC
  have HK := Lib.hid kb
  have HB := Lib.hid hb1
  have HL := Lib.hid hl
  clear h hl hb hm kb hb1
  unfold Vs.cells at HC
  go_enter Try.func30, Try.ntmps30
  go_wp2_with fail
  refine HC.out.mono ?_
  rintro e w2 ⟨rfl, hm2, -, hq⟩
  have e1 : (w.alloc (.cells (q.cells g2 bm low) 90)).heap.size = w.heap.size + 1 := by simp
  have k2 := HK.out.same (hq.block _ HK.out.lt)
  have d9 : w2.cell? ⟨w.heap.size, 9, none⟩ = some (.map (some bm)) := k2.cell 9
  have f9 := k2.frozen 9
  have hlt2 := k2.lt
  have hne2 := Nat.ne_of_lt hlt2
  have hm2 : MapAt (w.heap.size + 1) q.hs w2 := by rw [← e1]; exact hm2
  have hM : Hid (CloneD g2 q w (.returned (.pointer (some ⟨w.heap.size, 0, none⟩))) (w2.setCell ⟨w.heap.size, 9, none⟩ (.map (some (w.heap.size + 1))))) := by
    refine Lib.hid ⟨w.heap.size, fun k => k = w.heap.size ∨ k = w.heap.size + 1, rfl, ⟨w.heap.size + 1, low, HL.out, fun k => k = w.heap.size, fun k => k = w.heap.size + 1, fun _ => Iff.rfl, fun k e e' => by omega, ⟨k2.put 9 _, fun _ => Iff.rfl⟩, ⟨hm2.same (Below.heap_setCell _ _ _ _ (by simp)), fun _ => Iff.rfl⟩⟩, fun x hx => by omega, (b0 HB.out hq).setCell (p := ⟨w.heap.size, 9, none⟩) (Nat.le_refl _) _⟩
  clear HC hm2 hq k2 HK HB
  go_wp2_with fail
  go_ret
  exact hM.out
end Go.Proofs.Ytbpgblmhacpjlaa

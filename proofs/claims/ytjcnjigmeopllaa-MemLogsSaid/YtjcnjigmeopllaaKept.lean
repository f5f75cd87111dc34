/-
  What gmem's kept and Log answer, and what they leave: for every memory.
-/
import Derived.Test.YtjcnjigmeopllaaLs
namespace Go.Proofs.Ytjcnjigmeopllaa
open Go.RowKit

/-- copy between rows of whatever element -/
theorem run_copy_rows {P : Program} (w : World) (dT sT ty elem : TypeId) (g o dLen dCap : Nat) (a : Addr) (sLen sCap : Nat) (cur : Array Value) (t : TypeId) (cs : List Value) (size : Nat)
    (hu : P.underlying dT = some (.slice elem)) (hs : (P.info? elem).map (·.size) = some size)
    (hg : w.heap[g]? = some (.cells cur t (0, 0))) (hn : cs.length = Nat.min sLen dLen * size)
    (hsrc : ∀ j v, cs[j]? = some v → w.cell? (a.add j) = some v) (hfit : o + cs.length ≤ cur.size) (h1 : ∀ v ∈ cs, v.oneCell' = true) :
    (Builtin.copy_ #[dT, sT] ty #[.slice (some ⟨g, o, none⟩) dLen dCap, .slice (some a) sLen sCap]).run P w =
      .ok (goInt (Nat.min sLen dLen)) (w.setRow g (cur.toList.take o ++ cs ++ cur.toList.drop (o + cs.length)).toArray) := by
  have hst := run_storeCells_at P g o t cs 0 cur w hg (by simpa using hfit) h1
  cases hq : P.info? elem with
  | none => simp [hq] at hs
  | some i =>
    have hi : i.size = size := by simpa [hq] using hs
    have hl := run_firstCells_some (P := P) w size (Nat.min sLen dLen) a sLen sCap cs hn hsrc
    simp [Builtin.copy_, run_underlying hu, Builtin.lenOf, sizeOf, typeInfo, hq, hi, hl, hst]
theorem run_copy_zero {P : Program} (w : World) (dT sT ty elem : TypeId) (d a : Addr) (dCap sCap : Nat) (size : Nat)
    (hu : P.underlying dT = some (.slice elem)) (hs : (P.info? elem).map (·.size) = some size) :
    (Builtin.copy_ #[dT, sT] ty #[.slice (some d) 0 dCap, .slice (some a) 0 sCap]).run P w = .ok (goInt 0) w := by
  cases hq : P.info? elem with
  | none => simp [hq] at hs
  | some i =>
    have hi : i.size = size := by simpa [hq] using hs
    have hl := run_firstCells_some (P := P) w size 0 a 0 sCap [] (by simp) (by simp)
    simp [Builtin.copy_, run_underlying hu, Builtin.lenOf, sizeOf, typeInfo, hq, hi, hl, storeCells]
theorem Try.size44 : (Try.prog.info? 44).map (·.size) = some 4 := by kernel_rfl
theorem log_one (l : List Acc) : ∀ u ∈ logCells l, u.oneCell' = true := by
  intro u hu
  simp only [logCells, List.mem_flatMap] at hu
  obtain ⟨a, _, ha⟩ := hu
  exact acc_one a u ha

/-- what is told: a slice of the asker's own -/
def Told (lg : List Acc) (w : World) (e : Ending) (w' : World) : Prop :=
  ∃ v, e = .returned v ∧ w'.ownsRow w.heap.size 44 4 v lg.length (logCells lg) ∧ Below w.heap.size w w'

section
variable {B g gb : Nat} {lv : Value} {xs : List UInt8} {ag : Int} {lg : List Acc} {w : World}
theorem kept_none (h : Mem B g gb lv xs ag [] w) :
    Calls Try.prog 24 #[.pointer (some ⟨g, 0, none⟩)] w fun e w' => e = .returned (.slice none 0 0) ∧ w = w' := by
  obtain ⟨A, cap, rfl⟩ := own_form h.log
  have hc := h.c2
  simp only [List.length_nil] at hc
  clear h
  go_enter Try.func24, Try.ntmps24
  go_wp2
  go_ret
  exact ⟨rfl, rfl⟩
/-- the copy of the log -/
theorem kept_copy {gl cap : Nat} {w1 : World} (h : Mem B g gb (.slice (some ⟨gl, 0, none⟩) lg.length cap) xs ag lg w) (hb : Below w.heap.size w w1)
    (hrow : w1.ownsRow w.heap.size 44 4 (.slice (some ⟨w.heap.size, 0, none⟩) lg.length lg.length) lg.length (madeCells (Value.cells (.agg #[.int .i64 0, .int .i64 0, .int .i64 0, .bool false])) (lg.length * 4)).toList) :
    ∃ w2, (Builtin.copy_ #[38, 38] 3 #[.slice (some ⟨w.heap.size, 0, none⟩) lg.length lg.length, .slice (some ⟨gl, 0, none⟩) lg.length cap]).run Try.prog w1.drew = .ok (.int .i64 lg.length) w2 ∧
      (∀ W, (Builtin.copy_ #[38, 38] 3 #[.slice (some ⟨w.heap.size, 0, none⟩) 0 0, .slice (some ⟨gl, 0, none⟩) 0 cap]).run Try.prog W = .ok (.int .i64 0) W) ∧
      Hid (w2.drew.ownsRow w.heap.size 44 4 (.slice (some ⟨w.heap.size, 0, none⟩) lg.length lg.length) lg.length (logCells lg) ∧ Below w.heap.size w w2.drew) ∧
      w2.cell? ⟨g, 2, none⟩ = some (.slice (some ⟨gl, 0, none⟩) lg.length cap) ∧ w2.cell? ⟨g, 3, none⟩ = some (.int .i64 0) := by
  have hlc : (logCells lg).length = lg.length * 4 := logCells_length lg
  have hblk := blk_of_own hrow
  have hlog := own_same h.log (w' := w1) (fun k hk => hb.block k (h.lge hk).2)
  have hcells := hlog.cells (g := gl) rfl
  have hmin : Nat.min lg.length lg.length = lg.length := Nat.min_self _
  have hrun := run_copy_rows (P := Try.prog) w1.drew 38 38 3 44 w.heap.size 0 lg.length lg.length ⟨gl, 0, none⟩ lg.length cap _ 44 (logCells lg) 4 Try.underlying38 Try.size44 hblk (by rw [hmin]; exact hlc) hcells
    (by rw [hlc]; simp [size_madeCells]) (log_one lg)
  rw [hmin] at hrun
  have hz : (madeCells (Value.cells (.agg #[.int .i64 0, .int .i64 0, .int .i64 0, .bool false])) (lg.length * 4)).toList.length = lg.length * 4 := by simp [size_madeCells]
  have e : ((madeCells (Value.cells (.agg #[.int .i64 0, .int .i64 0, .int .i64 0, .bool false])) (lg.length * 4)).toList.toArray.toList.take 0 ++ logCells lg ++
      (madeCells (Value.cells (.agg #[.int .i64 0, .int .i64 0, .int .i64 0, .bool false])) (lg.length * 4)).toList.toArray.toList.drop (0 + (logCells lg).length)) = logCells lg := by
    rw [List.drop_eq_nil_of_le (by rw [hlc]; simp [size_madeCells])]
    simp
  rw [e] at hrun
  have hg := h.blk.lt
  have hbl := h.blk.same (hb.block g hg)
  have hother : (w1.drew.setRow w.heap.size (logCells lg).toArray).heap[g]? = w1.heap[g]? := setRow_other w1.drew _ g _ (by omega)
  have hb2 := hbl.same hother
  refine ⟨_, hrun, fun W => run_copy_zero W 38 38 3 44 _ _ _ _ 4 Try.underlying38 Try.size44, ?_, hb2.cell 2, hb2.cell 3⟩
  refine ⟨⟨hlc, .inr ⟨w.heap.size, lg.length, (logCells lg).toArray, rfl, Nat.le_refl _, setRow_heap w1.drew _ _ _ 44 _ hblk, Nat.le_refl _, ?_, by simpa using hlc, by simp [← hlc]⟩⟩, ?_⟩
  · rcases h.log.2 with ⟨h', _⟩ | ⟨g', cap', cur, h', _, _, h3, h4, _⟩
    · simp at h'
    · exact Nat.le_trans h3 h4
  · exact (below_setRow hb.drew (Nat.le_refl _) _).drew
set_option maxRecDepth 100000 in
set_option maxHeartbeats 1000000 in
theorem kept_some (h : Mem B g gb lv xs ag lg w) (hl : 0 < lg.length) (hl' : lg.length ≤ 4096) :
    Calls Try.prog 24 #[.pointer (some ⟨g, 0, none⟩)] w (Told lg w) := by
  obtain ⟨i0, hi, hz0, hz1, hz2⟩ := info_parts Try.info44
  have HI := Lib.hid hi
  have HZ0 := Lib.hid hz0
  have HZ1 := Lib.hid hz1
  have HZ2 := Lib.hid hz2
  clear hi hz0 hz1 hz2
  obtain ⟨gl, cap, rfl, hge, hlt⟩ := h.log.form hl
  have hcap : lg.length ≤ cap := by
    rcases h.log.2 with ⟨h', _⟩ | ⟨g', cap', cur, h', _, _, h3, h4, _⟩
    · simp at h'
    · simp only [Value.slice.injEq] at h'
      omega
  have hc2 := h.c2
  have hc3 := h.c3
  have hlz : ((lg.length : Int) == 0) = false := by simp; intro e; simp [e] at hl
  have hgl := h.blk.lt
  go_enter Try.func24, Try.ntmps24
  go_wp2_with (at_make; refine wpList_make_full _ rfl _ _ 38 rfl w.heap.size 44 i0 (.agg #[.int .i64 0, .int .i64 0, .int .i64 0, .bool false]) 4 Try.underlying38 HI.out HZ0.out HZ1.out .i64 .i64 lg.length lg.length lg.length rfl rfl rfl rfl (by rw [HZ2.out]; omega) (by unfold maxLen; omega) (Nat.le_refl _) ?_; intro w1 hrow hgrow; have hb1 : Below w.heap.size w w1 := (Below.refl _ _).grown hgrow (Nat.le_refl _) (by simp); obtain ⟨w2, hcp, hcp0, HF, hd2, hd3⟩ := kept_copy h hb1 hrow; have hk2 := (hb1.cell (p := ⟨g, 2, none⟩) hgl).trans hc2; have hk3 := (hb1.cell (p := ⟨g, 3, none⟩) hgl).trans hc3; clear hrow hgrow hb1)
  have HF' := HF
  clear HF
  go_region
  go_wp2
  go_region
  go_wp2
  go_ret
  exact ⟨_, rfl, HF'.out.1, HF'.out.2⟩
theorem kept_m (h : Mem B g gb lv xs ag lg w) (hl : lg.length ≤ 4096) : Calls Try.prog 24 #[.pointer (some ⟨g, 0, none⟩)] w (Told lg w) := by
  cases lg with
  | nil =>
    refine (kept_none h).mono fun e w' ⟨he, hw⟩ => ?_
    subst he hw
    exact ⟨_, rfl, World.ownsRow_nil _ _ _ _, Below.refl _ _⟩
  | cons a l => exact kept_some h (by simp) hl
end
end Go.Proofs.Ytjcnjigmeopllaa

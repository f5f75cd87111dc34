/-
  A memory: its clone.
-/
import Derived.Test.YtbpgblmhacpjlaaGreatSGm3
namespace Go.Proofs.YtbpgblmhacpjlaaGreat
open Go.RowKit

/-- copy between rows of whatever element -/
theorem run_copy_rows {P : Program} (w : World) (dT sT ty elem : TypeId) (g o dLen dCap : Nat) (a : Addr) (sLen sCap : Nat) (cur : Array Value) (t : TypeId) (cs : List Value) (size : Nat)
    (hu : P.underlying dT = some (.slice elem)) (hs : (P.info? elem).map (·.size) = some size)
    (hg : w.heap[g]? = some (.cells cur t (0, 0))) (hn : cs.length = Nat.min sLen dLen * size)
    (hsrc : ∀ j v, cs[j]? = some v → w.cell? (a.add j) = some v) (hfit : o + cs.length ≤ cur.size) (h1 : ∀ v ∈ cs, v.oneCell' = true) :
    (Builtin.copy_ #[dT, sT] ty #[.slice (some ⟨g, o, none⟩) dLen dCap, .slice (some a) sLen sCap]).run P w =
      .ok (goInt (Nat.min sLen dLen)) (w.setRow g (cur.toList.take o ++ cs ++ cur.toList.drop (o + cs.length)).toArray) := by
  have hst := run_storeCells_at P g o t cs 0 cur w hg (by simpa using hfit) h1
  cases hq : P.info? elem with
  | none => simp [hq] at hs
  | some i =>
    have hi : i.size = size := by simpa [hq] using hs
    have hl := run_firstCells_some (P := P) w size (Nat.min sLen dLen) a sLen sCap cs hn hsrc
    simp [Builtin.copy_, run_underlying hu, Builtin.lenOf, sizeOf, typeInfo, hq, hi, hl, hst]
theorem run_copy_zero {P : Program} (w : World) (dT sT ty elem : TypeId) (d a : Addr) (dCap sCap : Nat) (size : Nat)
    (hu : P.underlying dT = some (.slice elem)) (hs : (P.info? elem).map (·.size) = some size) :
    (Builtin.copy_ #[dT, sT] ty #[.slice (some d) 0 dCap, .slice (some a) 0 sCap]).run P w = .ok (goInt 0) w := by
  cases hq : P.info? elem with
  | none => simp [hq] at hs
  | some i =>
    have hi : i.size = size := by simpa [hq] using hs
    have hl := run_firstCells_some (P := P) w size 0 a 0 sCap [] (by simp) (by simp)
    simp [Builtin.copy_, run_underlying hu, Builtin.lenOf, sizeOf, typeInfo, hq, hi, hl, storeCells]
theorem Tryz.size111 : (Tryz.prog.info? 121).map (·.size) = some 4 := by kernel_rfl
theorem log_one (l : List Acc) : ∀ u ∈ logCells l, u.oneCell' = true := by
  intro u hu
  simp only [logCells, List.mem_flatMap] at hu
  obtain ⟨a, _, ha⟩ := hu
  exact acc_one a u ha

theorem addr_add (g o j : Nat) : (⟨g, o, none⟩ : Addr).add j = ⟨g, o + j, none⟩ := by unfold Addr.add; split <;> simp_all
theorem addr_zero (g j : Nat) : (⟨g, 0, none⟩ : Addr).add j = ⟨g, j, none⟩ := by rw [addr_add, Nat.zero_add]
/-- what is told: a slice of the asker's own -/
def Told (n : Nat) (w : World) (e : Ending) (w' : World) : Prop :=
  ∃ v lg, e = .returned v ∧ lg.length = n ∧ w'.ownsRow w.heap.size 121 4 v lg.length (logCells lg) ∧ Below w.heap.size w w'

section
variable {B g gb : Nat} {lv : Value} {xs : List UInt8} {ag : Int} {lg : List Acc} {old : Nat} {w : World}
theorem kept_none (h : MemR B g gb lv xs ag [] old w) :
    Calls Tryz.prog 49 #[.pointer (some ⟨g, 0, none⟩)] w fun e w' => e = .returned (.slice none 0 0) ∧ w = w' := by
  obtain ⟨A, cap, rfl⟩ := own_form h.log
  have hc := h.c2
  simp only [List.length_nil] at hc
  clear h
  go_enter Tryz.func49, Tryz.ntmps49
  go_wp2
  go_ret
  exact ⟨rfl, rfl⟩
theorem below_undrew {n : Nat} {a b : World} (h : Below n a b.drew) : Below n a b := ⟨h.os, h.tape, h.output, h.size, h.block⟩
/-- the row made, and one store over it -/
theorem row_over {w1 : World} {n : Nat} {cs : List Value} {ys : List Value} (o : Nat) (hb : Below w.heap.size w w1) (hrow : Blk w1 w.heap.size 121 cs.toArray) (hl : cs.length = n * 4) (hf : o + ys.length ≤ cs.length) (hn : n * 4 ≤ maxLen) :
    (w1.drew.setRow w.heap.size (cs.toArray.toList.take o ++ ys ++ cs.toArray.toList.drop (o + ys.length)).toArray).drew.ownsRow w.heap.size 121 4 (.slice (some ⟨w.heap.size, 0, none⟩) n n) n (cs.take o ++ ys ++ cs.drop (o + ys.length)) ∧
    Below w.heap.size w (w1.drew.setRow w.heap.size (cs.toArray.toList.take o ++ ys ++ cs.toArray.toList.drop (o + ys.length)).toArray).drew := by
  have hlen : (cs.take o ++ ys ++ cs.drop (o + ys.length)).length = n * 4 := by simp; omega
  refine ⟨⟨hlen, .inr ⟨w.heap.size, n, _, rfl, Nat.le_refl _, setRow_heap w1.drew _ _ _ 121 _ hrow, Nat.le_refl _, by unfold maxLen at *; omega, by simpa using hlen, by rw [← hlen]; exact List.take_length⟩⟩, ?_⟩
  exact (below_setRow hb.drew (Nat.le_refl _) _).drew
/-- the copy of the log that begins at its beginning -/
theorem kept_copy {gl cap : Nat} {w1 : World} (h : MemR B g gb (.slice (some ⟨gl, 0, none⟩) lg.length cap) xs ag lg 0 w) (hb : Below w.heap.size w w1)
    (hrow : w1.ownsRow w.heap.size 121 4 (.slice (some ⟨w.heap.size, 0, none⟩) lg.length lg.length) lg.length (madeCells (Value.cells (.agg #[.int .i64 0, .int .i64 0, .int .i64 0, .bool false])) (lg.length * 4)).toList) :
    ∃ w2, (Builtin.copy_ #[71, 71] 3 #[.slice (some ⟨w.heap.size, 0, none⟩) lg.length lg.length, .slice (some ⟨gl, 0, none⟩) lg.length cap]).run Tryz.prog w1.drew = .ok (.int .i64 lg.length) w2 ∧
      (∀ W, (Builtin.copy_ #[71, 71] 3 #[.slice (some ⟨w.heap.size, 0, none⟩) 0 0, .slice (some ⟨gl, 0, none⟩) 0 cap]).run Tryz.prog W = .ok (.int .i64 0) W) ∧
      Hid (w2.drew.ownsRow w.heap.size 121 4 (.slice (some ⟨w.heap.size, 0, none⟩) lg.length lg.length) lg.length (logCells lg) ∧ Below w.heap.size w w2.drew) ∧
      w2.cell? ⟨g, 2, none⟩ = some (.slice (some ⟨gl, 0, none⟩) lg.length cap) ∧ w2.cell? ⟨g, 3, none⟩ = some (.int .i64 0) := by
  have hlc : (logCells lg).length = lg.length * 4 := logCells_length lg
  have hblk := blk_of_own hrow
  have hlog := own_same h.log (w' := w1) (fun k hk => hb.block k (h.lge hk).2)
  have hcells := hlog.cells (g := gl) rfl
  have hmin : Nat.min lg.length lg.length = lg.length := Nat.min_self _
  have hrun := run_copy_rows (P := Tryz.prog) w1.drew 71 71 3 121 w.heap.size 0 lg.length lg.length ⟨gl, 0, none⟩ lg.length cap _ 121 (logCells lg) 4 Tryz.underlying71 Tryz.size111 hblk (by rw [hmin]; exact hlc) hcells
    (by rw [hlc]; simp [size_madeCells]) (log_one lg)
  rw [hmin] at hrun
  have hz : (madeCells (Value.cells (.agg #[.int .i64 0, .int .i64 0, .int .i64 0, .bool false])) (lg.length * 4)).toList.length = lg.length * 4 := by simp [size_madeCells]
  have hR := row_over (n := lg.length) (ys := logCells lg) 0 hb hblk hz (by omega) (by have := h.most; unfold maxLen; omega)
  have e : ((madeCells (Value.cells (.agg #[.int .i64 0, .int .i64 0, .int .i64 0, .bool false])) (lg.length * 4)).toList.take 0 ++ logCells lg ++
      (madeCells (Value.cells (.agg #[.int .i64 0, .int .i64 0, .int .i64 0, .bool false])) (lg.length * 4)).toList.drop (0 + (logCells lg).length)) = logCells lg := by
    rw [List.drop_eq_nil_of_le (by rw [hlc]; simp [size_madeCells])]
    simp
  rw [e] at hR hrun
  have hg := h.blk.lt
  have hbl := h.blk.same (hb.block g hg)
  have hother := fun cs => setRow_other w1.drew w.heap.size g cs (by omega)
  have hb2 := fun cs => hbl.same (hother cs)
  exact ⟨_, hrun, fun W => run_copy_zero W 71 71 3 121 _ _ _ _ 4 Tryz.underlying71 Tryz.size111, hR, (hb2 _).cell 2, (hb2 _).cell 3⟩
set_option maxRecDepth 100000 in
set_option maxHeartbeats 1000000 in
theorem kept_zero (h : MemR B g gb lv xs ag lg 0 w) (hl : 0 < lg.length) :
    Calls Tryz.prog 49 #[.pointer (some ⟨g, 0, none⟩)] w (Told lg.length w) := by
  obtain ⟨i0, hi, hz0, hz1, hz2⟩ := info_parts Tryz.info121
  have HI := Lib.hid hi
  have HZ0 := Lib.hid hz0
  have HZ1 := Lib.hid hz1
  have HZ2 := Lib.hid hz2
  clear hi hz0 hz1 hz2
  obtain ⟨gl, cap, rfl, hge, hlt⟩ := h.log.form hl
  have hcap : lg.length ≤ cap := by
    rcases h.log.2 with ⟨h', _⟩ | ⟨g', cap', cur, h', _, _, h3, h4, _⟩
    · simp at h'
    · simp only [Value.slice.injEq] at h'
      omega
  have hl' := h.most
  have hc2 := h.c2
  have hc3 := h.c3
  have hlz : ((lg.length : Int) == 0) = false := by simp; intro e; simp [e] at hl
  have hgl := h.blk.lt
  go_enter Tryz.func49, Tryz.ntmps49
  go_wp2_with (at_make; refine wpList_make_full _ rfl _ _ 71 rfl w.heap.size 121 i0 (.agg #[.int .i64 0, .int .i64 0, .int .i64 0, .bool false]) 4 Tryz.underlying71 HI.out HZ0.out HZ1.out .i64 .i64 lg.length lg.length lg.length rfl rfl rfl rfl (by rw [HZ2.out]; omega) (by unfold maxLen; omega) (Nat.le_refl _) ?_; intro w1 hrow hgrow; have hb1 : Below w.heap.size w w1 := (Below.refl _ _).grown hgrow (Nat.le_refl _) (by simp); obtain ⟨w2, hcp, hcp0, HF, hd2, hd3⟩ := kept_copy h hb1 hrow; have hk2 := (hb1.cell (p := ⟨g, 2, none⟩) hgl).trans hc2; have hk3 := (hb1.cell (p := ⟨g, 3, none⟩) hgl).trans hc3; clear hrow hgrow hb1)
  have HF' := HF
  clear HF
  go_region
  go_wp2
  go_region
  go_wp2
  go_ret
  exact ⟨_, lg, rfl, rfl, HF'.out.1, HF'.out.2⟩
/-- the two copies of a log that is full -/
theorem kept_copies {gl cap K : Nat} {w1 : World} (h : MemR B g gb (.slice (some ⟨gl, 0, none⟩) lg.length cap) xs ag lg old w) (hK : old + K = lg.length) (hb : Below w.heap.size w w1)
    (hrow : w1.ownsRow w.heap.size 121 4 (.slice (some ⟨w.heap.size, 0, none⟩) lg.length lg.length) lg.length (madeCells (Value.cells (.agg #[.int .i64 0, .int .i64 0, .int .i64 0, .bool false])) (lg.length * 4)).toList) :
    ∃ w2 w3, (Builtin.copy_ #[71, 71] 3 #[.slice (some ⟨w.heap.size, 0, none⟩) lg.length lg.length, .slice (some ⟨gl, old * 4, none⟩) K (cap - old)]).run Tryz.prog w1.drew = .ok (.int .i64 K) w2 ∧
      (Builtin.copy_ #[71, 71] 3 #[.slice (some ⟨w.heap.size, K * 4, none⟩) old old, .slice (some ⟨gl, 0, none⟩) old cap]).run Tryz.prog w2.drew = .ok (.int .i64 old) w3 ∧
      Hid (w3.ownsRow w.heap.size 121 4 (.slice (some ⟨w.heap.size, 0, none⟩) lg.length lg.length) lg.length (logCells (lg.drop old ++ lg.take old)) ∧ Below w.heap.size w w3) ∧
      w2.cell? ⟨g, 2, none⟩ = some (.slice (some ⟨gl, 0, none⟩) lg.length cap) ∧ w2.cell? ⟨g, 3, none⟩ = some (.int .i64 (old : Int)) := by
  obtain ⟨Z, hZ, eZ⟩ : ∃ Z : List Value, Z.length = lg.length * 4 ∧ (madeCells (Value.cells (.agg #[.int .i64 0, .int .i64 0, .int .i64 0, .bool false])) (lg.length * 4)).toList = Z := ⟨_, by simp [size_madeCells], rfl⟩
  rw [eZ] at hrow
  clear eZ
  have hblk := blk_of_own hrow
  have hm := h.most
  have hg := h.blk.lt
  have hgl := (h.lge (k := gl) rfl).2
  obtain ⟨P, hP, eP⟩ : ∃ P, P.length = K ∧ lg.drop old = P := ⟨_, by simp; omega, rfl⟩
  obtain ⟨Q, hQ, eQ⟩ : ∃ Q, Q.length = old ∧ lg.take old = Q := ⟨_, by simp; omega, rfl⟩
  have eL : lg = Q ++ P := by rw [← eP, ← eQ, List.take_append_drop]
  have lP := logCells_length P
  have lQ := logCells_length Q
  have hlog : ∀ W : World, W.heap[gl]? = w.heap[gl]? → ∀ j v, (logCells lg)[j]? = some v → W.cell? ⟨gl, j, none⟩ = some v := by
    intro W hW j v hv
    have hown := own_same h.log (w' := W) (fun k hk => by
      have : gl = k := by simpa [Value.ownBlock] using hk
      subst this; exact hW)
    have := hown.cells (g := gl) rfl j v hv
    have e := addr_zero gl j
    rwa [e] at this
  have m1 : Nat.min K lg.length = K := Nat.min_eq_left (by omega)
  have m2 : Nat.min old old = old := Nat.min_self _
  have hrun := run_copy_rows (P := Tryz.prog) w1.drew 71 71 3 121 w.heap.size 0 lg.length lg.length ⟨gl, old * 4, none⟩ K (cap - old) _ 121 (logCells P) 4 Tryz.underlying71 Tryz.size111 hblk (by rw [m1, lP, hP])
    (by
      intro j v hv
      have e := addr_add gl (old * 4) j
      rw [e]
      refine hlog w1.drew (hb.block gl hgl) _ v ?_
      rw [eL, logCells_append, List.getElem?_append_right (by rw [lQ, hQ]; omega), lQ, hQ]
      rw [← hv]; congr 1; omega)
    (by rw [lP, hP]; simp [hZ]; omega) (log_one P)
  rw [m1] at hrun
  obtain ⟨W1, hW1⟩ : ∃ W1 : World, w1.drew.setRow w.heap.size (Z.toArray.toList.take 0 ++ logCells P ++ Z.toArray.toList.drop (0 + (logCells P).length)).toArray = W1 := ⟨_, rfl⟩
  rw [hW1] at hrun
  have b1 : Below w.heap.size w W1 := by rw [← hW1]; exact below_setRow hb.drew (Nat.le_refl _) _
  have r1 : Blk W1 w.heap.size 121 (logCells P ++ Z.drop (logCells P).length).toArray := by
    rw [← hW1]
    have := setRow_heap w1.drew w.heap.size _ (Z.toArray.toList.take 0 ++ logCells P ++ Z.toArray.toList.drop (0 + (logCells P).length)).toArray 121 _ hblk
    unfold Blk
    simpa using this
  have hl1 : (logCells P ++ Z.drop (logCells P).length).length = lg.length * 4 := by simp [lP, hP, hZ]; omega
  have hrun2 := run_copy_rows (P := Tryz.prog) W1.drew 71 71 3 121 w.heap.size (K * 4) old old ⟨gl, 0, none⟩ old cap _ 121 (logCells Q) 4 Tryz.underlying71 Tryz.size111 r1 (by rw [m2, lQ, hQ])
    (by
      intro j v hv
      have e := addr_zero gl j
      rw [e]
      refine hlog W1.drew (b1.block gl hgl) _ v ?_
      rw [eL, logCells_append, List.getElem?_append_left (by have := (List.getElem?_eq_some_iff.1 hv).1; omega)]
      exact hv)
    (by rw [lQ, hQ, List.size_toArray, hl1]; omega) (log_one Q)
  rw [m2] at hrun2
  have hR := row_over (n := lg.length) (ys := logCells Q) (K * 4) b1 r1 hl1 (by rw [lQ, hQ, hl1]; omega) (by unfold maxLen; omega)
  have e : (logCells P ++ Z.drop (logCells P).length).take (K * 4) ++ logCells Q ++ (logCells P ++ Z.drop (logCells P).length).drop (K * 4 + (logCells Q).length) = logCells (P ++ Q) := by
    rw [List.take_append_of_le_length (by rw [lP, hP]; exact Nat.le_refl _), List.take_of_length_le (by rw [lP, hP]; exact Nat.le_refl _), List.drop_eq_nil_of_le (by rw [hl1, lQ, hQ]; omega), List.append_nil, logCells_append]
  rw [e] at hR hrun2
  have hbl := h.blk.same (b1.block g hg)
  rw [eP, eQ]
  exact ⟨W1, _, hrun, hrun2, ⟨hR.1, below_undrew hR.2⟩, hbl.cell 2, hbl.cell 3⟩
set_option maxRecDepth 100000 in
set_option maxHeartbeats 1000000 in
theorem kept_full (h : MemR B g gb lv xs ag lg old w) (hl : lg.length = 4096) (ho : old < 4096) (ho0 : 0 < old) :
    Calls Tryz.prog 49 #[.pointer (some ⟨g, 0, none⟩)] w (Told lg.length w) := by
  obtain ⟨i0, hi, hz0, hz1, hz2⟩ := info_parts Tryz.info121
  have HI := Lib.hid hi
  have HZ0 := Lib.hid hz0
  have HZ1 := Lib.hid hz1
  have HZ2 := Lib.hid hz2
  clear hi hz0 hz1 hz2
  obtain ⟨gl, cap, rfl, hge, hlt⟩ := h.log.form (by omega)
  have hcap : lg.length ≤ cap := by
    rcases h.log.2 with ⟨h', _⟩ | ⟨g', cap', cur, h', _, _, h3, h4, _⟩
    · simp at h'
    · simp only [Value.slice.injEq] at h'
      omega
  have hc2 := h.c2
  have hc3 := h.c3
  obtain ⟨K, hK⟩ : ∃ K, old + K = lg.length := ⟨lg.length - old, by omega⟩
  have hlz : ((lg.length : Int) == 0) = false := by simp; intro e; simp [e] at hl
  have hgl := h.blk.lt
  obtain ⟨n, hn⟩ : ∃ n, lg.length = n := ⟨_, rfl⟩
  have HC := Lib.hid (fun w1 hb hrow => kept_copies (w1 := w1) h hK hb hrow)
  have HL : Hid ((lg.drop old ++ lg.take old).length = lg.length) := by show _ = _; simp; omega
  simp only [hn] at *
  have e1 : n - old = K := by omega
  have e2 : n - K = old := by omega
  have k0 : (0 : Int) ≤ (old : Int) := by omega
  have k1 : (old : Int) ≤ (n : Int) := by omega
  have k2 : (n : Int) ≤ (cap : Int) := by omega
  have k3 : (0 : Int) ≤ (K : Int) := by omega
  have k4 : (K : Int) ≤ (n : Int) := by omega
  have k5 : ¬ cap = old := by omega
  have k6 : ¬ n = K := by omega
  have hl2 : n ≤ 4096 := by omega
  clear h hn hl
  go_enter Tryz.func49, Tryz.ntmps49
  go_wp2_with (at_make; refine wpList_make_full _ rfl _ _ 71 rfl w.heap.size 121 i0 (.agg #[.int .i64 0, .int .i64 0, .int .i64 0, .bool false]) 4 Tryz.underlying71 HI.out HZ0.out HZ1.out .i64 .i64 n n n rfl rfl rfl rfl (by rw [HZ2.out]; omega) (by unfold maxLen; omega) (Nat.le_refl _) ?_; intro w1 hrow hgrow; have hb1 : Below w.heap.size w w1 := (Below.refl _ _).grown hgrow (Nat.le_refl _) (by simp); obtain ⟨w2, w3, hcp, hcp0, HF, hd2, hd3⟩ := HC.out _ hb1 hrow; have hk2 := (hb1.cell (p := ⟨g, 2, none⟩) hgl).trans hc2; have hk3 := (hb1.cell (p := ⟨g, 3, none⟩) hgl).trans hc3; clear hrow hgrow hb1)
  have HF' := HF
  clear HF
  go_region
  go_wp2
  go_region
  go_wp2
  go_ret
  refine ⟨_, _, rfl, HL.out, ?_, HF'.out.2⟩
  rw [HL.out]
  exact HF'.out.1
theorem kept_m (h : MemR B g gb lv xs ag lg old w) : Calls Tryz.prog 49 #[.pointer (some ⟨g, 0, none⟩)] w (Told lg.length w) := by
  cases lg with
  | nil =>
    refine (kept_none h).mono fun e w' ⟨he, hw⟩ => ?_
    subst he hw
    exact ⟨_, [], rfl, rfl, World.ownsRow_nil _ _ _ _, Below.refl _ _⟩
  | cons a l =>
    rcases h.full with e | ⟨e1, e2⟩
    · subst e
      exact kept_zero h (by simp)
    · by_cases e : old = 0
      · subst e
        exact kept_zero h (by simp)
      · exact kept_full h e1 e2 (by omega)
end
end Go.Proofs.YtbpgblmhacpjlaaGreat
namespace Go.Proofs.YtbpgblmhacpjlaaGreat
open Go.RowKit

/-- what Clone leaves -/
def Cloned (xs : List UInt8) (w : World) (e : Ending) (w' : World) : Prop :=
  ∃ g gb lv, e = .returned (.pointer (some ⟨g, 0, none⟩)) ∧ Mem w.heap.size g gb lv xs w' ∧ Below w.heap.size w w'

section
variable {B g gb : Nat} {lv : Value} {xs : List UInt8} {ag : Int} {lg : List Acc} {old : Nat} {w : World}
theorem own_base {w : World} {B B' e size n : Nat} {v : Value} {ys : List Value} (h : w.ownsRow B e size v n ys) (hB : B' ≤ B) : w.ownsRow B' e size v n ys := by
  refine ⟨h.1, ?_⟩
  rcases h.2 with hn | ⟨g, cap, cur, rfl, h1, rest⟩
  · exact .inl hn
  · exact .inr ⟨g, cap, cur, rfl, Nat.le_trans hB h1, rest⟩
theorem clone_next {W W' : World} {c0 c1 : Value} (h : W.cell? ⟨g, 0, none⟩ = some c0 ∧ W.cell? ⟨g, 1, none⟩ = some c1 ∧ MemR B g gb lv xs ag lg old W) (hb : Below W.heap.size W W') :
    W'.cell? ⟨g, 0, none⟩ = some c0 ∧ W'.cell? ⟨g, 1, none⟩ = some c1 ∧ MemR B g gb lv xs ag lg old W' :=
  ⟨(hb.cell (p := ⟨g, 0, none⟩) h.2.2.blk.lt).trans h.1, (hb.cell (p := ⟨g, 1, none⟩) h.2.2.blk.lt).trans h.2.1, h.2.2.below hb (Nat.le_refl _)⟩
theorem bytes_made (n : Nat) (hn : n ≤ 1048576) : ∀ W : World, (Instr.makeSlice 65 (.int .i64 n) (.int .i64 n)).run Tryz.prog W = .ok (.slice (some ⟨W.heap.size, 0, none⟩) n n) (W.alloc (.cells (List.replicate n (Value.int .u8 0)).toArray 5)) := by
  obtain ⟨i0, hi, hz0, hz1, hz2⟩ := info_parts Tryz.info5
  have hm := fun W : World => run_make W 65 5 i0 (.int .u8 0) Tryz.underlying65 hi hz0 .i64 .i64 (n : Int) (n : Int) (by omega) (by omega) (by rw [hz2]; omega) (by omega)
  rw [hz1, Nat.mul_one] at hm
  have ez : madeCells (Value.cells (.int .u8 0)) ((n : Int).toNat) = (List.replicate n (Value.int .u8 0)).toArray := by
    apply Array.ext'
    rw [Int.toNat_natCast]
    exact toList_madeCells_one (.int .u8 0) n
  rw [ez] at hm
  intro W
  have := hm W
  simpa using this
/-- the clone's bytes, copied -/
theorem clone_copy {W : World} {gc gk : Nat} {v : Value} {lg' : List Acc} (hM : MemR B g gb lv xs ag lg old W) (hl : lg'.length = lg.length) (hb : Below w.heap.size w W) (h1 : w.heap.size ≤ gc) (h2 : w.heap.size ≤ gk)
    (hblk : Blk W gc 97 #[.slice (some ⟨gk, 0, none⟩) xs.length xs.length, .int .i64 ag, v, .int .i64 0]) (hrow : Blk W gk 5 (List.replicate xs.length (Value.int .u8 0)).toArray)
    (hown : W.ownsRow w.heap.size 121 4 v lg'.length (logCells lg')) :
    ∃ w2, (Builtin.copy_ #[65, 65] 3 #[.slice (some ⟨gk, 0, none⟩) xs.length xs.length, .slice (some ⟨gb, 0, none⟩) xs.length xs.length]).run Tryz.prog W.drew = .ok (.int .i64 xs.length) w2 ∧
      Hid (Cloned xs w (.returned (.pointer (some ⟨gc, 0, none⟩))) w2) ∧ W.cell? ⟨gc, 0, none⟩ = some (.slice (some ⟨gk, 0, none⟩) xs.length xs.length) ∧ W.cell? ⟨g, 0, none⟩ = some (.slice (some ⟨gb, 0, none⟩) xs.length xs.length) := by
  have hmin : Nat.min xs.length xs.length = xs.length := Nat.min_self _
  have hlen : (xs.map byteV).length = xs.length := by simp
  have hrun := run_copy_row (P := Tryz.prog) W.drew 65 65 3 5 gk 0 xs.length xs.length ⟨gb, 0, none⟩ xs.length xs.length _ 5 (xs.map byteV) Tryz.underlying65 Tryz.size5 hrow (by rw [hmin]; exact hlen)
    (fun j u hu => by
      have hj : j < xs.length := by
        have := (List.getElem?_eq_some_iff.1 hu).1
        simpa using this
      rw [addr_zero]
      have := hM.byte j hj
      simp [hj] at hu
      rw [← hu]
      exact this)
    (by simp) (by
      intro u hu
      obtain ⟨c, _, rfl⟩ := List.mem_map.1 hu
      rfl)
  rw [hlen] at hrun
  have e : ((List.replicate xs.length (Value.int .u8 0)).toArray.toList.take 0 ++ xs.map byteV ++ (List.replicate xs.length (Value.int .u8 0)).toArray.toList.drop (0 + xs.length)) = xs.map byteV := by
    rw [List.drop_eq_nil_of_le (by simp)]
    simp
  rw [e] at hrun
  have o : ∀ k, k ≠ gk → (W.drew.setRow gk (xs.map byteV).toArray).heap[k]? = W.heap[k]? := fun k hk => setRow_other W.drew gk k _ hk
  have hm := hM.most
  refine ⟨_, hrun, ⟨gc, gk, v, rfl, ⟨ag, lg', 0, h1, h2, hblk.same (o gc (hblk.ne hrow (by decide))), setRow_heap W.drew gk _ _ 5 _ hrow, own_same hown (fun k hk => o k (fun e => own_ne hown hrow (by decide) (e ▸ hk))), hM.len, hM.pos, by omega, .inl rfl⟩, below_setRow hb.drew h2 _⟩, hblk.cell 0, hM.c0⟩
set_option maxRecDepth 100000 in
set_option maxHeartbeats 2000000 in
theorem clone_m (h : Mem B g gb lv xs w) : Calls Tryz.prog 17 #[.pointer (some ⟨g, 0, none⟩)] w (Cloned xs w) := by
  have hm := bytes_made xs.length h.len
  obtain ⟨ag, lg, old, h⟩ := h
  obtain ⟨Zc, eZ⟩ : ∃ Zc, (List.replicate xs.length (Value.int .u8 0)).toArray = Zc := ⟨_, rfl⟩
  rw [eZ] at hm
  have HZ := Lib.hid eZ
  clear eZ
  have hS : w.cell? ⟨g, 0, none⟩ = some (.slice (some ⟨gb, 0, none⟩) xs.length xs.length) ∧ w.cell? ⟨g, 1, none⟩ = some (.int .i64 ag) ∧ MemR B g gb lv xs ag lg old w := ⟨h.c0, h.c1, h⟩
  have HS := Lib.hid hS
  clear h hS
  go_enter Tryz.func17, Tryz.ntmps17
  go_wp2
  go_region_held (fun w' => w'.cell? ⟨g, 0, none⟩ = some (.slice (some ⟨gb, 0, none⟩) xs.length xs.length) ∧ w'.cell? ⟨g, 1, none⟩ = some (.int .i64 ag) ∧ MemR B g gb lv xs ag lg old w')
    (first | assumption | exact clone_next HS.out (Below.refl _ _).drew | exact clone_next (by assumption) hb | exact clone_next (by assumption) (ba (Below.refl _ _) _))
    (first
      | (go_at_call 49; refine (kept_m (And.right (And.right (by assumption)))).mono ?_; rintro e w1 ⟨v, lg', rfl, hlg, ho, hb⟩; have HLG := Lib.hid hlg; clear hlg; obtain ⟨A, cap, rfl⟩ := own_form ho))
  · rename_i hH
    have hbw : Below w.heap.size w w1 := b0 (ba (Below.refl _ _) _).drew hb
    have hz : w.heap.size + 1 ≤ w1.heap.size := by have := hb.size; simpa using this
    have hrow : Blk w1 w.heap.size 5 (List.replicate xs.length (Value.int .u8 0)).toArray := by
      rw [HZ.out]
      exact (Blk.new w 5 Zc).same (hb.block w.heap.size (by simp))
    have hown : w1.ownsRow w.heap.size 121 4 (.slice A lg'.length cap) lg'.length (logCells lg') := own_base ho (by simp)
    obtain ⟨w2, hcp, HC, k0, k1⟩ := clone_copy hH.2.2 HLG.out (ba hbw _) (by omega) (Nat.le_refl _) (Blk.new w1 97 _) (hrow.alloc _) (hown.alloc _)
    clear hm hH hbw hz hrow hown ho hb
    generalize (w1.alloc (Obj.cells #[Value.slice (some ⟨w.heap.size, 0, none⟩) xs.length xs.length, Value.int IntKind.i64 ag, Value.slice A lg'.length cap, Value.int IntKind.i64 0] 97)) = W at *
    go_wp2
    go_region
    go_wp2
    go_ret
    exact HC.out
  · rename_i hH
    have hbw : Below w.heap.size w w1 := b0 (Below.refl _ _).drew hb
    have hz := hbw.size
    have hrow : Blk (w1.alloc (.cells Zc 5)) w1.heap.size 5 (List.replicate xs.length (Value.int .u8 0)).toArray := by
      rw [HZ.out]
      exact Blk.new w1 5 Zc
    obtain ⟨w2, hcp, HC, k0, k1⟩ := clone_copy hH.2.2 HLG.out (ba (ba hbw _) _) (by simp; omega) (by omega) (Blk.new _ 97 _) (hrow.alloc _) ((ho.alloc _).alloc _)
    have eg : (w1.alloc (.cells Zc 5)).heap.size = w1.heap.size + 1 := by simp
    rw [eg] at HC k0
    clear hm hH hbw hz hrow ho hb eg
    generalize ((w1.alloc (Obj.cells Zc 5)).alloc (Obj.cells #[Value.slice (some ⟨w1.heap.size, 0, none⟩) xs.length xs.length, Value.int IntKind.i64 ag, Value.slice A lg'.length cap, Value.int IntKind.i64 0] 97)) = W at *
    go_wp2
    go_region
    go_wp2
    go_ret
    exact HC.out
end
end Go.Proofs.YtbpgblmhacpjlaaGreat

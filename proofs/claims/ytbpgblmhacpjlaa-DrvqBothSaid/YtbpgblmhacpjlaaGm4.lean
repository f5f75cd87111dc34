/-
  What gmem's kept answers, and what it leaves: for every memory.
-/
import Derived.Test.YtbpgblmhacpjlaaGm3
namespace Go.Proofs.Ytbpgblmhacpjlaa
open Go.RowKit

/-- copy between rows of whatever element -/
theorem run_copy_rows {P : Program} (w : World) (dT sT ty elem : TypeId) (g o dLen dCap : Nat) (a : Addr) (sLen sCap : Nat) (cur : Array Value) (t : TypeId) (cs : List Value) (size : Nat)
    (hu : P.underlying dT = some (.slice elem)) (hs : (P.info? elem).map (·.size) = some size)
    (hg : w.heap[g]? = some (.cells cur t (0, 0))) (hn : cs.length = Nat.min sLen dLen * size)
    (hsrc : ∀ j v, cs[j]? = some v → w.cell? (a.add j) = some v) (hfit : o + cs.length ≤ cur.size) (h1 : ∀ v ∈ cs, v.oneCell' = true) :
    (Builtin.copy_ #[dT, sT] ty #[.slice (some ⟨g, o, none⟩) dLen dCap, .slice (some a) sLen sCap]).run P w =
      .ok (goInt (Nat.min sLen dLen)) (w.setRow g (cur.toList.take o ++ cs ++ cur.toList.drop (o + cs.length)).toArray) := by
  have hst := run_storeCells_at P g o t cs 0 cur w hg (by simpa using hfit) h1
  cases hq : P.info? elem with
  | none => simp [hq] at hs
  | some i =>
    have hi : i.size = size := by simpa [hq] using hs
    have hl := run_firstCells_some (P := P) w size (Nat.min sLen dLen) a sLen sCap cs hn hsrc
    simp [Builtin.copy_, run_underlying hu, Builtin.lenOf, sizeOf, typeInfo, hq, hi, hl, hst]
theorem run_copy_zero {P : Program} (w : World) (dT sT ty elem : TypeId) (d a : Addr) (dCap sCap : Nat) (size : Nat)
    (hu : P.underlying dT = some (.slice elem)) (hs : (P.info? elem).map (·.size) = some size) :
    (Builtin.copy_ #[dT, sT] ty #[.slice (some d) 0 dCap, .slice (some a) 0 sCap]).run P w = .ok (goInt 0) w := by
  cases hq : P.info? elem with
  | none => simp [hq] at hs
  | some i =>
    have hi : i.size = size := by simpa [hq] using hs
    have hl := run_firstCells_some (P := P) w size 0 a 0 sCap [] (by simp) (by simp)
    simp [Builtin.copy_, run_underlying hu, Builtin.lenOf, sizeOf, typeInfo, hq, hi, hl, storeCells]
theorem Try.size111 : (Try.prog.info? 141).map (·.size) = some 4 := by kernel_rfl
theorem log_one (l : List Acc) : ∀ u ∈ logCells l, u.oneCell' = true := by
  intro u hu
  simp only [logCells, List.mem_flatMap] at hu
  obtain ⟨a, _, ha⟩ := hu
  exact acc_one a u ha

theorem addr_add (g o j : Nat) : (⟨g, o, none⟩ : Addr).add j = ⟨g, o + j, none⟩ := by unfold Addr.add; split <;> simp_all
theorem addr_zero (g j : Nat) : (⟨g, 0, none⟩ : Addr).add j = ⟨g, j, none⟩ := by rw [addr_add, Nat.zero_add]
/-- what is told: a slice of the asker's own -/
def Told (n : Nat) (w : World) (e : Ending) (w' : World) : Prop :=
  ∃ v lg, e = .returned v ∧ lg.length = n ∧ w'.ownsRow w.heap.size 141 4 v lg.length (logCells lg) ∧ Below w.heap.size w w'

section
variable {B g gb : Nat} {lv : Value} {xs : List UInt8} {ag : Int} {lg : List Acc} {old : Nat} {w : World}
theorem kept_none (h : MemR B g gb lv xs ag [] old w) :
    Calls Try.prog 54 #[.pointer (some ⟨g, 0, none⟩)] w fun e w' => e = .returned (.slice none 0 0) ∧ w = w' := by
  obtain ⟨A, cap, rfl⟩ := own_form h.log
  have hc := h.c2
  simp only [List.length_nil] at hc
  clear h
  go_enter Try.func54, Try.ntmps54
  go_wp2
  go_ret
  exact ⟨rfl, rfl⟩
theorem below_undrew {n : Nat} {a b : World} (h : Below n a b.drew) : Below n a b := ⟨h.os, h.tape, h.output, h.size, h.block⟩
/-- the row made, and one store over it -/
theorem row_over {w1 : World} {n : Nat} {cs : List Value} {ys : List Value} (o : Nat) (hb : Below w.heap.size w w1) (hrow : Blk w1 w.heap.size 141 cs.toArray) (hl : cs.length = n * 4) (hf : o + ys.length ≤ cs.length) (hn : n * 4 ≤ maxLen) :
    (w1.drew.setRow w.heap.size (cs.toArray.toList.take o ++ ys ++ cs.toArray.toList.drop (o + ys.length)).toArray).drew.ownsRow w.heap.size 141 4 (.slice (some ⟨w.heap.size, 0, none⟩) n n) n (cs.take o ++ ys ++ cs.drop (o + ys.length)) ∧
    Below w.heap.size w (w1.drew.setRow w.heap.size (cs.toArray.toList.take o ++ ys ++ cs.toArray.toList.drop (o + ys.length)).toArray).drew := by
  have hlen : (cs.take o ++ ys ++ cs.drop (o + ys.length)).length = n * 4 := by simp; omega
  refine ⟨⟨hlen, .inr ⟨w.heap.size, n, _, rfl, Nat.le_refl _, setRow_heap w1.drew _ _ _ 141 _ hrow, Nat.le_refl _, by unfold maxLen at *; omega, by simpa using hlen, by rw [← hlen]; exact List.take_length⟩⟩, ?_⟩
  exact (below_setRow hb.drew (Nat.le_refl _) _).drew
/-- the copy of the log that begins at its beginning -/
theorem kept_copy {gl cap : Nat} {w1 : World} (h : MemR B g gb (.slice (some ⟨gl, 0, none⟩) lg.length cap) xs ag lg 0 w) (hb : Below w.heap.size w w1)
    (hrow : w1.ownsRow w.heap.size 141 4 (.slice (some ⟨w.heap.size, 0, none⟩) lg.length lg.length) lg.length (madeCells (Value.cells (.agg #[.int .i64 0, .int .i64 0, .int .i64 0, .bool false])) (lg.length * 4)).toList) :
    ∃ w2, (Builtin.copy_ #[83, 83] 3 #[.slice (some ⟨w.heap.size, 0, none⟩) lg.length lg.length, .slice (some ⟨gl, 0, none⟩) lg.length cap]).run Try.prog w1.drew = .ok (.int .i64 lg.length) w2 ∧
      (∀ W, (Builtin.copy_ #[83, 83] 3 #[.slice (some ⟨w.heap.size, 0, none⟩) 0 0, .slice (some ⟨gl, 0, none⟩) 0 cap]).run Try.prog W = .ok (.int .i64 0) W) ∧
      Hid (w2.drew.ownsRow w.heap.size 141 4 (.slice (some ⟨w.heap.size, 0, none⟩) lg.length lg.length) lg.length (logCells lg) ∧ Below w.heap.size w w2.drew) ∧
      w2.cell? ⟨g, 2, none⟩ = some (.slice (some ⟨gl, 0, none⟩) lg.length cap) ∧ w2.cell? ⟨g, 3, none⟩ = some (.int .i64 0) := by
  have hlc : (logCells lg).length = lg.length * 4 := logCells_length lg
  have hblk := blk_of_own hrow
  have hlog := own_same h.log (w' := w1) (fun k hk => hb.block k (h.lge hk).2)
  have hcells := hlog.cells (g := gl) rfl
  have hmin : Nat.min lg.length lg.length = lg.length := Nat.min_self _
  have hrun := run_copy_rows (P := Try.prog) w1.drew 83 83 3 141 w.heap.size 0 lg.length lg.length ⟨gl, 0, none⟩ lg.length cap _ 141 (logCells lg) 4 Try.underlying83 Try.size111 hblk (by rw [hmin]; exact hlc) hcells
    (by rw [hlc]; simp [size_madeCells]) (log_one lg)
  rw [hmin] at hrun
  have hz : (madeCells (Value.cells (.agg #[.int .i64 0, .int .i64 0, .int .i64 0, .bool false])) (lg.length * 4)).toList.length = lg.length * 4 := by simp [size_madeCells]
  have hR := row_over (n := lg.length) (ys := logCells lg) 0 hb hblk hz (by omega) (by have := h.most; unfold maxLen; omega)
  have e : ((madeCells (Value.cells (.agg #[.int .i64 0, .int .i64 0, .int .i64 0, .bool false])) (lg.length * 4)).toList.take 0 ++ logCells lg ++
      (madeCells (Value.cells (.agg #[.int .i64 0, .int .i64 0, .int .i64 0, .bool false])) (lg.length * 4)).toList.drop (0 + (logCells lg).length)) = logCells lg := by
    rw [List.drop_eq_nil_of_le (by rw [hlc]; simp [size_madeCells])]
    simp
  rw [e] at hR hrun
  have hg := h.blk.lt
  have hbl := h.blk.same (hb.block g hg)
  have hother := fun cs => setRow_other w1.drew w.heap.size g cs (by omega)
  have hb2 := fun cs => hbl.same (hother cs)
  exact ⟨_, hrun, fun W => run_copy_zero W 83 83 3 141 _ _ _ _ 4 Try.underlying83 Try.size111, hR, (hb2 _).cell 2, (hb2 _).cell 3⟩
set_option maxRecDepth 100000 in
set_option maxHeartbeats 1000000 in
theorem kept_zero (h : MemR B g gb lv xs ag lg 0 w) (hl : 0 < lg.length) :
    Calls Try.prog 54 #[.pointer (some ⟨g, 0, none⟩)] w (Told lg.length w) := by
  obtain ⟨i0, hi, hz0, hz1, hz2⟩ := info_parts Try.info141
  have HI := Lib.hid hi
  have HZ0 := Lib.hid hz0
  have HZ1 := Lib.hid hz1
  have HZ2 := Lib.hid hz2
  clear hi hz0 hz1 hz2
  obtain ⟨gl, cap, rfl, hge, hlt⟩ := h.log.form hl
  have hcap : lg.length ≤ cap := by
    rcases h.log.2 with ⟨h', _⟩ | ⟨g', cap', cur, h', _, _, h3, h4, _⟩
    · simp at h'
    · simp only [Value.slice.injEq] at h'
      omega
  have hl' := h.most
  have hc2 := h.c2
  have hc3 := h.c3
  have hlz : ((lg.length : Int) == 0) = false := by simp; intro e; simp [e] at hl
  have hgl := h.blk.lt
  go_enter Try.func54, Try.ntmps54
  go_wp2_with (at_make; refine wpList_make_full _ rfl _ _ 83 rfl w.heap.size 141 i0 (.agg #[.int .i64 0, .int .i64 0, .int .i64 0, .bool false]) 4 Try.underlying83 HI.out HZ0.out HZ1.out .i64 .i64 lg.length lg.length lg.length rfl rfl rfl rfl (by rw [HZ2.out]; omega) (by unfold maxLen; omega) (Nat.le_refl _) ?_; intro w1 hrow hgrow; have hb1 : Below w.heap.size w w1 := (Below.refl _ _).grown hgrow (Nat.le_refl _) (by simp); obtain ⟨w2, hcp, hcp0, HF, hd2, hd3⟩ := kept_copy h hb1 hrow; have hk2 := (hb1.cell (p := ⟨g, 2, none⟩) hgl).trans hc2; have hk3 := (hb1.cell (p := ⟨g, 3, none⟩) hgl).trans hc3; clear hrow hgrow hb1)
  have HF' := HF
  clear HF
  go_region
  go_wp2
  go_region
  go_wp2
  go_ret
  exact ⟨_, lg, rfl, rfl, HF'.out.1, HF'.out.2⟩
/-- the two copies of a log that is full -/
theorem kept_copies {gl cap K : Nat} {w1 : World} (h : MemR B g gb (.slice (some ⟨gl, 0, none⟩) lg.length cap) xs ag lg old w) (hK : old + K = lg.length) (hb : Below w.heap.size w w1)
    (hrow : w1.ownsRow w.heap.size 141 4 (.slice (some ⟨w.heap.size, 0, none⟩) lg.length lg.length) lg.length (madeCells (Value.cells (.agg #[.int .i64 0, .int .i64 0, .int .i64 0, .bool false])) (lg.length * 4)).toList) :
    ∃ w2 w3, (Builtin.copy_ #[83, 83] 3 #[.slice (some ⟨w.heap.size, 0, none⟩) lg.length lg.length, .slice (some ⟨gl, old * 4, none⟩) K (cap - old)]).run Try.prog w1.drew = .ok (.int .i64 K) w2 ∧
      (Builtin.copy_ #[83, 83] 3 #[.slice (some ⟨w.heap.size, K * 4, none⟩) old old, .slice (some ⟨gl, 0, none⟩) old cap]).run Try.prog w2.drew = .ok (.int .i64 old) w3 ∧
      Hid (w3.ownsRow w.heap.size 141 4 (.slice (some ⟨w.heap.size, 0, none⟩) lg.length lg.length) lg.length (logCells (lg.drop old ++ lg.take old)) ∧ Below w.heap.size w w3) ∧
      w2.cell? ⟨g, 2, none⟩ = some (.slice (some ⟨gl, 0, none⟩) lg.length cap) ∧ w2.cell? ⟨g, 3, none⟩ = some (.int .i64 (old : Int)) := by
  obtain ⟨Z, hZ, eZ⟩ : ∃ Z : List Value, Z.length = lg.length * 4 ∧ (madeCells (Value.cells (.agg #[.int .i64 0, .int .i64 0, .int .i64 0, .bool false])) (lg.length * 4)).toList = Z := ⟨_, by simp [size_madeCells], rfl⟩
  rw [eZ] at hrow
  clear eZ
  have hblk := blk_of_own hrow
  have hm := h.most
  have hg := h.blk.lt
  have hgl := (h.lge (k := gl) rfl).2
  obtain ⟨P, hP, eP⟩ : ∃ P, P.length = K ∧ lg.drop old = P := ⟨_, by simp; omega, rfl⟩
  obtain ⟨Q, hQ, eQ⟩ : ∃ Q, Q.length = old ∧ lg.take old = Q := ⟨_, by simp; omega, rfl⟩
  have eL : lg = Q ++ P := by rw [← eP, ← eQ, List.take_append_drop]
  have lP := logCells_length P
  have lQ := logCells_length Q
  have hlog : ∀ W : World, W.heap[gl]? = w.heap[gl]? → ∀ j v, (logCells lg)[j]? = some v → W.cell? ⟨gl, j, none⟩ = some v := by
    intro W hW j v hv
    have hown := own_same h.log (w' := W) (fun k hk => by
      have : gl = k := by simpa [Value.ownBlock] using hk
      subst this; exact hW)
    have := hown.cells (g := gl) rfl j v hv
    have e := addr_zero gl j
    rwa [e] at this
  have m1 : Nat.min K lg.length = K := Nat.min_eq_left (by omega)
  have m2 : Nat.min old old = old := Nat.min_self _
  have hrun := run_copy_rows (P := Try.prog) w1.drew 83 83 3 141 w.heap.size 0 lg.length lg.length ⟨gl, old * 4, none⟩ K (cap - old) _ 141 (logCells P) 4 Try.underlying83 Try.size111 hblk (by rw [m1, lP, hP])
    (by
      intro j v hv
      have e := addr_add gl (old * 4) j
      rw [e]
      refine hlog w1.drew (hb.block gl hgl) _ v ?_
      rw [eL, logCells_append, List.getElem?_append_right (by rw [lQ, hQ]; omega), lQ, hQ]
      rw [← hv]; congr 1; omega)
    (by rw [lP, hP]; simp [hZ]; omega) (log_one P)
  rw [m1] at hrun
  obtain ⟨W1, hW1⟩ : ∃ W1 : World, w1.drew.setRow w.heap.size (Z.toArray.toList.take 0 ++ logCells P ++ Z.toArray.toList.drop (0 + (logCells P).length)).toArray = W1 := ⟨_, rfl⟩
  rw [hW1] at hrun
  have b1 : Below w.heap.size w W1 := by rw [← hW1]; exact below_setRow hb.drew (Nat.le_refl _) _
  have r1 : Blk W1 w.heap.size 141 (logCells P ++ Z.drop (logCells P).length).toArray := by
    rw [← hW1]
    have := setRow_heap w1.drew w.heap.size _ (Z.toArray.toList.take 0 ++ logCells P ++ Z.toArray.toList.drop (0 + (logCells P).length)).toArray 141 _ hblk
    unfold Blk
    simpa using this
  have hl1 : (logCells P ++ Z.drop (logCells P).length).length = lg.length * 4 := by simp [lP, hP, hZ]; omega
  have hrun2 := run_copy_rows (P := Try.prog) W1.drew 83 83 3 141 w.heap.size (K * 4) old old ⟨gl, 0, none⟩ old cap _ 141 (logCells Q) 4 Try.underlying83 Try.size111 r1 (by rw [m2, lQ, hQ])
    (by
      intro j v hv
      have e := addr_zero gl j
      rw [e]
      refine hlog W1.drew (b1.block gl hgl) _ v ?_
      rw [eL, logCells_append, List.getElem?_append_left (by have := (List.getElem?_eq_some_iff.1 hv).1; omega)]
      exact hv)
    (by rw [lQ, hQ, List.size_toArray, hl1]; omega) (log_one Q)
  rw [m2] at hrun2
  have hR := row_over (n := lg.length) (ys := logCells Q) (K * 4) b1 r1 hl1 (by rw [lQ, hQ, hl1]; omega) (by unfold maxLen; omega)
  have e : (logCells P ++ Z.drop (logCells P).length).take (K * 4) ++ logCells Q ++ (logCells P ++ Z.drop (logCells P).length).drop (K * 4 + (logCells Q).length) = logCells (P ++ Q) := by
    rw [List.take_append_of_le_length (by rw [lP, hP]; exact Nat.le_refl _), List.take_of_length_le (by rw [lP, hP]; exact Nat.le_refl _), List.drop_eq_nil_of_le (by rw [hl1, lQ, hQ]; omega), List.append_nil, logCells_append]
  rw [e] at hR hrun2
  have hbl := h.blk.same (b1.block g hg)
  rw [eP, eQ]
  exact ⟨W1, _, hrun, hrun2, ⟨hR.1, below_undrew hR.2⟩, hbl.cell 2, hbl.cell 3⟩
set_option maxRecDepth 100000 in
set_option maxHeartbeats 1000000 in
theorem kept_full (h : MemR B g gb lv xs ag lg old w) (hl : lg.length = 4096) (ho : old < 4096) (ho0 : 0 < old) :
    Calls Try.prog 54 #[.pointer (some ⟨g, 0, none⟩)] w (Told lg.length w) := by
  obtain ⟨i0, hi, hz0, hz1, hz2⟩ := info_parts Try.info141
  have HI := Lib.hid hi
  have HZ0 := Lib.hid hz0
  have HZ1 := Lib.hid hz1
  have HZ2 := Lib.hid hz2
  clear hi hz0 hz1 hz2
  obtain ⟨gl, cap, rfl, hge, hlt⟩ := h.log.form (by omega)
  have hcap : lg.length ≤ cap := by
    rcases h.log.2 with ⟨h', _⟩ | ⟨g', cap', cur, h', _, _, h3, h4, _⟩
    · simp at h'
    · simp only [Value.slice.injEq] at h'
      omega
  have hc2 := h.c2
  have hc3 := h.c3
  obtain ⟨K, hK⟩ : ∃ K, old + K = lg.length := ⟨lg.length - old, by omega⟩
  have hlz : ((lg.length : Int) == 0) = false := by simp; intro e; simp [e] at hl
  have hgl := h.blk.lt
  obtain ⟨n, hn⟩ : ∃ n, lg.length = n := ⟨_, rfl⟩
  have HC := Lib.hid (fun w1 hb hrow => kept_copies (w1 := w1) h hK hb hrow)
  have HL : Hid ((lg.drop old ++ lg.take old).length = lg.length) := by show _ = _; simp; omega
  simp only [hn] at *
  have e1 : n - old = K := by omega
  have e2 : n - K = old := by omega
  have k0 : (0 : Int) ≤ (old : Int) := by omega
  have k1 : (old : Int) ≤ (n : Int) := by omega
  have k2 : (n : Int) ≤ (cap : Int) := by omega
  have k3 : (0 : Int) ≤ (K : Int) := by omega
  have k4 : (K : Int) ≤ (n : Int) := by omega
  have k5 : ¬ cap = old := by omega
  have k6 : ¬ n = K := by omega
  have hl2 : n ≤ 4096 := by omega
  clear h hn hl
  go_enter Try.func54, Try.ntmps54
  go_wp2_with (at_make; refine wpList_make_full _ rfl _ _ 83 rfl w.heap.size 141 i0 (.agg #[.int .i64 0, .int .i64 0, .int .i64 0, .bool false]) 4 Try.underlying83 HI.out HZ0.out HZ1.out .i64 .i64 n n n rfl rfl rfl rfl (by rw [HZ2.out]; omega) (by unfold maxLen; omega) (Nat.le_refl _) ?_; intro w1 hrow hgrow; have hb1 : Below w.heap.size w w1 := (Below.refl _ _).grown hgrow (Nat.le_refl _) (by simp); obtain ⟨w2, w3, hcp, hcp0, HF, hd2, hd3⟩ := HC.out _ hb1 hrow; have hk2 := (hb1.cell (p := ⟨g, 2, none⟩) hgl).trans hc2; have hk3 := (hb1.cell (p := ⟨g, 3, none⟩) hgl).trans hc3; clear hrow hgrow hb1)
  have HF' := HF
  clear HF
  go_region
  go_wp2
  go_region
  go_wp2
  go_ret
  refine ⟨_, _, rfl, HL.out, ?_, HF'.out.2⟩
  rw [HL.out]
  exact HF'.out.1
theorem kept_m (h : MemR B g gb lv xs ag lg old w) : Calls Try.prog 54 #[.pointer (some ⟨g, 0, none⟩)] w (Told lg.length w) := by
  cases lg with
  | nil =>
    refine (kept_none h).mono fun e w' ⟨he, hw⟩ => ?_
    subst he hw
    exact ⟨_, [], rfl, rfl, World.ownsRow_nil _ _ _ _, Below.refl _ _⟩
  | cons a l =>
    rcases h.full with e | ⟨e1, e2⟩
    · subst e
      exact kept_zero h (by simp)
    · by_cases e : old = 0
      · subst e
        exact kept_zero h (by simp)
      · exact kept_full h e1 e2 (by omega)
end
end Go.Proofs.Ytbpgblmhacpjlaa

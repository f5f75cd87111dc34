/-
  drvq: Tell; no condition.
-/
import Derived.Test.YtbpgblmhacpjlaaGreatZo
import Derived.Test.YtbpgblmhacpjlaaGreatSVg
namespace Go.Proofs.YtbpgblmhacpjlaaGreat
open Go.RowKit

def tellB (xs : List UInt8) (q : Vs) : Bool :=
  if q.size < q.since then (Sp.paF (cut4 xs q.dev) == 0 || Sp.paF (cut4 xs q.dev) == 2)
  else Sp.needV (Sp.paO (cut4 xs q.dev)) (Sp.paW (cut4 xs q.dev)) (Sp.paF (cut4 xs q.dev)) q.ta q.tw q.na q.nw q.size
def toldQ (q : Vs) : Vs := { q with ta := q.na, tw := q.nw, since := 0 }
theorem toldQ_ok {q : Vs} {n : Nat} (hq : q.Ok n) : (toldQ q).Ok n := ⟨hq.s1, hq.s2, hq.r, hq.drv, hq.dev, hq.na, hq.ba, hq.na, hq.hl, hq.sum⟩
theorem tell_cells {F : Nat → Prop} {w W : World} {k g gq bm low : Nat} {q : Vs} {xs : List UInt8} {a b c : Value} (h : St F w (stars [box k 34 #[a, b, c], memA g xs, box gq 77 (q.cells g bm low), mapA bm q.hs]) W) :
    W.cell? ⟨k, 0, none⟩ = some a ∧ W.cell? ⟨k, 1, none⟩ = some b ∧ W.cell? ⟨k, 2, none⟩ = some c ∧ W.cell? ⟨gq, 12, none⟩ = some (.int .i64 (q.ta : Int)) ∧ W.cell? ⟨gq, 13, none⟩ = some (.bool q.tw) ∧ W.cell? ⟨gq, 5, none⟩ = some (.int .i64 (q.na : Int)) ∧ W.cell? ⟨gq, 6, none⟩ = some (.bool q.nw) ∧ W.cell? ⟨gq, 2, none⟩ = some (.int .i64 (q.size : Int)) := by
  have hk := h.blk 0 (by simp) rfl
  have hb := h.blk 2 (by simp) rfl
  exact ⟨hk.cell 0, hk.cell 1, hk.cell 2, hb.cell 12, hb.cell 13, hb.cell 5, hb.cell 6, hb.cell 2⟩
set_option maxRecDepth 100000 in
set_option maxHeartbeats 3200000 in
theorem tell_need {F : Nat → Prop} {w : World} {gq g : Nat} {xs : List UInt8} {q : Vs} (h : (stars [memA g xs, drvA gq g q]).P F w) (o f : Int) (v B : Bool) (hs : ¬ q.size < q.since)
    (HV : ∀ (bm low : Nat) (W : World), St F w (stars [memA g xs, box gq 77 (q.cells g bm low), mapA bm q.hs]) W → Calls Tryz.prog 43 #[.pointer (some ⟨gq, 0, none⟩)] W fun e w' => e = .returned (.agg #[.int .i64 o, .bool v, .int .i64 f]) ∧ St F w (stars [memA g xs, box gq 77 (q.cells g bm low), mapA bm q.hs]) w')
    (HN : ∀ W, Calls Tryz.prog 44 #[.agg #[.int .i64 o, .bool v, .int .i64 f], .agg #[.int .i64 (q.ta : Int), .bool q.tw], .agg #[.int .i64 (q.na : Int), .bool q.nw], .int .i64 (q.size : Int)] W fun e w' => e = .returned (.bool B) ∧ Below W.heap.size W w') :
    Calls Tryz.prog 13 #[.pointer (some ⟨gq, 0, none⟩)] w fun e w' => e = .returned (.bool B) ∧ St F w (stars [memA g xs, drvA gq g (toldQ q)]) w' := by
  obtain ⟨bm, low, hlo, h'⟩ := drv_open h
  have HV := Lib.hid (HV bm low)
  have HN := Lib.hid HN
  have S0 := Lib.hid (St.start h')
  have HLo := Lib.hid hlo
  have s1 : decide (q.size < q.since) = false := decide_eq_false hs
  have s2 : ¬ (q.size : Int) < (q.since : Int) := by omega
  clear h h' hlo
  go_enter Tryz.func13, Tryz.ntmps13
  go_wp2_with fail
  refine (HV.out _ S0.out).mono ?_
  rintro e w1 ⟨rfl, S1⟩
  have hlt := (S1.blk 1 (by simp) rfl).lt
  have hne := Nat.ne_of_lt hlt
  have T0 := S1.push 34 #[.int .i64 o, .bool v, .int .i64 f]
  clear S1 S0
  go_wp2_with fail
  obtain ⟨W0, hW0⟩ : ∃ W0, w1.alloc (.cells #[.int .i64 o, .bool v, .int .i64 f] 34) = W0 := ⟨_, rfl⟩
  obtain ⟨K, hK⟩ : ∃ K, w1.heap.size = K := ⟨_, rfl⟩
  rw [hW0] at T0 ⊢
  rw [hK] at T0 ⊢
  clear hW0 hK hlt hne HV
  have T0 := Lib.hid T0
  go_region_held3 (fun W => W.cell? ⟨K, 0, none⟩ = some (.int .i64 o) ∧ W.cell? ⟨K, 1, none⟩ = some (.bool v) ∧ W.cell? ⟨K, 2, none⟩ = some (.int .i64 f) ∧ W.cell? ⟨gq, 12, none⟩ = some (.int .i64 (q.ta : Int)) ∧ W.cell? ⟨gq, 13, none⟩ = some (.bool q.tw) ∧ W.cell? ⟨gq, 5, none⟩ = some (.int .i64 (q.na : Int)) ∧ W.cell? ⟨gq, 6, none⟩ = some (.bool q.nw) ∧ W.cell? ⟨gq, 2, none⟩ = some (.int .i64 (q.size : Int)))
    (with_reducible (first | exact tell_cells T0.out.drew | exact tell_cells (T0.out.drew.below hq)))
    ((go_at_call 44; ((with_reducible refine (HN.out _).mono ?_); rintro e w2 ⟨rfl, hq⟩)))
  have T2 := T0.out.drew.below hq
  clear hq T0 HN
  have hb := T2.blk 2 (by simp) rfl
  have b2 : w2.cell? ⟨gq, 2, none⟩ = some (.int .i64 (q.size : Int)) := hb.cell 2
  have b14 : w2.cell? ⟨gq, 14, none⟩ = some (.int .i64 (q.since : Int)) := hb.cell 14
  have T2 := Lib.hid T2
  clear hb
  go_wp2_with fail
  go_quiet (fail)
  have T3 := T2.out.drewN nq
  generalize World.drewN w2 nq = W3 at *
  clear b2 b14 T2
  have hb := T3.blk 2 (by simp) rfl
  have b5 : W3.cell? ⟨gq, 5, none⟩ = some (.int .i64 (q.na : Int)) := hb.cell 5
  have b6 : W3.cell? ⟨gq, 6, none⟩ = some (.bool q.nw) := hb.cell 6
  have b12 : W3.cell? ⟨gq, 12, none⟩ = some (.int .i64 (q.ta : Int)) := hb.cell 12
  have b13 : W3.cell? ⟨gq, 13, none⟩ = some (.bool q.tw) := hb.cell 13
  have b14 : W3.cell? ⟨gq, 14, none⟩ = some (.int .i64 (q.since : Int)) := hb.cell 14
  have f12 := hb.frozen 12
  have f13 := hb.frozen 13
  have f14 := hb.frozen 14
  have hlt := hb.lt
  have hne := Nat.ne_of_lt hlt
  have k2 : W3.cell? ⟨K, 2, none⟩ = some (.int .i64 f) := (T3.blk 0 (by simp) rfl).cell 2
  have T4 := ((T3.pop.put 1 (by simp) rfl 12 (.int .i64 (q.na : Int))).put 1 (by simp) rfl 13 (.bool q.nw)).put 1 (by simp) rfl 14 (.int .i64 ((0 : Nat) : Int))
  have T4 : St F w (stars [memA g xs, box gq 77 ((toldQ q).cells g bm low), mapA bm q.hs]) _ := T4
  have T5 := Lib.hid (drv_shut (q := toldQ q) T4 HLo.out)
  clear T3 T4 hb
  go_wp2_with fail
  go_ret
  exact ⟨rfl, T5.out⟩
set_option maxRecDepth 100000 in
set_option maxHeartbeats 3200000 in
theorem tell_zero {F : Nat → Prop} {w : World} {gq g : Nat} {xs : List UInt8} {q : Vs} (h : (stars [memA g xs, drvA gq g q]).P F w) (o f : Int) (v B : Bool) (hs : q.size < q.since) (hf : f = 0)
    (HV : ∀ (bm low : Nat) (W : World), St F w (stars [memA g xs, box gq 77 (q.cells g bm low), mapA bm q.hs]) W → Calls Tryz.prog 43 #[.pointer (some ⟨gq, 0, none⟩)] W fun e w' => e = .returned (.agg #[.int .i64 o, .bool v, .int .i64 f]) ∧ St F w (stars [memA g xs, box gq 77 (q.cells g bm low), mapA bm q.hs]) w')
    (HN : ∀ W, Calls Tryz.prog 44 #[.agg #[.int .i64 o, .bool v, .int .i64 f], .agg #[.int .i64 (q.ta : Int), .bool q.tw], .agg #[.int .i64 (q.na : Int), .bool q.nw], .int .i64 (q.size : Int)] W fun e w' => e = .returned (.bool B) ∧ Below W.heap.size W w') :
    Calls Tryz.prog 13 #[.pointer (some ⟨gq, 0, none⟩)] w fun e w' => e = .returned (.bool true) ∧ St F w (stars [memA g xs, drvA gq g (toldQ q)]) w' := by
  obtain ⟨bm, low, hlo, h'⟩ := drv_open h
  have HV := Lib.hid (HV bm low)
  have HN := Lib.hid HN
  have S0 := Lib.hid (St.start h')
  have HLo := Lib.hid hlo
  have s2 : (q.size : Int) < (q.since : Int) := by omega
  have f0 : (f == 0) = true := by simp [hf]
  clear hf
  clear h h' hlo
  go_enter Tryz.func13, Tryz.ntmps13
  go_wp2_with fail
  refine (HV.out _ S0.out).mono ?_
  rintro e w1 ⟨rfl, S1⟩
  have hlt := (S1.blk 1 (by simp) rfl).lt
  have hne := Nat.ne_of_lt hlt
  have T0 := S1.push 34 #[.int .i64 o, .bool v, .int .i64 f]
  clear S1 S0
  go_wp2_with fail
  obtain ⟨W0, hW0⟩ : ∃ W0, w1.alloc (.cells #[.int .i64 o, .bool v, .int .i64 f] 34) = W0 := ⟨_, rfl⟩
  obtain ⟨K, hK⟩ : ∃ K, w1.heap.size = K := ⟨_, rfl⟩
  rw [hW0] at T0 ⊢
  rw [hK] at T0 ⊢
  clear hW0 hK hlt hne HV
  have T0 := Lib.hid T0
  go_region_held3 (fun W => W.cell? ⟨K, 0, none⟩ = some (.int .i64 o) ∧ W.cell? ⟨K, 1, none⟩ = some (.bool v) ∧ W.cell? ⟨K, 2, none⟩ = some (.int .i64 f) ∧ W.cell? ⟨gq, 12, none⟩ = some (.int .i64 (q.ta : Int)) ∧ W.cell? ⟨gq, 13, none⟩ = some (.bool q.tw) ∧ W.cell? ⟨gq, 5, none⟩ = some (.int .i64 (q.na : Int)) ∧ W.cell? ⟨gq, 6, none⟩ = some (.bool q.nw) ∧ W.cell? ⟨gq, 2, none⟩ = some (.int .i64 (q.size : Int)))
    (with_reducible (first | exact tell_cells T0.out.drew | exact tell_cells (T0.out.drew.below hq)))
    ((go_at_call 44; ((with_reducible refine (HN.out _).mono ?_); rintro e w2 ⟨rfl, hq⟩)))
  have T2 := T0.out.drew.below hq
  clear hq T0 HN
  have hb := T2.blk 2 (by simp) rfl
  have b2 : w2.cell? ⟨gq, 2, none⟩ = some (.int .i64 (q.size : Int)) := hb.cell 2
  have b14 : w2.cell? ⟨gq, 14, none⟩ = some (.int .i64 (q.since : Int)) := hb.cell 14
  have T2 := Lib.hid T2
  clear hb
  go_wp2_with fail
  go_quiet (fail)
  have T3 := T2.out.drewN nq
  generalize World.drewN w2 nq = W3 at *
  clear b2 b14 T2
  have hb := T3.blk 2 (by simp) rfl
  have b5 : W3.cell? ⟨gq, 5, none⟩ = some (.int .i64 (q.na : Int)) := hb.cell 5
  have b6 : W3.cell? ⟨gq, 6, none⟩ = some (.bool q.nw) := hb.cell 6
  have b12 : W3.cell? ⟨gq, 12, none⟩ = some (.int .i64 (q.ta : Int)) := hb.cell 12
  have b13 : W3.cell? ⟨gq, 13, none⟩ = some (.bool q.tw) := hb.cell 13
  have b14 : W3.cell? ⟨gq, 14, none⟩ = some (.int .i64 (q.since : Int)) := hb.cell 14
  have f12 := hb.frozen 12
  have f13 := hb.frozen 13
  have f14 := hb.frozen 14
  have hlt := hb.lt
  have hne := Nat.ne_of_lt hlt
  have k2 : W3.cell? ⟨K, 2, none⟩ = some (.int .i64 f) := (T3.blk 0 (by simp) rfl).cell 2
  have T4 := ((T3.pop.put 1 (by simp) rfl 12 (.int .i64 (q.na : Int))).put 1 (by simp) rfl 13 (.bool q.nw)).put 1 (by simp) rfl 14 (.int .i64 ((0 : Nat) : Int))
  have T4 : St F w (stars [memA g xs, box gq 77 ((toldQ q).cells g bm low), mapA bm q.hs]) _ := T4
  have T5 := Lib.hid (drv_shut (q := toldQ q) T4 HLo.out)
  clear T3 T4 hb
  go_wp2_with fail
  go_ret
  exact ⟨rfl, T5.out⟩
set_option maxRecDepth 100000 in
set_option maxHeartbeats 3200000 in
theorem tell_two {F : Nat → Prop} {w : World} {gq g : Nat} {xs : List UInt8} {q : Vs} (h : (stars [memA g xs, drvA gq g q]).P F w) (o f : Int) (v B : Bool) (hs : q.size < q.since) (hf : f = 2)
    (HV : ∀ (bm low : Nat) (W : World), St F w (stars [memA g xs, box gq 77 (q.cells g bm low), mapA bm q.hs]) W → Calls Tryz.prog 43 #[.pointer (some ⟨gq, 0, none⟩)] W fun e w' => e = .returned (.agg #[.int .i64 o, .bool v, .int .i64 f]) ∧ St F w (stars [memA g xs, box gq 77 (q.cells g bm low), mapA bm q.hs]) w')
    (HN : ∀ W, Calls Tryz.prog 44 #[.agg #[.int .i64 o, .bool v, .int .i64 f], .agg #[.int .i64 (q.ta : Int), .bool q.tw], .agg #[.int .i64 (q.na : Int), .bool q.nw], .int .i64 (q.size : Int)] W fun e w' => e = .returned (.bool B) ∧ Below W.heap.size W w') :
    Calls Tryz.prog 13 #[.pointer (some ⟨gq, 0, none⟩)] w fun e w' => e = .returned (.bool true) ∧ St F w (stars [memA g xs, drvA gq g (toldQ q)]) w' := by
  obtain ⟨bm, low, hlo, h'⟩ := drv_open h
  have HV := Lib.hid (HV bm low)
  have HN := Lib.hid HN
  have S0 := Lib.hid (St.start h')
  have HLo := Lib.hid hlo
  have s2 : (q.size : Int) < (q.since : Int) := by omega
  have f0 : (f == 0) = false := by simp [hf]
  have f2 : (f == 2) = true := by simp [hf]
  clear hf
  clear h h' hlo
  go_enter Tryz.func13, Tryz.ntmps13
  go_wp2_with fail
  refine (HV.out _ S0.out).mono ?_
  rintro e w1 ⟨rfl, S1⟩
  have hlt := (S1.blk 1 (by simp) rfl).lt
  have hne := Nat.ne_of_lt hlt
  have T0 := S1.push 34 #[.int .i64 o, .bool v, .int .i64 f]
  clear S1 S0
  go_wp2_with fail
  obtain ⟨W0, hW0⟩ : ∃ W0, w1.alloc (.cells #[.int .i64 o, .bool v, .int .i64 f] 34) = W0 := ⟨_, rfl⟩
  obtain ⟨K, hK⟩ : ∃ K, w1.heap.size = K := ⟨_, rfl⟩
  rw [hW0] at T0 ⊢
  rw [hK] at T0 ⊢
  clear hW0 hK hlt hne HV
  have T0 := Lib.hid T0
  go_region_held3 (fun W => W.cell? ⟨K, 0, none⟩ = some (.int .i64 o) ∧ W.cell? ⟨K, 1, none⟩ = some (.bool v) ∧ W.cell? ⟨K, 2, none⟩ = some (.int .i64 f) ∧ W.cell? ⟨gq, 12, none⟩ = some (.int .i64 (q.ta : Int)) ∧ W.cell? ⟨gq, 13, none⟩ = some (.bool q.tw) ∧ W.cell? ⟨gq, 5, none⟩ = some (.int .i64 (q.na : Int)) ∧ W.cell? ⟨gq, 6, none⟩ = some (.bool q.nw) ∧ W.cell? ⟨gq, 2, none⟩ = some (.int .i64 (q.size : Int)))
    (with_reducible (first | exact tell_cells T0.out.drew | exact tell_cells (T0.out.drew.below hq)))
    ((go_at_call 44; ((with_reducible refine (HN.out _).mono ?_); rintro e w2 ⟨rfl, hq⟩)))
  have T2 := T0.out.drew.below hq
  clear hq T0 HN
  have hb := T2.blk 2 (by simp) rfl
  have b2 : w2.cell? ⟨gq, 2, none⟩ = some (.int .i64 (q.size : Int)) := hb.cell 2
  have b14 : w2.cell? ⟨gq, 14, none⟩ = some (.int .i64 (q.since : Int)) := hb.cell 14
  have T2 := Lib.hid T2
  clear hb
  go_wp2_with fail
  go_quiet (fail)
  have T3 := T2.out.drewN nq
  generalize World.drewN w2 nq = W3 at *
  clear b2 b14 T2
  have hb := T3.blk 2 (by simp) rfl
  have b5 : W3.cell? ⟨gq, 5, none⟩ = some (.int .i64 (q.na : Int)) := hb.cell 5
  have b6 : W3.cell? ⟨gq, 6, none⟩ = some (.bool q.nw) := hb.cell 6
  have b12 : W3.cell? ⟨gq, 12, none⟩ = some (.int .i64 (q.ta : Int)) := hb.cell 12
  have b13 : W3.cell? ⟨gq, 13, none⟩ = some (.bool q.tw) := hb.cell 13
  have b14 : W3.cell? ⟨gq, 14, none⟩ = some (.int .i64 (q.since : Int)) := hb.cell 14
  have f12 := hb.frozen 12
  have f13 := hb.frozen 13
  have f14 := hb.frozen 14
  have hlt := hb.lt
  have hne := Nat.ne_of_lt hlt
  have k2 : W3.cell? ⟨K, 2, none⟩ = some (.int .i64 f) := (T3.blk 0 (by simp) rfl).cell 2
  have T4 := ((T3.pop.put 1 (by simp) rfl 12 (.int .i64 (q.na : Int))).put 1 (by simp) rfl 13 (.bool q.nw)).put 1 (by simp) rfl 14 (.int .i64 ((0 : Nat) : Int))
  have T4 : St F w (stars [memA g xs, box gq 77 ((toldQ q).cells g bm low), mapA bm q.hs]) _ := T4
  have T5 := Lib.hid (drv_shut (q := toldQ q) T4 HLo.out)
  clear T3 T4 hb
  go_wp2_with fail
  go_ret
  exact ⟨rfl, T5.out⟩
set_option maxRecDepth 100000 in
set_option maxHeartbeats 3200000 in
theorem tell_not {F : Nat → Prop} {w : World} {gq g : Nat} {xs : List UInt8} {q : Vs} (h : (stars [memA g xs, drvA gq g q]).P F w) (o f : Int) (v B : Bool) (hs : q.size < q.since) (hf : ¬ f = 0) (hf2 : ¬ f = 2)
    (HV : ∀ (bm low : Nat) (W : World), St F w (stars [memA g xs, box gq 77 (q.cells g bm low), mapA bm q.hs]) W → Calls Tryz.prog 43 #[.pointer (some ⟨gq, 0, none⟩)] W fun e w' => e = .returned (.agg #[.int .i64 o, .bool v, .int .i64 f]) ∧ St F w (stars [memA g xs, box gq 77 (q.cells g bm low), mapA bm q.hs]) w')
    (HN : ∀ W, Calls Tryz.prog 44 #[.agg #[.int .i64 o, .bool v, .int .i64 f], .agg #[.int .i64 (q.ta : Int), .bool q.tw], .agg #[.int .i64 (q.na : Int), .bool q.nw], .int .i64 (q.size : Int)] W fun e w' => e = .returned (.bool B) ∧ Below W.heap.size W w') :
    Calls Tryz.prog 13 #[.pointer (some ⟨gq, 0, none⟩)] w fun e w' => e = .returned (.bool false) ∧ St F w (stars [memA g xs, drvA gq g (toldQ q)]) w' := by
  obtain ⟨bm, low, hlo, h'⟩ := drv_open h
  have HV := Lib.hid (HV bm low)
  have HN := Lib.hid HN
  have S0 := Lib.hid (St.start h')
  have HLo := Lib.hid hlo
  have s2 : (q.size : Int) < (q.since : Int) := by omega
  have f0 : (f == 0) = false := by simp [hf]
  have f2 : (f == 2) = false := by simp [hf2]
  clear hf hf2
  clear h h' hlo
  go_enter Tryz.func13, Tryz.ntmps13
  go_wp2_with fail
  refine (HV.out _ S0.out).mono ?_
  rintro e w1 ⟨rfl, S1⟩
  have hlt := (S1.blk 1 (by simp) rfl).lt
  have hne := Nat.ne_of_lt hlt
  have T0 := S1.push 34 #[.int .i64 o, .bool v, .int .i64 f]
  clear S1 S0
  go_wp2_with fail
  obtain ⟨W0, hW0⟩ : ∃ W0, w1.alloc (.cells #[.int .i64 o, .bool v, .int .i64 f] 34) = W0 := ⟨_, rfl⟩
  obtain ⟨K, hK⟩ : ∃ K, w1.heap.size = K := ⟨_, rfl⟩
  rw [hW0] at T0 ⊢
  rw [hK] at T0 ⊢
  clear hW0 hK hlt hne HV
  have T0 := Lib.hid T0
  go_region_held3 (fun W => W.cell? ⟨K, 0, none⟩ = some (.int .i64 o) ∧ W.cell? ⟨K, 1, none⟩ = some (.bool v) ∧ W.cell? ⟨K, 2, none⟩ = some (.int .i64 f) ∧ W.cell? ⟨gq, 12, none⟩ = some (.int .i64 (q.ta : Int)) ∧ W.cell? ⟨gq, 13, none⟩ = some (.bool q.tw) ∧ W.cell? ⟨gq, 5, none⟩ = some (.int .i64 (q.na : Int)) ∧ W.cell? ⟨gq, 6, none⟩ = some (.bool q.nw) ∧ W.cell? ⟨gq, 2, none⟩ = some (.int .i64 (q.size : Int)))
    (with_reducible (first | exact tell_cells T0.out.drew | exact tell_cells (T0.out.drew.below hq)))
    ((go_at_call 44; ((with_reducible refine (HN.out _).mono ?_); rintro e w2 ⟨rfl, hq⟩)))
  have T2 := T0.out.drew.below hq
  clear hq T0 HN
  have hb := T2.blk 2 (by simp) rfl
  have b2 : w2.cell? ⟨gq, 2, none⟩ = some (.int .i64 (q.size : Int)) := hb.cell 2
  have b14 : w2.cell? ⟨gq, 14, none⟩ = some (.int .i64 (q.since : Int)) := hb.cell 14
  have T2 := Lib.hid T2
  clear hb
  go_wp2_with fail
  go_quiet (fail)
  have T3 := T2.out.drewN nq
  generalize World.drewN w2 nq = W3 at *
  clear b2 b14 T2
  have hb := T3.blk 2 (by simp) rfl
  have b5 : W3.cell? ⟨gq, 5, none⟩ = some (.int .i64 (q.na : Int)) := hb.cell 5
  have b6 : W3.cell? ⟨gq, 6, none⟩ = some (.bool q.nw) := hb.cell 6
  have b12 : W3.cell? ⟨gq, 12, none⟩ = some (.int .i64 (q.ta : Int)) := hb.cell 12
  have b13 : W3.cell? ⟨gq, 13, none⟩ = some (.bool q.tw) := hb.cell 13
  have b14 : W3.cell? ⟨gq, 14, none⟩ = some (.int .i64 (q.since : Int)) := hb.cell 14
  have f12 := hb.frozen 12
  have f13 := hb.frozen 13
  have f14 := hb.frozen 14
  have hlt := hb.lt
  have hne := Nat.ne_of_lt hlt
  have k2 : W3.cell? ⟨K, 2, none⟩ = some (.int .i64 f) := (T3.blk 0 (by simp) rfl).cell 2
  have T4 := ((T3.pop.put 1 (by simp) rfl 12 (.int .i64 (q.na : Int))).put 1 (by simp) rfl 13 (.bool q.nw)).put 1 (by simp) rfl 14 (.int .i64 ((0 : Nat) : Int))
  have T4 : St F w (stars [memA g xs, box gq 77 ((toldQ q).cells g bm low), mapA bm q.hs]) _ := T4
  have T5 := Lib.hid (drv_shut (q := toldQ q) T4 HLo.out)
  clear T3 T4 hb
  go_wp2_with fail
  go_ret
  exact ⟨rfl, T5.out⟩
theorem tell_v {F : Nat → Prop} {w : World} {gq g : Nat} {xs : List UInt8} {q : Vs} (h : (stars [memA g xs, drvA gq g q]).P F w) (hq : q.Ok xs.length) :
    Calls Tryz.prog 13 #[.pointer (some ⟨gq, 0, none⟩)] w fun e w' => e = .returned (.bool (tellB xs q)) ∧ St F w (stars [memA g xs, drvA gq g (toldQ q)]) w' := by
  have HV : ∀ (bm low : Nat) (W : World), St F w (stars [memA g xs, box gq 77 (q.cells g bm low), mapA bm q.hs]) W → Calls Tryz.prog 43 #[.pointer (some ⟨gq, 0, none⟩)] W fun e w' => e = .returned (.agg #[.int .i64 (Sp.paO (cut4 xs q.dev)), .bool (Sp.paW (cut4 xs q.dev)), .int .i64 (Sp.paF (cut4 xs q.dev))]) ∧ St F w (stars [memA g xs, box gq 77 (q.cells g bm low), mapA bm q.hs]) w' := fun bm low W hS => by
    obtain ⟨F2, hA, hF2, hback⟩ := hS.twox 0 1 (by omega) (by simp)
    exact (event_v hA rfl rfl hq.dev).mono fun _ _ ⟨he, hs⟩ => ⟨he, hback _ _ _ hs⟩
  have HN := fun W => Sp.need_any (Sp.paO (cut4 xs q.dev)) (Sp.paF (cut4 xs q.dev)) (q.ta : Int) (q.na : Int) (q.size : Int) (Sp.paW (cut4 xs q.dev)) q.tw q.nw W
  unfold Sp.RB at HN
  unfold tellB
  by_cases hs : q.size < q.since
  · rw [if_pos hs]
    by_cases h0 : Sp.paF (cut4 xs q.dev) = 0
    · rw [show (Sp.paF (cut4 xs q.dev) == 0 || Sp.paF (cut4 xs q.dev) == 2) = true by rw [h0]; rfl]
      exact tell_zero h _ _ _ _ hs h0 HV HN
    · by_cases h2 : Sp.paF (cut4 xs q.dev) = 2
      · rw [show (Sp.paF (cut4 xs q.dev) == 0 || Sp.paF (cut4 xs q.dev) == 2) = true by rw [h2]; rfl]
        exact tell_two h _ _ _ _ hs h2 HV HN
      · rw [show (Sp.paF (cut4 xs q.dev) == 0 || Sp.paF (cut4 xs q.dev) == 2) = false by simp [h0, h2]]
        exact tell_not h _ _ _ _ hs h0 h2 HV HN
  · rw [if_neg hs]
    exact tell_need h _ _ _ _ hs HV HN
end Go.Proofs.YtbpgblmhacpjlaaGreat

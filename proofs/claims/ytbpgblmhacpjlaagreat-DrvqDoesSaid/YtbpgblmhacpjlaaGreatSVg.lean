/-
  drvq: Reap; no condition.
-/
import Derived.Test.YtbpgblmhacpjlaaGreatSVf
import Derived.BigRegion
namespace Go.Proofs.YtbpgblmhacpjlaaGreat
open Go.RowKit

/-- what Reap answers -/
def ReapP (F : Nat → Prop) (w : World) (gq g : Nat) (xs : List UInt8) (r : Int × Int × Bool × Int × Vs) (e : Ending) (w' : World) : Prop :=
  e = .returned (.tuple #[.int .i64 r.1, .int .i64 r.2.1, .bool r.2.2.1, .int .i64 r.2.2.2.1]) ∧ St F w (stars [memA g xs, drvA gq g r.2.2.2.2]) w'
theorem reap_results (f : Func) (w : World) (tmps : Array Value) (hf : f.results = Tryz.f8.results) {a b c d : Value} (h2 : tmps[2]?.getD undef = a) (h3 : tmps[3]?.getD undef = b) (h4 : tmps[4]?.getD undef = c) (h5 : tmps[5]?.getD undef = d) :
    (results f tmps).run Tryz.prog w = .ok (.tuple #[a, b, c, d]) w := by
  simp [results, hf, Tryz.results8, go_sem, h2, h3, h4, h5]
theorem lift_desc {F : Nat → Prop} {w : World} {gq g bm low : Nat} {xs : List UInt8} {q : Vs} (hq : q.Ok xs.length) (hx : xs.length ≤ 1048576) (W : World) (hS : St F w (stars [memA g xs, box gq 77 (q.cells g bm low), mapA bm q.hs]) W) :
    Calls Tryz.prog 36 #[.pointer (some ⟨gq, 0, none⟩), .agg #[.int .i64 (q.ba : Int), .bool q.bw]] W fun e w' => e = .returned (deAt xs (q.ring + 16 * q.ba)).v ∧ St F w (stars [memA g xs, box gq 77 (q.cells g bm low), mapA bm q.hs]) w' := by
  obtain ⟨F2, hA, hF2, hback⟩ := hS.twox 0 1 (by omega) (by simp)
  have := hq.r
  have := hq.ba
  exact (desc_v hA rfl rfl q.ba q.bw (by omega) (by omega)).mono fun _ _ ⟨he, hs⟩ => ⟨he, hback _ _ _ hs⟩
set_option maxRecDepth 100000 in
set_option maxHeartbeats 1600000 in
theorem reap_none {F : Nat → Prop} {w : World} {gq g : Nat} {xs : List UInt8} {q : Vs} (h : (stars [memA g xs, drvA gq g q]).P F w) (hq : q.Ok xs.length) (k : usedB (deAt xs (q.ring + 16 * q.ba)).f q.bw = false) :
    Calls Tryz.prog 8 #[.pointer (some ⟨gq, 0, none⟩)] w (ReapP F w gq g xs (0, 0, false, 0, q)) := by
  obtain ⟨bm, low, hlo, h'⟩ := drv_open h
  have S0 := St.start h'
  obtain ⟨F1, hM⟩ := S0.get 0 (by simp)
  have hx := memA_len hM
  have HD := lift_desc (F := F) (w := w) (g := g) (gq := gq) (bm := bm) (low := low) hq hx
  have hok := deAt_ok xs (q.ring + 16 * q.ba) (by have := hq.r; have := hq.ba; omega)
  have hb := S0.blk 1 (by simp) rfl
  have c7 : w.cell? ⟨gq, 7, none⟩ = some (.int .i64 (q.ba : Int)) := hb.cell 7
  have c8 : w.cell? ⟨gq, 8, none⟩ = some (.bool q.bw) := hb.cell 8
  obtain ⟨d, hd⟩ : ∃ d, deAt xs (q.ring + 16 * q.ba) = d := ⟨_, rfl⟩
  rw [hd] at HD k hok
  have HU := fun W => used_f d.f hok.f q.bw W
  rw [k] at HU
  have HU := Lib.hid HU
  have HD := Lib.hid HD
  have HS := Lib.hid S0
  have HLo := Lib.hid hlo
  clear h h' S0 hM hb hd hq hx hok hlo k
  unfold De.v at HD
  go_enter Tryz.func8, Tryz.ntmps8
  go_wp2_with fail
  refine (HD.out _ HS.out).mono ?_
  rintro e w1 ⟨rfl, S1⟩
  have S2 := S1.push 89 #[.int .u64 (d.a : Int), .int .u32 (d.n : Int), .int .i64 (d.id : Int), .int .i64 (d.f : Int)]
  have d8 : w1.cell? ⟨gq, 8, none⟩ = some (.bool q.bw) := (S1.blk 1 (by simp) rfl).cell 8
  have hlt := (S1.blk 1 (by simp) rfl).lt
  have hne := Nat.ne_of_lt hlt
  have S2 := Lib.hid S2
  clear S1 HS HD
  go_wp2_with fail
  go_quiet ((go_at_call 37; exact Calls.quiet_of_same ((HU.out _).mono fun _ _ hh => ⟨hh.1, hh.2.symm⟩)))
  go_wp2_with fail
  exact bodyPost_ret (v := .tuple #[.int .i64 0, .int .i64 0, .bool false, .int .i64 0]) (reap_results _ _ _ rfl rfl rfl rfl rfl) rfl ⟨rfl, drv_shut (S2.out.pop.drewN _) HLo.out⟩
theorem reaped_cells (q : Vs) (g bm low : Nat) {n' X i M : Nat} (hq : q.Ok n') (hX : q.hs.getD i 0 = X) (hp : 0 < X) :
    ((((q.cells g bm low).setIfInBounds 11 (.int .i64 (M : Int))).setIfInBounds 10 (.int .i64 ((q.free : Int) + (X : Int)))).setIfInBounds 7 (.int .i64 (stA q.size q.ba X : Int))).setIfInBounds 8 (.bool (stW q.size q.ba X q.bw)) = (q.reaped i).cells g bm M := by
  have h1 := free_le hq
  have h2 := sum_set q.hs i 0 (held_lt (by rw [hX]; exact hp))
  have h3 := le_sum q.hs i
  have h4 := hq.sum
  have e1 : ((q.free : Int) + (X : Int)) = (((q.reaped i).free : Nat) : Int) := by
    have : (q.reaped i).free = q.size - (q.hs.set i 0).sum := rfl
    rw [this]; omega
  rw [e1, ← hX]
  rfl
theorem reaped_st {F : Nat → Prop} {w W : World} {A B : As} {gq g bm low n' X i M : Nat} {q : Vs} (hq : q.Ok n') (hX : q.hs.getD i 0 = X) (hp : 0 < X) (hl : LowOk low q.hs) (hM : min low i = M)
    (h : St F w (stars [A, B, box gq 77 (((((q.cells g bm low).setIfInBounds 11 (.int .i64 (M : Int))).setIfInBounds 10 (.int .i64 ((q.free : Int) + (X : Int)))).setIfInBounds 7 (.int .i64 (stA q.size q.ba X : Int))).setIfInBounds 8 (.bool (stW q.size q.ba X q.bw))), mapA bm (q.hs.set i 0)]) W) : St F w (stars [B, drvA gq g (q.reaped i)]) W := by
  rw [reaped_cells q g bm low hq hX hp] at h
  refine drv_shut (bm := bm) (low := M) h.pop ?_
  rw [← hM]
  exact low_reap hl (held_lt (by rw [hX]; exact hp))
set_option maxRecDepth 100000 in
set_option maxHeartbeats 3200000 in
theorem reap_bad {F : Nat → Prop} {w : World} {gq g : Nat} {xs : List UInt8} {q : Vs} (h : (stars [memA g xs, drvA gq g q]).P F w) (hq : q.Ok xs.length) (k : usedB (deAt xs (q.ring + 16 * q.ba)).f q.bw = true) (kh : ¬ 0 < q.hs.getD (deAt xs (q.ring + 16 * q.ba)).id 0) :
    Calls Tryz.prog 8 #[.pointer (some ⟨gq, 0, none⟩)] w (ReapP F w gq g xs (0, 0, false, 150, q)) := by
  obtain ⟨bm, low, hlo, h'⟩ := drv_open h
  have S0 := St.start h'
  obtain ⟨F1, hM⟩ := S0.get 0 (by simp)
  have hx := memA_len hM
  have HD := lift_desc (F := F) (w := w) (g := g) (gq := gq) (bm := bm) (low := low) hq hx
  have hok := deAt_ok xs (q.ring + 16 * q.ba) (by have := hq.r; have := hq.ba; omega)
  have hb := S0.blk 1 (by simp) rfl
  have c7 : w.cell? ⟨gq, 7, none⟩ = some (.int .i64 (q.ba : Int)) := hb.cell 7
  have c8 : w.cell? ⟨gq, 8, none⟩ = some (.bool q.bw) := hb.cell 8
  obtain ⟨d, hd⟩ : ∃ d, deAt xs (q.ring + 16 * q.ba) = d := ⟨_, rfl⟩
  rw [hd] at HD k hok kh
  have HU := fun W => used_f d.f hok.f q.bw W
  rw [k] at HU
  have HU := Lib.hid HU
  have HD := Lib.hid HD
  have HS := Lib.hid S0
  have HLo := Lib.hid hlo
  have HQ := Lib.hid hq
  have hdi := hok.id
  have hdn := hok.n
  clear h h' S0 hM hb hd hq hx hok hlo k
  unfold De.v at HD
  go_enter Tryz.func8, Tryz.ntmps8
  go_wp2_with fail
  refine (HD.out _ HS.out).mono ?_
  rintro e w1 ⟨rfl, S1⟩
  have S2 := S1.push 89 #[.int .u64 (d.a : Int), .int .u32 (d.n : Int), .int .i64 (d.id : Int), .int .i64 (d.f : Int)]
  have hb1 := S1.blk 1 (by simp) rfl
  have d8 : w1.cell? ⟨gq, 8, none⟩ = some (.bool q.bw) := hb1.cell 8
  have d9 : w1.cell? ⟨gq, 9, none⟩ = some (.map (some bm)) := hb1.cell 9
  have hlt := hb1.lt
  have hne := Nat.ne_of_lt hlt
  have S2 := Lib.hid S2
  clear S1 HS HD hb1
  go_wp2_with fail
  go_quiet ((go_at_call 37; exact Calls.quiet_of_same ((HU.out _).mono fun _ _ hh => ⟨hh.1, hh.2.symm⟩)))
  have Sa := S2.out.drewN nq
  obtain ⟨Wa, hWa⟩ : ∃ Wa, (w1.alloc (.cells #[.int .u64 (d.a : Int), .int .u32 (d.n : Int), .int .i64 (d.id : Int), .int .i64 (d.f : Int)] 89)).drewN nq = Wa := ⟨_, rfl⟩
  obtain ⟨K, hK⟩ : ∃ K, w1.heap.size = K := ⟨_, rfl⟩
  rw [hWa] at Sa ⊢
  rw [hK] at Sa ⊢
  clear d8 d9 hlt hne HU hWa hK c7 c8 S2
  have ba_ := Sa.blk 2 (by simp) rfl
  have ka_ := Sa.blk 0 (by simp) rfl
  have d9 : Wa.cell? ⟨gq, 9, none⟩ = some (.map (some bm)) := ba_.cell 9
  have k2 : Wa.cell? ⟨K, 2, none⟩ = some (.int .i64 (d.id : Int)) := ka_.cell 2
  have hlt := ba_.lt
  have hne := Nat.ne_of_lt hlt
  have hltk := ka_.lt
  have hnek := Nat.ne_of_lt hltk
  obtain ⟨F3, hm3⟩ := Sa.get 3 (by simp)
  have hlk : ∀ n, (Instr.lookup 75 (.map (some bm)) (.int .i64 (d.id : Int)) true).run Tryz.prog (Wa.drewN n) = .ok (.tuple #[.int .i64 (q.hs.getD d.id 0 : Int), .bool false]) (Wa.drewN n) := fun n => by
    have hm : MapAt bm q.hs (Wa.drewN n) := hm3.1.same rfl
    rw [hm.lookOk d.id (by omega), decide_eq_false kh]
  have Sa := Lib.hid Sa
  clear ba_ ka_ hm3
  go_wp2_with fail
  go_quiet (fail)
  go_wp2_with fail
  exact bodyPost_ret (v := .tuple #[.int .i64 0, .int .i64 0, .bool false, .int .i64 150]) (reap_results _ _ _ rfl rfl rfl rfl rfl) rfl ⟨rfl, drv_shut (Sa.out.pop.drewN _) HLo.out⟩
set_option maxRecDepth 100000 in
set_option maxHeartbeats 3200000 in
theorem reap_ok {F : Nat → Prop} {w : World} {gq g : Nat} {xs : List UInt8} {q : Vs} (h : (stars [memA g xs, drvA gq g q]).P F w) (hq : q.Ok xs.length) (k : usedB (deAt xs (q.ring + 16 * q.ba)).f q.bw = true) (kh : 0 < q.hs.getD (deAt xs (q.ring + 16 * q.ba)).id 0) :
    Calls Tryz.prog 8 #[.pointer (some ⟨gq, 0, none⟩)] w (ReapP F w gq g xs (((deAt xs (q.ring + 16 * q.ba)).id : Int), ((deAt xs (q.ring + 16 * q.ba)).n : Int), true, 0, q.reaped (deAt xs (q.ring + 16 * q.ba)).id)) := by
  obtain ⟨bm, low, hlo, h'⟩ := drv_open h
  have S0 := St.start h'
  obtain ⟨F1, hM⟩ := S0.get 0 (by simp)
  have hx := memA_len hM
  have HD := lift_desc (F := F) (w := w) (g := g) (gq := gq) (bm := bm) (low := low) hq hx
  have hok := deAt_ok xs (q.ring + 16 * q.ba) (by have := hq.r; have := hq.ba; omega)
  have hb := S0.blk 1 (by simp) rfl
  have c7 : w.cell? ⟨gq, 7, none⟩ = some (.int .i64 (q.ba : Int)) := hb.cell 7
  have c8 : w.cell? ⟨gq, 8, none⟩ = some (.bool q.bw) := hb.cell 8
  obtain ⟨d, hd⟩ : ∃ d, deAt xs (q.ring + 16 * q.ba) = d := ⟨_, rfl⟩
  rw [hd] at HD k hok kh ⊢
  obtain ⟨X, hX⟩ : ∃ X, q.hs.getD d.id 0 = X := ⟨_, rfl⟩
  rw [hX] at kh
  have HX := Lib.hid hX
  have HU := fun W => used_f d.f hok.f q.bw W
  rw [k] at HU
  have HU := Lib.hid HU
  have HD := Lib.hid HD
  have HS := Lib.hid S0
  have HLo := Lib.hid hlo
  have HQ := Lib.hid hq
  have hdi := hok.id
  have hdn := hok.n
  clear h h' S0 hM hb hd hX hq hx hok hlo k
  unfold De.v at HD
  go_enter Tryz.func8, Tryz.ntmps8
  go_wp2_with fail
  refine (HD.out _ HS.out).mono ?_
  rintro e w1 ⟨rfl, S1⟩
  have S2 := S1.push 89 #[.int .u64 (d.a : Int), .int .u32 (d.n : Int), .int .i64 (d.id : Int), .int .i64 (d.f : Int)]
  have hb1 := S1.blk 1 (by simp) rfl
  have d8 : w1.cell? ⟨gq, 8, none⟩ = some (.bool q.bw) := hb1.cell 8
  have d9 : w1.cell? ⟨gq, 9, none⟩ = some (.map (some bm)) := hb1.cell 9
  have hlt := hb1.lt
  have hne := Nat.ne_of_lt hlt
  have S2 := Lib.hid S2
  clear S1 HS HD hb1
  go_wp2_with fail
  go_quiet ((go_at_call 37; exact Calls.quiet_of_same ((HU.out _).mono fun _ _ hh => ⟨hh.1, hh.2.symm⟩)))
  have Sa := S2.out.drewN nq
  obtain ⟨Wa, hWa⟩ : ∃ Wa, (w1.alloc (.cells #[.int .u64 (d.a : Int), .int .u32 (d.n : Int), .int .i64 (d.id : Int), .int .i64 (d.f : Int)] 89)).drewN nq = Wa := ⟨_, rfl⟩
  obtain ⟨K, hK⟩ : ∃ K, w1.heap.size = K := ⟨_, rfl⟩
  rw [hWa] at Sa ⊢
  rw [hK] at Sa ⊢
  clear d8 d9 hlt hne HU hWa hK c7 c8 S2
  have ba_ := Sa.blk 2 (by simp) rfl
  have ka_ := Sa.blk 0 (by simp) rfl
  have d9 : Wa.cell? ⟨gq, 9, none⟩ = some (.map (some bm)) := ba_.cell 9
  have k2 : Wa.cell? ⟨K, 2, none⟩ = some (.int .i64 (d.id : Int)) := ka_.cell 2
  have hlt := ba_.lt
  have hne := Nat.ne_of_lt hlt
  have hltk := ka_.lt
  have hnek := Nat.ne_of_lt hltk
  obtain ⟨F3, hm3⟩ := Sa.get 3 (by simp)
  have hlk : ∀ n, (Instr.lookup 75 (.map (some bm)) (.int .i64 (d.id : Int)) true).run Tryz.prog (Wa.drewN n) = .ok (.tuple #[.int .i64 (X : Int), .bool true]) (Wa.drewN n) := fun n => by
    have hm : MapAt bm q.hs (Wa.drewN n) := hm3.1.same rfl
    rw [hm.lookOk d.id (by omega), HX.out, decide_eq_true kh]
  have Sa := Lib.hid Sa
  clear ba_ ka_ hm3
  go_wp2_with fail
  go_quiet (fail)
  have S3 := Sa.out.drewN nq
  obtain ⟨W3, hW3⟩ : ∃ W3, Wa.drewN nq = W3 := ⟨_, rfl⟩
  rw [hW3] at S3 ⊢
  clear hlk Sa d9 k2 hlt hne hltk hnek hW3
  have hX2 : X ≤ q.size := by have := HQ.out.sum; have := le_sum q.hs d.id; have := HX.out; omega
  obtain ⟨M, hM⟩ : ∃ M, min low d.id = M := ⟨_, rfl⟩
  have vmin : (if (d.id : Int) < (low : Int) then (d.id : Int) else (low : Int)) = (M : Int) := by rw [← hM]; split <;> omega
  have vmin2 : (if d.id < low then (d.id : Int) else (low : Int)) = (M : Int) := by rw [← hM]; split <;> omega
  have HMn := Lib.hid hM
  clear hM
  have hid := held_lt (hs := q.hs) (i := d.id) (by rw [HX.out]; exact kh)
  obtain ⟨F4, hm4, hback⟩ := S3.drew.at 3 (by simp)
  obtain ⟨w4, hrun, hS4⟩ := mapA_drop hm4 hid (by have := HQ.out.hl; have := HQ.out.s2; omega) 0
  have S4 : St F w (stars [box K 89 #[.int .u64 (d.a : Int), .int .u32 (d.n : Int), .int .i64 (d.id : Int), .int .i64 (d.f : Int)], memA g xs, box gq 77 (q.cells g bm low), mapA bm (q.hs.set d.id 0)]) w4 := hback _ _ hS4
  have hb3 := S3.blk 2 (by simp) rfl
  have hk3 := S3.blk 0 (by simp) rfl
  have d9 : W3.cell? ⟨gq, 9, none⟩ = some (.map (some bm)) := hb3.cell 9
  have k2 : W3.cell? ⟨K, 2, none⟩ = some (.int .i64 (d.id : Int)) := hk3.cell 2
  have hlt := hb3.lt
  have hne := Nat.ne_of_lt hlt
  have hltk := hk3.lt
  have hnek := Nat.ne_of_lt hltk
  have hS6 : St F w (stars [box K 89 #[.int .u64 (d.a : Int), .int .u32 (d.n : Int), .int .i64 (d.id : Int), .int .i64 (d.f : Int)], memA g xs, box gq 77 (((q.cells g bm low).setIfInBounds 11 (.int .i64 (M : Int))).setIfInBounds 10 (.int .i64 ((q.free : Int) + (X : Int)))), mapA bm (q.hs.set d.id 0)]) ((w4.setCell ⟨gq, 11, none⟩ (.int .i64 (M : Int))).setCell ⟨gq, 10, none⟩ (.int .i64 ((q.free : Int) + (X : Int)))).drew := ((S4.put 2 (by simp) rfl 11 (.int .i64 (M : Int))).put 2 (by simp) rfl 10 (.int .i64 ((q.free : Int) + (X : Int)))).drew
  have S6 := Lib.hid hS6
  have hb4 := S4.blk 2 (by simp) rfl
  have hk4 := S4.blk 0 (by simp) rfl
  have e11 : w4.cell? ⟨gq, 11, none⟩ = some (.int .i64 (low : Int)) := hb4.cell 11
  have e10 : w4.cell? ⟨gq, 10, none⟩ = some (.int .i64 (q.free : Int)) := hb4.cell 10
  have e7 : w4.cell? ⟨gq, 7, none⟩ = some (.int .i64 (q.ba : Int)) := hb4.cell 7
  have e8 : w4.cell? ⟨gq, 8, none⟩ = some (.bool q.bw) := hb4.cell 8
  have k42 : w4.cell? ⟨K, 2, none⟩ = some (.int .i64 (d.id : Int)) := hk4.cell 2
  have f11 := hb4.frozen 11
  have f10 := hb4.frozen 10
  have hlt4 := hb4.lt
  have hne4 := Nat.ne_of_lt hlt4
  have hltk4 := hk4.lt
  have hnek4 := Nat.ne_of_lt hltk4
  have hkq := S4.ne 0 2 (by omega) (by simp) rfl rfl
  have hqk := hkq.symm
  have v1 : IntKind.i64.wrap ((q.free : Int) + (X : Int)) = (q.free : Int) + (X : Int) := by have := free_le HQ.out; have := HQ.out.s2; rw [IntKind.wrap_i64]; omega
  have HA : ∀ W, Blk W gq 77 (((q.cells g bm low).setIfInBounds 11 (.int .i64 (M : Int))).setIfInBounds 10 (.int .i64 ((q.free : Int) + (X : Int)))) → Calls Tryz.prog 30 #[.pointer (some ⟨gq, 0, none⟩), .agg #[.int .i64 (q.ba : Int), .bool q.bw], .int .i64 (X : Int)] W fun e w' => e = .returned (.agg #[.int .i64 (stA q.size q.ba X : Int), .bool (stW q.size q.ba X q.bw)]) ∧ Below W.heap.size W w' := fun W hB => after_v (n := q.size) ⟨hB.lt, hB.cell 2⟩ q.ba X q.bw HQ.out.s1 HQ.out.s2 HQ.out.ba hX2
  have HA := Lib.hid HA
  clear hb3 hk3 S3 hm4 hback hS4 S4 hS6 hb4 hk4
  go_wp2_with fail
  go_region
  clear hlt hne hltk hnek d9 k2
  go_wp2_with fail
  go_region
  go_wp2_with fail
  refine (HA.out _ (S6.out.blk 2 (by simp) rfl)).mono ?_
  rintro e w7 ⟨rfl, hb⟩
  have S7 := S6.out.below hb
  have b7 := S7.blk 2 (by simp) rfl
  have k7 := S7.blk 0 (by simp) rfl
  have g7 : w7.cell? ⟨gq, 7, none⟩ = some (.int .i64 (q.ba : Int)) := b7.cell 7
  have g8 : w7.cell? ⟨gq, 8, none⟩ = some (.bool q.bw) := b7.cell 8
  have f7 := b7.frozen 7
  have f8 := b7.frozen 8
  have k71 : w7.cell? ⟨K, 1, none⟩ = some (.int .u32 (d.n : Int)) := k7.cell 1
  have k72 : w7.cell? ⟨K, 2, none⟩ = some (.int .i64 (d.id : Int)) := k7.cell 2
  have hlt7 := b7.lt
  have hne7 := Nat.ne_of_lt hlt7
  have hltk7 := k7.lt
  have hnek7 := Nat.ne_of_lt hltk7
  have S8 := reaped_st HQ.out HX.out kh HLo.out HMn.out ((S7.put 2 (by simp) rfl 7 (.int .i64 (stA q.size q.ba X : Int))).put 2 (by simp) rfl 8 (.bool (stW q.size q.ba X q.bw)))
  have S8 := Lib.hid S8
  clear S7 b7 k7 hb S6 HA e11 e10 e7 e8 k42 f11 f10 hlt4 hne4 hltk4 hnek4
  have v2 : IntKind.i64.wrap (d.n : Int) = (d.n : Int) := by rw [IntKind.wrap_i64]; omega
  go_wp2_with fail
  go_quiet (fail)
  go_wp2_with fail
  exact bodyPost_ret (v := .tuple #[.int .i64 (d.id : Int), .int .i64 (d.n : Int), .bool true, .int .i64 0]) (reap_results _ _ _ rfl rfl rfl rfl rfl) rfl ⟨rfl, S8.out.drewN _⟩
theorem reap_v {F : Nat → Prop} {w : World} {gq g : Nat} {xs : List UInt8} {q : Vs} (h : (stars [memA g xs, drvA gq g q]).P F w) (hq : q.Ok xs.length) (r : Int × Int × Bool × Int × Vs) (hr : reapC xs q = r) :
    Calls Tryz.prog 8 #[.pointer (some ⟨gq, 0, none⟩)] w (ReapP F w gq g xs r) := by
  subst hr
  unfold reapC
  split
  · rename_i k
    split
    · rename_i kh; exact reap_ok h hq k kh
    · rename_i kh; exact reap_bad h hq k kh
  · rename_i k; exact reap_none h hq (by simpa using k)
end Go.Proofs.YtbpgblmhacpjlaaGreat

/-
  event, Tell, Ask of the code's queue: what they answer, and what they leave.
-/
import Derived.Test.YtoblemgeacllkaaDq10
namespace Go.Proofs.Ytoblemgeacllkaa
open Go.RowKit

def cut4 (xs : List UInt8) (n : Nat) : ByteArray := ⟨((xs.drop n).take 4).toArray⟩
theorem cut4_size (xs : List UInt8) (n : Nat) (h : n + 4 ≤ xs.length) : (cut4 xs n).size = 4 := by
  show ((xs.drop n).take 4).toArray.size = 4
  simp; omega
theorem ev_results (f : Func) (w : World) (tmps : Array Value) (t : Tmp) (gf : Nat) (hf : f.results = #[.cell t 37]) (h : tmps[t]?.getD undef = .pointer (some ⟨gf, 0, none⟩)) (a b d : Value)
    (hF : Blk w gf 37 #[a, b, d]) : (results f tmps).run Try.prog w = .ok (.agg #[a, b, d]) w := by
  have c0 := hF.cell 0
  have c1 := hF.cell 1
  have c2 := hF.cell 2
  simp only [List.getElem?_toArray, List.getElem?_cons_zero, List.getElem?_cons_succ] at c0 c1 c2
  simp [results, hf, go_sem, h, c0, c1, c2]
section
variable {c : Ctx} {wE w w' : World}
theorem Rm.put3 (h : Rm c wE w) {k : Nat} {t : TypeId} {a0 a1 a2 : Value} (hk : Blk w k t #[a0, a1, a2]) (hE : wE.heap.size ≤ k) (a : t ≠ 91) (b : t ≠ 5) (d : t ≠ 111) (e : t ≠ 93) (b0 b1 b2 : Value) :
    Rm c wE (((w.setCell ⟨k, 0, none⟩ b0).setCell ⟨k, 1, none⟩ b1).setCell ⟨k, 2, none⟩ b2) ∧ Blk (((w.setCell ⟨k, 0, none⟩ b0).setCell ⟨k, 1, none⟩ b1).setCell ⟨k, 2, none⟩ b2) k t #[b0, b1, b2] := by
  have k1 := hk.put 0 b0
  have k2 := k1.put 1 b1
  have k3 := k2.put 2 b2
  exact ⟨((h.put hk hE a b d e 0 b0).put k1 hE a b d e 1 b1).put k2 hE a b d e 2 b2, by simpa using k3⟩
theorem Rm.two (h : Rm c wE w) : (w.cell? ⟨c.gq, 0, none⟩ = some (.pointer (some ⟨c.g, 0, none⟩)) ∧ w.cell? ⟨c.gq, 3, none⟩ = some (.int .i64 (c.q.drv : Int))) := ⟨h.cells.1, h.cells.2.2.2.1⟩
end
set_option maxHeartbeats 1600000 in
theorem event_any {c : Ctx} {wE w : World} (h : Rm c wE w) (hd : c.q.drv + 4 ≤ c.xs.length) :
    Calls Try.prog 49 #[.pointer (some ⟨c.gq, 0, none⟩)] w fun e w' => e = .returned (.agg #[.int .i64 (Sp.paO (cut4 c.xs c.q.drv)), .bool (Sp.paW (cut4 c.xs c.q.drv)), .int .i64 (Sp.paF (cut4 c.xs c.q.drv))]) ∧ Rm c w w' := by
  have HE := Lib.hid h.enter
  have HP := fun W => Sp.parse_any (cut4 c.xs c.q.drv) W
  have hz := cut4_size c.xs c.q.drv hd
  have e0 : Sp.paE (cut4 c.xs c.q.drv) = 0 := by unfold Sp.paE; rw [if_pos hz]
  rw [e0] at HP
  have HR := fun W (h : Rm c W W) => h.read c.q.drv 4 hd
  rw [show (⟨((c.xs.drop c.q.drv).take 4).toArray⟩ : ByteArray) = cut4 c.xs c.q.drv from rfl, show ((4 : Nat) : Int) = 4 from rfl] at HR
  unfold Sp.RP at HP
  generalize Sp.paO (cut4 c.xs c.q.drv) = o at *
  generalize Sp.paW (cut4 c.xs c.q.drv) = v at *
  generalize Sp.paF (cut4 c.xs c.q.drv) = f at *
  generalize cut4 c.xs c.q.drv = S at *
  have HP := Lib.hid HP
  have HR := Lib.hid HR
  have hlt := h.lt
  have hne := Nat.ne_of_lt hlt
  obtain ⟨p0, p3⟩ := h.two
  clear h hd hz e0
  go_enter Try.func49, Try.ntmps49
  go_wp2_with fail
  have R0 := Lib.hid (HE.out.alloc (.cells #[.int .i64 0, .bool false, .int .i64 0] 37)).drew
  have k0 : Blk (w.alloc (.cells #[.int .i64 0, .bool false, .int .i64 0] 37)).drew w.heap.size 37 #[.int .i64 0, .bool false, .int .i64 0] := Blk.new _ _ _
  go_region_held3 (fun W => W.cell? ⟨c.gq, 0, none⟩ = some (.pointer (some ⟨c.g, 0, none⟩)) ∧ W.cell? ⟨c.gq, 3, none⟩ = some (.int .i64 (c.q.drv : Int)))
    (with_reducible (first | exact R0.out.two | exact hr.two))
    ((go_at_call 59; ((with_reducible refine (HR.out _ R0.out.enter).mono ?_); rintro e w1 ⟨rfl, hr⟩)))
  have R1 := R0.out.leave hr
  have k1 := k0.keep hr.keep (by decide) (by decide) (by decide)
  clear hr k0 p0 p3
  go_wp2_with fail
  refine (HP.out _).mono ?_
  rintro e w2 ⟨rfl, hq⟩
  have R2 := R1.below hq
  have k2 := k1.same (hq.block _ k1.lt)
  have f0 := k2.frozen 0
  have f1 := k2.frozen 1
  have f2 := k2.frozen 2
  have c0 := k2.cell 0
  have c1 := k2.cell 1
  have c2 := k2.cell 2
  simp only [List.getElem?_toArray, List.getElem?_cons_zero, List.getElem?_cons_succ] at c0 c1 c2
  have hl2 := k2.lt
  have hn2 := Nat.ne_of_lt hl2
  obtain ⟨R3, k3⟩ := R2.put3 k2 (Nat.le_refl _) (by decide) (by decide) (by decide) (by decide) (.int .i64 o) (.bool v) (.int .i64 f)
  have R3 := Lib.hid R3
  have k3 := Lib.hid k3
  clear R1 R2 k1 k2 hq
  go_wp2_with fail
  exact bodyPost_ret (v := .agg #[.int .i64 o, .bool v, .int .i64 f]) (ev_results _ _ _ 2 w.heap.size rfl rfl _ _ _ (k3.out.alloc _)) rfl ⟨rfl, R3.out.alloc _⟩

/-! Tell -/
def tellB (xs : List UInt8) (q : Qs) : Bool :=
  if q.size < q.since then (Sp.paF (cut4 xs q.drv) == 0 || Sp.paF (cut4 xs q.drv) == 2)
  else Sp.needV (Sp.paO (cut4 xs q.drv)) (Sp.paW (cut4 xs q.drv)) (Sp.paF (cut4 xs q.drv)) q.ta q.tw q.ba q.bw q.size
def toldQ (q : Qs) : Qs := { q with ta := q.ba, tw := q.bw, since := 0 }
/-- Tell: the answer, the queue then -/
def tellC (xs : List UInt8) (q : Qs) : Bool × Qs := if q.broken then (false, q) else (tellB xs q, toldQ q)
theorem tellC_ok {xs : List UInt8} {q : Qs} {n : Nat} (hq : q.Ok n) : (tellC xs q).2.Ok n ∧ (tellC xs q).2.since ≤ q.since := by
  unfold tellC
  by_cases h : q.broken = true
  · rw [if_pos h]; exact ⟨hq, Nat.le_refl _⟩
  · rw [if_neg h]; exact ⟨⟨hq.s1, hq.s2, hq.r, hq.drv, hq.dev, hq.na, hq.ba, hq.ba, hq.out⟩, Nat.zero_le _⟩
/-- Tell under way: its event in a variable -/
structure TE (c : Ctx) (w : World) (k : Nat) (o : Int) (v : Bool) (f : Int) (W : World) : Prop where
  rm : Rm c w W
  box : Blk W k 37 #[.int .i64 o, .bool v, .int .i64 f]
def TEF (c : Ctx) (w : World) (k : Nat) (o : Int) (v : Bool) (f : Int) (W : World) : Prop :=
  (W.cell? ⟨k, 0, none⟩ = some (.int .i64 o) ∧ W.cell? ⟨k, 1, none⟩ = some (.bool v) ∧ W.cell? ⟨k, 2, none⟩ = some (.int .i64 f) ∧ W.cell? ⟨c.gq, 10, none⟩ = some (.int .i64 (c.q.ta : Int)) ∧ W.cell? ⟨c.gq, 11, none⟩ = some (.bool c.q.tw) ∧ W.cell? ⟨c.gq, 7, none⟩ = some (.int .i64 (c.q.ba : Int)) ∧ W.cell? ⟨c.gq, 8, none⟩ = some (.bool c.q.bw) ∧ W.cell? ⟨c.gq, 2, none⟩ = some (.int .i64 (c.q.size : Int))) ∧ TE c w k o v f W
section
variable {c : Ctx} {w W W' : World} {k : Nat} {o f : Int} {v : Bool}
theorem TE.below (h : TE c w k o v f W) (hq : Below W.heap.size W W') : TE c w k o v f W' := ⟨h.rm.below hq, h.box.same (hq.block _ h.box.lt)⟩
theorem TE.drew (h : TE c w k o v f W) : TE c w k o v f W.drew := h.below (Below.refl _ _).drew
theorem TEF.of (h : TE c w k o v f W) : TEF c w k o v f W := ⟨⟨h.box.cell 0, h.box.cell 1, h.box.cell 2, h.rm.blk.cell 10, h.rm.blk.cell 11, h.rm.blk.cell 7, h.rm.blk.cell 8, h.rm.blk.cell 2⟩, h⟩
end
set_option maxRecDepth 100000 in
set_option maxHeartbeats 3200000 in
theorem tell_need {c : Ctx} {wE w : World} (h : Rm c wE w) (hb : c.q.broken = false) (o : Int) (v : Bool) (f : Int) (B : Bool) (hs : ¬ c.q.size < c.q.since)
    (HV : ∀ W, Rm c W W → Calls Try.prog 49 #[.pointer (some ⟨c.gq, 0, none⟩)] W fun e w' => e = .returned (.agg #[.int .i64 o, .bool v, .int .i64 f]) ∧ Rm c W w')
    (HN : ∀ W, Calls Try.prog 50 #[.agg #[.int .i64 o, .bool v, .int .i64 f], .agg #[.int .i64 (c.q.ta : Int), .bool c.q.tw], .agg #[.int .i64 (c.q.ba : Int), .bool c.q.bw], .int .i64 (c.q.size : Int)] W fun e w' => e = .returned (.bool B) ∧ Below W.heap.size W w') :
    Calls Try.prog 16 #[.pointer (some ⟨c.gq, 0, none⟩)] w fun e w' => e = .returned (.bool B) ∧ Qn c (toldQ c.q) c.xs w' := by
  have hB : w.cell? ⟨c.gq, 13, none⟩ = some (.bool false) := by rw [← hb]; exact h.blk.cell 13
  have HE := Lib.hid h.enter
  have HV := Lib.hid HV
  have HN := Lib.hid HN
  clear h hb
  go_enter Try.func16, Try.ntmps16
  go_wp2_with fail
  refine (HV.out _ HE.out).mono ?_
  rintro e w1 ⟨rfl, R1⟩
  clear hB
  have hle := R1.keep.size
  have T0 : TE c w w1.heap.size o v f (w1.alloc (.cells #[.int .i64 o, .bool v, .int .i64 f] 37)) := ⟨R1.alloc _, Blk.new _ _ _⟩
  have hlt := R1.lt
  have hne := Nat.ne_of_lt hlt
  clear R1
  go_wp2_with fail
  obtain ⟨W0, hW0⟩ : ∃ W0, w1.alloc (.cells #[.int .i64 o, .bool v, .int .i64 f] 37) = W0 := ⟨_, rfl⟩
  obtain ⟨K, hK⟩ : ∃ K, w1.heap.size = K := ⟨_, rfl⟩
  rw [hW0] at T0 ⊢
  rw [hK] at T0 ⊢
  clear hW0 hK hlt hne hle
  have T0 := Lib.hid T0
  go_region_held3 (fun W => (W.cell? ⟨K, 0, none⟩ = some (.int .i64 o) ∧ W.cell? ⟨K, 1, none⟩ = some (.bool v) ∧ W.cell? ⟨K, 2, none⟩ = some (.int .i64 f) ∧ W.cell? ⟨c.gq, 10, none⟩ = some (.int .i64 (c.q.ta : Int)) ∧ W.cell? ⟨c.gq, 11, none⟩ = some (.bool c.q.tw) ∧ W.cell? ⟨c.gq, 7, none⟩ = some (.int .i64 (c.q.ba : Int)) ∧ W.cell? ⟨c.gq, 8, none⟩ = some (.bool c.q.bw) ∧ W.cell? ⟨c.gq, 2, none⟩ = some (.int .i64 (c.q.size : Int))) ∧ TE c w K o v f W)
    ((refine (id (α := TEF c w K o v f _) ?_); with_reducible (first | exact TEF.of T0.out.drew | exact TEF.of (T0.out.drew.below hq))))
    ((go_at_call 50; ((with_reducible refine (HN.out _).mono ?_); rintro e w2 ⟨rfl, hq⟩)))
  have T2 := T0.out.drew.below hq
  clear hq
  have b2 : w2.cell? ⟨c.gq, 2, none⟩ = some (.int .i64 (c.q.size : Int)) := T2.rm.blk.cell 2
  have b12 : w2.cell? ⟨c.gq, 12, none⟩ = some (.int .i64 (c.q.since : Int)) := T2.rm.blk.cell 12
  have T2 := Lib.hid T2
  go_wp2_with fail
  go_quiet (fail)
  have T3 := T2.out.below (below_drewN (Below.refl _ _) nq)
  generalize World.drewN w2 nq = W3 at *
  clear b2 b12 T2
  have b7 : W3.cell? ⟨c.gq, 7, none⟩ = some (.int .i64 (c.q.ba : Int)) := T3.rm.blk.cell 7
  have b8 : W3.cell? ⟨c.gq, 8, none⟩ = some (.bool c.q.bw) := T3.rm.blk.cell 8
  have b10 : W3.cell? ⟨c.gq, 10, none⟩ = some (.int .i64 (c.q.ta : Int)) := T3.rm.blk.cell 10
  have b11 : W3.cell? ⟨c.gq, 11, none⟩ = some (.bool c.q.tw) := T3.rm.blk.cell 11
  have b12 : W3.cell? ⟨c.gq, 12, none⟩ = some (.int .i64 (c.q.since : Int)) := T3.rm.blk.cell 12
  have f10 := T3.rm.blk.frozen 10
  have f11 := T3.rm.blk.frozen 11
  have f12 := T3.rm.blk.frozen 12
  have k2 : W3.cell? ⟨K, 2, none⟩ = some (.int .i64 f) := T3.box.cell 2
  have Q3 := (((Qn.of T3.rm).set 10 (.int .i64 (c.q.ba : Int)) (q2 := { c.q with ta := c.q.ba }) rfl).set 11 (.bool c.q.bw) (q2 := { c.q with ta := c.q.ba, tw := c.q.bw }) rfl).set 12 (.int .i64 0) (q2 := toldQ c.q) rfl
  have Q3 := Lib.hid Q3
  clear T3
  go_wp2_with fail
  go_ret
  exact ⟨rfl, Q3.out⟩
set_option maxRecDepth 100000 in
set_option maxHeartbeats 3200000 in
theorem tell_zero {c : Ctx} {wE w : World} (h : Rm c wE w) (hb : c.q.broken = false) (o : Int) (v : Bool) (f : Int) (B : Bool) (hs : c.q.size < c.q.since) (hf : f = 0)
    (HV : ∀ W, Rm c W W → Calls Try.prog 49 #[.pointer (some ⟨c.gq, 0, none⟩)] W fun e w' => e = .returned (.agg #[.int .i64 o, .bool v, .int .i64 f]) ∧ Rm c W w')
    (HN : ∀ W, Calls Try.prog 50 #[.agg #[.int .i64 o, .bool v, .int .i64 f], .agg #[.int .i64 (c.q.ta : Int), .bool c.q.tw], .agg #[.int .i64 (c.q.ba : Int), .bool c.q.bw], .int .i64 (c.q.size : Int)] W fun e w' => e = .returned (.bool B) ∧ Below W.heap.size W w') :
    Calls Try.prog 16 #[.pointer (some ⟨c.gq, 0, none⟩)] w fun e w' => e = .returned (.bool true) ∧ Qn c (toldQ c.q) c.xs w' := by
  have hB : w.cell? ⟨c.gq, 13, none⟩ = some (.bool false) := by rw [← hb]; exact h.blk.cell 13
  have HE := Lib.hid h.enter
  have HV := Lib.hid HV
  have HN := Lib.hid HN
  have f0 : (f == 0) = true := by simp [hf]
  clear hf
  clear h hb
  go_enter Try.func16, Try.ntmps16
  go_wp2_with fail
  refine (HV.out _ HE.out).mono ?_
  rintro e w1 ⟨rfl, R1⟩
  clear hB
  have hle := R1.keep.size
  have T0 : TE c w w1.heap.size o v f (w1.alloc (.cells #[.int .i64 o, .bool v, .int .i64 f] 37)) := ⟨R1.alloc _, Blk.new _ _ _⟩
  have hlt := R1.lt
  have hne := Nat.ne_of_lt hlt
  clear R1
  go_wp2_with fail
  obtain ⟨W0, hW0⟩ : ∃ W0, w1.alloc (.cells #[.int .i64 o, .bool v, .int .i64 f] 37) = W0 := ⟨_, rfl⟩
  obtain ⟨K, hK⟩ : ∃ K, w1.heap.size = K := ⟨_, rfl⟩
  rw [hW0] at T0 ⊢
  rw [hK] at T0 ⊢
  clear hW0 hK hlt hne hle
  have T0 := Lib.hid T0
  go_region_held3 (fun W => (W.cell? ⟨K, 0, none⟩ = some (.int .i64 o) ∧ W.cell? ⟨K, 1, none⟩ = some (.bool v) ∧ W.cell? ⟨K, 2, none⟩ = some (.int .i64 f) ∧ W.cell? ⟨c.gq, 10, none⟩ = some (.int .i64 (c.q.ta : Int)) ∧ W.cell? ⟨c.gq, 11, none⟩ = some (.bool c.q.tw) ∧ W.cell? ⟨c.gq, 7, none⟩ = some (.int .i64 (c.q.ba : Int)) ∧ W.cell? ⟨c.gq, 8, none⟩ = some (.bool c.q.bw) ∧ W.cell? ⟨c.gq, 2, none⟩ = some (.int .i64 (c.q.size : Int))) ∧ TE c w K o v f W)
    ((refine (id (α := TEF c w K o v f _) ?_); with_reducible (first | exact TEF.of T0.out.drew | exact TEF.of (T0.out.drew.below hq))))
    ((go_at_call 50; ((with_reducible refine (HN.out _).mono ?_); rintro e w2 ⟨rfl, hq⟩)))
  have T2 := T0.out.drew.below hq
  clear hq
  have b2 : w2.cell? ⟨c.gq, 2, none⟩ = some (.int .i64 (c.q.size : Int)) := T2.rm.blk.cell 2
  have b12 : w2.cell? ⟨c.gq, 12, none⟩ = some (.int .i64 (c.q.since : Int)) := T2.rm.blk.cell 12
  have T2 := Lib.hid T2
  go_wp2_with fail
  go_quiet (fail)
  have T3 := T2.out.below (below_drewN (Below.refl _ _) nq)
  generalize World.drewN w2 nq = W3 at *
  clear b2 b12 T2
  have b7 : W3.cell? ⟨c.gq, 7, none⟩ = some (.int .i64 (c.q.ba : Int)) := T3.rm.blk.cell 7
  have b8 : W3.cell? ⟨c.gq, 8, none⟩ = some (.bool c.q.bw) := T3.rm.blk.cell 8
  have b10 : W3.cell? ⟨c.gq, 10, none⟩ = some (.int .i64 (c.q.ta : Int)) := T3.rm.blk.cell 10
  have b11 : W3.cell? ⟨c.gq, 11, none⟩ = some (.bool c.q.tw) := T3.rm.blk.cell 11
  have b12 : W3.cell? ⟨c.gq, 12, none⟩ = some (.int .i64 (c.q.since : Int)) := T3.rm.blk.cell 12
  have f10 := T3.rm.blk.frozen 10
  have f11 := T3.rm.blk.frozen 11
  have f12 := T3.rm.blk.frozen 12
  have k2 : W3.cell? ⟨K, 2, none⟩ = some (.int .i64 f) := T3.box.cell 2
  have Q3 := (((Qn.of T3.rm).set 10 (.int .i64 (c.q.ba : Int)) (q2 := { c.q with ta := c.q.ba }) rfl).set 11 (.bool c.q.bw) (q2 := { c.q with ta := c.q.ba, tw := c.q.bw }) rfl).set 12 (.int .i64 0) (q2 := toldQ c.q) rfl
  have Q3 := Lib.hid Q3
  clear T3
  go_wp2_with fail
  go_ret
  exact ⟨rfl, Q3.out⟩
set_option maxRecDepth 100000 in
set_option maxHeartbeats 3200000 in
theorem tell_twof {c : Ctx} {wE w : World} (h : Rm c wE w) (hb : c.q.broken = false) (o : Int) (v : Bool) (f : Int) (B : Bool) (hs : c.q.size < c.q.since) (hf : f = 2)
    (HV : ∀ W, Rm c W W → Calls Try.prog 49 #[.pointer (some ⟨c.gq, 0, none⟩)] W fun e w' => e = .returned (.agg #[.int .i64 o, .bool v, .int .i64 f]) ∧ Rm c W w')
    (HN : ∀ W, Calls Try.prog 50 #[.agg #[.int .i64 o, .bool v, .int .i64 f], .agg #[.int .i64 (c.q.ta : Int), .bool c.q.tw], .agg #[.int .i64 (c.q.ba : Int), .bool c.q.bw], .int .i64 (c.q.size : Int)] W fun e w' => e = .returned (.bool B) ∧ Below W.heap.size W w') :
    Calls Try.prog 16 #[.pointer (some ⟨c.gq, 0, none⟩)] w fun e w' => e = .returned (.bool true) ∧ Qn c (toldQ c.q) c.xs w' := by
  have hB : w.cell? ⟨c.gq, 13, none⟩ = some (.bool false) := by rw [← hb]; exact h.blk.cell 13
  have HE := Lib.hid h.enter
  have HV := Lib.hid HV
  have HN := Lib.hid HN
  have f0 : (f == 0) = false := by simp [hf]
  have f2 : (f == 2) = true := by simp [hf]
  clear hf
  clear h hb
  go_enter Try.func16, Try.ntmps16
  go_wp2_with fail
  refine (HV.out _ HE.out).mono ?_
  rintro e w1 ⟨rfl, R1⟩
  clear hB
  have hle := R1.keep.size
  have T0 : TE c w w1.heap.size o v f (w1.alloc (.cells #[.int .i64 o, .bool v, .int .i64 f] 37)) := ⟨R1.alloc _, Blk.new _ _ _⟩
  have hlt := R1.lt
  have hne := Nat.ne_of_lt hlt
  clear R1
  go_wp2_with fail
  obtain ⟨W0, hW0⟩ : ∃ W0, w1.alloc (.cells #[.int .i64 o, .bool v, .int .i64 f] 37) = W0 := ⟨_, rfl⟩
  obtain ⟨K, hK⟩ : ∃ K, w1.heap.size = K := ⟨_, rfl⟩
  rw [hW0] at T0 ⊢
  rw [hK] at T0 ⊢
  clear hW0 hK hlt hne hle
  have T0 := Lib.hid T0
  go_region_held3 (fun W => (W.cell? ⟨K, 0, none⟩ = some (.int .i64 o) ∧ W.cell? ⟨K, 1, none⟩ = some (.bool v) ∧ W.cell? ⟨K, 2, none⟩ = some (.int .i64 f) ∧ W.cell? ⟨c.gq, 10, none⟩ = some (.int .i64 (c.q.ta : Int)) ∧ W.cell? ⟨c.gq, 11, none⟩ = some (.bool c.q.tw) ∧ W.cell? ⟨c.gq, 7, none⟩ = some (.int .i64 (c.q.ba : Int)) ∧ W.cell? ⟨c.gq, 8, none⟩ = some (.bool c.q.bw) ∧ W.cell? ⟨c.gq, 2, none⟩ = some (.int .i64 (c.q.size : Int))) ∧ TE c w K o v f W)
    ((refine (id (α := TEF c w K o v f _) ?_); with_reducible (first | exact TEF.of T0.out.drew | exact TEF.of (T0.out.drew.below hq))))
    ((go_at_call 50; ((with_reducible refine (HN.out _).mono ?_); rintro e w2 ⟨rfl, hq⟩)))
  have T2 := T0.out.drew.below hq
  clear hq
  have b2 : w2.cell? ⟨c.gq, 2, none⟩ = some (.int .i64 (c.q.size : Int)) := T2.rm.blk.cell 2
  have b12 : w2.cell? ⟨c.gq, 12, none⟩ = some (.int .i64 (c.q.since : Int)) := T2.rm.blk.cell 12
  have T2 := Lib.hid T2
  go_wp2_with fail
  go_quiet (fail)
  have T3 := T2.out.below (below_drewN (Below.refl _ _) nq)
  generalize World.drewN w2 nq = W3 at *
  clear b2 b12 T2
  have b7 : W3.cell? ⟨c.gq, 7, none⟩ = some (.int .i64 (c.q.ba : Int)) := T3.rm.blk.cell 7
  have b8 : W3.cell? ⟨c.gq, 8, none⟩ = some (.bool c.q.bw) := T3.rm.blk.cell 8
  have b10 : W3.cell? ⟨c.gq, 10, none⟩ = some (.int .i64 (c.q.ta : Int)) := T3.rm.blk.cell 10
  have b11 : W3.cell? ⟨c.gq, 11, none⟩ = some (.bool c.q.tw) := T3.rm.blk.cell 11
  have b12 : W3.cell? ⟨c.gq, 12, none⟩ = some (.int .i64 (c.q.since : Int)) := T3.rm.blk.cell 12
  have f10 := T3.rm.blk.frozen 10
  have f11 := T3.rm.blk.frozen 11
  have f12 := T3.rm.blk.frozen 12
  have k2 : W3.cell? ⟨K, 2, none⟩ = some (.int .i64 f) := T3.box.cell 2
  have Q3 := (((Qn.of T3.rm).set 10 (.int .i64 (c.q.ba : Int)) (q2 := { c.q with ta := c.q.ba }) rfl).set 11 (.bool c.q.bw) (q2 := { c.q with ta := c.q.ba, tw := c.q.bw }) rfl).set 12 (.int .i64 0) (q2 := toldQ c.q) rfl
  have Q3 := Lib.hid Q3
  clear T3
  go_wp2_with fail
  go_ret
  exact ⟨rfl, Q3.out⟩
set_option maxRecDepth 100000 in
set_option maxHeartbeats 3200000 in
theorem tell_none {c : Ctx} {wE w : World} (h : Rm c wE w) (hb : c.q.broken = false) (o : Int) (v : Bool) (f : Int) (B : Bool) (hs : c.q.size < c.q.since) (hf : f ≠ 0) (hg : f ≠ 2)
    (HV : ∀ W, Rm c W W → Calls Try.prog 49 #[.pointer (some ⟨c.gq, 0, none⟩)] W fun e w' => e = .returned (.agg #[.int .i64 o, .bool v, .int .i64 f]) ∧ Rm c W w')
    (HN : ∀ W, Calls Try.prog 50 #[.agg #[.int .i64 o, .bool v, .int .i64 f], .agg #[.int .i64 (c.q.ta : Int), .bool c.q.tw], .agg #[.int .i64 (c.q.ba : Int), .bool c.q.bw], .int .i64 (c.q.size : Int)] W fun e w' => e = .returned (.bool B) ∧ Below W.heap.size W w') :
    Calls Try.prog 16 #[.pointer (some ⟨c.gq, 0, none⟩)] w fun e w' => e = .returned (.bool false) ∧ Qn c (toldQ c.q) c.xs w' := by
  have hB : w.cell? ⟨c.gq, 13, none⟩ = some (.bool false) := by rw [← hb]; exact h.blk.cell 13
  have HE := Lib.hid h.enter
  have HV := Lib.hid HV
  have HN := Lib.hid HN
  have f0 : (f == 0) = false := by simpa using hf
  have f2 : (f == 2) = false := by simpa using hg
  clear hf hg
  clear h hb
  go_enter Try.func16, Try.ntmps16
  go_wp2_with fail
  refine (HV.out _ HE.out).mono ?_
  rintro e w1 ⟨rfl, R1⟩
  clear hB
  have hle := R1.keep.size
  have T0 : TE c w w1.heap.size o v f (w1.alloc (.cells #[.int .i64 o, .bool v, .int .i64 f] 37)) := ⟨R1.alloc _, Blk.new _ _ _⟩
  have hlt := R1.lt
  have hne := Nat.ne_of_lt hlt
  clear R1
  go_wp2_with fail
  obtain ⟨W0, hW0⟩ : ∃ W0, w1.alloc (.cells #[.int .i64 o, .bool v, .int .i64 f] 37) = W0 := ⟨_, rfl⟩
  obtain ⟨K, hK⟩ : ∃ K, w1.heap.size = K := ⟨_, rfl⟩
  rw [hW0] at T0 ⊢
  rw [hK] at T0 ⊢
  clear hW0 hK hlt hne hle
  have T0 := Lib.hid T0
  go_region_held3 (fun W => (W.cell? ⟨K, 0, none⟩ = some (.int .i64 o) ∧ W.cell? ⟨K, 1, none⟩ = some (.bool v) ∧ W.cell? ⟨K, 2, none⟩ = some (.int .i64 f) ∧ W.cell? ⟨c.gq, 10, none⟩ = some (.int .i64 (c.q.ta : Int)) ∧ W.cell? ⟨c.gq, 11, none⟩ = some (.bool c.q.tw) ∧ W.cell? ⟨c.gq, 7, none⟩ = some (.int .i64 (c.q.ba : Int)) ∧ W.cell? ⟨c.gq, 8, none⟩ = some (.bool c.q.bw) ∧ W.cell? ⟨c.gq, 2, none⟩ = some (.int .i64 (c.q.size : Int))) ∧ TE c w K o v f W)
    ((refine (id (α := TEF c w K o v f _) ?_); with_reducible (first | exact TEF.of T0.out.drew | exact TEF.of (T0.out.drew.below hq))))
    ((go_at_call 50; ((with_reducible refine (HN.out _).mono ?_); rintro e w2 ⟨rfl, hq⟩)))
  have T2 := T0.out.drew.below hq
  clear hq
  have b2 : w2.cell? ⟨c.gq, 2, none⟩ = some (.int .i64 (c.q.size : Int)) := T2.rm.blk.cell 2
  have b12 : w2.cell? ⟨c.gq, 12, none⟩ = some (.int .i64 (c.q.since : Int)) := T2.rm.blk.cell 12
  have T2 := Lib.hid T2
  go_wp2_with fail
  go_quiet (fail)
  have T3 := T2.out.below (below_drewN (Below.refl _ _) nq)
  generalize World.drewN w2 nq = W3 at *
  clear b2 b12 T2
  have b7 : W3.cell? ⟨c.gq, 7, none⟩ = some (.int .i64 (c.q.ba : Int)) := T3.rm.blk.cell 7
  have b8 : W3.cell? ⟨c.gq, 8, none⟩ = some (.bool c.q.bw) := T3.rm.blk.cell 8
  have b10 : W3.cell? ⟨c.gq, 10, none⟩ = some (.int .i64 (c.q.ta : Int)) := T3.rm.blk.cell 10
  have b11 : W3.cell? ⟨c.gq, 11, none⟩ = some (.bool c.q.tw) := T3.rm.blk.cell 11
  have b12 : W3.cell? ⟨c.gq, 12, none⟩ = some (.int .i64 (c.q.since : Int)) := T3.rm.blk.cell 12
  have f10 := T3.rm.blk.frozen 10
  have f11 := T3.rm.blk.frozen 11
  have f12 := T3.rm.blk.frozen 12
  have k2 : W3.cell? ⟨K, 2, none⟩ = some (.int .i64 f) := T3.box.cell 2
  have Q3 := (((Qn.of T3.rm).set 10 (.int .i64 (c.q.ba : Int)) (q2 := { c.q with ta := c.q.ba }) rfl).set 11 (.bool c.q.bw) (q2 := { c.q with ta := c.q.ba, tw := c.q.bw }) rfl).set 12 (.int .i64 0) (q2 := toldQ c.q) rfl
  have Q3 := Lib.hid Q3
  clear T3
  go_wp2_with fail
  go_ret
  exact ⟨rfl, Q3.out⟩
theorem tell_broken {c : Ctx} {wE w : World} (h : Rm c wE w) (hb : c.q.broken = true) :
    Calls Try.prog 16 #[.pointer (some ⟨c.gq, 0, none⟩)] w fun e w' => e = .returned (.bool false) ∧ Qn c c.q c.xs w' := by
  have hB : w.cell? ⟨c.gq, 13, none⟩ = some (.bool true) := by rw [← hb]; exact h.blk.cell 13
  have HE := Lib.hid h.enter
  clear h hb
  go_enter Try.func16, Try.ntmps16
  go_wp2_with fail
  go_ret
  exact ⟨rfl, Qn.of HE.out⟩
theorem tell_any {c : Ctx} {wE w : World} (h : Rm c wE w) (hq : c.q.Ok c.xs.length) :
    Calls Try.prog 16 #[.pointer (some ⟨c.gq, 0, none⟩)] w fun e w' => e = .returned (.bool (tellC c.xs c.q).1) ∧ Qn c (tellC c.xs c.q).2 c.xs w' := by
  cases hb : c.q.broken
  · have e : tellC c.xs c.q = (tellB c.xs c.q, toldQ c.q) := by unfold tellC; rw [if_neg (by simp [hb])]
    rw [e]
    have HV := fun W (h : Rm c W W) => event_any h hq.drv
    have HN := fun W => Sp.need_any (Sp.paO (cut4 c.xs c.q.drv)) (Sp.paF (cut4 c.xs c.q.drv)) c.q.ta c.q.ba c.q.size (Sp.paW (cut4 c.xs c.q.drv)) c.q.tw c.q.bw W
    by_cases hs : c.q.size < c.q.since
    · unfold tellB
      rw [if_pos hs]
      by_cases h0 : Sp.paF (cut4 c.xs c.q.drv) = 0
      · have := tell_zero h hb _ _ _ _ hs h0 HV HN
        simpa [h0] using this
      · by_cases h2 : Sp.paF (cut4 c.xs c.q.drv) = 2
        · have := tell_twof h hb _ _ _ _ hs h2 HV HN
          simpa [h2] using this
        · rw [show (Sp.paF (cut4 c.xs c.q.drv) == 0 || Sp.paF (cut4 c.xs c.q.drv) == 2) = false by simp [h0, h2]]
          exact tell_none h hb _ _ _ _ hs h0 h2 HV HN
    · unfold tellB
      rw [if_neg hs]
      exact tell_need h hb _ _ _ _ hs HV HN
  · have e : tellC c.xs c.q = (false, c.q) := by unfold tellC; rw [if_pos hb]
    rw [e]
    exact tell_broken h hb

/-! Ask -/
def askE (q : Qs) (o f : Int) : Int := if q.broken then 141 else Sp.buE o f
def askX (xs : List UInt8) (q : Qs) (o : Int) (v : Bool) (f : Int) : List UInt8 := if q.broken then xs else if Sp.buE o f = 0 then over xs q.dev (Sp.buS o v f) else xs
theorem Sp.buS_size (o : Int) (v : Bool) (f : Int) : (Sp.buS o v f).size ≤ 4 := by
  unfold Sp.buS
  split
  · unfold Sp.evB
    rw [ByteArray.size_append]
    have e1 : ∀ n, (Sp.pb n 2).size = 2 := fun n => by
      show (digs n 2).toArray.size = 2
      simp [digs_length]
    rw [e1, e1]
    exact Nat.le_refl _
  · exact Nat.zero_le _
theorem Qn.devs {c : Ctx} {xs' : List UInt8} {w : World} (h : Qn c c.q xs' w) : w.cell? ⟨c.gq, 0, none⟩ = some (.pointer (some ⟨c.g, 0, none⟩)) ∧ w.cell? ⟨c.gq, 4, none⟩ = some (.int .i64 (c.q.dev : Int)) := ⟨h.blk.cell 0, h.blk.cell 4⟩
set_option maxRecDepth 100000 in
set_option maxHeartbeats 1600000 in
theorem ask_broken {c : Ctx} {wE w : World} (h : Rm c wE w) (hb : c.q.broken = true) (o f : Int) (v : Bool) :
    Calls Try.prog 18 #[.pointer (some ⟨c.gq, 0, none⟩), .agg #[.int .i64 o, .bool v, .int .i64 f]] w fun e w' => e = .returned (.int .i64 141) ∧ Qn c c.q c.xs w' := by
  have hB : w.cell? ⟨c.gq, 13, none⟩ = some (.bool true) := by rw [← hb]; exact h.blk.cell 13
  have HE := Lib.hid h.enter
  have hlt := h.lt
  have hne := Nat.ne_of_lt hlt
  clear h hb
  go_enter Try.func18, Try.ntmps18
  go_wp2_with fail
  go_ret
  exact ⟨rfl, Qn.of (HE.out.alloc _)⟩
set_option maxRecDepth 100000 in
set_option maxHeartbeats 1600000 in
theorem ask_bad {c : Ctx} {wE w : World} (h : Rm c wE w) (hb : c.q.broken = false) (o f : Int) (v : Bool) (E : Int) (S : ByteArray) (hE : (E != 0) = true)
    (HB : ∀ W, Calls Try.prog 53 #[.agg #[.int .i64 o, .bool v, .int .i64 f]] W fun e w' => e = .returned (.tuple #[.string S, .int .i64 E]) ∧ Below W.heap.size W w') :
    Calls Try.prog 18 #[.pointer (some ⟨c.gq, 0, none⟩), .agg #[.int .i64 o, .bool v, .int .i64 f]] w fun e w' => e = .returned (.int .i64 E) ∧ Qn c c.q c.xs w' := by
  have hB : w.cell? ⟨c.gq, 13, none⟩ = some (.bool false) := by rw [← hb]; exact h.blk.cell 13
  have HE := Lib.hid h.enter
  have HB := Lib.hid HB
  have hlt := h.lt
  have hne := Nat.ne_of_lt hlt
  clear h hb
  go_enter Try.func18, Try.ntmps18
  go_wp2_with fail
  refine (HB.out _).mono ?_
  rintro e w1 ⟨rfl, hq⟩
  have R1 := Lib.hid ((HE.out.alloc (.cells #[.int .i64 o, .bool v, .int .i64 f] 37)).below hq)
  clear hq
  go_wp2_with fail
  go_ret
  exact ⟨rfl, Qn.of R1.out⟩
set_option maxRecDepth 100000 in
set_option maxHeartbeats 1600000 in
theorem ask_good {c : Ctx} {wE w : World} (h : Rm c wE w) (hb : c.q.broken = false) (o f : Int) (v : Bool) (S : ByteArray) (hS : c.q.dev + S.size ≤ c.xs.length)
    (HB : ∀ W, Calls Try.prog 53 #[.agg #[.int .i64 o, .bool v, .int .i64 f]] W fun e w' => e = .returned (.tuple #[.string S, .int .i64 0]) ∧ Below W.heap.size W w') :
    Calls Try.prog 18 #[.pointer (some ⟨c.gq, 0, none⟩), .agg #[.int .i64 o, .bool v, .int .i64 f]] w fun e w' => e = .returned (.int .i64 0) ∧ Qn c c.q (over c.xs c.q.dev S) w' := by
  have hB : w.cell? ⟨c.gq, 13, none⟩ = some (.bool false) := by rw [← hb]; exact h.blk.cell 13
  have HE := Lib.hid h.enter
  have HB := Lib.hid HB
  have HW := Lib.hid (fun W (h : Qn c c.q c.xs W) => h.write c.q.dev S hS)
  have hlt := h.lt
  have hne := Nat.ne_of_lt hlt
  clear h hb hS
  go_enter Try.func18, Try.ntmps18
  go_wp2_with fail
  refine (HB.out _).mono ?_
  rintro e w1 ⟨rfl, hq⟩
  have Q1 := Qn.of (((HE.out.alloc (.cells #[.int .i64 o, .bool v, .int .i64 f] 37)).below hq).drew)
  have Q1 := Lib.hid Q1
  clear hq hB
  go_wp2_with fail
  go_region_held3 (fun W => W.cell? ⟨c.gq, 0, none⟩ = some (.pointer (some ⟨c.g, 0, none⟩)) ∧ W.cell? ⟨c.gq, 4, none⟩ = some (.int .i64 (c.q.dev : Int)))
    (with_reducible (first | exact Q1.out.devs | exact Q2.devs))
    ((go_at_call 9; ((with_reducible refine (HW.out _ Q1.out).mono ?_); rintro e w2 ⟨rfl, Q2, _⟩)))
  go_wp2_with fail
  go_ret
  exact ⟨rfl, Q2⟩
theorem ask_any {c : Ctx} {wE w : World} (h : Rm c wE w) (hq : c.q.Ok c.xs.length) (o f : Int) (v : Bool) :
    Calls Try.prog 18 #[.pointer (some ⟨c.gq, 0, none⟩), .agg #[.int .i64 o, .bool v, .int .i64 f]] w fun e w' => e = .returned (.int .i64 (askE c.q o f)) ∧ Qn c c.q (askX c.xs c.q o v f) w' := by
  have HB := fun W => Sp.build_any o f v W
  unfold Sp.RS at HB
  unfold askE askX
  cases hb : c.q.broken
  · rw [if_neg (by simp), if_neg (by simp)]
    by_cases he : Sp.buE o f = 0
    · rw [if_pos he, he]
      rw [he] at HB
      have hz : (Sp.buS o v f).size ≤ 4 := Sp.buS_size o v f
      exact ask_good h hb o f v _ (by have := hq.dev; omega) HB
    · rw [if_neg he]
      exact ask_bad h hb o f v _ _ (by simpa using he) HB
  · rw [if_pos rfl, if_pos rfl]
    exact ask_broken h hb o f v
theorem askX_length {xs : List UInt8} {q : Qs} (hq : q.Ok xs.length) (o f : Int) (v : Bool) : (askX xs q o v f).length = xs.length := by
  unfold askX
  split
  · rfl
  · split
    · exact over_length _ _ _ (by have := hq.dev; have := Sp.buS_size o v f; omega)
    · rfl
end Go.Proofs.Ytoblemgeacllkaa

/-
  putUsed, Done of the code's queue: what they answer, and what they leave.
-/
import Derived.Test.YtoblemgeacllkaaDq9
namespace Go.Proofs.Ytoblemgeacllkaa
open Go.RowKit

section
variable {c : Ctx} {q' : Qs} {xs' : List UInt8} {w w' : World}
/-- the queue as a later call finds it -/
theorem Qn.again (h : Qn c q' xs' w) : ∃ lv1, Rm { c with q := q', xs := xs', w0 := w, lv := lv1 } w w ∧ ∀ (q2 : Qs) (xs2 : List UInt8) (w' : World), Qn { c with q := q', xs := xs', w0 := w, lv := lv1 } q2 xs2 w' → Qn c q2 xs2 w' := by
  obtain ⟨lv1, hM, hL⟩ := h.mem
  refine ⟨lv1, ⟨h.blk, Noted.refl hM, Keep.refl _, Nat.le_refl _⟩, fun q2 xs2 w' hQ => ?_⟩
  obtain ⟨lv2, hM2, hL2⟩ := hQ.mem
  have hs := h.size
  refine ⟨hQ.blk, ⟨lv2, hM2, fun k hk => ?_⟩, hQ.os.trans h.os, hQ.tape.trans h.tape, hQ.output.trans h.output, Nat.le_trans hs hQ.size, fun k hk x a b d => ?_⟩
  · rcases hL2 k hk with e | e
    · exact hL k e
    · right; exact Nat.le_trans hs e
  · exact (hQ.block k (Nat.lt_of_lt_of_le hk hs) x a b (fun e => by rcases hL k e with e | e; exact d e; omega)).trans (h.block k hk x a b d)
theorem Qn.noted {lv1 : Value} {ys : List UInt8} (h : Qn c q' xs' w) (hM : Mem c.B c.g c.gb lv1 xs' w) (hL : ∀ k, lv1.ownBlock = some k → c.lv.ownBlock = some k ∨ c.w0.heap.size ≤ k) (hn : Noted c.B c.g c.gb lv1 ys w w') : Qn c q' ys w' ∧ Keep w w' := by
  have hk := Keep.of_noted hM hn
  obtain ⟨lv2, hM2, hT2, hL2⟩ := hn
  have hs := h.size
  refine ⟨⟨h.blk.keep hk (by decide) (by decide) (by decide), ⟨lv2, hM2, fun k hk2 => ?_⟩, hT2.os.trans h.os, hT2.tape.trans h.tape, hT2.output.trans h.output, Nat.le_trans hs hT2.size, fun k hk2 x a b d => ?_⟩, hk⟩
  · rcases hL2 k hk2 with e | e
    · exact hL k e
    · right; omega
  · exact (hT2.block k (by omega) a b (fun e => by rcases hL k e with e | e; exact d e; omega)).trans (h.block k hk2 x a b d)
theorem Qn.write (h : Qn c q' xs' w) (a : Nat) (s : ByteArray) (hn : a + s.size ≤ xs'.length) :
    Calls Try.prog 9 #[.pointer (some ⟨c.g, 0, none⟩), .int .i64 a, .string s] w fun e w' => e = .returned (.int .i64 0) ∧ Qn c q' (over xs' a s) w' ∧ Keep w w' := by
  obtain ⟨lv1, hM, hL⟩ := h.mem
  exact (write_ok hM a s hn).mono fun _ _ ⟨he, hN⟩ => ⟨he, h.noted hM hL hN⟩
theorem Qn.p0 (h : Qn c q' xs' w) : w.cell? ⟨c.gq, 0, none⟩ = some (.pointer (some ⟨c.g, 0, none⟩)) := h.blk.cell 0
theorem Rm.len (h : Rm c w w') : c.xs.length ≤ 1048576 := by obtain ⟨lv, hM⟩ := h.get; exact hM.len
end
/-- the flags of what is given back -/
def doneF (q : Qs) (wr : Nat) : Nat := (if 0 < wr then 2 else 0) + mk q.bw (q.bw == true)
theorem doneF_lt (q : Qs) (wr : Nat) : doneF q wr ≤ 65535 := by
  unfold doneF mk one
  cases q.bw <;> by_cases h : 0 < wr <;> simp [h]
/-- the memory's bytes where a chain was given back: as the code writes them -/
def usedX (xs : List UInt8) (q : Qs) (id wr : Nat) : List UInt8 :=
  over (over xs (q.ring + 16 * q.ba + 8) ((desB 0 wr id (doneF q wr)).extract 8 14)) (q.ring + 16 * q.ba + 14) ((desB 0 wr id (doneF q wr)).extract 14 16)
theorem desB_size (A L I F : Nat) : (desB A L I F).size = 16 := by
  unfold desB
  simp [ByteArray.size_append, pb_size]
theorem usedX_length (xs : List UInt8) (q : Qs) (id wr : Nat) (hq : q.Ok xs.length) : (usedX xs q id wr).length = xs.length := by
  have := hq.r; have := hq.ba
  have e1 : ((desB 0 wr id (doneF q wr)).extract 8 14).size = 6 := by rw [ByteArray.size_extract, desB_size]; rfl
  have e2 : ((desB 0 wr id (doneF q wr)).extract 14 16).size = 2 := by rw [ByteArray.size_extract, desB_size]; rfl
  unfold usedX
  rw [over_length, over_length] <;> (try rw [over_length]) <;> omega
theorem rest_0 : Rest 0 := ⟨by decide, by decide, by decide⟩
theorem rest_2 : Rest 2 := ⟨by decide, by decide, by decide⟩
set_option maxRecDepth 100000 in
set_option maxHeartbeats 1600000 in
theorem used_walk0 {c : Ctx} {wE w : World} (h : Rm c wE w) (id wr : Nat) (F : Nat) (S : ByteArray) (hS : S.size = 16) (n : Nat) (hn : n + 16 ≤ c.xs.length) (fl : Int) (hwr : wr < 4294967296)
    (q0 : (fl = 0 ∧ ¬ 0 < wr) ∨ (fl = 2 ∧ 0 < wr))
    (HMk : ∀ W, Calls Try.prog 72 #[.int .i64 fl, .bool c.q.bw, .bool true] W fun e w' => e = .returned (.int .i64 (F : Int)) ∧ W = w')
    (HBd : ∀ W, Calls Try.prog 73 #[.agg #[.int .u64 0, .int .u32 (wr : Int), .int .i64 (id : Int), .int .i64 (F : Int)]] W fun e w' => e = .returned (.tuple #[.string S, .int .i64 0]) ∧ Below W.heap.size W w')
    (HOf : ∀ W, Rm c W W → Calls Try.prog 64 #[.pointer (some ⟨c.gq, 0, none⟩), .agg #[.int .i64 (c.q.ba : Int), .bool c.q.bw]] W fun e w' => e = .returned (.int .i64 (n : Int)) ∧ Below W.heap.size W w') :
    Calls Try.prog 47 #[.pointer (some ⟨c.gq, 0, none⟩), .int .i64 (id : Int), .int .i64 (wr : Int)] w fun e w' => e = .returned (.tuple #[]) ∧ Qn c c.q (over (over c.xs (n + 8) (S.extract 8 14)) (n + 14) (S.extract 14 16)) w' := by
  have HMk := Lib.hid HMk
  have HBd := Lib.hid HBd
  have HOf := Lib.hid HOf
  have hx := h.len
  have HE := Lib.hid h.enter
  have v1 : IntKind.u32.wrap (wr : Int) = (wr : Int) := by rw [IntKind.wrap_u32]; omega
  obtain ⟨S1, e1, z1⟩ : ∃ S1, S.extract 8 14 = S1 ∧ S1.size = 6 := ⟨_, rfl, by rw [ByteArray.size_extract, hS]; rfl⟩
  obtain ⟨S2, e2, z2⟩ : ∃ S2, S.extract 14 16 = S2 ∧ S2.size = 2 := ⟨_, rfl, by rw [ByteArray.size_extract, hS]; rfl⟩
  have HW1 := fun W (hQ : Qn c c.q c.xs W) => hQ.write (n + 8) S1 (by omega)
  have HW2 := fun W (hQ : Qn c c.q (over c.xs (n + 8) S1) W) => hQ.write (n + 14) S2 (by rw [over_length _ _ _ (by omega)]; omega)
  rw [e1, e2]
  rw [show ((n + 8 : Nat) : Int) = (n : Int) + 8 by omega] at HW1
  rw [show ((n + 14 : Nat) : Int) = (n : Int) + 14 by omega] at HW2
  have HW1 := Lib.hid HW1
  have HW2 := Lib.hid HW2
  have hn2 : (n : Int) ≤ 1048576 := by omega
  have v2 : IntKind.i64.wrap ((n : Int) + 8) = (n : Int) + 8 := by rw [IntKind.wrap_i64]; omega
  have v3 : IntKind.i64.wrap ((n : Int) + 14) = (n : Int) + 14 := by rw [IntKind.wrap_i64]; omega
  have s1 : (14 : Int) ≤ S.size := by omega
  have s2 : 14 ≤ S.size := by omega
  have s3 : ¬ (S.size : Int) < 14 := by omega
  have s4 : ¬ S.size < 14 := by omega
  have e3 : S.extract 14 S.size = S2 := by rw [hS]; exact e2
  have hlt := h.lt
  have hne := Nat.ne_of_lt hlt
  have b8 : w.cell? ⟨c.gq, 8, none⟩ = some (.bool c.q.bw) := h.blk.cell 8
  clear h hS e2 hn hx z1 z2 hwr
  rcases q0 with ⟨rfl, q0⟩ | ⟨rfl, q0⟩
  all_goals
    go_enter Try.func47, Try.ntmps47
    go_wp2_with fail
    refine (HMk.out _).mono ?_
    rintro e wa ⟨rfl, rfl⟩
    go_wp2_with fail
    refine (HBd.out _).mono ?_
    rintro e w2 ⟨rfl, hq2⟩
    have R2 := HE.out.below hq2
    clear hq2
    have b7 : w2.cell? ⟨c.gq, 7, none⟩ = some (.int .i64 (c.q.ba : Int)) := R2.blk.cell 7
    have b8 : w2.cell? ⟨c.gq, 8, none⟩ = some (.bool c.q.bw) := R2.blk.cell 8
    have R2 := Lib.hid R2
    go_wp2_with fail
    refine (HOf.out _ R2.out.enter).mono ?_
    rintro e w3 ⟨rfl, hq3⟩
    have R3 := R2.out.below hq3
    clear hq3 R2 b7 b8
    have Q3 := Qn.of R3.drew
    have p0 := Q3.p0
    have Q3 := Lib.hid Q3
    clear R3
    go_wp2_with fail
    go_region_held3 (fun W => W.cell? ⟨c.gq, 0, none⟩ = some (.pointer (some ⟨c.g, 0, none⟩)))
      (with_reducible (first | exact Q3.out.p0 | exact Q4.p0))
      ((go_at_call 9; ((with_reducible refine (HW1.out _ Q3.out).mono ?_); rintro e w4 ⟨rfl, Q4, _⟩)))
    have Q4 := Q4.drew
    have p0 := Q4.p0
    have Q4 := Lib.hid Q4
    go_wp2_with fail
    go_region_held3 (fun W => W.cell? ⟨c.gq, 0, none⟩ = some (.pointer (some ⟨c.g, 0, none⟩)))
      (with_reducible (first | exact Q4.out.p0 | exact Q5.p0))
      ((go_at_call 9; ((with_reducible refine (HW2.out _ Q4.out).mono ?_); rintro e w5 ⟨rfl, Q5, _⟩)))
    go_wp2_with fail
    go_end0
    exact ⟨rfl, Q5⟩
set_option maxRecDepth 100000 in
theorem done_bad0 {c : Ctx} {wE w : World} (h : Rm c wE w) (hb : c.q.broken = false) (id count written : Int) (k0 : id < 0) :
    Calls Try.prog 14 #[.pointer (some ⟨c.gq, 0, none⟩), .int .i64 id, .int .i64 count, .int .i64 written] w fun e w' => e = .returned (.int .i64 1) ∧ Qn c c.q c.xs w' := by
  have hB : w.cell? ⟨c.gq, 13, none⟩ = some (.bool false) := by rw [← hb]; exact h.blk.cell 13
  obtain ⟨-, -, -, -, -, -, -, -, p9⟩ := h.cells
  have HE := Lib.hid h.enter
  have q1 : decide (id < 0) = true := decide_eq_true k0
  clear k0
  clear h hb
  go_enter Try.func14, Try.ntmps14
  go_wp2_with fail
  go_ret
  exact ⟨rfl, Qn.of HE.out⟩
set_option maxRecDepth 100000 in
theorem done_bad1 {c : Ctx} {wE w : World} (h : Rm c wE w) (hb : c.q.broken = false) (id count written : Int) (k0 : ¬ id < 0) (k1 : 65535 < id) :
    Calls Try.prog 14 #[.pointer (some ⟨c.gq, 0, none⟩), .int .i64 id, .int .i64 count, .int .i64 written] w fun e w' => e = .returned (.int .i64 1) ∧ Qn c c.q c.xs w' := by
  have hB : w.cell? ⟨c.gq, 13, none⟩ = some (.bool false) := by rw [← hb]; exact h.blk.cell 13
  obtain ⟨-, -, -, -, -, -, -, -, p9⟩ := h.cells
  have HE := Lib.hid h.enter
  have q1 : decide (id < 0) = false := decide_eq_false k0
  have q2 : decide (65535 < id) = true := decide_eq_true k1
  clear k0 k1
  clear h hb
  go_enter Try.func14, Try.ntmps14
  go_wp2_with fail
  go_ret
  exact ⟨rfl, Qn.of HE.out⟩
set_option maxRecDepth 100000 in
theorem done_bad2 {c : Ctx} {wE w : World} (h : Rm c wE w) (hb : c.q.broken = false) (id count written : Int) (k0 : ¬ id < 0) (k1 : ¬ 65535 < id) (k2 : count < 1) :
    Calls Try.prog 14 #[.pointer (some ⟨c.gq, 0, none⟩), .int .i64 id, .int .i64 count, .int .i64 written] w fun e w' => e = .returned (.int .i64 1) ∧ Qn c c.q c.xs w' := by
  have hB : w.cell? ⟨c.gq, 13, none⟩ = some (.bool false) := by rw [← hb]; exact h.blk.cell 13
  obtain ⟨-, -, -, -, -, -, -, -, p9⟩ := h.cells
  have HE := Lib.hid h.enter
  have q1 : decide (id < 0) = false := decide_eq_false k0
  have q2 : decide (65535 < id) = false := decide_eq_false k1
  have q3 : decide (count < 1) = true := decide_eq_true k2
  clear k0 k1 k2
  clear h hb
  go_enter Try.func14, Try.ntmps14
  go_wp2_with fail
  go_ret
  exact ⟨rfl, Qn.of HE.out⟩
set_option maxRecDepth 100000 in
theorem done_bad3 {c : Ctx} {wE w : World} (h : Rm c wE w) (hb : c.q.broken = false) (id count written : Int) (k0 : ¬ id < 0) (k1 : ¬ 65535 < id) (k2 : ¬ count < 1) (k3 : (c.q.out : Int) < count) :
    Calls Try.prog 14 #[.pointer (some ⟨c.gq, 0, none⟩), .int .i64 id, .int .i64 count, .int .i64 written] w fun e w' => e = .returned (.int .i64 1) ∧ Qn c c.q c.xs w' := by
  have hB : w.cell? ⟨c.gq, 13, none⟩ = some (.bool false) := by rw [← hb]; exact h.blk.cell 13
  obtain ⟨-, -, -, -, -, -, -, -, p9⟩ := h.cells
  have HE := Lib.hid h.enter
  have q1 : decide (id < 0) = false := decide_eq_false k0
  have q2 : decide (65535 < id) = false := decide_eq_false k1
  have q3 : decide (count < 1) = false := decide_eq_false k2
  have q4 : decide ((c.q.out : Int) < count) = true := decide_eq_true k3
  clear k0 k1 k2 k3
  clear h hb
  go_enter Try.func14, Try.ntmps14
  go_wp2_with fail
  go_ret
  exact ⟨rfl, Qn.of HE.out⟩
set_option maxRecDepth 100000 in
theorem done_bad4 {c : Ctx} {wE w : World} (h : Rm c wE w) (hb : c.q.broken = false) (id count written : Int) (k0 : ¬ id < 0) (k1 : ¬ 65535 < id) (k2 : ¬ count < 1) (k3 : ¬ (c.q.out : Int) < count) (k4 : written < 0) :
    Calls Try.prog 14 #[.pointer (some ⟨c.gq, 0, none⟩), .int .i64 id, .int .i64 count, .int .i64 written] w fun e w' => e = .returned (.int .i64 1) ∧ Qn c c.q c.xs w' := by
  have hB : w.cell? ⟨c.gq, 13, none⟩ = some (.bool false) := by rw [← hb]; exact h.blk.cell 13
  obtain ⟨-, -, -, -, -, -, -, -, p9⟩ := h.cells
  have HE := Lib.hid h.enter
  have q1 : decide (id < 0) = false := decide_eq_false k0
  have q2 : decide (65535 < id) = false := decide_eq_false k1
  have q3 : decide (count < 1) = false := decide_eq_false k2
  have q4 : decide ((c.q.out : Int) < count) = false := decide_eq_false k3
  have q5 : decide (written < 0) = true := decide_eq_true k4
  clear k0 k1 k2 k3 k4
  clear h hb
  go_enter Try.func14, Try.ntmps14
  go_wp2_with fail
  go_ret
  exact ⟨rfl, Qn.of HE.out⟩
set_option maxRecDepth 100000 in
theorem done_bad5 {c : Ctx} {wE w : World} (h : Rm c wE w) (hb : c.q.broken = false) (id count written : Int) (k0 : ¬ id < 0) (k1 : ¬ 65535 < id) (k2 : ¬ count < 1) (k3 : ¬ (c.q.out : Int) < count) (k4 : ¬ written < 0) (k5 : 4294967295 < written) :
    Calls Try.prog 14 #[.pointer (some ⟨c.gq, 0, none⟩), .int .i64 id, .int .i64 count, .int .i64 written] w fun e w' => e = .returned (.int .i64 1) ∧ Qn c c.q c.xs w' := by
  have hB : w.cell? ⟨c.gq, 13, none⟩ = some (.bool false) := by rw [← hb]; exact h.blk.cell 13
  obtain ⟨-, -, -, -, -, -, -, -, p9⟩ := h.cells
  have HE := Lib.hid h.enter
  have q1 : decide (id < 0) = false := decide_eq_false k0
  have q2 : decide (65535 < id) = false := decide_eq_false k1
  have q3 : decide (count < 1) = false := decide_eq_false k2
  have q4 : decide ((c.q.out : Int) < count) = false := decide_eq_false k3
  have q5 : decide (written < 0) = false := decide_eq_false k4
  have q6 : decide (4294967295 < written) = true := decide_eq_true k5
  clear k0 k1 k2 k3 k4 k5
  clear h hb
  go_enter Try.func14, Try.ntmps14
  go_wp2_with fail
  go_ret
  exact ⟨rfl, Qn.of HE.out⟩
theorem put_used {c : Ctx} {wE w : World} (h : Rm c wE w) (hq : c.q.Ok c.xs.length) (id wr : Nat) (hid : id ≤ 65535) (hwr : wr < 4294967296) :
    Calls Try.prog 47 #[.pointer (some ⟨c.gq, 0, none⟩), .int .i64 (id : Int), .int .i64 (wr : Int)] w fun e w' => e = .returned (.tuple #[]) ∧ Qn c c.q (usedX c.xs c.q id wr) w' := by
  have hx := h.len
  have h1 := hq.r
  have h2 := hq.ba
  have hF := doneF_lt c.q wr
  have HBd := fun W => build_ok 0 wr id (doneF c.q wr) (by decide) hwr hid hF W
  have HOf := fun W (h : Rm c W W) => offset_any h c.q.ba c.q.bw (by omega)
  by_cases k : 0 < wr
  · refine used_walk0 h id wr (doneF c.q wr) _ (desB_size _ _ _ _) (c.q.ring + 16 * c.q.ba) (by omega) 2 hwr (.inr ⟨rfl, k⟩) (fun W => ?_) HBd HOf
    have := mark_any 2 rest_2 false false c.q.bw true W
    rw [show 2 + mk false false = 2 from rfl] at this
    rw [doneF, if_pos k]
    exact this
  · refine used_walk0 h id wr (doneF c.q wr) _ (desB_size _ _ _ _) (c.q.ring + 16 * c.q.ba) (by omega) 0 hwr (.inl ⟨rfl, k⟩) (fun W => ?_) HBd HOf
    have := mark_any 0 rest_0 false false c.q.bw true W
    rw [show 0 + mk false false = 0 from rfl] at this
    rw [doneF, if_neg k]
    exact this
def doneQ (q : Qs) (k : Nat) : Qs := { q with ba := stA q.size q.ba k, bw := stW q.size q.ba k q.bw, out := q.out - k, since := q.since + k }
theorem doneQ_ok {q : Qs} {n k : Nat} (hq : q.Ok n) (hk : k ≤ q.out) : (doneQ q k).Ok n :=
  ⟨hq.s1, hq.s2, hq.r, hq.drv, hq.dev, hq.na, stA_lt hq.ba (by have := hq.out; omega), hq.ta, by have := hq.out; show q.out - k ≤ q.size; omega⟩
set_option maxRecDepth 100000 in
set_option maxHeartbeats 1600000 in
theorem done_good {c : Ctx} {wE w : World} (h : Rm c wE w) (hq : c.q.Ok c.xs.length) (hb : c.q.broken = false) (id k wr : Nat) (hid : id ≤ 65535) (hk : 1 ≤ k) (hk2 : k ≤ c.q.out) (hwr : wr < 4294967296) (hs : c.q.since ≤ 1099511627776) :
    Calls Try.prog 14 #[.pointer (some ⟨c.gq, 0, none⟩), .int .i64 (id : Int), .int .i64 (k : Int), .int .i64 (wr : Int)] w fun e w' => e = .returned (.int .i64 0) ∧ Qn c (doneQ c.q k) (usedX c.xs c.q id wr) w' := by
  have hB : w.cell? ⟨c.gq, 13, none⟩ = some (.bool false) := by rw [← hb]; exact h.blk.cell 13
  obtain ⟨-, -, -, -, -, -, -, -, p9⟩ := h.cells
  have HP := Lib.hid (put_used h hq id wr hid hwr)
  have HQ := Lib.hid hq
  have ho2 := hq.out
  have hz2 := hq.s2
  have q1 : decide ((id : Int) < 0) = false := decide_eq_false (by omega)
  have q2 : decide (65535 < (id : Int)) = false := decide_eq_false (by omega)
  have q2' : decide (65535 < id) = false := decide_eq_false (by omega)
  have q3 : decide ((k : Int) < 1) = false := decide_eq_false (by omega)
  have q3' : decide (k < 1) = false := decide_eq_false (by omega)
  have q4 : decide (c.q.out < k) = false := decide_eq_false (by omega)
  have q5 : decide ((wr : Int) < 0) = false := decide_eq_false (by omega)
  have q6 : decide (4294967295 < (wr : Int)) = false := decide_eq_false (by omega)
  have n1 : ((c.q.out - k : Nat) : Int) = (c.q.out : Int) - (k : Int) := by omega
  have N1 := Lib.hid n1
  clear n1
  have HA := Lib.hid (fun (c2 : Ctx) W (h2 : Rm c2 W W) (e : c2.q = c.q) => after_any h2 c.q.ba k c.q.bw (by rw [e]; exact hq.s1) (by rw [e]; exact hq.s2) (by rw [e]; exact hq.ba) (by rw [e]; omega))
  have hs2 : (c.q.since : Int) ≤ 1099511627776 := by omega
  have hk3 : (k : Int) ≤ (c.q.out : Int) := by omega
  have ho3 : (c.q.out : Int) ≤ 32768 := by omega
  clear h hb hid hk hk2 hwr hs hq ho2 hz2
  go_enter Try.func14, Try.ntmps14
  go_wp2_with fail
  refine HP.out.mono ?_
  rintro e w1 ⟨rfl, Q1⟩
  obtain ⟨lv1, R1, back⟩ := Q1.again
  have HR := Lib.hid R1
  have HK := Lib.hid back
  have b7 : w1.cell? ⟨c.gq, 7, none⟩ = some (.int .i64 (c.q.ba : Int)) := R1.blk.cell 7
  have b8 : w1.cell? ⟨c.gq, 8, none⟩ = some (.bool c.q.bw) := R1.blk.cell 8
  clear R1 back Q1 hB p9
  go_wp2_with fail
  refine (HA.out _ _ HR.out rfl).mono ?_
  rintro e w2 ⟨rfl, R2⟩
  have Q2 := ((((Qn.of R2).set 7 (.int .i64 (stA c.q.size c.q.ba k : Int)) (q2 := { c.q with ba := stA c.q.size c.q.ba k }) rfl).set 8 (.bool (stW c.q.size c.q.ba k c.q.bw)) (q2 := { c.q with ba := stA c.q.size c.q.ba k, bw := stW c.q.size c.q.ba k c.q.bw }) rfl).set 9 (.int .i64 ((c.q.out - k : Nat) : Int)) (q2 := { c.q with ba := stA c.q.size c.q.ba k, bw := stW c.q.size c.q.ba k c.q.bw, out := c.q.out - k }) rfl).set 12 (.int .i64 ((c.q.since + k : Nat) : Int)) (q2 := doneQ c.q k) rfl
  rw [N1.out, Int.natCast_add] at Q2
  have Q3 := Lib.hid (HK.out _ _ _ Q2)
  have b7 : w2.cell? ⟨c.gq, 7, none⟩ = some (.int .i64 (c.q.ba : Int)) := R2.blk.cell 7
  have b8 : w2.cell? ⟨c.gq, 8, none⟩ = some (.bool c.q.bw) := R2.blk.cell 8
  have b9 : w2.cell? ⟨c.gq, 9, none⟩ = some (.int .i64 (c.q.out : Int)) := R2.blk.cell 9
  have b12 : w2.cell? ⟨c.gq, 12, none⟩ = some (.int .i64 (c.q.since : Int)) := R2.blk.cell 12
  have f7 : w2.frozen? ⟨c.gq, 7, none⟩ = false := R2.blk.frozen 7
  have f8 : w2.frozen? ⟨c.gq, 8, none⟩ = false := R2.blk.frozen 8
  have f9 : w2.frozen? ⟨c.gq, 9, none⟩ = false := R2.blk.frozen 9
  have f12 : w2.frozen? ⟨c.gq, 12, none⟩ = false := R2.blk.frozen 12
  clear Q2 R2
  go_wp2_with fail
  go_ret
  exact ⟨rfl, Q3.out⟩
theorem done_broken {c : Ctx} {wE w : World} (h : Rm c wE w) (hb : c.q.broken = true) (id count written : Int) :
    Calls Try.prog 14 #[.pointer (some ⟨c.gq, 0, none⟩), .int .i64 id, .int .i64 count, .int .i64 written] w fun e w' => e = .returned (.int .i64 141) ∧ Qn c c.q c.xs w' := by
  have hB : w.cell? ⟨c.gq, 13, none⟩ = some (.bool true) := by rw [← hb]; exact h.blk.cell 13
  have HE := Lib.hid h.enter
  clear h hb
  go_enter Try.func14, Try.ntmps14
  go_wp2_with fail
  go_ret
  exact ⟨rfl, Qn.of HE.out⟩
/-- may this be given back? -/
def doneOk (q : Qs) (id count written : Int) : Bool := decide (0 ≤ id ∧ id ≤ 65535 ∧ 1 ≤ count ∧ count ≤ q.out ∧ 0 ≤ written ∧ written ≤ 4294967295)
/-- Done: the error, the bytes and the queue then -/
def doneC (xs : List UInt8) (q : Qs) (id count written : Int) : Int × List UInt8 × Qs :=
  if q.broken then (141, xs, q) else if doneOk q id count written then (0, usedX xs q id.toNat written.toNat, doneQ q count.toNat) else (1, xs, q)
theorem done_any {c : Ctx} {wE w : World} (h : Rm c wE w) (hq : c.q.Ok c.xs.length) (hs : c.q.since ≤ 1099511627776) (id count written : Int) :
    Calls Try.prog 14 #[.pointer (some ⟨c.gq, 0, none⟩), .int .i64 id, .int .i64 count, .int .i64 written] w fun e w' => e = .returned (.int .i64 (doneC c.xs c.q id count written).1) ∧ Qn c (doneC c.xs c.q id count written).2.2 (doneC c.xs c.q id count written).2.1 w' := by
  cases hb : c.q.broken
  · by_cases k : 0 ≤ id ∧ id ≤ 65535 ∧ 1 ≤ count ∧ count ≤ c.q.out ∧ 0 ≤ written ∧ written ≤ 4294967295
    · have e : doneC c.xs c.q id count written = (0, usedX c.xs c.q id.toNat written.toNat, doneQ c.q count.toNat) := by
        unfold doneC
        rw [if_neg (by simp [hb]), if_pos (show doneOk c.q id count written = true from decide_eq_true k)]
      rw [e]
      obtain ⟨k1, k2, k3, k4, k5, k6⟩ := k
      obtain ⟨i, rfl⟩ := Int.eq_ofNat_of_zero_le k1
      obtain ⟨j, rfl⟩ := Int.eq_ofNat_of_zero_le (Int.le_trans (by decide) k3)
      obtain ⟨m, rfl⟩ := Int.eq_ofNat_of_zero_le k5
      exact done_good h hq hb i j m (by omega) (by omega) (by omega) (by omega) hs
    · have e : doneC c.xs c.q id count written = (1, c.xs, c.q) := by
        unfold doneC
        rw [if_neg (by simp [hb]), if_neg (by unfold doneOk; simpa using k)]
      rw [e]
      by_cases k0 : id < 0
      · exact done_bad0 h hb id count written k0
      by_cases k1 : 65535 < id
      · exact done_bad1 h hb id count written k0 k1
      by_cases k2 : count < 1
      · exact done_bad2 h hb id count written k0 k1 k2
      by_cases k3 : (c.q.out : Int) < count
      · exact done_bad3 h hb id count written k0 k1 k2 k3
      by_cases k4 : written < 0
      · exact done_bad4 h hb id count written k0 k1 k2 k3 k4
      by_cases k5 : 4294967295 < written
      · exact done_bad5 h hb id count written k0 k1 k2 k3 k4 k5
      · exact absurd (by omega) k
  · have e : doneC c.xs c.q id count written = (141, c.xs, c.q) := by unfold doneC; rw [if_pos hb]
    rw [e]
    exact done_broken h hb id count written
theorem doneC_ok {xs : List UInt8} {q : Qs} (hq : q.Ok xs.length) (id count written : Int) :
    (doneC xs q id count written).2.1.length = xs.length ∧ (doneC xs q id count written).2.2.Ok xs.length ∧ (doneC xs q id count written).2.2.since ≤ q.since + 32768 := by
  unfold doneC
  by_cases h1 : q.broken = true
  · rw [if_pos h1]; exact ⟨rfl, hq, by simp⟩
  · rw [if_neg h1]
    by_cases h2 : doneOk q id count written = true
    · rw [if_pos h2]
      have k : 0 ≤ id ∧ id ≤ 65535 ∧ 1 ≤ count ∧ count ≤ q.out ∧ 0 ≤ written ∧ written ≤ 4294967295 := by unfold doneOk at h2; simpa using h2
      refine ⟨usedX_length xs q _ _ hq, doneQ_ok hq (by omega), ?_⟩
      have := hq.out; have := hq.s2
      show q.since + count.toNat ≤ q.since + 32768
      omega
    · rw [if_neg h2]; exact ⟨rfl, hq, by simp⟩
end Go.Proofs.Ytoblemgeacllkaa

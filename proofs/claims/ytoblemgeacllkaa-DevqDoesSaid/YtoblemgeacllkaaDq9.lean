/-
  Next, Fail, Broken, Out, Clone of the code's queue: what they answer, and what they leave.
-/
import Derived.Test.YtoblemgeacllkaaDq8
namespace Go.Proofs.Ytoblemgeacllkaa
open Go.RowKit

theorem chain_count {xs : List UInt8} {q : Qs} {h : Ch} (hq : q.Ok xs.length) (hout : q.out < q.size) (hV : chainV xs q = some h) : 1 ≤ h.count ∧ h.count ≤ 64 ∧ q.out + h.count ≤ q.size := by
  have _ := hq
  unfold chainV ringV at hV
  generalize hr : ringGo xs q.ring q.size (allowed q - 1) q.na [] (deAt xs (q.ring + 16 * q.na)) = r at hV
  cases r with
  | none => cases hV
  | some l =>
    have hl2 := ringGo_length hr
    have hal : allowed q ≤ 64 ∧ 1 ≤ allowed q ∧ allowed q ≤ q.size - q.out := by unfold allowed; omega
    have hV : ((nameV xs l).bind fun n => (partsGo xs n false).map fun p => (⟨lastId l, l.length, p⟩ : Ch)) = some h := hV
    cases hn : nameV xs l with
    | none => rw [hn] at hV; cases hV
    | some n =>
      rw [hn] at hV
      have hV : ((partsGo xs n false).map fun p => (⟨lastId l, l.length, p⟩ : Ch)) = some h := hV
      cases hp : partsGo xs n false with
      | none => rw [hp] at hV; cases hV
      | some p =>
        rw [hp] at hV
        injection hV with hV
        subst hV
        simp at hl2 ⊢
        omega
theorem takenQ_ok {q : Qs} {n k : Nat} (hq : q.Ok n) (hk : q.out + k ≤ q.size) : (takenQ q k).Ok n :=
  ⟨hq.s1, hq.s2, hq.r, hq.drv, hq.dev, stA_lt hq.na (by omega), hq.ba, hq.ta, hk⟩
theorem nextC_ok {xs : List UInt8} {q : Qs} (hq : q.Ok xs.length) : (nextC xs q).2.2.2.Ok xs.length ∧ (nextC xs q).2.2.2.since = q.since := by
  unfold nextC
  by_cases h1 : q.broken = true
  · rw [if_pos h1]; exact ⟨hq, rfl⟩
  · rw [if_neg h1]
    by_cases h2 : q.out = q.size
    · rw [if_pos h2]; exact ⟨hq, rfl⟩
    · rw [if_neg h2]
      cases ha : availB (deAt xs (q.ring + 16 * q.na)).f q.nw
      · rw [if_neg (by simp)]; exact ⟨hq, rfl⟩
      · rw [if_pos rfl]
        cases hV : chainV xs q with
        | none => exact ⟨⟨hq.s1, hq.s2, hq.r, hq.drv, hq.dev, hq.na, hq.ba, hq.ta, hq.out⟩, rfl⟩
        | some h => exact ⟨takenQ_ok hq (chain_count hq (by have := hq.out; omega) hV).2.2, rfl⟩
theorem take_any {c : Ctx} {wE w : World} (h : Rm c wE w) (hq : c.q.Ok c.xs.length) (hb : c.q.broken = false) (hout : c.q.out ≠ c.q.size) :
    Calls Try.prog 42 #[.pointer (some ⟨c.gq, 0, none⟩)] w (TakeP c w (nextC c.xs c.q).1 (nextC c.xs c.q).2.1 (nextC c.xs c.q).2.2.1 (nextC c.xs c.q).2.2.2) := by
  have ho : c.q.out < c.q.size := by have := hq.out; omega
  unfold nextC
  rw [if_neg (by simp [hb]), if_neg hout]
  cases ha : availB (deAt c.xs (c.q.ring + 16 * c.q.na)).f c.q.nw
  · rw [if_neg (by simp)]; exact take_not h hq ha
  · rw [if_pos rfl]
    cases hV : chainV c.xs c.q with
    | none => exact take_bad h hq ho ha hV
    | some h1 =>
      have := chain_count hq ho hV
      have := hq.s2
      exact take_good h hq ho ha h1 hV (by omega) (by omega)
theorem three_next (f : Func) (w : World) (tmps : Array Value) (gf : Nat) (is : Bool) (er : Int) (hf : f.results = Try.f11.results) (h2 : tmps[2]?.getD undef = .pointer (some ⟨gf, 0, none⟩)) (h3 : tmps[3]?.getD undef = .bool is) (h4 : tmps[4]?.getD undef = .int .i64 er) (a b c : Value)
    (hF : Blk w gf 51 #[a, b, c]) : (results f tmps).run Try.prog w = .ok (.tuple #[.agg #[a, b, c], .bool is, .int .i64 er]) w := by
  have c0 := hF.cell 0
  have c1 := hF.cell 1
  have c2 := hF.cell 2
  simp only [List.getElem?_toArray, List.getElem?_cons_zero, List.getElem?_cons_succ] at c0 c1 c2
  simp [results, hf, Try.results11, go_sem, h2, h3, h4, c0, c1, c2]
section
variable {c : Ctx} {q' : Qs} {xs' : List UInt8} {wE w w' : World}
theorem Qn.put3 (h : Qn c q' xs' w) {k : Nat} {t : TypeId} {a0 a1 a2 : Value} (hk : Blk w k t #[a0, a1, a2]) (hE : c.w0.heap.size ≤ k) (a : t ≠ 91) (b : t ≠ 5) (d : t ≠ 111) (e : t ≠ 93) (b0 b1 b2 : Value) :
    Qn c q' xs' (((w.setCell ⟨k, 0, none⟩ b0).setCell ⟨k, 1, none⟩ b1).setCell ⟨k, 2, none⟩ b2) ∧ Blk (((w.setCell ⟨k, 0, none⟩ b0).setCell ⟨k, 1, none⟩ b1).setCell ⟨k, 2, none⟩ b2) k t #[b0, b1, b2] := by
  have k1 := hk.put 0 b0
  have k2 := k1.put 1 b1
  have k3 := k2.put 2 b2
  exact ⟨((h.put hk hE a b d e 0 b0).put k1 hE a b d e 1 b1).put k2 hE a b d e 2 b2, by simpa using k3⟩
/-- a call on the queue from here: what it leaves, seen from here and from the beginning -/
theorem Rm.again (h : Rm c wE w) : ∃ lv1, Rm { c with w0 := w, lv := lv1 } w w ∧ Mem c.B c.g c.gb lv1 c.xs w ∧ ∀ (q' : Qs) (xs' : List UInt8) (w' : World), Qn { c with w0 := w, lv := lv1 } q' xs' w' → Qn c q' xs' w' ∧
    ∀ (k : Nat) (t : TypeId) (cs : Array Value) (fr : Nat × Nat), w.heap[k]? = some (Obj.cells cs t fr) → t ≠ 91 → t ≠ 5 → t ≠ 111 → t ≠ 93 → w'.heap[k]? = w.heap[k]? := by
  obtain ⟨lv1, hM, hT, hL⟩ := h.mem
  refine ⟨lv1, ⟨h.blk, Noted.refl hM, Keep.refl _, Nat.le_refl _⟩, hM, fun q' xs' w' hQ => ⟨?_, fun k t cs fr hk a b d e => ?_⟩⟩
  · obtain ⟨lv2, hM2, hL2⟩ := hQ.mem
    have hs := hT.size
    refine ⟨hQ.blk, ⟨lv2, hM2, fun k hk => ?_⟩, hQ.os.trans hT.os, hQ.tape.trans hT.tape, hQ.output.trans hT.output, Nat.le_trans hs hQ.size, fun k hk x a b d => ?_⟩
    · rcases hL2 k hk with e | e
      · exact hL k e
      · right; exact Nat.le_trans hs e
    · exact (hQ.block k (Nat.lt_of_lt_of_le hk hs) x a b (fun e => by rcases hL k e with e | e; exact d e; omega)).trans (hT.block k hk a b d)
  · obtain ⟨n1, n2, n3⟩ := hM.far hk a b d
    refine hQ.block k (heap_lt hk) (fun e1 => ?_) n1 n2 n3
    subst e1
    have hb := h.blk
    unfold Blk at hb
    rw [hb] at hk
    injection hk with hk
    injection hk with _ e2
    exact e e2.symm
end
theorem next_broken {c : Ctx} {wE w : World} (h : Rm c wE w) (hb : c.q.broken = true) :
    Calls Try.prog 11 #[.pointer (some ⟨c.gq, 0, none⟩)] w (TakeP c w noCh false 141 c.q) := by
  have hB : w.cell? ⟨c.gq, 13, none⟩ = some (.bool true) := by rw [← hb]; exact h.blk.cell 13
  have HE := Lib.hid h.enter
  have HB := Nat.le_trans h.base h.keep.size
  have hlt := h.lt
  have hne := Nat.ne_of_lt hlt
  clear h hb
  go_enter Try.func11, Try.ntmps11
  go_wp2_with fail
  have k0 := Blk.new w 51 #[.int .i64 0, .int .i64 0, .slice none 0 0]
  have Q0 := Qn.of (HE.out.alloc (.cells #[.int .i64 0, .int .i64 0, .slice none 0 0] 51))
  exact bodyPost_ret (v := .tuple #[.agg #[.int .i64 0, .int .i64 0, .slice none 0 0], .bool false, .int .i64 141]) (three_next _ _ _ w.heap.size false 141 rfl rfl rfl rfl _ _ _ k0) rfl ⟨none, 0, rfl, World.ownsRow_nil _ _ _ _, Q0⟩
theorem next_full {c : Ctx} {wE w : World} (h : Rm c wE w) (hb : c.q.broken = false) (ho : c.q.out = c.q.size) :
    Calls Try.prog 11 #[.pointer (some ⟨c.gq, 0, none⟩)] w (TakeP c w noCh false 0 c.q) := by
  have hB : w.cell? ⟨c.gq, 13, none⟩ = some (.bool false) := by rw [← hb]; exact h.blk.cell 13
  obtain ⟨-, -, p2, -, -, -, -, -, p9⟩ := h.cells
  have he : (((c.q.out : Int)) == (c.q.size : Int)) = true := by rw [ho]; simp
  have HE := Lib.hid h.enter
  have HB := Nat.le_trans h.base h.keep.size
  have hlt := h.lt
  have hne := Nat.ne_of_lt hlt
  clear h hb ho
  go_enter Try.func11, Try.ntmps11
  go_wp2_with fail
  go_quiet (fail)
  have k0 := Blk.new w 51 #[.int .i64 0, .int .i64 0, .slice none 0 0]
  have Q0 := Qn.of ((HE.out.alloc (.cells #[.int .i64 0, .int .i64 0, .slice none 0 0] 51)).drewN nq)
  have k0 : Blk ((w.alloc (.cells #[.int .i64 0, .int .i64 0, .slice none 0 0] 51)).drewN nq) w.heap.size 51 #[.int .i64 0, .int .i64 0, .slice none 0 0] := k0
  obtain ⟨Q1, k1⟩ := Q0.put3 k0 HB (by decide) (by decide) (by decide) (by decide) (.int .i64 0) (.int .i64 0) (.slice none 0 0)
  have Q1 := Lib.hid Q1
  have k1 := Lib.hid k1
  clear Q0 k0
  go_wp2_with fail
  exact bodyPost_ret (v := .tuple #[.agg #[.int .i64 0, .int .i64 0, .slice none 0 0], .bool false, .int .i64 0]) (three_next _ _ _ w.heap.size false 0 rfl rfl rfl rfl _ _ _ k1.out) rfl ⟨none, 0, rfl, World.ownsRow_nil _ _ _ _, Q1.out⟩
theorem next_take {c : Ctx} {wE w : World} (h : Rm c wE w) (hb : c.q.broken = false) (ho : c.q.out ≠ c.q.size) (R : Ch) (is : Bool) (er : Int) (q' : Qs)
    (HT : ∀ W lv1, Rm { c with w0 := W, lv := lv1 } W W → Calls Try.prog 42 #[.pointer (some ⟨c.gq, 0, none⟩)] W (TakeP { c with w0 := W, lv := lv1 } W R is er q')) :
    Calls Try.prog 11 #[.pointer (some ⟨c.gq, 0, none⟩)] w (TakeP c w R is er q') := by
  have HT := Lib.hid HT
  have hB : w.cell? ⟨c.gq, 13, none⟩ = some (.bool false) := by rw [← hb]; exact h.blk.cell 13
  obtain ⟨-, -, p2, -, -, -, -, -, p9⟩ := h.cells
  have he : (((c.q.out : Int)) == (c.q.size : Int)) = false := by simp; omega
  have HE := Lib.hid h.enter
  have HB := Nat.le_trans h.base h.keep.size
  have hlt := h.lt
  have hne := Nat.ne_of_lt hlt
  clear h hb ho
  go_enter Try.func11, Try.ntmps11
  go_wp2_with fail
  go_quiet (fail)
  have R0 := ((HE.out.alloc (.cells #[.int .i64 0, .int .i64 0, .slice none 0 0] 51)).drewN nq)
  have k0 : Blk ((w.alloc (.cells #[.int .i64 0, .int .i64 0, .slice none 0 0] 51)).drewN nq) w.heap.size 51 #[.int .i64 0, .int .i64 0, .slice none 0 0] := Blk.new w 51 #[.int .i64 0, .int .i64 0, .slice none 0 0]
  obtain ⟨W, hW⟩ : ∃ W, (w.alloc (.cells #[.int .i64 0, .int .i64 0, .slice none 0 0] 51)).drewN nq = W := ⟨_, rfl⟩
  rw [hW] at R0 k0 ⊢
  clear hW
  go_wp2_with fail
  obtain ⟨lv1, RA, hMA, HQ⟩ := R0.again
  refine (HT.out _ lv1 RA).mono ?_
  rintro e w1 ⟨A, cap, rfl, own, Q1⟩
  have hws := Q1.size
  obtain ⟨Q2, hfar⟩ := HQ _ _ _ Q1
  have k1 := k0.same (hfar _ _ _ _ k0 (by decide) (by decide) (by decide) (by decide))
  have hwl : w.heap.size < W.heap.size := k0.lt
  have own := own_base own (Nat.le_of_lt hwl)
  have x0 := k1.cell 0
  have x1 := k1.cell 1
  have x2 := k1.cell 2
  simp only [List.getElem?_toArray, List.getElem?_cons_zero, List.getElem?_cons_succ] at x0 x1 x2
  have z := k1.frozen
  obtain ⟨Q3, k3⟩ := Q2.put3 k1 HB (by decide) (by decide) (by decide) (by decide) (.int .i64 (R.id : Int)) (.int .i64 (R.count : Int)) (.slice A R.parts.length cap)
  have O3 := own_same (w' := ((w1.setCell ⟨w.heap.size, 0, none⟩ (.int .i64 (R.id : Int))).setCell ⟨w.heap.size, 1, none⟩ (.int .i64 (R.count : Int))).setCell ⟨w.heap.size, 2, none⟩ (.slice A R.parts.length cap)) own (fun j hj => by
    have hne : j ≠ w.heap.size := fun e1 => own_ne own k1 (by decide) (e1 ▸ hj)
    rw [Below.heap_setCell _ _ _ _ hne, Below.heap_setCell _ _ _ _ hne, Below.heap_setCell _ _ _ _ hne])
  have Q3 := Lib.hid Q3
  have k3 := Lib.hid k3
  have O3 := Lib.hid O3
  clear Q1 Q2 k1 own hfar HQ hMA RA R0 k0
  go_wp2_with fail
  exact bodyPost_ret (v := .tuple #[.agg #[.int .i64 (R.id : Int), .int .i64 (R.count : Int), .slice A R.parts.length cap], .bool is, .int .i64 er]) (three_next _ _ _ w.heap.size is er rfl rfl rfl rfl _ _ _ k3.out) rfl ⟨A, cap, rfl, O3.out, Q3.out⟩
theorem next_any {c : Ctx} {wE w : World} (h : Rm c wE w) (hq : c.q.Ok c.xs.length) :
    Calls Try.prog 11 #[.pointer (some ⟨c.gq, 0, none⟩)] w (TakeP c w (nextC c.xs c.q).1 (nextC c.xs c.q).2.1 (nextC c.xs c.q).2.2.1 (nextC c.xs c.q).2.2.2) := by
  cases hb : c.q.broken
  · by_cases ho : c.q.out = c.q.size
    · have e : nextC c.xs c.q = (noCh, false, 0, c.q) := by unfold nextC; rw [if_neg (by simp [hb]), if_pos ho]
      rw [e]
      exact next_full h hb ho
    · exact next_take h hb ho _ _ _ _ (fun W lv1 hW => take_any hW hq hb ho)
  · have e : nextC c.xs c.q = (noCh, false, 141, c.q) := by unfold nextC; rw [if_pos hb]
    rw [e]
    exact next_broken h hb
theorem broken_any {c : Ctx} {wE w : World} (h : Rm c wE w) : Calls Try.prog 25 #[.pointer (some ⟨c.gq, 0, none⟩)] w fun e w' => e = .returned (.bool c.q.broken) ∧ w = w' := by
  have h0 : w.cell? ⟨c.gq, 13, none⟩ = some (.bool c.q.broken) := h.blk.cell 13
  clear h
  go_enter Try.func25, Try.ntmps25
  go_wp2
  go_ret
  exact ⟨rfl, rfl⟩
theorem out_any {c : Ctx} {wE w : World} (h : Rm c wE w) : Calls Try.prog 26 #[.pointer (some ⟨c.gq, 0, none⟩)] w fun e w' => e = .returned (.int .i64 (c.q.out : Int)) ∧ w = w' := by
  have h0 : w.cell? ⟨c.gq, 9, none⟩ = some (.int .i64 (c.q.out : Int)) := h.blk.cell 9
  clear h
  go_enter Try.func26, Try.ntmps26
  go_wp2
  go_ret
  exact ⟨rfl, rfl⟩
theorem failQ {c : Ctx} {wE w : World} (h : Rm c wE w) : Calls Try.prog 20 #[.pointer (some ⟨c.gq, 0, none⟩)] w fun e w' => e = .returned (.tuple #[]) ∧ Qn c { c.q with broken := true } c.xs w' :=
  (fail_any (Qn.of h)).mono fun _ _ ⟨he, hw⟩ => ⟨he, hw ▸ (Qn.of h).failed⟩
/-- a queue of its own, over another memory -/
theorem qclone_any {c : Ctx} {wE w : World} (h : Rm c wE w) (g2 : Nat) :
    Calls Try.prog 22 #[.pointer (some ⟨c.gq, 0, none⟩), .pointer (some ⟨g2, 0, none⟩)] w fun e w' => e = .returned (.pointer (some ⟨w.heap.size, 0, none⟩)) ∧ w' = w.alloc (.cells (c.q.cells g2) 93) := by
  have p0 : w.cell? ⟨c.gq, 0, none⟩ = some (.pointer (some ⟨c.g, 0, none⟩)) := h.blk.cell 0
  have p1 : w.cell? ⟨c.gq, 1, none⟩ = some (.int .i64 (c.q.ring : Int)) := h.blk.cell 1
  have p2 : w.cell? ⟨c.gq, 2, none⟩ = some (.int .i64 (c.q.size : Int)) := h.blk.cell 2
  have p3 : w.cell? ⟨c.gq, 3, none⟩ = some (.int .i64 (c.q.drv : Int)) := h.blk.cell 3
  have p4 : w.cell? ⟨c.gq, 4, none⟩ = some (.int .i64 (c.q.dev : Int)) := h.blk.cell 4
  have p5 : w.cell? ⟨c.gq, 5, none⟩ = some (.int .i64 (c.q.na : Int)) := h.blk.cell 5
  have p6 : w.cell? ⟨c.gq, 6, none⟩ = some (.bool c.q.nw) := h.blk.cell 6
  have p7 : w.cell? ⟨c.gq, 7, none⟩ = some (.int .i64 (c.q.ba : Int)) := h.blk.cell 7
  have p8 : w.cell? ⟨c.gq, 8, none⟩ = some (.bool c.q.bw) := h.blk.cell 8
  have p9 : w.cell? ⟨c.gq, 9, none⟩ = some (.int .i64 (c.q.out : Int)) := h.blk.cell 9
  have pa : w.cell? ⟨c.gq, 10, none⟩ = some (.int .i64 (c.q.ta : Int)) := h.blk.cell 10
  have pb : w.cell? ⟨c.gq, 11, none⟩ = some (.bool c.q.tw) := h.blk.cell 11
  have pc : w.cell? ⟨c.gq, 12, none⟩ = some (.int .i64 (c.q.since : Int)) := h.blk.cell 12
  have pd : w.cell? ⟨c.gq, 13, none⟩ = some (.bool c.q.broken) := h.blk.cell 13
  unfold Qs.cells
  clear h
  go_enter Try.func22, Try.ntmps22
  go_wp2
  go_ret
  exact ⟨rfl, rfl⟩
end Go.Proofs.Ytoblemgeacllkaa

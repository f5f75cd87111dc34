/-
  chain for every queue; the queue behind a call; take's variables; Fail; take's deferred closure.
-/
import Derived.Test.YtoblemgeacllkaaDq5
import Derived.Defers
import Derived.Recover
namespace Go.Proofs.Ytoblemgeacllkaa
open Go.RowKit

theorem ringGo_ok {xs : List UInt8} {ring size : Nat} (hr : ring + 16 * size ≤ xs.length) (hs : 1 ≤ size) : ∀ {f a : Nat} {l : List De} {d : De} {r : List De}, a < size → (∀ x ∈ l, x.Ok) → d.Ok → ringGo xs ring size f a l d = some r → ∀ x ∈ r, x.Ok := by
  intro f
  induction f with
  | zero =>
    intro a l d r ha hl hd h
    cases hb : d.bit 1
    · rw [ringGo_end hb] at h; injection h with h; subst h
      intro x hx
      rcases List.mem_append.1 hx with hx | hx
      · exact hl x hx
      · rw [List.mem_singleton.1 hx]; exact hd
    · rw [ringGo_none hb] at h; cases h
  | succ f ih =>
    intro a l d r ha hl hd h
    have hl2 : ∀ x ∈ l ++ [d], x.Ok := by
      intro x hx
      rcases List.mem_append.1 hx with hx | hx
      · exact hl x hx
      · rw [List.mem_singleton.1 hx]; exact hd
    cases hb : d.bit 1
    · rw [ringGo_end hb] at h; injection h with h; subst h; exact hl2
    · rw [ringGo_step hb] at h
      have := stA_lt ha hs
      exact ih this hl2 (deAt_ok xs _ (by omega)) h
theorem nameV_length {xs : List UInt8} {l n : List De} (h : nameV xs l = some n) (hl : l.length ≤ 64) : n.length ≤ 64 := by
  by_cases k : l.length = 1
  · match l, k with
    | [d], _ =>
      cases hb : d.bit 4
      · rw [nameV_one xs d hb] at h; injection h with h; subst h; exact hl
      · rw [nameV_tab xs d hb] at h
        cases ht : tabOk xs d
        · rw [ht] at h; cases h
        · rw [ht] at h; injection h with h; subst h
          have hyes : 0 < d.n ∧ d.n % 16 = 0 ∧ d.n ≤ 1024 ∧ d.a + d.n ≤ xs.length := by unfold tabOk at ht; simpa using ht
          unfold tabL
          simp
          omega
  · rw [nameV_more xs l k] at h; injection h with h; subst h; exact hl
theorem chain_any {c : Ctx} {wE w : World} (h : Rm c wE w) (hq : c.q.Ok c.xs.length) (hout : c.q.out < c.q.size) :
    Calls Try.prog 66 #[.pointer (some ⟨c.gq, 0, none⟩), (deAt c.xs (c.q.ring + 16 * c.q.na)).v] w (ChainP c w (chainV c.xs c.q)) := by
  have hd := deAt_ok c.xs (c.q.ring + 16 * c.q.na) (by have := hq.r; have := hq.na; omega)
  unfold chainV ringV
  generalize hr : ringGo c.xs c.q.ring c.q.size (allowed c.q - 1) c.q.na [] (deAt c.xs (c.q.ring + 16 * c.q.na)) = r
  cases r with
  | none => exact chain_ring h hq _ hd hout hr
  | some l =>
    have hl := ringGo_ok hq.r hq.s1 hq.na (by simp) hd hr
    have hl2 := ringGo_length hr
    have hal : allowed c.q ≤ 64 ∧ 1 ≤ allowed c.q := by unfold allowed; omega
    have hl3 : 1 ≤ l.length ∧ l.length ≤ 64 := by simp at hl2; omega
    show Calls Try.prog 66 _ w (ChainP c w ((nameV c.xs l).bind fun n => (partsGo c.xs n false).map fun p => ⟨lastId l, l.length, p⟩))
    cases hn : nameV c.xs l with
    | none => exact chain_name h hq _ hd hout l hr hn hl hl3
    | some n =>
      show Calls Try.prog 66 _ w (ChainP c w ((partsGo c.xs n false).map fun p => ⟨lastId l, l.length, p⟩))
      cases hp : partsGo c.xs n false with
      | none => exact chain_part h hq _ hd hout l n hr hn hp hl (nameV_length hn hl3.2) hl3
      | some p => exact chain_some h hq _ hd hout l n p hr hn hp hl (nameV_length hn hl3.2) hl3

/-- The queue behind a call: its numbers, the memory's bytes; nothing else that was there has turned. -/
structure Qn (c : Ctx) (q' : Qs) (xs' : List UInt8) (w' : World) : Prop where
  blk : Blk w' c.gq 93 (q'.cells c.g)
  mem : ∃ lv1, Mem c.B c.g c.gb lv1 xs' w' ∧ ∀ k, lv1.ownBlock = some k → c.lv.ownBlock = some k ∨ c.w0.heap.size ≤ k
  os : w'.os = c.w0.os
  tape : w'.tape = c.w0.tape
  output : w'.output = c.w0.output
  size : c.w0.heap.size ≤ w'.heap.size
  block : ∀ k, k < c.w0.heap.size → k ≠ c.gq → k ≠ c.g → k ≠ c.gb → c.lv.ownBlock ≠ some k → w'.heap[k]? = c.w0.heap[k]?
section
variable {c : Ctx} {q' : Qs} {xs' : List UInt8} {wE w w' : World}
theorem Qn.of (h : Rm c wE w) : Qn c c.q c.xs w := by
  obtain ⟨lv1, hM, hT, hL⟩ := h.mem
  exact ⟨h.blk, ⟨lv1, hM, hL⟩, hT.os, hT.tape, hT.output, hT.size, fun k hk _ a b d => hT.block k hk a b d⟩
theorem Qn.below (h : Qn c q' xs' w) (hq : Below w.heap.size w w') : Qn c q' xs' w' := by
  obtain ⟨lv1, hM, hL⟩ := h.mem
  exact ⟨h.blk.same (hq.block _ h.blk.lt), ⟨lv1, hM.below hq (Nat.le_refl _), hL⟩, hq.os.trans h.os, hq.tape.trans h.tape, hq.output.trans h.output, Nat.le_trans h.size hq.size, fun k hk x a b d => (hq.block k (by have := h.size; omega)).trans (h.block k hk x a b d)⟩
theorem Qn.alloc (h : Qn c q' xs' w) (o : Obj) : Qn c q' xs' (w.alloc o) := h.below ((Below.refl _ _).alloc (Nat.le_refl _) _)
theorem Qn.drew (h : Qn c q' xs' w) : Qn c q' xs' w.drew := h.below (Below.refl _ _).drew
/-- a store into a variable of the call's own -/
theorem Qn.put (h : Qn c q' xs' w) {k : Nat} {t : TypeId} {cs : Array Value} (hk : Blk w k t cs) (hE : c.w0.heap.size ≤ k) (a : t ≠ 91) (b : t ≠ 5) (d : t ≠ 111) (e : t ≠ 93) (i : Nat) (u : Value) : Qn c q' xs' (w.setCell ⟨k, i, none⟩ u) := by
  obtain ⟨lv1, hM, hL⟩ := h.mem
  obtain ⟨n1, n2, n3⟩ := hM.far hk a b d
  have o : ∀ j, j ≠ k → (w.setCell ⟨k, i, none⟩ u).heap[j]? = w.heap[j]? := fun j hj => Below.heap_setCell w _ u j hj
  exact ⟨h.blk.other (fun x => hk.ne h.blk e x.symm) i u, ⟨lv1, hM.kept (o _ n1.symm) (o _ n2.symm) (fun j hj => o j (fun x => n3 (x ▸ hj))), hL⟩, h.os, h.tape, h.output, by simpa [World.setCell] using h.size, fun j hj x y z v => (o j (by omega)).trans (h.block j hj x y z v)⟩
/-- a store into the queue itself -/
theorem Qn.set (h : Qn c q' xs' w) (i : Nat) (u : Value) {q2 : Qs} (hc : (q'.cells c.g).setIfInBounds i u = q2.cells c.g) : Qn c q2 xs' (w.setCell ⟨c.gq, i, none⟩ u) := by
  obtain ⟨lv1, hM, hL⟩ := h.mem
  obtain ⟨n1, n2, n3⟩ := hM.far h.blk (by decide) (by decide) (by decide)
  have o : ∀ j, j ≠ c.gq → (w.setCell ⟨c.gq, i, none⟩ u).heap[j]? = w.heap[j]? := fun j hj => Below.heap_setCell w _ u j hj
  refine ⟨by rw [← hc]; exact h.blk.put i u, ⟨lv1, hM.kept (o _ n1.symm) (o _ n2.symm) (fun j hj => o j (fun x => n3 (x ▸ hj))), hL⟩, h.os, h.tape, h.output, by simpa [World.setCell] using h.size, fun j hj x y z v => (o j x).trans (h.block j hj x y z v)⟩
theorem Qn.lt (h : Qn c q' xs' w) : c.gq < w.heap.size := h.blk.lt
end

/-- take's variables -/
structure TK (c : Ctx) (w : World) (x y z : Value) (is : Bool) (er : Int) (W : World) : Prop where
  b1 : Blk W w.heap.size 28 #[.pointer (some ⟨c.gq, 0, none⟩)]
  b2 : Blk W (w.heap.size + 1) 51 #[x, y, z]
  b3 : Blk W (w.heap.size + 1 + 1) 4 #[.bool is]
  b4 : Blk W (w.heap.size + 1 + 1 + 1) 42 #[.int .i64 er]
section
variable {c : Ctx} {w W W' : World} {x y z : Value} {is : Bool} {er : Int}
theorem TK.keep (h : TK c w x y z is er W) (hk : Keep W W') : TK c w x y z is er W' :=
  ⟨h.b1.keep hk (by decide) (by decide) (by decide), h.b2.keep hk (by decide) (by decide) (by decide), h.b3.keep hk (by decide) (by decide) (by decide), h.b4.keep hk (by decide) (by decide) (by decide)⟩
theorem TK.below (h : TK c w x y z is er W) (hq : Below W.heap.size W W') : TK c w x y z is er W' := h.keep (Keep.of_below hq)
theorem TK.other (h : TK c w x y z is er W) {k : Nat} {t : TypeId} {cs : Array Value} (hk : Blk W k t cs) (a : t ≠ 28) (b : t ≠ 51) (d : t ≠ 4) (e : t ≠ 42) (i : Nat) (u : Value) : TK c w x y z is er (W.setCell ⟨k, i, none⟩ u) :=
  ⟨h.b1.other (fun e1 => hk.ne h.b1 a e1.symm) i u, h.b2.other (fun e1 => hk.ne h.b2 b e1.symm) i u, h.b3.other (fun e1 => hk.ne h.b3 d e1.symm) i u, h.b4.other (fun e1 => hk.ne h.b4 e e1.symm) i u⟩
theorem TK.facts (h : TK c w x y z is er W) : W.cell? ⟨w.heap.size, 0, none⟩ = some (.pointer (some ⟨c.gq, 0, none⟩)) ∧ W.cell? ⟨w.heap.size + 1, 0, none⟩ = some x ∧ W.cell? ⟨w.heap.size + 1, 1, none⟩ = some y ∧ W.cell? ⟨w.heap.size + 1, 2, none⟩ = some z ∧ W.cell? ⟨w.heap.size + 1 + 1, 0, none⟩ = some (.bool is) ∧ W.cell? ⟨w.heap.size + 1 + 1 + 1, 0, none⟩ = some (.int .i64 er) ∧
    (∀ i, W.frozen? ⟨w.heap.size + 1, i, none⟩ = false) ∧ W.frozen? ⟨w.heap.size + 1 + 1, 0, none⟩ = false ∧ W.frozen? ⟨w.heap.size + 1 + 1 + 1, 0, none⟩ = false :=
  ⟨h.b1.cell 0, h.b2.cell 0, h.b2.cell 1, h.b2.cell 2, h.b3.cell 0, h.b4.cell 0, h.b2.frozen, h.b3.frozen 0, h.b4.frozen 0⟩
/-- the results laid into the variables -/
theorem TK.set (h : TK c w x y z is er W) (a b d : Value) (v : Bool) (n : Int) :
    TK c w a b d v n (((((W.setCell ⟨w.heap.size + 1, 0, none⟩ a).setCell ⟨w.heap.size + 1, 1, none⟩ b).setCell ⟨w.heap.size + 1, 2, none⟩ d).setCell ⟨w.heap.size + 1 + 1, 0, none⟩ (.bool v)).setCell ⟨w.heap.size + 1 + 1 + 1, 0, none⟩ (.int .i64 n)) := by
  refine ⟨((((h.b1.other (by omega) 0 a).other (by omega) 1 b).other (by omega) 2 d).other (by omega) 0 _).other (by omega) 0 _, ?_, ?_, ?_⟩
  · have := (((((h.b2.put 0 a).put 1 b).put 2 d).other (k := w.heap.size + 1 + 1) (by omega) 0 (.bool v)).other (k := w.heap.size + 1 + 1 + 1) (by omega) 0 (.int .i64 n))
    simpa using this
  · have := (((((h.b3.other (k := w.heap.size + 1) (by omega) 0 a).other (k := w.heap.size + 1) (by omega) 1 b).other (k := w.heap.size + 1) (by omega) 2 d).put 0 (.bool v)).other (k := w.heap.size + 1 + 1 + 1) (by omega) 0 (.int .i64 n))
    simpa using this
  · have := (((((h.b4.other (k := w.heap.size + 1) (by omega) 0 a).other (k := w.heap.size + 1) (by omega) 1 b).other (k := w.heap.size + 1) (by omega) 2 d).other (k := w.heap.size + 1 + 1) (by omega) 0 (.bool v)).put 0 (.int .i64 n))
    simpa using this
theorem TK.qn {q' : Qs} {xs' : List UInt8} (h : TK c w x y z is er W) (hQ : Qn c q' xs' W) (hw : c.w0.heap.size ≤ w.heap.size) (a b d : Value) (v : Bool) (n : Int) :
    Qn c q' xs' (((((W.setCell ⟨w.heap.size + 1, 0, none⟩ a).setCell ⟨w.heap.size + 1, 1, none⟩ b).setCell ⟨w.heap.size + 1, 2, none⟩ d).setCell ⟨w.heap.size + 1 + 1, 0, none⟩ (.bool v)).setCell ⟨w.heap.size + 1 + 1 + 1, 0, none⟩ (.int .i64 n)) := by
  have k1 := h.b2.put 0 a
  have k2 := k1.put 1 b
  have k3 := (((h.b3.other (k := w.heap.size + 1) (by omega) 0 a).other (k := w.heap.size + 1) (by omega) 1 b).other (k := w.heap.size + 1) (by omega) 2 d)
  have k4 := ((((h.b4.other (k := w.heap.size + 1) (by omega) 0 a).other (k := w.heap.size + 1) (by omega) 1 b).other (k := w.heap.size + 1) (by omega) 2 d).other (k := w.heap.size + 1 + 1) (by omega) 0 (.bool v))
  exact ((((hQ.put h.b2 (by omega) (by decide) (by decide) (by decide) (by decide) 0 a).put k1 (by omega) (by decide) (by decide) (by decide) (by decide) 1 b).put k2 (by omega) (by decide) (by decide) (by decide) (by decide) 2 d).put k3 (by omega) (by decide) (by decide) (by decide) (by decide) 0 (.bool v)).put k4 (by omega) (by decide) (by decide) (by decide) (by decide) 0 (.int .i64 n)
end

/-! Fail -/
theorem fail_any {c : Ctx} {q' : Qs} {xs' : List UInt8} {w : World} (h : Qn c q' xs' w) :
    Calls Try.prog 20 #[.pointer (some ⟨c.gq, 0, none⟩)] w fun e w' => e = .returned (.tuple #[]) ∧ w' = w.setCell ⟨c.gq, 13, none⟩ (.bool true) := by
  have h0 := h.blk.cell 13
  have f0 := h.blk.frozen 13
  have e : (q'.cells c.g)[13]? = some (.bool q'.broken) := rfl
  rw [e] at h0
  clear h e
  go_enter Try.func20, Try.ntmps20
  go_wp2
  go_end0
  exact ⟨rfl, rfl⟩
theorem Qn.failed {c : Ctx} {q' : Qs} {xs' : List UInt8} {w : World} (h : Qn c q' xs' w) : Qn c { q' with broken := true } xs' (w.setCell ⟨c.gq, 13, none⟩ (.bool true)) := h.set 13 _ rfl

/-! take's deferred closure -/
theorem assert_bad (W : World) : (Instr.typeAssert (.iface 113 (.agg #[])) 20 113 true).run Try.prog W = .ok (.tuple #[.agg #[], .bool true]) W := by kernel_rfl
set_option maxRecDepth 100000 in
set_option maxHeartbeats 1600000 in
theorem catch_panicking {c : Ctx} {q' : Qs} {xs' : List UInt8} {w W : World} {x y z : Value} {is : Bool} {er : Int} (older : List PanicEntry) (hT : TK c w x y z is er W) (hQ : Qn c q' xs' W) (hw : c.w0.heap.size ≤ w.heap.size) :
    CallsD Try.prog 62 #[.pointer (some ⟨w.heap.size, 0, none⟩), .pointer (some ⟨w.heap.size + 1, 0, none⟩), .pointer (some ⟨w.heap.size + 1 + 1, 0, none⟩), .pointer (some ⟨w.heap.size + 1 + 1 + 1, 0, none⟩)] (.panicking ({ v := badV, recovered := false } :: older)) W fun e u' w' =>
      e = .returned (.tuple #[]) ∧ u' = .panicking ({ v := badV, recovered := true } :: older) ∧ TK c w (.int .i64 0) (.int .i64 0) (.slice none 0 0) false 141 w' ∧ Qn c { q' with broken := true } xs' w' := by
  have HT := Lib.hid hT
  have HQ := Lib.hid hQ
  obtain ⟨p0, p1, p2, p3, p4, p5, z1, z2, z3⟩ := hT.facts
  have hlt := hT.b4.lt
  have hl0 : w.heap.size < W.heap.size := by omega
  have hn0 : W.heap.size ≠ w.heap.size := by omega
  have hn1 : W.heap.size ≠ w.heap.size + 1 := by omega
  have hn2 : W.heap.size ≠ w.heap.size + 1 + 1 := by omega
  have hn3 : W.heap.size ≠ w.heap.size + 1 + 1 + 1 := by omega
  clear hT hQ
  refine callsD_of_wpS Try.func62 rfl fun c₀ cs hu => ?_
  unfold badV at *
  apply wpS_seq
  apply wpS_region
  simp [wpOpsS, go_sem, recoverD, hu, Try.ntmps62, Exit.thenS]
  refine wpS_of_wp ?_
  change Code.wp _ _ _ { tmps := #[Value.pointer (some { block := w.heap.size, off := 0 }), Value.pointer (some { block := w.heap.size + 1, off := 0 }), Value.pointer (some { block := w.heap.size + 1 + 1, off := 0 }), Value.pointer (some { block := w.heap.size + 1 + 1 + 1, off := 0 }), undef, undef, undef, Value.iface 113 (Value.agg #[]), undef, undef, undef, undef, undef, undef, undef, undef], defers := [] } W
  have ha := assert_bad
  go_wp2_with fail
  refine (fail_any (HQ.out.alloc _)).mono ?_
  rintro e w1 ⟨rfl, hw1⟩
  have T1 := (HT.out.below ((Below.refl _ _).alloc (Nat.le_refl _) (.cells #[] 113))).other (HQ.out.alloc (.cells #[] 113)).blk (by decide) (by decide) (by decide) (by decide) 13 (.bool true)
  have Q1 := (HQ.out.alloc (.cells #[] 113)).failed
  rw [← hw1] at T1 Q1
  clear hw1 p0 p1 p2 p3 p4 p5 z1 z2 z3 hn0 hn1 hn2 hn3 hlt
  obtain ⟨p0, p1, p2, p3, p4, p5, z1, z2, z3⟩ := T1.facts
  have HR := Lib.hid (T1.set (.int .i64 0) (.int .i64 0) (.slice none 0 0) false 141)
  have HS := Lib.hid (T1.qn Q1 hw (.int .i64 0) (.int .i64 0) (.slice none 0 0) false 141)
  clear T1 Q1
  go_wp2_with fail
  refine ⟨rfl, _, rfl, .tuple #[], by simp [results, Try.results62], rfl, rfl, HR.out, HS.out⟩
theorem catch_idle (a b c d : Value) (w : World) :
    CallsD Try.prog 62 #[a, b, c, d] .returning w fun e u' w' => e = .returned (.tuple #[]) ∧ u' = .returning ∧ w' = w := by
  refine callsD_of_wpS Try.func62 rfl fun c₀ cs hu => ?_
  apply wpS_seq
  apply wpS_region
  simp [wpOpsS, go_sem, recoverD, hu, Try.ntmps62, Exit.thenS]
  refine wpS_of_wp ?_
  change Code.wp _ _ _ { tmps := #[a, b, c, d, undef, undef, undef, Value.nilIface, undef, undef, undef, undef, undef, undef, undef, undef], defers := [] } w
  go_wp2
  cases c₀
  simp_all [bodyPostS, results, Try.results62]
end Go.Proofs.Ytoblemgeacllkaa

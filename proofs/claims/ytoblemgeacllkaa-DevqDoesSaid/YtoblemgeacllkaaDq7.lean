/-
  take: what it answers, and what it leaves.
-/
import Derived.Test.YtoblemgeacllkaaDq6
namespace Go.Proofs.Ytoblemgeacllkaa
open Go.RowKit

theorem make_func (fn : Fn) (first cap : Array Value) (w : World) : (Instr.makeFunc fn first cap).run Try.prog w = .ok (.func fn first cap) w := rfl
theorem availB_of {R : Nat} (h : Rest R) (a u : Bool) (w : Bool) : availB (R + mk a u) w = (a == w && u != w) := by
  obtain ⟨h1, h2, h3⟩ := h
  have e1 : ((R + mk a u) / 128 % 2 == 1) = a := by
    unfold mk one
    cases a <;> cases u <;> simp <;> omega
  have e2 : ((R + mk a u) / 32768 % 2 == 1) = u := by
    unfold mk one
    cases a <;> cases u <;> simp <;> omega
  unfold availB
  rw [e1, e2]
  cases a <;> cases u <;> cases w <;> rfl
theorem avail_f (f : Nat) (h : f < 65536) (v : Bool) (w : World) :
    Calls Try.prog 65 #[.int .i64 (f : Int), .bool v] w fun e w' => e = .returned (.bool (availB f v)) ∧ w = w' := by
  obtain ⟨a, u, R, hR, rfl⟩ := split f h
  rw [availB_of hR]
  exact avail_any R hR a u v w
theorem ravail_f (f : Nat) (h : f < 65536) (v : Bool) (w : World) :
    Calls Try.prog 43 #[.int .i64 (f : Int), .bool v] w fun e w' => e = .returned (.bool (availB f v)) ∧ w = w' := by
  obtain ⟨a, u, R, hR, rfl⟩ := split f h
  rw [availB_of hR]
  exact ravail_any R hR a u v w
/-- what take answers -/
def TakeP (c : Ctx) (w : World) (h : Ch) (is : Bool) (er : Int) (q' : Qs) (e : Ending) (w' : World) : Prop :=
  ∃ A cap, e = .returned (.tuple #[.agg #[.int .i64 (h.id : Int), .int .i64 (h.count : Int), .slice A h.parts.length cap], .bool is, .int .i64 er]) ∧ w'.ownsRow w.heap.size 56 3 (.slice A h.parts.length cap) h.parts.length (ptCells h.parts) ∧ Qn c q' c.xs w'
theorem take_results {c : Ctx} {w W : World} {x y z : Value} {is : Bool} {er : Int} (hT : TK c w x y z is er W) (tmps : Array Value) (h2 : tmps[2]?.getD undef = .pointer (some ⟨w.heap.size + 1, 0, none⟩)) (h3 : tmps[3]?.getD undef = .pointer (some ⟨w.heap.size + 1 + 1, 0, none⟩)) (h4 : tmps[4]?.getD undef = .pointer (some ⟨w.heap.size + 1 + 1 + 1, 0, none⟩)) :
    (results Try.f42 tmps).run Try.prog W = .ok (.tuple #[.agg #[x, y, z], .bool is, .int .i64 er]) W := by
  obtain ⟨p0, p1, p2, p3, p4, p5, -, -, -⟩ := hT.facts
  simp [results, Try.results42, go_sem, h2, h3, h4, p1, p2, p3, p4, p5]
theorem door_panic {c : Ctx} {q' : Qs} {w W : World} {x y z : Value} {is : Bool} {er : Int} (hT : TK c w x y z is er W) (hQ : Qn c q' c.xs W) (hw : c.w0.heap.size ≤ w.heap.size) (tmps : Array Value) (h2 : tmps[2]?.getD undef = .pointer (some ⟨w.heap.size + 1, 0, none⟩)) (h3 : tmps[3]?.getD undef = .pointer (some ⟨w.heap.size + 1 + 1, 0, none⟩)) (h4 : tmps[4]?.getD undef = .pointer (some ⟨w.heap.size + 1 + 1 + 1, 0, none⟩)) :
    bodyPostD Try.prog Try.f42 (TakeP c w noCh false 141 { q' with broken := true }) (.panic [{ v := badV, recovered := false }])
      { tmps := tmps, defers := [{ target := .fn (.func 62) #[.pointer (some ⟨w.heap.size, 0, none⟩), .pointer (some ⟨w.heap.size + 1, 0, none⟩), .pointer (some ⟨w.heap.size + 1 + 1, 0, none⟩), .pointer (some ⟨w.heap.size + 1 + 1 + 1, 0, none⟩)], args := #[] }] } W := by
  refine leaves_cons (f := 62) (args := #[.pointer (some ⟨w.heap.size, 0, none⟩), .pointer (some ⟨w.heap.size + 1, 0, none⟩), .pointer (some ⟨w.heap.size + 1 + 1, 0, none⟩), .pointer (some ⟨w.heap.size + 1 + 1 + 1, 0, none⟩)]) (by simp) (by simp [go_sem]) ?_
  refine (catch_panicking [] hT hQ hw).mono ?_
  rintro e u' w'' ⟨rfl, rfl, hT2, hQ2⟩
  exact ⟨_, take_results hT2 tmps h2 h3 h4, none, 0, rfl, World.ownsRow_nil _ _ _ _, hQ2⟩
theorem door_ret {c : Ctx} {q' : Qs} {w W : World} {is : Bool} {er : Int} {h : Ch} {A : Option Addr} {cap : Nat} (hT : TK c w (.int .i64 (h.id : Int)) (.int .i64 (h.count : Int)) (.slice A h.parts.length cap) is er W) (hQ : Qn c q' c.xs W) (ho : W.ownsRow w.heap.size 56 3 (.slice A h.parts.length cap) h.parts.length (ptCells h.parts)) (tmps : Array Value) (h2 : tmps[2]?.getD undef = .pointer (some ⟨w.heap.size + 1, 0, none⟩)) (h3 : tmps[3]?.getD undef = .pointer (some ⟨w.heap.size + 1 + 1, 0, none⟩)) (h4 : tmps[4]?.getD undef = .pointer (some ⟨w.heap.size + 1 + 1 + 1, 0, none⟩)) :
    bodyPostD Try.prog Try.f42 (TakeP c w h is er q') .ret
      { tmps := tmps, defers := [{ target := .fn (.func 62) #[.pointer (some ⟨w.heap.size, 0, none⟩), .pointer (some ⟨w.heap.size + 1, 0, none⟩), .pointer (some ⟨w.heap.size + 1 + 1, 0, none⟩), .pointer (some ⟨w.heap.size + 1 + 1 + 1, 0, none⟩)], args := #[] }] } W := by
  refine leaves_cons (f := 62) (args := #[.pointer (some ⟨w.heap.size, 0, none⟩), .pointer (some ⟨w.heap.size + 1, 0, none⟩), .pointer (some ⟨w.heap.size + 1 + 1, 0, none⟩), .pointer (some ⟨w.heap.size + 1 + 1 + 1, 0, none⟩)]) (by simp) (by simp [go_sem]) ?_
  refine (catch_idle _ _ _ _ W).mono ?_
  rintro e u' w'' ⟨rfl, rfl, rfl⟩
  exact ⟨_, take_results hT tmps h2 h3 h4, A, cap, rfl, ho, hQ⟩

theorem blk4 {W : World} {k : Nat} {t : TypeId} {a b d e : Value} (h : Blk W k t #[a, b, d, e]) : W.cell? ⟨k, 0, none⟩ = some a ∧ W.cell? ⟨k, 1, none⟩ = some b ∧ W.cell? ⟨k, 2, none⟩ = some d ∧ W.cell? ⟨k, 3, none⟩ = some e ∧
    W.frozen? ⟨k, 0, none⟩ = false ∧ W.frozen? ⟨k, 1, none⟩ = false ∧ W.frozen? ⟨k, 2, none⟩ = false ∧ W.frozen? ⟨k, 3, none⟩ = false :=
  ⟨h.cell 0, h.cell 1, h.cell 2, h.cell 3, h.frozen 0, h.frozen 1, h.frozen 2, h.frozen 3⟩
theorem drew_le {W W1 : World} (h : Below W.drew.heap.size W.drew W1) : W.heap.size ≤ W1.heap.size := h.size
/-- take's beginning under way -/
structure TB (c : Ctx) (w W : World) : Prop where
  rm : Rm c w W
  tk : TK c w (.int .i64 0) (.int .i64 0) (.slice none 0 0) false 0 W
def TF (c : Ctx) (w W : World) : Prop :=
  (W.cell? ⟨w.heap.size, 0, none⟩ = some (.pointer (some ⟨c.gq, 0, none⟩)) ∧ W.cell? ⟨c.gq, 5, none⟩ = some (.int .i64 (c.q.na : Int)) ∧ W.cell? ⟨c.gq, 6, none⟩ = some (.bool c.q.nw)) ∧ TB c w W
section
variable {c : Ctx} {w W W' : World}
theorem TF.of (h : TB c w W) : TF c w W := ⟨⟨h.tk.facts.1, h.rm.cells.2.2.2.2.1, h.rm.cells.2.2.2.2.2.1⟩, h⟩
theorem TB.on (h : TB c w W) (hr : Rm c W W') : TB c w W' := ⟨h.rm.leave hr, h.tk.keep hr.keep⟩
theorem TB.below (h : TB c w W) (hq : Below W.heap.size W W') : TB c w W' := ⟨h.rm.below hq, h.tk.below hq⟩
theorem TB.alloc (h : TB c w W) (o : Obj) : TB c w (W.alloc o) := h.below ((Below.refl _ _).alloc (Nat.le_refl _) _)
theorem TB.drew (h : TB c w W) : TB c w W.drew := h.below (Below.refl _ _).drew
theorem TB.store (h : TB c w W) {k : Nat} {a0 a1 a2 a3 : Value} (hk : Blk W k 35 #[a0, a1, a2, a3]) (hlt : w.heap.size ≤ k) (p q r s : Value) :
    TB c w ((((W.setCell ⟨k, 0, none⟩ p).setCell ⟨k, 1, none⟩ q).setCell ⟨k, 2, none⟩ r).setCell ⟨k, 3, none⟩ s) ∧ Blk ((((W.setCell ⟨k, 0, none⟩ p).setCell ⟨k, 1, none⟩ q).setCell ⟨k, 2, none⟩ r).setCell ⟨k, 3, none⟩ s) k 35 #[p, q, r, s] := by
  obtain ⟨r4, b4⟩ := h.rm.put4 hk hlt (by decide) (by decide) (by decide) (by decide) p q r s
  have k1 := hk.put 0 p
  have k2 := k1.put 1 q
  have k3 := k2.put 2 r
  exact ⟨⟨r4, (((h.tk.other hk (by decide) (by decide) (by decide) (by decide) 0 p).other k1 (by decide) (by decide) (by decide) (by decide) 1 q).other k2 (by decide) (by decide) (by decide) (by decide) 2 r).other k3 (by decide) (by decide) (by decide) (by decide) 3 s⟩, b4⟩
end
theorem tk_new (c : Ctx) (w : World) : TK c w (.int .i64 0) (.int .i64 0) (.slice none 0 0) false 0 ((((w.alloc (.cells #[.pointer (some ⟨c.gq, 0, none⟩)] 28)).alloc (.cells #[.int .i64 0, .int .i64 0, .slice none 0 0] 51)).alloc (.cells #[.bool false] 4)).alloc (.cells #[.int .i64 0] 42)) := by
  refine ⟨(((Blk.new w 28 _).alloc _).alloc _).alloc _, ((Sp.Blk.new2 w _ 51 _).alloc _).alloc _, ?_, ?_⟩
  · have := (Blk.new ((w.alloc (.cells #[.pointer (some ⟨c.gq, 0, none⟩)] 28)).alloc (.cells #[.int .i64 0, .int .i64 0, .slice none 0 0] 51)) 4 #[.bool false]).alloc (.cells #[.int .i64 0] 42)
    simpa using this
  · have := Blk.new (((w.alloc (.cells #[.pointer (some ⟨c.gq, 0, none⟩)] 28)).alloc (.cells #[.int .i64 0, .int .i64 0, .slice none 0 0] 51)).alloc (.cells #[.bool false] 4)) 42 #[.int .i64 0]
    simpa using this
set_option maxRecDepth 100000 in
set_option maxHeartbeats 3200000 in
theorem take_not {c : Ctx} {wE w : World} (h : Rm c wE w) (hq : c.q.Ok c.xs.length) (ha : availB (deAt c.xs (c.q.ring + 16 * c.q.na)).f c.q.nw = false) :
    Calls Try.prog 42 #[.pointer (some ⟨c.gq, 0, none⟩)] w (TakeP c w noCh false 0 c.q) := by
  have hd := deAt_ok c.xs (c.q.ring + 16 * c.q.na) (by have := hq.r; have := hq.na; omega)
  obtain ⟨lvx, hMx⟩ := h.get
  have hxl := hMx.len
  have HO := fun W (h : Rm c W W) => offset_any h c.q.na c.q.nw (by have := hq.r; have := hq.na; omega)
  have HX := fun W (h : Rm c W W) => desc_any h (c.q.ring + 16 * c.q.na) (by have := hq.r; have := hq.na; omega)
  have HA := fun W => avail_f _ hd.f c.q.nw W
  rw [ha] at HA
  obtain ⟨d, ed⟩ : ∃ d, deAt c.xs (c.q.ring + 16 * c.q.na) = d := ⟨_, rfl⟩
  rw [ed] at HX HA
  unfold De.v at HX
  obtain ⟨p', ep⟩ : ∃ p', ((c.q.ring + 16 * c.q.na : Nat) : Int) = p' := ⟨_, rfl⟩
  rw [ep] at HX HO
  have HO := Lib.hid HO
  have HX := Lib.hid HX
  have HA := Lib.hid HA
  have HE := Lib.hid h.enter
  have HB := h.base
  have hk := h.keep.size
  have hlt := h.lt
  have hne := Nat.ne_of_lt hlt
  have hmf := make_func
  have B0 : TB c w ((((w.alloc (.cells #[.pointer (some ⟨c.gq, 0, none⟩)] 28)).alloc (.cells #[.int .i64 0, .int .i64 0, .slice none 0 0] 51)).alloc (.cells #[.bool false] 4)).alloc (.cells #[.int .i64 0] 42)) :=
    ⟨(((HE.out.alloc _).alloc _).alloc _).alloc _, tk_new c w⟩
  have B0 := Lib.hid B0
  clear h hq hd ha ed hMx hxl ep
  go_enter_defers Try.func42, Try.ntmps42
  go_wp2_with fail
  obtain ⟨W0, hW0⟩ : ∃ W0, ((((w.alloc (.cells #[.pointer (some ⟨c.gq, 0, none⟩)] 28)).alloc (.cells #[.int .i64 0, .int .i64 0, .slice none 0 0] 51)).alloc (.cells #[.bool false] 4)).alloc (.cells #[.int .i64 0] 42)) = W0 := ⟨_, rfl⟩
  rw [hW0] at B0 ⊢
  clear hW0
  have hw0 : w.heap.size + 1 + 1 + 1 < W0.heap.size := B0.out.tk.b4.lt
  go_region_held3 (fun W => (W.cell? ⟨w.heap.size, 0, none⟩ = some (.pointer (some ⟨c.gq, 0, none⟩)) ∧ W.cell? ⟨c.gq, 5, none⟩ = some (.int .i64 (c.q.na : Int)) ∧ W.cell? ⟨c.gq, 6, none⟩ = some (.bool c.q.nw)) ∧ TB c w W)
    ((refine (id (α := TF c w _) ?_); with_reducible (first
      | exact TF.of B0.out.drew | exact TF.of (B0.out.alloc _).drew
      | exact TF.of (B0.out.drew.below hq) | exact TF.of ((B0.out.alloc _).drew.below hq)
      | exact TF.of ((B0.out.drew.below hq).alloc _)
      | exact TF.of ((B0.out.drew.below hq).on hr) | exact TF.of (((B0.out.alloc _).drew.below hq).on hr) | exact TF.of (((B0.out.drew.below hq).alloc _).on hr)
      | exact TF.of (((B0.out.drew.below hq).on hr).alloc _)
      | exact TF.of (TB.store (((B0.out.alloc _).drew.below hq).on hr) hk1 (by omega) _ _ _ _).1 | exact TF.of (TB.store (((B0.out.drew.below hq).alloc _).on hr) hk2 (by have := drew_le hq; omega) _ _ _ _).1)))
    (first
      | (go_at_call 64; ((with_reducible refine (HO.out _ B0.out.drew.rm.enter).mono ?_); rintro e w1 ⟨rfl, hq⟩))
      | (go_at_call 64; ((with_reducible refine (HO.out _ (B0.out.alloc (.cells #[.int .u64 0, .int .u32 0, .int .i64 0, .int .i64 0] 35)).drew.rm.enter).mono ?_); rintro e w1 ⟨rfl, hq⟩))
      | (go_at_call 63; ((with_reducible refine (HX.out _ ((B0.out.alloc (.cells #[.int .u64 0, .int .u32 0, .int .i64 0, .int .i64 0] 35)).drew.below hq).rm.enter).mono ?_); rintro e w2 ⟨rfl, hr⟩; have hk1 := (((Blk.new W0 35 #[.int .u64 0, .int .u32 0, .int .i64 0, .int .i64 0]).drew).same (hq.block _ ((Blk.new W0 35 #[.int .u64 0, .int .u32 0, .int .i64 0, .int .i64 0]).drew).lt)).keep hr.keep (by decide) (by decide) (by decide); obtain ⟨q0, q1, q2, q3, s0, s1, s2, s3⟩ := blk4 hk1))
      | (go_at_call 63; ((with_reducible refine (HX.out _ ((B0.out.drew.below hq).alloc (.cells #[.int .u64 0, .int .u32 0, .int .i64 0, .int .i64 0] 35)).rm.enter).mono ?_); rintro e w2 ⟨rfl, hr⟩; have hk2 := (Blk.new w1 35 #[.int .u64 0, .int .u32 0, .int .i64 0, .int .i64 0]).keep hr.keep (by decide) (by decide) (by decide); obtain ⟨q0, q1, q2, q3, s0, s1, s2, s3⟩ := blk4 hk2))
      | (go_at_call 63; ((with_reducible refine (HX.out _ (B0.out.drew.below hq).rm.enter).mono ?_); rintro e w2 ⟨rfl, hr⟩)))
  · have hA := ((B0.out.drew.below hq).on hr).alloc (.cells #[.int .u64 (d.a : Int), .int .u32 (d.n : Int), .int .i64 (d.id : Int), .int .i64 (d.f : Int)] 35)
    have hB := Blk.new w2 35 #[.int .u64 (d.a : Int), .int .u32 (d.n : Int), .int .i64 (d.id : Int), .int .i64 (d.f : Int)]
    have hlk : w.heap.size + 1 + 1 + 1 < w2.heap.size := ((B0.out.drew.below hq).on hr).tk.b4.lt
    obtain ⟨W, hW⟩ : ∃ W, w2.alloc (.cells #[.int .u64 (d.a : Int), .int .u32 (d.n : Int), .int .i64 (d.id : Int), .int .i64 (d.f : Int)] 35) = W := ⟨_, rfl⟩
    obtain ⟨K, hK⟩ : ∃ K, w2.heap.size = K := ⟨_, rfl⟩
    rw [hW] at hA hB ⊢
    rw [hK] at hB hlk ⊢
    clear hW hK hr hq
    obtain ⟨p0, p1, p2, p3, p4, p5, z1, z2, z3⟩ := hA.tk.facts
    obtain ⟨-, -, -, -, -, g6, -, -, -⟩ := hA.rm.cells
    have k3 := hB.cell 3
    have k0 := hB.cell 0
    have k1 := hB.cell 1
    have k2 := hB.cell 2
    simp only [List.getElem?_toArray, List.getElem?_cons_zero, List.getElem?_cons_succ] at k0 k1 k2 k3
    have HA1 := Lib.hid hA
    clear hA hB
    go_wp2_with fail
    go_quiet ((go_at_call 65; exact Calls.quiet_of_same ((HA.out _).mono fun _ _ hh => ⟨hh.1, hh.2.symm⟩)))
    have T1 := HA1.out.tk.below (below_drewN (Below.refl _ _) nq)
    have Q1 := Qn.of (HA1.out.rm.drewN nq)
    generalize World.drewN W nq = W2 at *
    obtain ⟨p0, p1, p2, p3, p4, p5, z1, z2, z3⟩ := T1.facts
    have HT := Lib.hid (T1.set (.int .i64 0) (.int .i64 0) (.slice none 0 0) false 0)
    have HQ := Lib.hid (T1.qn Q1 (Nat.le_trans HB hk) (.int .i64 0) (.int .i64 0) (.slice none 0 0) false 0)
    clear T1 Q1
    go_wp2_with fail
    exact door_ret (h := noCh) (A := none) (cap := 0) HT.out HQ.out (World.ownsRow_nil _ _ _ _) _ rfl rfl rfl
  · obtain ⟨hA, hB⟩ := TB.store (((B0.out.drew.below hq).alloc (.cells #[.int .u64 0, .int .u32 0, .int .i64 0, .int .i64 0] 35)).on hr) hk2 (by have := drew_le hq; omega) (.int .u64 (d.a : Int)) (.int .u32 (d.n : Int)) (.int .i64 (d.id : Int)) (.int .i64 (d.f : Int))
    have hlk : w.heap.size + 1 + 1 + 1 < w1.heap.size := by have := drew_le hq; omega
    obtain ⟨W, hW⟩ : ∃ W, (((w2.setCell ⟨w1.heap.size, 0, none⟩ (.int .u64 (d.a : Int))).setCell ⟨w1.heap.size, 1, none⟩ (.int .u32 (d.n : Int))).setCell ⟨w1.heap.size, 2, none⟩ (.int .i64 (d.id : Int))).setCell ⟨w1.heap.size, 3, none⟩ (.int .i64 (d.f : Int)) = W := ⟨_, rfl⟩
    obtain ⟨K, hK⟩ : ∃ K, w1.heap.size = K := ⟨_, rfl⟩
    rw [hW] at hA hB ⊢
    rw [hK] at hB hlk ⊢
    clear hW hK hr hq
    obtain ⟨p0, p1, p2, p3, p4, p5, z1, z2, z3⟩ := hA.tk.facts
    obtain ⟨-, -, -, -, -, g6, -, -, -⟩ := hA.rm.cells
    have k3 := hB.cell 3
    have k0 := hB.cell 0
    have k1 := hB.cell 1
    have k2 := hB.cell 2
    simp only [List.getElem?_toArray, List.getElem?_cons_zero, List.getElem?_cons_succ] at k0 k1 k2 k3
    have HA1 := Lib.hid hA
    clear hA hB
    go_wp2_with fail
    go_quiet ((go_at_call 65; exact Calls.quiet_of_same ((HA.out _).mono fun _ _ hh => ⟨hh.1, hh.2.symm⟩)))
    have T1 := HA1.out.tk.below (below_drewN (Below.refl _ _) nq)
    have Q1 := Qn.of (HA1.out.rm.drewN nq)
    generalize World.drewN W nq = W2 at *
    obtain ⟨p0, p1, p2, p3, p4, p5, z1, z2, z3⟩ := T1.facts
    have HT := Lib.hid (T1.set (.int .i64 0) (.int .i64 0) (.slice none 0 0) false 0)
    have HQ := Lib.hid (T1.qn Q1 (Nat.le_trans HB hk) (.int .i64 0) (.int .i64 0) (.slice none 0 0) false 0)
    clear T1 Q1
    go_wp2_with fail
    exact door_ret (h := noCh) (A := none) (cap := 0) HT.out HQ.out (World.ownsRow_nil _ _ _ _) _ rfl rfl rfl
  · obtain ⟨hA, hB⟩ := TB.store (((B0.out.alloc (.cells #[.int .u64 0, .int .u32 0, .int .i64 0, .int .i64 0] 35)).drew.below hq).on hr) hk1 (by omega) (.int .u64 (d.a : Int)) (.int .u32 (d.n : Int)) (.int .i64 (d.id : Int)) (.int .i64 (d.f : Int))
    have hlk : w.heap.size + 1 + 1 + 1 < W0.heap.size := hw0
    obtain ⟨W, hW⟩ : ∃ W, (((w2.setCell ⟨W0.heap.size, 0, none⟩ (.int .u64 (d.a : Int))).setCell ⟨W0.heap.size, 1, none⟩ (.int .u32 (d.n : Int))).setCell ⟨W0.heap.size, 2, none⟩ (.int .i64 (d.id : Int))).setCell ⟨W0.heap.size, 3, none⟩ (.int .i64 (d.f : Int)) = W := ⟨_, rfl⟩
    obtain ⟨K, hK⟩ : ∃ K, W0.heap.size = K := ⟨_, rfl⟩
    rw [hW] at hA hB ⊢
    rw [hK] at hB hlk ⊢
    clear hW hK hr hq
    obtain ⟨p0, p1, p2, p3, p4, p5, z1, z2, z3⟩ := hA.tk.facts
    obtain ⟨-, -, -, -, -, g6, -, -, -⟩ := hA.rm.cells
    have k3 := hB.cell 3
    have k0 := hB.cell 0
    have k1 := hB.cell 1
    have k2 := hB.cell 2
    simp only [List.getElem?_toArray, List.getElem?_cons_zero, List.getElem?_cons_succ] at k0 k1 k2 k3
    have HA1 := Lib.hid hA
    clear hA hB
    go_wp2_with fail
    go_quiet ((go_at_call 65; exact Calls.quiet_of_same ((HA.out _).mono fun _ _ hh => ⟨hh.1, hh.2.symm⟩)))
    have T1 := HA1.out.tk.below (below_drewN (Below.refl _ _) nq)
    have Q1 := Qn.of (HA1.out.rm.drewN nq)
    generalize World.drewN W nq = W2 at *
    obtain ⟨p0, p1, p2, p3, p4, p5, z1, z2, z3⟩ := T1.facts
    have HT := Lib.hid (T1.set (.int .i64 0) (.int .i64 0) (.slice none 0 0) false 0)
    have HQ := Lib.hid (T1.qn Q1 (Nat.le_trans HB hk) (.int .i64 0) (.int .i64 0) (.slice none 0 0) false 0)
    clear T1 Q1
    go_wp2_with fail
    exact door_ret (h := noCh) (A := none) (cap := 0) HT.out HQ.out (World.ownsRow_nil _ _ _ _) _ rfl rfl rfl
set_option maxRecDepth 100000 in
set_option maxHeartbeats 3200000 in
theorem take_bad {c : Ctx} {wE w : World} (h : Rm c wE w) (hq : c.q.Ok c.xs.length) (hout : c.q.out < c.q.size) (ha : availB (deAt c.xs (c.q.ring + 16 * c.q.na)).f c.q.nw = true) (hV : chainV c.xs c.q = none) :
    Calls Try.prog 42 #[.pointer (some ⟨c.gq, 0, none⟩)] w (TakeP c w noCh false 141 { c.q with broken := true }) := by
  have hd := deAt_ok c.xs (c.q.ring + 16 * c.q.na) (by have := hq.r; have := hq.na; omega)
  obtain ⟨lvx, hMx⟩ := h.get
  have hxl := hMx.len
  have HO := fun W (h : Rm c W W) => offset_any h c.q.na c.q.nw (by have := hq.r; have := hq.na; omega)
  have HX := fun W (h : Rm c W W) => desc_any h (c.q.ring + 16 * c.q.na) (by have := hq.r; have := hq.na; omega)
  have HA := fun W => avail_f _ hd.f c.q.nw W
  rw [ha] at HA
  have HC := fun W (h : Rm c W W) => chain_any h hq hout
  rw [hV] at HC
  obtain ⟨d, ed⟩ : ∃ d, deAt c.xs (c.q.ring + 16 * c.q.na) = d := ⟨_, rfl⟩
  rw [ed] at HX HA HC
  unfold De.v at HX HC
  have HC := Lib.hid HC
  obtain ⟨p', ep⟩ : ∃ p', ((c.q.ring + 16 * c.q.na : Nat) : Int) = p' := ⟨_, rfl⟩
  rw [ep] at HX HO
  have HO := Lib.hid HO
  have HX := Lib.hid HX
  have HA := Lib.hid HA
  have HE := Lib.hid h.enter
  have HB := h.base
  have hk := h.keep.size
  have hlt := h.lt
  have hne := Nat.ne_of_lt hlt
  have hmf := make_func
  have B0 : TB c w ((((w.alloc (.cells #[.pointer (some ⟨c.gq, 0, none⟩)] 28)).alloc (.cells #[.int .i64 0, .int .i64 0, .slice none 0 0] 51)).alloc (.cells #[.bool false] 4)).alloc (.cells #[.int .i64 0] 42)) :=
    ⟨(((HE.out.alloc _).alloc _).alloc _).alloc _, tk_new c w⟩
  have B0 := Lib.hid B0
  clear h hq hd ha ed hMx hxl ep hV
  go_enter_defers Try.func42, Try.ntmps42
  go_wp2_with fail
  obtain ⟨W0, hW0⟩ : ∃ W0, ((((w.alloc (.cells #[.pointer (some ⟨c.gq, 0, none⟩)] 28)).alloc (.cells #[.int .i64 0, .int .i64 0, .slice none 0 0] 51)).alloc (.cells #[.bool false] 4)).alloc (.cells #[.int .i64 0] 42)) = W0 := ⟨_, rfl⟩
  rw [hW0] at B0 ⊢
  clear hW0
  have hw0 : w.heap.size + 1 + 1 + 1 < W0.heap.size := B0.out.tk.b4.lt
  go_region_held3 (fun W => (W.cell? ⟨w.heap.size, 0, none⟩ = some (.pointer (some ⟨c.gq, 0, none⟩)) ∧ W.cell? ⟨c.gq, 5, none⟩ = some (.int .i64 (c.q.na : Int)) ∧ W.cell? ⟨c.gq, 6, none⟩ = some (.bool c.q.nw)) ∧ TB c w W)
    ((refine (id (α := TF c w _) ?_); with_reducible (first
      | exact TF.of B0.out.drew | exact TF.of (B0.out.alloc _).drew
      | exact TF.of (B0.out.drew.below hq) | exact TF.of ((B0.out.alloc _).drew.below hq)
      | exact TF.of ((B0.out.drew.below hq).alloc _)
      | exact TF.of ((B0.out.drew.below hq).on hr) | exact TF.of (((B0.out.alloc _).drew.below hq).on hr) | exact TF.of (((B0.out.drew.below hq).alloc _).on hr)
      | exact TF.of (((B0.out.drew.below hq).on hr).alloc _)
      | exact TF.of (TB.store (((B0.out.alloc _).drew.below hq).on hr) hk1 (by omega) _ _ _ _).1 | exact TF.of (TB.store (((B0.out.drew.below hq).alloc _).on hr) hk2 (by have := drew_le hq; omega) _ _ _ _).1)))
    (first
      | (go_at_call 64; ((with_reducible refine (HO.out _ B0.out.drew.rm.enter).mono ?_); rintro e w1 ⟨rfl, hq⟩))
      | (go_at_call 64; ((with_reducible refine (HO.out _ (B0.out.alloc (.cells #[.int .u64 0, .int .u32 0, .int .i64 0, .int .i64 0] 35)).drew.rm.enter).mono ?_); rintro e w1 ⟨rfl, hq⟩))
      | (go_at_call 63; ((with_reducible refine (HX.out _ ((B0.out.alloc (.cells #[.int .u64 0, .int .u32 0, .int .i64 0, .int .i64 0] 35)).drew.below hq).rm.enter).mono ?_); rintro e w2 ⟨rfl, hr⟩; have hk1 := (((Blk.new W0 35 #[.int .u64 0, .int .u32 0, .int .i64 0, .int .i64 0]).drew).same (hq.block _ ((Blk.new W0 35 #[.int .u64 0, .int .u32 0, .int .i64 0, .int .i64 0]).drew).lt)).keep hr.keep (by decide) (by decide) (by decide); obtain ⟨q0, q1, q2, q3, s0, s1, s2, s3⟩ := blk4 hk1))
      | (go_at_call 63; ((with_reducible refine (HX.out _ ((B0.out.drew.below hq).alloc (.cells #[.int .u64 0, .int .u32 0, .int .i64 0, .int .i64 0] 35)).rm.enter).mono ?_); rintro e w2 ⟨rfl, hr⟩; have hk2 := (Blk.new w1 35 #[.int .u64 0, .int .u32 0, .int .i64 0, .int .i64 0]).keep hr.keep (by decide) (by decide) (by decide); obtain ⟨q0, q1, q2, q3, s0, s1, s2, s3⟩ := blk4 hk2))
      | (go_at_call 63; ((with_reducible refine (HX.out _ (B0.out.drew.below hq).rm.enter).mono ?_); rintro e w2 ⟨rfl, hr⟩)))
  · have hA := ((B0.out.drew.below hq).on hr).alloc (.cells #[.int .u64 (d.a : Int), .int .u32 (d.n : Int), .int .i64 (d.id : Int), .int .i64 (d.f : Int)] 35)
    have hB := Blk.new w2 35 #[.int .u64 (d.a : Int), .int .u32 (d.n : Int), .int .i64 (d.id : Int), .int .i64 (d.f : Int)]
    have hlk : w.heap.size + 1 + 1 + 1 < w2.heap.size := ((B0.out.drew.below hq).on hr).tk.b4.lt
    obtain ⟨W, hW⟩ : ∃ W, w2.alloc (.cells #[.int .u64 (d.a : Int), .int .u32 (d.n : Int), .int .i64 (d.id : Int), .int .i64 (d.f : Int)] 35) = W := ⟨_, rfl⟩
    obtain ⟨K, hK⟩ : ∃ K, w2.heap.size = K := ⟨_, rfl⟩
    rw [hW] at hA hB ⊢
    rw [hK] at hB hlk ⊢
    clear hW hK hr hq
    obtain ⟨p0, p1, p2, p3, p4, p5, z1, z2, z3⟩ := hA.tk.facts
    obtain ⟨-, -, -, -, -, g6, -, -, -⟩ := hA.rm.cells
    have k3 := hB.cell 3
    have k0 := hB.cell 0
    have k1 := hB.cell 1
    have k2 := hB.cell 2
    simp only [List.getElem?_toArray, List.getElem?_cons_zero, List.getElem?_cons_succ] at k0 k1 k2 k3
    have HA1 := Lib.hid hA
    clear hA hB
    go_wp2_with fail
    go_quiet ((go_at_call 65; exact Calls.quiet_of_same ((HA.out _).mono fun _ _ hh => ⟨hh.1, hh.2.symm⟩)))
    have T1 := HA1.out.tk.below (below_drewN (Below.refl _ _) nq)
    have R1 := HA1.out.rm.drewN nq
    have kk0 : (World.drewN W nq).cell? ⟨K, 0, none⟩ = some (.int .u64 (d.a : Int)) := k0
    have kk1 : (World.drewN W nq).cell? ⟨K, 1, none⟩ = some (.int .u32 (d.n : Int)) := k1
    have kk2 : (World.drewN W nq).cell? ⟨K, 2, none⟩ = some (.int .i64 (d.id : Int)) := k2
    have kk3 : (World.drewN W nq).cell? ⟨K, 3, none⟩ = some (.int .i64 (d.f : Int)) := k3
    clear k0 k1 k2 k3 p0 p1 p2 p3 p4 p5 z1 z2 z3 g6
    obtain ⟨p0, -⟩ := T1.facts
    generalize World.drewN W nq = W2 at *
    have T1 := Lib.hid T1
    have R1 := Lib.hid R1
    go_wp2_with fail
    refine (HC.out _ R1.out.enter).mono ?_
    intro e w3 hL
    obtain ⟨R3, he⟩ := hL
    have he : Bad e := he
    unfold Bad at he
    subst he
    exact door_panic (T1.out.keep R3.keep) (Qn.of (R1.out.leave R3)) (Nat.le_trans HB hk) _ rfl rfl rfl
  · obtain ⟨hA, hB⟩ := TB.store (((B0.out.drew.below hq).alloc (.cells #[.int .u64 0, .int .u32 0, .int .i64 0, .int .i64 0] 35)).on hr) hk2 (by have := drew_le hq; omega) (.int .u64 (d.a : Int)) (.int .u32 (d.n : Int)) (.int .i64 (d.id : Int)) (.int .i64 (d.f : Int))
    have hlk : w.heap.size + 1 + 1 + 1 < w1.heap.size := by have := drew_le hq; omega
    obtain ⟨W, hW⟩ : ∃ W, (((w2.setCell ⟨w1.heap.size, 0, none⟩ (.int .u64 (d.a : Int))).setCell ⟨w1.heap.size, 1, none⟩ (.int .u32 (d.n : Int))).setCell ⟨w1.heap.size, 2, none⟩ (.int .i64 (d.id : Int))).setCell ⟨w1.heap.size, 3, none⟩ (.int .i64 (d.f : Int)) = W := ⟨_, rfl⟩
    obtain ⟨K, hK⟩ : ∃ K, w1.heap.size = K := ⟨_, rfl⟩
    rw [hW] at hA hB ⊢
    rw [hK] at hB hlk ⊢
    clear hW hK hr hq
    obtain ⟨p0, p1, p2, p3, p4, p5, z1, z2, z3⟩ := hA.tk.facts
    obtain ⟨-, -, -, -, -, g6, -, -, -⟩ := hA.rm.cells
    have k3 := hB.cell 3
    have k0 := hB.cell 0
    have k1 := hB.cell 1
    have k2 := hB.cell 2
    simp only [List.getElem?_toArray, List.getElem?_cons_zero, List.getElem?_cons_succ] at k0 k1 k2 k3
    have HA1 := Lib.hid hA
    clear hA hB
    go_wp2_with fail
    go_quiet ((go_at_call 65; exact Calls.quiet_of_same ((HA.out _).mono fun _ _ hh => ⟨hh.1, hh.2.symm⟩)))
    have T1 := HA1.out.tk.below (below_drewN (Below.refl _ _) nq)
    have R1 := HA1.out.rm.drewN nq
    have kk0 : (World.drewN W nq).cell? ⟨K, 0, none⟩ = some (.int .u64 (d.a : Int)) := k0
    have kk1 : (World.drewN W nq).cell? ⟨K, 1, none⟩ = some (.int .u32 (d.n : Int)) := k1
    have kk2 : (World.drewN W nq).cell? ⟨K, 2, none⟩ = some (.int .i64 (d.id : Int)) := k2
    have kk3 : (World.drewN W nq).cell? ⟨K, 3, none⟩ = some (.int .i64 (d.f : Int)) := k3
    clear k0 k1 k2 k3 p0 p1 p2 p3 p4 p5 z1 z2 z3 g6
    obtain ⟨p0, -⟩ := T1.facts
    generalize World.drewN W nq = W2 at *
    have T1 := Lib.hid T1
    have R1 := Lib.hid R1
    go_wp2_with fail
    refine (HC.out _ R1.out.enter).mono ?_
    intro e w3 hL
    obtain ⟨R3, he⟩ := hL
    have he : Bad e := he
    unfold Bad at he
    subst he
    exact door_panic (T1.out.keep R3.keep) (Qn.of (R1.out.leave R3)) (Nat.le_trans HB hk) _ rfl rfl rfl
  · obtain ⟨hA, hB⟩ := TB.store (((B0.out.alloc (.cells #[.int .u64 0, .int .u32 0, .int .i64 0, .int .i64 0] 35)).drew.below hq).on hr) hk1 (by omega) (.int .u64 (d.a : Int)) (.int .u32 (d.n : Int)) (.int .i64 (d.id : Int)) (.int .i64 (d.f : Int))
    have hlk : w.heap.size + 1 + 1 + 1 < W0.heap.size := hw0
    obtain ⟨W, hW⟩ : ∃ W, (((w2.setCell ⟨W0.heap.size, 0, none⟩ (.int .u64 (d.a : Int))).setCell ⟨W0.heap.size, 1, none⟩ (.int .u32 (d.n : Int))).setCell ⟨W0.heap.size, 2, none⟩ (.int .i64 (d.id : Int))).setCell ⟨W0.heap.size, 3, none⟩ (.int .i64 (d.f : Int)) = W := ⟨_, rfl⟩
    obtain ⟨K, hK⟩ : ∃ K, W0.heap.size = K := ⟨_, rfl⟩
    rw [hW] at hA hB ⊢
    rw [hK] at hB hlk ⊢
    clear hW hK hr hq
    obtain ⟨p0, p1, p2, p3, p4, p5, z1, z2, z3⟩ := hA.tk.facts
    obtain ⟨-, -, -, -, -, g6, -, -, -⟩ := hA.rm.cells
    have k3 := hB.cell 3
    have k0 := hB.cell 0
    have k1 := hB.cell 1
    have k2 := hB.cell 2
    simp only [List.getElem?_toArray, List.getElem?_cons_zero, List.getElem?_cons_succ] at k0 k1 k2 k3
    have HA1 := Lib.hid hA
    clear hA hB
    go_wp2_with fail
    go_quiet ((go_at_call 65; exact Calls.quiet_of_same ((HA.out _).mono fun _ _ hh => ⟨hh.1, hh.2.symm⟩)))
    have T1 := HA1.out.tk.below (below_drewN (Below.refl _ _) nq)
    have R1 := HA1.out.rm.drewN nq
    have kk0 : (World.drewN W nq).cell? ⟨K, 0, none⟩ = some (.int .u64 (d.a : Int)) := k0
    have kk1 : (World.drewN W nq).cell? ⟨K, 1, none⟩ = some (.int .u32 (d.n : Int)) := k1
    have kk2 : (World.drewN W nq).cell? ⟨K, 2, none⟩ = some (.int .i64 (d.id : Int)) := k2
    have kk3 : (World.drewN W nq).cell? ⟨K, 3, none⟩ = some (.int .i64 (d.f : Int)) := k3
    clear k0 k1 k2 k3 p0 p1 p2 p3 p4 p5 z1 z2 z3 g6
    obtain ⟨p0, -⟩ := T1.facts
    generalize World.drewN W nq = W2 at *
    have T1 := Lib.hid T1
    have R1 := Lib.hid R1
    go_wp2_with fail
    refine (HC.out _ R1.out.enter).mono ?_
    intro e w3 hL
    obtain ⟨R3, he⟩ := hL
    have he : Bad e := he
    unfold Bad at he
    subst he
    exact door_panic (T1.out.keep R3.keep) (Qn.of (R1.out.leave R3)) (Nat.le_trans HB hk) _ rfl rfl rfl
end Go.Proofs.Ytoblemgeacllkaa

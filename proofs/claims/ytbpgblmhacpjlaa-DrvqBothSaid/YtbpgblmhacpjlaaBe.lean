/-
  A device's queue: Next and Done.
-/
import Derived.Test.YtbpgblmhacpjlaaBb
import Derived.Test.YtbpgblmhacpjlaaChk
import Derived.Test.YtbpgblmhacpjlaaOv
namespace Go.Proofs.Ytbpgblmhacpjlaa
open Go.RowKit

theorem make_func (fn : Fn) (first cap : Array Value) (w : World) : (Instr.makeFunc fn first cap).run Try.prog w = .ok (.func fn first cap) w := rfl
theorem availB_of {R : Nat} (h : Rest R) (a u : Bool) (w : Bool) : availB (R + mk a u) w = (a == w && u != w) := by
  obtain ⟨h1, h2, h3⟩ := h
  have e1 : ((R + mk a u) / 128 % 2 == 1) = a := by
    unfold mk one
    cases a <;> cases u <;> simp <;> omega
  have e2 : ((R + mk a u) / 32768 % 2 == 1) = u := by
    unfold mk one
    cases a <;> cases u <;> simp <;> omega
  unfold availB
  rw [e1, e2]
  cases a <;> cases u <;> cases w <;> rfl
theorem avail_f (f : Nat) (h : f < 65536) (v : Bool) (w : World) :
    Calls Try.prog 64 #[.int .i64 (f : Int), .bool v] w fun e w' => e = .returned (.bool (availB f v)) ∧ w = w' := by
  obtain ⟨a, u, R, hR, rfl⟩ := split f h
  rw [availB_of hR]
  exact avail_any R hR a u v w
/-- what take answers -/
def TakeP (c : Ctx) (w : World) (h : Ch) (is : Bool) (er : Int) (q' : Qs) (e : Ending) (w' : World) : Prop :=
  ∃ A cap, e = .returned (.tuple #[.agg #[.int .i64 (h.id : Int), .int .i64 (h.count : Int), .slice A h.parts.length cap], .bool is, .int .i64 er]) ∧ w'.ownsRow w.heap.size 77 3 (.slice A h.parts.length cap) h.parts.length (ptCells h.parts) ∧ Qn c q' c.xs w'
theorem take_results {c : Ctx} {w W : World} {x y z : Value} {is : Bool} {er : Int} (hT : TK c w x y z is er W) (tmps : Array Value) (h2 : tmps[2]?.getD undef = .pointer (some ⟨w.heap.size + 1, 0, none⟩)) (h3 : tmps[3]?.getD undef = .pointer (some ⟨w.heap.size + 1 + 1, 0, none⟩)) (h4 : tmps[4]?.getD undef = .pointer (some ⟨w.heap.size + 1 + 1 + 1, 0, none⟩)) :
    (results Try.f38 tmps).run Try.prog W = .ok (.tuple #[.agg #[x, y, z], .bool is, .int .i64 er]) W := by
  obtain ⟨p0, p1, p2, p3, p4, p5, -, -, -⟩ := hT.facts
  simp [results, Try.results38, go_sem, h2, h3, h4, p1, p2, p3, p4, p5]
theorem door_panic {c : Ctx} {q' : Qs} {w W : World} {x y z : Value} {is : Bool} {er : Int} (hT : TK c w x y z is er W) (hQ : Qn c q' c.xs W) (hw : c.w0.heap.size ≤ w.heap.size) (tmps : Array Value) (h2 : tmps[2]?.getD undef = .pointer (some ⟨w.heap.size + 1, 0, none⟩)) (h3 : tmps[3]?.getD undef = .pointer (some ⟨w.heap.size + 1 + 1, 0, none⟩)) (h4 : tmps[4]?.getD undef = .pointer (some ⟨w.heap.size + 1 + 1 + 1, 0, none⟩)) :
    bodyPostD Try.prog Try.f38 (TakeP c w noCh false 141 { q' with broken := true }) (.panic [{ v := badV, recovered := false }])
      { tmps := tmps, defers := [{ target := .fn (.func 60) #[.pointer (some ⟨w.heap.size, 0, none⟩), .pointer (some ⟨w.heap.size + 1, 0, none⟩), .pointer (some ⟨w.heap.size + 1 + 1, 0, none⟩), .pointer (some ⟨w.heap.size + 1 + 1 + 1, 0, none⟩)], args := #[] }] } W := by
  refine leaves_cons (f := 60) (args := #[.pointer (some ⟨w.heap.size, 0, none⟩), .pointer (some ⟨w.heap.size + 1, 0, none⟩), .pointer (some ⟨w.heap.size + 1 + 1, 0, none⟩), .pointer (some ⟨w.heap.size + 1 + 1 + 1, 0, none⟩)]) (by simp) (by simp [go_sem]) ?_
  refine (catch_panicking [] hT hQ hw).mono ?_
  rintro e u' w'' ⟨rfl, rfl, hT2, hQ2⟩
  exact ⟨_, take_results hT2 tmps h2 h3 h4, none, 0, rfl, World.ownsRow_nil _ _ _ _, hQ2⟩
theorem door_ret {c : Ctx} {q' : Qs} {w W : World} {is : Bool} {er : Int} {h : Ch} {A : Option Addr} {cap : Nat} (hT : TK c w (.int .i64 (h.id : Int)) (.int .i64 (h.count : Int)) (.slice A h.parts.length cap) is er W) (hQ : Qn c q' c.xs W) (ho : W.ownsRow w.heap.size 77 3 (.slice A h.parts.length cap) h.parts.length (ptCells h.parts)) (tmps : Array Value) (h2 : tmps[2]?.getD undef = .pointer (some ⟨w.heap.size + 1, 0, none⟩)) (h3 : tmps[3]?.getD undef = .pointer (some ⟨w.heap.size + 1 + 1, 0, none⟩)) (h4 : tmps[4]?.getD undef = .pointer (some ⟨w.heap.size + 1 + 1 + 1, 0, none⟩)) :
    bodyPostD Try.prog Try.f38 (TakeP c w h is er q') .ret
      { tmps := tmps, defers := [{ target := .fn (.func 60) #[.pointer (some ⟨w.heap.size, 0, none⟩), .pointer (some ⟨w.heap.size + 1, 0, none⟩), .pointer (some ⟨w.heap.size + 1 + 1, 0, none⟩), .pointer (some ⟨w.heap.size + 1 + 1 + 1, 0, none⟩)], args := #[] }] } W := by
  refine leaves_cons (f := 60) (args := #[.pointer (some ⟨w.heap.size, 0, none⟩), .pointer (some ⟨w.heap.size + 1, 0, none⟩), .pointer (some ⟨w.heap.size + 1 + 1, 0, none⟩), .pointer (some ⟨w.heap.size + 1 + 1 + 1, 0, none⟩)]) (by simp) (by simp [go_sem]) ?_
  refine (catch_idle _ _ _ _ W).mono ?_
  rintro e u' w'' ⟨rfl, rfl, rfl⟩
  exact ⟨_, take_results hT tmps h2 h3 h4, A, cap, rfl, ho, hQ⟩

theorem drew_le {W W1 : World} (h : Below W.drew.heap.size W.drew W1) : W.heap.size ≤ W1.heap.size := h.size
/-- take's beginning under way -/
structure TB (c : Ctx) (w W : World) : Prop where
  rm : Rm c w W
  tk : TK c w (.int .i64 0) (.int .i64 0) (.slice none 0 0) false 0 W
def TF (c : Ctx) (w W : World) : Prop :=
  (W.cell? ⟨w.heap.size, 0, none⟩ = some (.pointer (some ⟨c.gq, 0, none⟩)) ∧ W.cell? ⟨c.gq, 5, none⟩ = some (.int .i64 (c.q.na : Int)) ∧ W.cell? ⟨c.gq, 6, none⟩ = some (.bool c.q.nw)) ∧ TB c w W
section
variable {c : Ctx} {w W W' : World}
theorem TF.of (h : TB c w W) : TF c w W := ⟨⟨h.tk.facts.1, h.rm.cells.2.2.2.2.1, h.rm.cells.2.2.2.2.2.1⟩, h⟩
theorem TB.on (h : TB c w W) (hr : Rm c W W') : TB c w W' := ⟨h.rm.leave hr, h.tk.keep hr.keep⟩
theorem TB.below (h : TB c w W) (hq : Below W.heap.size W W') : TB c w W' := ⟨h.rm.below hq, h.tk.below hq⟩
theorem TB.alloc (h : TB c w W) (o : Obj) : TB c w (W.alloc o) := h.below ((Below.refl _ _).alloc (Nat.le_refl _) _)
theorem TB.drew (h : TB c w W) : TB c w W.drew := h.below (Below.refl _ _).drew
theorem TB.store (h : TB c w W) {k : Nat} {a0 a1 a2 a3 : Value} (hk : Blk W k 100 #[a0, a1, a2, a3]) (hlt : w.heap.size ≤ k) (p q r s : Value) :
    TB c w ((((W.setCell ⟨k, 0, none⟩ p).setCell ⟨k, 1, none⟩ q).setCell ⟨k, 2, none⟩ r).setCell ⟨k, 3, none⟩ s) ∧ Blk ((((W.setCell ⟨k, 0, none⟩ p).setCell ⟨k, 1, none⟩ q).setCell ⟨k, 2, none⟩ r).setCell ⟨k, 3, none⟩ s) k 100 #[p, q, r, s] := by
  obtain ⟨r4, b4⟩ := h.rm.put4 hk hlt (by decide) (by decide) (by decide) (by decide) p q r s
  have k1 := hk.put 0 p
  have k2 := k1.put 1 q
  have k3 := k2.put 2 r
  exact ⟨⟨r4, (((h.tk.other hk (by decide) (by decide) (by decide) (by decide) 0 p).other k1 (by decide) (by decide) (by decide) (by decide) 1 q).other k2 (by decide) (by decide) (by decide) (by decide) 2 r).other k3 (by decide) (by decide) (by decide) (by decide) 3 s⟩, b4⟩
end
theorem tk_new (c : Ctx) (w : World) : TK c w (.int .i64 0) (.int .i64 0) (.slice none 0 0) false 0 ((((w.alloc (.cells #[.pointer (some ⟨c.gq, 0, none⟩)] 32)).alloc (.cells #[.int .i64 0, .int .i64 0, .slice none 0 0] 44)).alloc (.cells #[.bool false] 4)).alloc (.cells #[.int .i64 0] 26)) := by
  refine ⟨(((Blk.new w 32 _).alloc _).alloc _).alloc _, ((Sp.Blk.new2 w _ 44 _).alloc _).alloc _, ?_, ?_⟩
  · have := (Blk.new ((w.alloc (.cells #[.pointer (some ⟨c.gq, 0, none⟩)] 32)).alloc (.cells #[.int .i64 0, .int .i64 0, .slice none 0 0] 44)) 4 #[.bool false]).alloc (.cells #[.int .i64 0] 26)
    simpa using this
  · have := Blk.new (((w.alloc (.cells #[.pointer (some ⟨c.gq, 0, none⟩)] 32)).alloc (.cells #[.int .i64 0, .int .i64 0, .slice none 0 0] 44)).alloc (.cells #[.bool false] 4)) 26 #[.int .i64 0]
    simpa using this
set_option maxRecDepth 100000 in
set_option maxHeartbeats 3200000 in
theorem take_not {c : Ctx} {wE w : World} (h : Rm c wE w) (hq : c.q.Ok c.xs.length) (ha : availB (deAt c.xs (c.q.ring + 16 * c.q.na)).f c.q.nw = false) :
    Calls Try.prog 38 #[.pointer (some ⟨c.gq, 0, none⟩)] w (TakeP c w noCh false 0 c.q) := by
  have hd := deAt_ok c.xs (c.q.ring + 16 * c.q.na) (by have := hq.r; have := hq.na; omega)
  obtain ⟨lvx, hMx⟩ := h.get
  have hxl := hMx.len
  have HO := fun W (h : Rm c W W) => offset_any h c.q.na c.q.nw (by have := hq.r; have := hq.na; omega)
  have HX := fun W (h : Rm c W W) => desc_any h (c.q.ring + 16 * c.q.na) (by have := hq.r; have := hq.na; omega)
  have HA := fun W => avail_f _ hd.f c.q.nw W
  rw [ha] at HA
  obtain ⟨d, ed⟩ : ∃ d, deAt c.xs (c.q.ring + 16 * c.q.na) = d := ⟨_, rfl⟩
  rw [ed] at HX HA
  unfold De.v at HX
  obtain ⟨p', ep⟩ : ∃ p', ((c.q.ring + 16 * c.q.na : Nat) : Int) = p' := ⟨_, rfl⟩
  rw [ep] at HX HO
  have HO := Lib.hid HO
  have HX := Lib.hid HX
  have HA := Lib.hid HA
  have HE := Lib.hid h.enter
  have HB := h.base
  have hk := h.keep.size
  have hlt := h.lt
  have hne := Nat.ne_of_lt hlt
  have hmf := make_func
  have B0 : TB c w ((((w.alloc (.cells #[.pointer (some ⟨c.gq, 0, none⟩)] 32)).alloc (.cells #[.int .i64 0, .int .i64 0, .slice none 0 0] 44)).alloc (.cells #[.bool false] 4)).alloc (.cells #[.int .i64 0] 26)) :=
    ⟨(((HE.out.alloc _).alloc _).alloc _).alloc _, tk_new c w⟩
  have B0 := Lib.hid B0
  clear h hq hd ha ed hMx hxl ep
  go_enter_defers Try.func38, Try.ntmps38
  go_wp2_with fail
  obtain ⟨W0, hW0⟩ : ∃ W0, ((((w.alloc (.cells #[.pointer (some ⟨c.gq, 0, none⟩)] 32)).alloc (.cells #[.int .i64 0, .int .i64 0, .slice none 0 0] 44)).alloc (.cells #[.bool false] 4)).alloc (.cells #[.int .i64 0] 26)) = W0 := ⟨_, rfl⟩
  rw [hW0] at B0 ⊢
  clear hW0
  have hw0 : w.heap.size + 1 + 1 + 1 < W0.heap.size := B0.out.tk.b4.lt
  go_region_held3 (fun W => (W.cell? ⟨w.heap.size, 0, none⟩ = some (.pointer (some ⟨c.gq, 0, none⟩)) ∧ W.cell? ⟨c.gq, 5, none⟩ = some (.int .i64 (c.q.na : Int)) ∧ W.cell? ⟨c.gq, 6, none⟩ = some (.bool c.q.nw)) ∧ TB c w W)
    ((refine (id (α := TF c w _) ?_); with_reducible (first
      | exact TF.of B0.out.drew | exact TF.of (B0.out.alloc _).drew
      | exact TF.of (B0.out.drew.below hq) | exact TF.of ((B0.out.alloc _).drew.below hq)
      | exact TF.of ((B0.out.drew.below hq).alloc _)
      | exact TF.of ((B0.out.drew.below hq).on hr) | exact TF.of (((B0.out.alloc _).drew.below hq).on hr) | exact TF.of (((B0.out.drew.below hq).alloc _).on hr)
      | exact TF.of (((B0.out.drew.below hq).on hr).alloc _)
      | exact TF.of (TB.store (((B0.out.alloc _).drew.below hq).on hr) hk1 (by omega) _ _ _ _).1 | exact TF.of (TB.store (((B0.out.drew.below hq).alloc _).on hr) hk2 (by have := drew_le hq; omega) _ _ _ _).1)))
    (first
      | (go_at_call 63; ((with_reducible refine (HO.out _ B0.out.drew.rm.enter).mono ?_); rintro e w1 ⟨rfl, hq⟩))
      | (go_at_call 63; ((with_reducible refine (HO.out _ (B0.out.alloc (.cells #[.int .u64 0, .int .u32 0, .int .i64 0, .int .i64 0] 100)).drew.rm.enter).mono ?_); rintro e w1 ⟨rfl, hq⟩))
      | (go_at_call 62; ((with_reducible refine (HX.out _ ((B0.out.alloc (.cells #[.int .u64 0, .int .u32 0, .int .i64 0, .int .i64 0] 100)).drew.below hq).rm.enter).mono ?_); rintro e w2 ⟨rfl, hr⟩; have hk1 := (((Blk.new W0 100 #[.int .u64 0, .int .u32 0, .int .i64 0, .int .i64 0]).drew).same (hq.block _ ((Blk.new W0 100 #[.int .u64 0, .int .u32 0, .int .i64 0, .int .i64 0]).drew).lt)).keep hr.keep (by decide) (by decide) (by decide); obtain ⟨q0, q1, q2, q3, s0, s1, s2, s3⟩ := blk4 hk1))
      | (go_at_call 62; ((with_reducible refine (HX.out _ ((B0.out.drew.below hq).alloc (.cells #[.int .u64 0, .int .u32 0, .int .i64 0, .int .i64 0] 100)).rm.enter).mono ?_); rintro e w2 ⟨rfl, hr⟩; have hk2 := (Blk.new w1 100 #[.int .u64 0, .int .u32 0, .int .i64 0, .int .i64 0]).keep hr.keep (by decide) (by decide) (by decide); obtain ⟨q0, q1, q2, q3, s0, s1, s2, s3⟩ := blk4 hk2))
      | (go_at_call 62; ((with_reducible refine (HX.out _ (B0.out.drew.below hq).rm.enter).mono ?_); rintro e w2 ⟨rfl, hr⟩)))
  · have hA := ((B0.out.drew.below hq).on hr).alloc (.cells #[.int .u64 (d.a : Int), .int .u32 (d.n : Int), .int .i64 (d.id : Int), .int .i64 (d.f : Int)] 100)
    have hB := Blk.new w2 100 #[.int .u64 (d.a : Int), .int .u32 (d.n : Int), .int .i64 (d.id : Int), .int .i64 (d.f : Int)]
    have hlk : w.heap.size + 1 + 1 + 1 < w2.heap.size := ((B0.out.drew.below hq).on hr).tk.b4.lt
    obtain ⟨W, hW⟩ : ∃ W, w2.alloc (.cells #[.int .u64 (d.a : Int), .int .u32 (d.n : Int), .int .i64 (d.id : Int), .int .i64 (d.f : Int)] 100) = W := ⟨_, rfl⟩
    obtain ⟨K, hK⟩ : ∃ K, w2.heap.size = K := ⟨_, rfl⟩
    rw [hW] at hA hB ⊢
    rw [hK] at hB hlk ⊢
    clear hW hK hr hq
    obtain ⟨p0, p1, p2, p3, p4, p5, z1, z2, z3⟩ := hA.tk.facts
    obtain ⟨-, -, -, -, -, g6, -, -, -⟩ := hA.rm.cells
    have k3 := hB.cell 3
    have k0 := hB.cell 0
    have k1 := hB.cell 1
    have k2 := hB.cell 2
    simp only [List.getElem?_toArray, List.getElem?_cons_zero, List.getElem?_cons_succ] at k0 k1 k2 k3
    have HA1 := Lib.hid hA
    clear hA hB
    go_wp2_with fail
    go_quiet ((go_at_call 64; exact Calls.quiet_of_same ((HA.out _).mono fun _ _ hh => ⟨hh.1, hh.2.symm⟩)))
    have T1 := HA1.out.tk.below (below_drewN (Below.refl _ _) nq)
    have Q1 := Qn.of (HA1.out.rm.drewN nq)
    generalize World.drewN W nq = W2 at *
    obtain ⟨p0, p1, p2, p3, p4, p5, z1, z2, z3⟩ := T1.facts
    have HT := Lib.hid (T1.set (.int .i64 0) (.int .i64 0) (.slice none 0 0) false 0)
    have HQ := Lib.hid (T1.qn Q1 (Nat.le_trans HB hk) (.int .i64 0) (.int .i64 0) (.slice none 0 0) false 0)
    clear T1 Q1
    go_wp2_with fail
    exact door_ret (h := noCh) (A := none) (cap := 0) HT.out HQ.out (World.ownsRow_nil _ _ _ _) _ rfl rfl rfl
  · obtain ⟨hA, hB⟩ := TB.store (((B0.out.drew.below hq).alloc (.cells #[.int .u64 0, .int .u32 0, .int .i64 0, .int .i64 0] 100)).on hr) hk2 (by have := drew_le hq; omega) (.int .u64 (d.a : Int)) (.int .u32 (d.n : Int)) (.int .i64 (d.id : Int)) (.int .i64 (d.f : Int))
    have hlk : w.heap.size + 1 + 1 + 1 < w1.heap.size := by have := drew_le hq; omega
    obtain ⟨W, hW⟩ : ∃ W, (((w2.setCell ⟨w1.heap.size, 0, none⟩ (.int .u64 (d.a : Int))).setCell ⟨w1.heap.size, 1, none⟩ (.int .u32 (d.n : Int))).setCell ⟨w1.heap.size, 2, none⟩ (.int .i64 (d.id : Int))).setCell ⟨w1.heap.size, 3, none⟩ (.int .i64 (d.f : Int)) = W := ⟨_, rfl⟩
    obtain ⟨K, hK⟩ : ∃ K, w1.heap.size = K := ⟨_, rfl⟩
    rw [hW] at hA hB ⊢
    rw [hK] at hB hlk ⊢
    clear hW hK hr hq
    obtain ⟨p0, p1, p2, p3, p4, p5, z1, z2, z3⟩ := hA.tk.facts
    obtain ⟨-, -, -, -, -, g6, -, -, -⟩ := hA.rm.cells
    have k3 := hB.cell 3
    have k0 := hB.cell 0
    have k1 := hB.cell 1
    have k2 := hB.cell 2
    simp only [List.getElem?_toArray, List.getElem?_cons_zero, List.getElem?_cons_succ] at k0 k1 k2 k3
    have HA1 := Lib.hid hA
    clear hA hB
    go_wp2_with fail
    go_quiet ((go_at_call 64; exact Calls.quiet_of_same ((HA.out _).mono fun _ _ hh => ⟨hh.1, hh.2.symm⟩)))
    have T1 := HA1.out.tk.below (below_drewN (Below.refl _ _) nq)
    have Q1 := Qn.of (HA1.out.rm.drewN nq)
    generalize World.drewN W nq = W2 at *
    obtain ⟨p0, p1, p2, p3, p4, p5, z1, z2, z3⟩ := T1.facts
    have HT := Lib.hid (T1.set (.int .i64 0) (.int .i64 0) (.slice none 0 0) false 0)
    have HQ := Lib.hid (T1.qn Q1 (Nat.le_trans HB hk) (.int .i64 0) (.int .i64 0) (.slice none 0 0) false 0)
    clear T1 Q1
    go_wp2_with fail
    exact door_ret (h := noCh) (A := none) (cap := 0) HT.out HQ.out (World.ownsRow_nil _ _ _ _) _ rfl rfl rfl
  · obtain ⟨hA, hB⟩ := TB.store (((B0.out.alloc (.cells #[.int .u64 0, .int .u32 0, .int .i64 0, .int .i64 0] 100)).drew.below hq).on hr) hk1 (by omega) (.int .u64 (d.a : Int)) (.int .u32 (d.n : Int)) (.int .i64 (d.id : Int)) (.int .i64 (d.f : Int))
    have hlk : w.heap.size + 1 + 1 + 1 < W0.heap.size := hw0
    obtain ⟨W, hW⟩ : ∃ W, (((w2.setCell ⟨W0.heap.size, 0, none⟩ (.int .u64 (d.a : Int))).setCell ⟨W0.heap.size, 1, none⟩ (.int .u32 (d.n : Int))).setCell ⟨W0.heap.size, 2, none⟩ (.int .i64 (d.id : Int))).setCell ⟨W0.heap.size, 3, none⟩ (.int .i64 (d.f : Int)) = W := ⟨_, rfl⟩
    obtain ⟨K, hK⟩ : ∃ K, W0.heap.size = K := ⟨_, rfl⟩
    rw [hW] at hA hB ⊢
    rw [hK] at hB hlk ⊢
    clear hW hK hr hq
    obtain ⟨p0, p1, p2, p3, p4, p5, z1, z2, z3⟩ := hA.tk.facts
    obtain ⟨-, -, -, -, -, g6, -, -, -⟩ := hA.rm.cells
    have k3 := hB.cell 3
    have k0 := hB.cell 0
    have k1 := hB.cell 1
    have k2 := hB.cell 2
    simp only [List.getElem?_toArray, List.getElem?_cons_zero, List.getElem?_cons_succ] at k0 k1 k2 k3
    have HA1 := Lib.hid hA
    clear hA hB
    go_wp2_with fail
    go_quiet ((go_at_call 64; exact Calls.quiet_of_same ((HA.out _).mono fun _ _ hh => ⟨hh.1, hh.2.symm⟩)))
    have T1 := HA1.out.tk.below (below_drewN (Below.refl _ _) nq)
    have Q1 := Qn.of (HA1.out.rm.drewN nq)
    generalize World.drewN W nq = W2 at *
    obtain ⟨p0, p1, p2, p3, p4, p5, z1, z2, z3⟩ := T1.facts
    have HT := Lib.hid (T1.set (.int .i64 0) (.int .i64 0) (.slice none 0 0) false 0)
    have HQ := Lib.hid (T1.qn Q1 (Nat.le_trans HB hk) (.int .i64 0) (.int .i64 0) (.slice none 0 0) false 0)
    clear T1 Q1
    go_wp2_with fail
    exact door_ret (h := noCh) (A := none) (cap := 0) HT.out HQ.out (World.ownsRow_nil _ _ _ _) _ rfl rfl rfl
set_option maxRecDepth 100000 in
set_option maxHeartbeats 3200000 in
theorem take_bad {c : Ctx} {wE w : World} (h : Rm c wE w) (hq : c.q.Ok c.xs.length) (hout : c.q.out < c.q.size) (ha : availB (deAt c.xs (c.q.ring + 16 * c.q.na)).f c.q.nw = true) (hV : chainV c.xs c.q = none) :
    Calls Try.prog 38 #[.pointer (some ⟨c.gq, 0, none⟩)] w (TakeP c w noCh false 141 { c.q with broken := true }) := by
  have hd := deAt_ok c.xs (c.q.ring + 16 * c.q.na) (by have := hq.r; have := hq.na; omega)
  obtain ⟨lvx, hMx⟩ := h.get
  have hxl := hMx.len
  have HO := fun W (h : Rm c W W) => offset_any h c.q.na c.q.nw (by have := hq.r; have := hq.na; omega)
  have HX := fun W (h : Rm c W W) => desc_any h (c.q.ring + 16 * c.q.na) (by have := hq.r; have := hq.na; omega)
  have HA := fun W => avail_f _ hd.f c.q.nw W
  rw [ha] at HA
  have HC := fun W (h : Rm c W W) => chain_any h hq hout
  rw [hV] at HC
  obtain ⟨d, ed⟩ : ∃ d, deAt c.xs (c.q.ring + 16 * c.q.na) = d := ⟨_, rfl⟩
  rw [ed] at HX HA HC
  unfold De.v at HX HC
  have HC := Lib.hid HC
  obtain ⟨p', ep⟩ : ∃ p', ((c.q.ring + 16 * c.q.na : Nat) : Int) = p' := ⟨_, rfl⟩
  rw [ep] at HX HO
  have HO := Lib.hid HO
  have HX := Lib.hid HX
  have HA := Lib.hid HA
  have HE := Lib.hid h.enter
  have HB := h.base
  have hk := h.keep.size
  have hlt := h.lt
  have hne := Nat.ne_of_lt hlt
  have hmf := make_func
  have B0 : TB c w ((((w.alloc (.cells #[.pointer (some ⟨c.gq, 0, none⟩)] 32)).alloc (.cells #[.int .i64 0, .int .i64 0, .slice none 0 0] 44)).alloc (.cells #[.bool false] 4)).alloc (.cells #[.int .i64 0] 26)) :=
    ⟨(((HE.out.alloc _).alloc _).alloc _).alloc _, tk_new c w⟩
  have B0 := Lib.hid B0
  clear h hq hd ha ed hMx hxl ep hV
  go_enter_defers Try.func38, Try.ntmps38
  go_wp2_with fail
  obtain ⟨W0, hW0⟩ : ∃ W0, ((((w.alloc (.cells #[.pointer (some ⟨c.gq, 0, none⟩)] 32)).alloc (.cells #[.int .i64 0, .int .i64 0, .slice none 0 0] 44)).alloc (.cells #[.bool false] 4)).alloc (.cells #[.int .i64 0] 26)) = W0 := ⟨_, rfl⟩
  rw [hW0] at B0 ⊢
  clear hW0
  have hw0 : w.heap.size + 1 + 1 + 1 < W0.heap.size := B0.out.tk.b4.lt
  go_region_held3 (fun W => (W.cell? ⟨w.heap.size, 0, none⟩ = some (.pointer (some ⟨c.gq, 0, none⟩)) ∧ W.cell? ⟨c.gq, 5, none⟩ = some (.int .i64 (c.q.na : Int)) ∧ W.cell? ⟨c.gq, 6, none⟩ = some (.bool c.q.nw)) ∧ TB c w W)
    ((refine (id (α := TF c w _) ?_); with_reducible (first
      | exact TF.of B0.out.drew | exact TF.of (B0.out.alloc _).drew
      | exact TF.of (B0.out.drew.below hq) | exact TF.of ((B0.out.alloc _).drew.below hq)
      | exact TF.of ((B0.out.drew.below hq).alloc _)
      | exact TF.of ((B0.out.drew.below hq).on hr) | exact TF.of (((B0.out.alloc _).drew.below hq).on hr) | exact TF.of (((B0.out.drew.below hq).alloc _).on hr)
      | exact TF.of (((B0.out.drew.below hq).on hr).alloc _)
      | exact TF.of (TB.store (((B0.out.alloc _).drew.below hq).on hr) hk1 (by omega) _ _ _ _).1 | exact TF.of (TB.store (((B0.out.drew.below hq).alloc _).on hr) hk2 (by have := drew_le hq; omega) _ _ _ _).1)))
    (first
      | (go_at_call 63; ((with_reducible refine (HO.out _ B0.out.drew.rm.enter).mono ?_); rintro e w1 ⟨rfl, hq⟩))
      | (go_at_call 63; ((with_reducible refine (HO.out _ (B0.out.alloc (.cells #[.int .u64 0, .int .u32 0, .int .i64 0, .int .i64 0] 100)).drew.rm.enter).mono ?_); rintro e w1 ⟨rfl, hq⟩))
      | (go_at_call 62; ((with_reducible refine (HX.out _ ((B0.out.alloc (.cells #[.int .u64 0, .int .u32 0, .int .i64 0, .int .i64 0] 100)).drew.below hq).rm.enter).mono ?_); rintro e w2 ⟨rfl, hr⟩; have hk1 := (((Blk.new W0 100 #[.int .u64 0, .int .u32 0, .int .i64 0, .int .i64 0]).drew).same (hq.block _ ((Blk.new W0 100 #[.int .u64 0, .int .u32 0, .int .i64 0, .int .i64 0]).drew).lt)).keep hr.keep (by decide) (by decide) (by decide); obtain ⟨q0, q1, q2, q3, s0, s1, s2, s3⟩ := blk4 hk1))
      | (go_at_call 62; ((with_reducible refine (HX.out _ ((B0.out.drew.below hq).alloc (.cells #[.int .u64 0, .int .u32 0, .int .i64 0, .int .i64 0] 100)).rm.enter).mono ?_); rintro e w2 ⟨rfl, hr⟩; have hk2 := (Blk.new w1 100 #[.int .u64 0, .int .u32 0, .int .i64 0, .int .i64 0]).keep hr.keep (by decide) (by decide) (by decide); obtain ⟨q0, q1, q2, q3, s0, s1, s2, s3⟩ := blk4 hk2))
      | (go_at_call 62; ((with_reducible refine (HX.out _ (B0.out.drew.below hq).rm.enter).mono ?_); rintro e w2 ⟨rfl, hr⟩)))
  · have hA := ((B0.out.drew.below hq).on hr).alloc (.cells #[.int .u64 (d.a : Int), .int .u32 (d.n : Int), .int .i64 (d.id : Int), .int .i64 (d.f : Int)] 100)
    have hB := Blk.new w2 100 #[.int .u64 (d.a : Int), .int .u32 (d.n : Int), .int .i64 (d.id : Int), .int .i64 (d.f : Int)]
    have hlk : w.heap.size + 1 + 1 + 1 < w2.heap.size := ((B0.out.drew.below hq).on hr).tk.b4.lt
    obtain ⟨W, hW⟩ : ∃ W, w2.alloc (.cells #[.int .u64 (d.a : Int), .int .u32 (d.n : Int), .int .i64 (d.id : Int), .int .i64 (d.f : Int)] 100) = W := ⟨_, rfl⟩
    obtain ⟨K, hK⟩ : ∃ K, w2.heap.size = K := ⟨_, rfl⟩
    rw [hW] at hA hB ⊢
    rw [hK] at hB hlk ⊢
    clear hW hK hr hq
    obtain ⟨p0, p1, p2, p3, p4, p5, z1, z2, z3⟩ := hA.tk.facts
    obtain ⟨-, -, -, -, -, g6, -, -, -⟩ := hA.rm.cells
    have k3 := hB.cell 3
    have k0 := hB.cell 0
    have k1 := hB.cell 1
    have k2 := hB.cell 2
    simp only [List.getElem?_toArray, List.getElem?_cons_zero, List.getElem?_cons_succ] at k0 k1 k2 k3
    have HA1 := Lib.hid hA
    clear hA hB
    go_wp2_with fail
    go_quiet ((go_at_call 64; exact Calls.quiet_of_same ((HA.out _).mono fun _ _ hh => ⟨hh.1, hh.2.symm⟩)))
    have T1 := HA1.out.tk.below (below_drewN (Below.refl _ _) nq)
    have R1 := HA1.out.rm.drewN nq
    have kk0 : (World.drewN W nq).cell? ⟨K, 0, none⟩ = some (.int .u64 (d.a : Int)) := k0
    have kk1 : (World.drewN W nq).cell? ⟨K, 1, none⟩ = some (.int .u32 (d.n : Int)) := k1
    have kk2 : (World.drewN W nq).cell? ⟨K, 2, none⟩ = some (.int .i64 (d.id : Int)) := k2
    have kk3 : (World.drewN W nq).cell? ⟨K, 3, none⟩ = some (.int .i64 (d.f : Int)) := k3
    clear k0 k1 k2 k3 p0 p1 p2 p3 p4 p5 z1 z2 z3 g6
    obtain ⟨p0, -⟩ := T1.facts
    generalize World.drewN W nq = W2 at *
    have T1 := Lib.hid T1
    have R1 := Lib.hid R1
    go_wp2_with fail
    refine (HC.out _ R1.out.enter).mono ?_
    intro e w3 hL
    obtain ⟨R3, he⟩ := hL
    have he : Bad e := he
    unfold Bad at he
    subst he
    exact door_panic (T1.out.keep R3.keep) (Qn.of (R1.out.leave R3)) (Nat.le_trans HB hk) _ rfl rfl rfl
  · obtain ⟨hA, hB⟩ := TB.store (((B0.out.drew.below hq).alloc (.cells #[.int .u64 0, .int .u32 0, .int .i64 0, .int .i64 0] 100)).on hr) hk2 (by have := drew_le hq; omega) (.int .u64 (d.a : Int)) (.int .u32 (d.n : Int)) (.int .i64 (d.id : Int)) (.int .i64 (d.f : Int))
    have hlk : w.heap.size + 1 + 1 + 1 < w1.heap.size := by have := drew_le hq; omega
    obtain ⟨W, hW⟩ : ∃ W, (((w2.setCell ⟨w1.heap.size, 0, none⟩ (.int .u64 (d.a : Int))).setCell ⟨w1.heap.size, 1, none⟩ (.int .u32 (d.n : Int))).setCell ⟨w1.heap.size, 2, none⟩ (.int .i64 (d.id : Int))).setCell ⟨w1.heap.size, 3, none⟩ (.int .i64 (d.f : Int)) = W := ⟨_, rfl⟩
    obtain ⟨K, hK⟩ : ∃ K, w1.heap.size = K := ⟨_, rfl⟩
    rw [hW] at hA hB ⊢
    rw [hK] at hB hlk ⊢
    clear hW hK hr hq
    obtain ⟨p0, p1, p2, p3, p4, p5, z1, z2, z3⟩ := hA.tk.facts
    obtain ⟨-, -, -, -, -, g6, -, -, -⟩ := hA.rm.cells
    have k3 := hB.cell 3
    have k0 := hB.cell 0
    have k1 := hB.cell 1
    have k2 := hB.cell 2
    simp only [List.getElem?_toArray, List.getElem?_cons_zero, List.getElem?_cons_succ] at k0 k1 k2 k3
    have HA1 := Lib.hid hA
    clear hA hB
    go_wp2_with fail
    go_quiet ((go_at_call 64; exact Calls.quiet_of_same ((HA.out _).mono fun _ _ hh => ⟨hh.1, hh.2.symm⟩)))
    have T1 := HA1.out.tk.below (below_drewN (Below.refl _ _) nq)
    have R1 := HA1.out.rm.drewN nq
    have kk0 : (World.drewN W nq).cell? ⟨K, 0, none⟩ = some (.int .u64 (d.a : Int)) := k0
    have kk1 : (World.drewN W nq).cell? ⟨K, 1, none⟩ = some (.int .u32 (d.n : Int)) := k1
    have kk2 : (World.drewN W nq).cell? ⟨K, 2, none⟩ = some (.int .i64 (d.id : Int)) := k2
    have kk3 : (World.drewN W nq).cell? ⟨K, 3, none⟩ = some (.int .i64 (d.f : Int)) := k3
    clear k0 k1 k2 k3 p0 p1 p2 p3 p4 p5 z1 z2 z3 g6
    obtain ⟨p0, -⟩ := T1.facts
    generalize World.drewN W nq = W2 at *
    have T1 := Lib.hid T1
    have R1 := Lib.hid R1
    go_wp2_with fail
    refine (HC.out _ R1.out.enter).mono ?_
    intro e w3 hL
    obtain ⟨R3, he⟩ := hL
    have he : Bad e := he
    unfold Bad at he
    subst he
    exact door_panic (T1.out.keep R3.keep) (Qn.of (R1.out.leave R3)) (Nat.le_trans HB hk) _ rfl rfl rfl
  · obtain ⟨hA, hB⟩ := TB.store (((B0.out.alloc (.cells #[.int .u64 0, .int .u32 0, .int .i64 0, .int .i64 0] 100)).drew.below hq).on hr) hk1 (by omega) (.int .u64 (d.a : Int)) (.int .u32 (d.n : Int)) (.int .i64 (d.id : Int)) (.int .i64 (d.f : Int))
    have hlk : w.heap.size + 1 + 1 + 1 < W0.heap.size := hw0
    obtain ⟨W, hW⟩ : ∃ W, (((w2.setCell ⟨W0.heap.size, 0, none⟩ (.int .u64 (d.a : Int))).setCell ⟨W0.heap.size, 1, none⟩ (.int .u32 (d.n : Int))).setCell ⟨W0.heap.size, 2, none⟩ (.int .i64 (d.id : Int))).setCell ⟨W0.heap.size, 3, none⟩ (.int .i64 (d.f : Int)) = W := ⟨_, rfl⟩
    obtain ⟨K, hK⟩ : ∃ K, W0.heap.size = K := ⟨_, rfl⟩
    rw [hW] at hA hB ⊢
    rw [hK] at hB hlk ⊢
    clear hW hK hr hq
    obtain ⟨p0, p1, p2, p3, p4, p5, z1, z2, z3⟩ := hA.tk.facts
    obtain ⟨-, -, -, -, -, g6, -, -, -⟩ := hA.rm.cells
    have k3 := hB.cell 3
    have k0 := hB.cell 0
    have k1 := hB.cell 1
    have k2 := hB.cell 2
    simp only [List.getElem?_toArray, List.getElem?_cons_zero, List.getElem?_cons_succ] at k0 k1 k2 k3
    have HA1 := Lib.hid hA
    clear hA hB
    go_wp2_with fail
    go_quiet ((go_at_call 64; exact Calls.quiet_of_same ((HA.out _).mono fun _ _ hh => ⟨hh.1, hh.2.symm⟩)))
    have T1 := HA1.out.tk.below (below_drewN (Below.refl _ _) nq)
    have R1 := HA1.out.rm.drewN nq
    have kk0 : (World.drewN W nq).cell? ⟨K, 0, none⟩ = some (.int .u64 (d.a : Int)) := k0
    have kk1 : (World.drewN W nq).cell? ⟨K, 1, none⟩ = some (.int .u32 (d.n : Int)) := k1
    have kk2 : (World.drewN W nq).cell? ⟨K, 2, none⟩ = some (.int .i64 (d.id : Int)) := k2
    have kk3 : (World.drewN W nq).cell? ⟨K, 3, none⟩ = some (.int .i64 (d.f : Int)) := k3
    clear k0 k1 k2 k3 p0 p1 p2 p3 p4 p5 z1 z2 z3 g6
    obtain ⟨p0, -⟩ := T1.facts
    generalize World.drewN W nq = W2 at *
    have T1 := Lib.hid T1
    have R1 := Lib.hid R1
    go_wp2_with fail
    refine (HC.out _ R1.out.enter).mono ?_
    intro e w3 hL
    obtain ⟨R3, he⟩ := hL
    have he : Bad e := he
    unfold Bad at he
    subst he
    exact door_panic (T1.out.keep R3.keep) (Qn.of (R1.out.leave R3)) (Nat.le_trans HB hk) _ rfl rfl rfl
end Go.Proofs.Ytbpgblmhacpjlaa
namespace Go.Proofs.Ytbpgblmhacpjlaa
open Go.RowKit

def takenQ (q : Qs) (k : Nat) : Qs := { q with na := stA q.size q.na k, nw := stW q.size q.na k q.nw, out := q.out + k }
/-- take behind the chain: its variables, its parts, the queue -/
structure TG (c : Ctx) (w : World) (h : Ch) (A : Option Addr) (cap : Nat) (W : World) : Prop where
  tk : TK c w (.int .i64 (h.id : Int)) (.int .i64 (h.count : Int)) (.slice A h.parts.length cap) false 0 W
  own : W.ownsRow w.heap.size 77 3 (.slice A h.parts.length cap) h.parts.length (ptCells h.parts)
section
variable {c : Ctx} {w W W' : World} {h : Ch} {A : Option Addr} {cap : Nat}
theorem TG.keep (g : TG c w h A cap W) (hk : Keep W W') : TG c w h A cap W' := ⟨g.tk.keep hk, own_keep g.own hk (by decide) (by decide) (by decide)⟩
theorem TG.other (g : TG c w h A cap W) {k : Nat} {t : TypeId} {cs : Array Value} (hk : Blk W k t cs) (a : t ≠ 32) (b : t ≠ 44) (d : t ≠ 4) (e : t ≠ 26) (x : t ≠ 77) (i : Nat) (u : Value) : TG c w h A cap (W.setCell ⟨k, i, none⟩ u) :=
  ⟨g.tk.other hk a b d e i u, own_same g.own (fun j hj => by
    have hne : j ≠ k := fun e1 => own_ne g.own hk (fun e2 => x e2.symm) (e1 ▸ hj)
    rw [Below.heap_setCell _ _ _ _ hne])⟩
theorem TG.two (g : TG c w h A cap W) : W.cell? ⟨w.heap.size, 0, none⟩ = some (.pointer (some ⟨c.gq, 0, none⟩)) ∧ W.cell? ⟨w.heap.size + 1, 1, none⟩ = some (.int .i64 (h.count : Int)) := ⟨g.tk.facts.1, g.tk.facts.2.2.1⟩
theorem _root_.Go.Proofs.Ytbpgblmhacpjlaa.TK.own_set {x y z : Value} {is : Bool} {er : Int} {v : Value} {n : Nat} {xs : List Value} (hT : TK c w x y z is er W) (own : W.ownsRow w.heap.size 77 3 v n xs) (a b d : Value) (u : Bool) (m : Int) :
    (((((W.setCell ⟨w.heap.size + 1, 0, none⟩ a).setCell ⟨w.heap.size + 1, 1, none⟩ b).setCell ⟨w.heap.size + 1, 2, none⟩ d).setCell ⟨w.heap.size + 1 + 1, 0, none⟩ (.bool u)).setCell ⟨w.heap.size + 1 + 1 + 1, 0, none⟩ (.int .i64 m)).ownsRow w.heap.size 77 3 v n xs := by
  refine own_same own (fun j hj => ?_)
  have h1 : j ≠ w.heap.size + 1 := fun e1 => own_ne own hT.b2 (by decide) (e1 ▸ hj)
  have h2 : j ≠ w.heap.size + 1 + 1 := fun e1 => own_ne own hT.b3 (by decide) (e1 ▸ hj)
  have h3 : j ≠ w.heap.size + 1 + 1 + 1 := fun e1 => own_ne own hT.b4 (by decide) (e1 ▸ hj)
  rw [Below.heap_setCell _ _ _ _ h3, Below.heap_setCell _ _ _ _ h2, Below.heap_setCell _ _ _ _ h1, Below.heap_setCell _ _ _ _ h1, Below.heap_setCell _ _ _ _ h1]
theorem TG.first {x y z : Value} (hr : Rm c w W) (hT : TK c w x y z false 0 W) (own : W.ownsRow w.heap.size 77 3 (.slice A h.parts.length cap) h.parts.length (ptCells h.parts)) :
    Rm c w (((W.setCell ⟨w.heap.size + 1, 0, none⟩ (.int .i64 (h.id : Int))).setCell ⟨w.heap.size + 1, 1, none⟩ (.int .i64 (h.count : Int))).setCell ⟨w.heap.size + 1, 2, none⟩ (.slice A h.parts.length cap)) ∧
    TG c w h A cap (((W.setCell ⟨w.heap.size + 1, 0, none⟩ (.int .i64 (h.id : Int))).setCell ⟨w.heap.size + 1, 1, none⟩ (.int .i64 (h.count : Int))).setCell ⟨w.heap.size + 1, 2, none⟩ (.slice A h.parts.length cap)) := by
  have k1 := hT.b2.put 0 (.int .i64 (h.id : Int))
  have k2 := k1.put 1 (.int .i64 (h.count : Int))
  have k3 := k2.put 2 (.slice A h.parts.length cap)
  refine ⟨((hr.put hT.b2 (by omega) (by decide) (by decide) (by decide) (by decide) 0 _).put k1 (by omega) (by decide) (by decide) (by decide) (by decide) 1 _).put k2 (by omega) (by decide) (by decide) (by decide) (by decide) 2 _, ⟨?_, ?_, ?_, ?_⟩, ?_⟩
  · exact ((hT.b1.other (by omega) 0 _).other (by omega) 1 _).other (by omega) 2 _
  · simpa using k3
  · exact ((hT.b3.other (by omega) 0 _).other (by omega) 1 _).other (by omega) 2 _
  · exact ((hT.b4.other (by omega) 0 _).other (by omega) 1 _).other (by omega) 2 _
  · refine own_same own (fun j hj => ?_)
    have hne : j ≠ w.heap.size + 1 := fun e1 => own_ne own hT.b2 (by decide) (e1 ▸ hj)
    rw [Below.heap_setCell _ _ _ _ hne, Below.heap_setCell _ _ _ _ hne, Below.heap_setCell _ _ _ _ hne]
end
set_option maxRecDepth 100000 in
set_option maxHeartbeats 3200000 in
theorem take_good {c : Ctx} {wE w : World} (h : Rm c wE w) (hq : c.q.Ok c.xs.length) (hout : c.q.out < c.q.size) (ha : availB (deAt c.xs (c.q.ring + 16 * c.q.na)).f c.q.nw = true) (h1 : Ch) (hV : chainV c.xs c.q = some h1) (hcount : h1.count ≤ c.q.size) (hsum : c.q.out + h1.count ≤ 32768) :
    Calls Try.prog 38 #[.pointer (some ⟨c.gq, 0, none⟩)] w (TakeP c w h1 true 0 (takenQ c.q h1.count)) := by
  have hd := deAt_ok c.xs (c.q.ring + 16 * c.q.na) (by have := hq.r; have := hq.na; omega)
  obtain ⟨lvx, hMx⟩ := h.get
  have hxl := hMx.len
  have HO := fun W (h : Rm c W W) => offset_any h c.q.na c.q.nw (by have := hq.r; have := hq.na; omega)
  have HN := fun W (h : Rm c W W) => after_any h c.q.na h1.count c.q.nw hq.s1 hq.s2 hq.na hcount
  have HX := fun W (h : Rm c W W) => desc_any h (c.q.ring + 16 * c.q.na) (by have := hq.r; have := hq.na; omega)
  have HA := fun W => avail_f _ hd.f c.q.nw W
  rw [ha] at HA
  have HC := fun W (h : Rm c W W) => chain_any h hq hout
  rw [hV] at HC
  obtain ⟨d, ed⟩ : ∃ d, deAt c.xs (c.q.ring + 16 * c.q.na) = d := ⟨_, rfl⟩
  rw [ed] at HX HA HC
  unfold De.v at HX HC
  have HC := Lib.hid HC
  have HN := Lib.hid HN
  obtain ⟨p', ep⟩ : ∃ p', ((c.q.ring + 16 * c.q.na : Nat) : Int) = p' := ⟨_, rfl⟩
  rw [ep] at HX HO
  have HO := Lib.hid HO
  have HX := Lib.hid HX
  have HA := Lib.hid HA
  have HE := Lib.hid h.enter
  have HB := h.base
  have hk := h.keep.size
  have hlt := h.lt
  have hne := Nat.ne_of_lt hlt
  have hmf := make_func
  have B0 : TB c w ((((w.alloc (.cells #[.pointer (some ⟨c.gq, 0, none⟩)] 32)).alloc (.cells #[.int .i64 0, .int .i64 0, .slice none 0 0] 44)).alloc (.cells #[.bool false] 4)).alloc (.cells #[.int .i64 0] 26)) :=
    ⟨(((HE.out.alloc _).alloc _).alloc _).alloc _, tk_new c w⟩
  have B0 := Lib.hid B0
  clear h hq hd ha ed hMx hxl ep hV
  go_enter_defers Try.func38, Try.ntmps38
  go_wp2_with fail
  obtain ⟨W0, hW0⟩ : ∃ W0, ((((w.alloc (.cells #[.pointer (some ⟨c.gq, 0, none⟩)] 32)).alloc (.cells #[.int .i64 0, .int .i64 0, .slice none 0 0] 44)).alloc (.cells #[.bool false] 4)).alloc (.cells #[.int .i64 0] 26)) = W0 := ⟨_, rfl⟩
  rw [hW0] at B0 ⊢
  clear hW0
  have hw0 : w.heap.size + 1 + 1 + 1 < W0.heap.size := B0.out.tk.b4.lt
  go_region_held3 (fun W => (W.cell? ⟨w.heap.size, 0, none⟩ = some (.pointer (some ⟨c.gq, 0, none⟩)) ∧ W.cell? ⟨c.gq, 5, none⟩ = some (.int .i64 (c.q.na : Int)) ∧ W.cell? ⟨c.gq, 6, none⟩ = some (.bool c.q.nw)) ∧ TB c w W)
    ((refine (id (α := TF c w _) ?_); with_reducible (first
      | exact TF.of B0.out.drew | exact TF.of (B0.out.alloc _).drew
      | exact TF.of (B0.out.drew.below hq) | exact TF.of ((B0.out.alloc _).drew.below hq)
      | exact TF.of ((B0.out.drew.below hq).alloc _)
      | exact TF.of ((B0.out.drew.below hq).on hr) | exact TF.of (((B0.out.alloc _).drew.below hq).on hr) | exact TF.of (((B0.out.drew.below hq).alloc _).on hr)
      | exact TF.of (((B0.out.drew.below hq).on hr).alloc _)
      | exact TF.of (TB.store (((B0.out.alloc _).drew.below hq).on hr) hk1 (by omega) _ _ _ _).1 | exact TF.of (TB.store (((B0.out.drew.below hq).alloc _).on hr) hk2 (by have := drew_le hq; omega) _ _ _ _).1)))
    (first
      | (go_at_call 63; ((with_reducible refine (HO.out _ B0.out.drew.rm.enter).mono ?_); rintro e w1 ⟨rfl, hq⟩))
      | (go_at_call 63; ((with_reducible refine (HO.out _ (B0.out.alloc (.cells #[.int .u64 0, .int .u32 0, .int .i64 0, .int .i64 0] 100)).drew.rm.enter).mono ?_); rintro e w1 ⟨rfl, hq⟩))
      | (go_at_call 62; ((with_reducible refine (HX.out _ ((B0.out.alloc (.cells #[.int .u64 0, .int .u32 0, .int .i64 0, .int .i64 0] 100)).drew.below hq).rm.enter).mono ?_); rintro e w2 ⟨rfl, hr⟩; have hk1 := (((Blk.new W0 100 #[.int .u64 0, .int .u32 0, .int .i64 0, .int .i64 0]).drew).same (hq.block _ ((Blk.new W0 100 #[.int .u64 0, .int .u32 0, .int .i64 0, .int .i64 0]).drew).lt)).keep hr.keep (by decide) (by decide) (by decide); obtain ⟨q0, q1, q2, q3, s0, s1, s2, s3⟩ := blk4 hk1))
      | (go_at_call 62; ((with_reducible refine (HX.out _ ((B0.out.drew.below hq).alloc (.cells #[.int .u64 0, .int .u32 0, .int .i64 0, .int .i64 0] 100)).rm.enter).mono ?_); rintro e w2 ⟨rfl, hr⟩; have hk2 := (Blk.new w1 100 #[.int .u64 0, .int .u32 0, .int .i64 0, .int .i64 0]).keep hr.keep (by decide) (by decide) (by decide); obtain ⟨q0, q1, q2, q3, s0, s1, s2, s3⟩ := blk4 hk2))
      | (go_at_call 62; ((with_reducible refine (HX.out _ (B0.out.drew.below hq).rm.enter).mono ?_); rintro e w2 ⟨rfl, hr⟩)))
  · have hA := ((B0.out.drew.below hq).on hr).alloc (.cells #[.int .u64 (d.a : Int), .int .u32 (d.n : Int), .int .i64 (d.id : Int), .int .i64 (d.f : Int)] 100)
    have hB := Blk.new w2 100 #[.int .u64 (d.a : Int), .int .u32 (d.n : Int), .int .i64 (d.id : Int), .int .i64 (d.f : Int)]
    have hlk : w.heap.size + 1 + 1 + 1 < w2.heap.size := ((B0.out.drew.below hq).on hr).tk.b4.lt
    obtain ⟨W, hW⟩ : ∃ W, w2.alloc (.cells #[.int .u64 (d.a : Int), .int .u32 (d.n : Int), .int .i64 (d.id : Int), .int .i64 (d.f : Int)] 100) = W := ⟨_, rfl⟩
    obtain ⟨K, hK⟩ : ∃ K, w2.heap.size = K := ⟨_, rfl⟩
    rw [hW] at hA hB ⊢
    rw [hK] at hB hlk ⊢
    clear hW hK hr hq
    obtain ⟨p0, p1, p2, p3, p4, p5, z1, z2, z3⟩ := hA.tk.facts
    obtain ⟨-, -, -, -, -, g6, -, -, -⟩ := hA.rm.cells
    have k3 := hB.cell 3
    have k0 := hB.cell 0
    have k1 := hB.cell 1
    have k2 := hB.cell 2
    simp only [List.getElem?_toArray, List.getElem?_cons_zero, List.getElem?_cons_succ] at k0 k1 k2 k3
    have HA1 := Lib.hid hA
    clear hA hB
    go_wp2_with fail
    go_quiet ((go_at_call 64; exact Calls.quiet_of_same ((HA.out _).mono fun _ _ hh => ⟨hh.1, hh.2.symm⟩)))
    have T1 := HA1.out.tk.below (below_drewN (Below.refl _ _) nq)
    have R1 := HA1.out.rm.drewN nq
    have kk0 : (World.drewN W nq).cell? ⟨K, 0, none⟩ = some (.int .u64 (d.a : Int)) := k0
    have kk1 : (World.drewN W nq).cell? ⟨K, 1, none⟩ = some (.int .u32 (d.n : Int)) := k1
    have kk2 : (World.drewN W nq).cell? ⟨K, 2, none⟩ = some (.int .i64 (d.id : Int)) := k2
    have kk3 : (World.drewN W nq).cell? ⟨K, 3, none⟩ = some (.int .i64 (d.f : Int)) := k3
    clear k0 k1 k2 k3 p0 p1 p2 p3 p4 p5 z1 z2 z3 g6
    obtain ⟨p0, -⟩ := T1.facts
    generalize World.drewN W nq = W2 at *
    have T1 := Lib.hid T1
    have R1 := Lib.hid R1
    go_wp2_with fail
    refine (HC.out _ R1.out.enter).mono ?_
    intro e w3 hL
    obtain ⟨R3, A, cap, rfl, own⟩ := hL
    have T3 := T1.out.keep R3.keep
    have R3 := R1.out.leave R3
    have hw3 := R3.keep.size
    obtain ⟨p0, p1, p2, p3, p4, p5, z1, z2, z3⟩ := T3.facts
    have G := TG.first R3 T3 (own_base own R1.out.keep.size)
    have G := Lib.hid G
    clear own R3 T3 R1 T1 kk0 kk1 kk2 kk3
    go_wp2_with fail
    obtain ⟨W3, hW3⟩ : ∃ W3, (((w3.setCell ⟨w.heap.size + 1, 0, none⟩ (.int .i64 (h1.id : Int))).setCell ⟨w.heap.size + 1, 1, none⟩ (.int .i64 (h1.count : Int))).setCell ⟨w.heap.size + 1, 2, none⟩ (.slice A h1.parts.length cap)) = W3 := ⟨_, rfl⟩
    rw [hW3] at G ⊢
    clear hW3 p0 p1 p2 p3 p4 p5 z1 z2 z3
    have R4 := Lib.hid G.out.1.drew
    have T4 := Lib.hid (G.out.2.keep (Keep.of_below (Below.refl _ _).drew))
    obtain ⟨-, -, -, -, g5, g6, -, -, -⟩ := G.out.1.cells
    clear G
    refine wp_region_noPanic ?_
    refine wp_region_held_drew (S := fun W => W.cell? ⟨w.heap.size, 0, none⟩ = some (.pointer (some ⟨c.gq, 0, none⟩)) ∧ W.cell? ⟨w.heap.size + 1, 1, none⟩ = some (.int .i64 (h1.count : Int))) (by kernel_rfl) T4.out.two (fun hHeld => ?_)
    refine wpAnyH_take (i := 0) (v := .pointer (some ⟨c.gq, 0, none⟩)) (by rfl) (by kernel_rfl) (by kernel_rfl) (by kernel_rfl) (by intro _ _ _ h; exact h) (Or.inl ⟨by rfl, ?_⟩) (by assumption) ?_
    · intro W hSw
      obtain ⟨hS1, hS2⟩ := hSw
      go_simp
      try with_reducible rfl
    simp only [Act.put, List.setIfInBounds_toArray]
    refine wpAnyH_take (i := 1) (v := .pointer (some ⟨c.gq, 0, none⟩)) (by rfl) (by kernel_rfl) (by kernel_rfl) (by kernel_rfl) (by intro _ _ _ h; exact h) (Or.inl ⟨by rfl, ?_⟩) (by assumption) ?_
    · intro W hSw
      obtain ⟨hS1, hS2⟩ := hSw
      go_simp
      try with_reducible rfl
    simp only [Act.put]
    refine wpAnyH_take (i := 2) (v := .pointer (some ⟨c.gq, 0, none⟩)) (by rfl) (by kernel_rfl) (by kernel_rfl) (by kernel_rfl) (by intro _ _ _ h; exact h) (Or.inl ⟨by rfl, ?_⟩) (by assumption) ?_
    · intro W hSw
      obtain ⟨hS1, hS2⟩ := hSw
      go_simp
      try with_reducible rfl
    simp only [Act.put]
    refine wpAnyH_take (i := 3) (v := .pointer (some ⟨c.gq, 0, none⟩)) (by rfl) (by kernel_rfl) (by kernel_rfl) (by kernel_rfl) (by intro _ _ _ h; exact h) (Or.inl ⟨by rfl, ?_⟩) (by assumption) ?_
    · intro W hSw
      obtain ⟨hS1, hS2⟩ := hSw
      go_simp
      try with_reducible rfl
    simp only [Act.put]
    refine wpAnyH_take (i := 4) (v := .pointer (some ⟨c.gq, 5, none⟩)) (by rfl) (by kernel_rfl) (by kernel_rfl) (by kernel_rfl) (by intro _ _ _ h; exact h) (Or.inl ⟨by rfl, ?_⟩) (by assumption) ?_
    · intro W hSw
      obtain ⟨hS1, hS2⟩ := hSw
      go_simp
      try with_reducible rfl
    simp only [Act.put]
    refine wpAnyH_take (i := 6) (v := .pointer (some ⟨w.heap.size + 1, 1, none⟩)) (by rfl) (by kernel_rfl) (by kernel_rfl) (by kernel_rfl) (by intro _ _ _ h; exact h) (Or.inl ⟨by rfl, ?_⟩) (by assumption) ?_
    · intro W hSw
      obtain ⟨hS1, hS2⟩ := hSw
      go_simp
      try with_reducible rfl
    simp only [Act.put]
    refine wpAnyH_take (i := 7) (v := .int .i64 (h1.count : Int)) (by rfl) (by kernel_rfl) (by kernel_rfl) (by kernel_rfl) (by intro _ _ _ h; exact h) (Or.inl ⟨by rfl, ?_⟩) (by assumption) ?_
    · intro W hSw
      obtain ⟨hS1, hS2⟩ := hSw
      go_simp
      try with_reducible rfl
    simp only [Act.put]
    refine wpAnyH_ready (rs := [5]) (by kernel_rfl) (by simp) ?_
    refine AllReadyH.cons (by rfl) (fun K hK => ?_) AllReadyH.nil
    go_simp
    refine hK.out _ _ T4.out.two (fun hHeld2 => ?_)
    clear hK K hHeld
    refine wpAnyH_ready (rs := [8]) (by kernel_rfl) (by simp) ?_
    refine AllReadyH.cons (by rfl) (fun K hK => ?_) AllReadyH.nil
    go_simp
    refine (HN.out _ R4.out.enter).mono ?_
    rintro e w4 ⟨rfl, hr⟩
    refine hK.out _ _ (T4.out.keep hr.keep).two (fun hHeld3 => ?_)
    clear hK K hHeld2
    have gc5 : w4.cell? ⟨c.gq, 5, none⟩ = some (.int .i64 (c.q.na : Int)) := hr.blk.cell 5
    have gc6 : w4.cell? ⟨c.gq, 6, none⟩ = some (.bool c.q.nw) := hr.blk.cell 6
    have gf5 := hr.blk.frozen 5
    have gf6 := hr.blk.frozen 6
    refine wpAnyH_take (i := 9) (v := .pointer (some ⟨c.gq, 0, none⟩)) (by rfl) (by kernel_rfl) (by kernel_rfl) (by kernel_rfl) (by intro _ _ _ h; exact h) (Or.inl ⟨by rfl, ?_⟩) (by assumption) ?_
    · intro W hSw
      obtain ⟨hS1, hS2⟩ := hSw
      go_simp
      try with_reducible rfl
    simp only [Act.put]
    refine wpAnyH_take (i := 10) (v := .pointer (some ⟨c.gq, 5, none⟩)) (by rfl) (by kernel_rfl) (by kernel_rfl) (by kernel_rfl) (by intro _ _ _ h; exact h) (Or.inl ⟨by rfl, ?_⟩) (by assumption) ?_
    · intro W hSw
      obtain ⟨hS1, hS2⟩ := hSw
      go_simp
      try with_reducible rfl
    simp only [Act.put]
    refine wpAnyH_ready (rs := [11]) (by kernel_rfl) (by simp) ?_
    refine AllReadyH.cons (by rfl) (fun K hK => ?_) AllReadyH.nil
    go_simp
    have T5 := ((T4.out.keep hr.keep).other hr.blk (by decide) (by decide) (by decide) (by decide) (by decide) 5 (.int .i64 (stA c.q.size c.q.na h1.count : Int))).other (hr.blk.put 5 (.int .i64 (stA c.q.size c.q.na h1.count : Int))) (by decide) (by decide) (by decide) (by decide) (by decide) 6 (.bool (stW c.q.size c.q.na h1.count c.q.nw))
    refine hK.out _ _ T5.two (fun hHeld4 => ?_)
    clear hK K hHeld3
    refine wpAnyH_done (by kernel_rfl) ?_ _
    refine NoPanic.normal ?_
    have Q5 := (Qn.of (R4.out.leave hr)).set 5 (.int .i64 (stA c.q.size c.q.na h1.count : Int)) (q2 := { c.q with na := stA c.q.size c.q.na h1.count }) rfl
    have Q5 := Q5.set 6 (.bool (stW c.q.size c.q.na h1.count c.q.nw)) (q2 := { c.q with na := stA c.q.size c.q.na h1.count, nw := stW c.q.size c.q.na h1.count c.q.nw }) rfl
    obtain ⟨W5, hW5⟩ : ∃ W5, (w4.setCell ⟨c.gq, 5, none⟩ (.int .i64 (stA c.q.size c.q.na h1.count : Int))).setCell ⟨c.gq, 6, none⟩ (.bool (stW c.q.size c.q.na h1.count c.q.nw)) = W5 := ⟨_, rfl⟩
    rw [hW5] at Q5 T5 ⊢
    clear hW5 gc5 gc6 gf5 gf6 hr g5 g6 R4 T4
    have g9 : W5.cell? ⟨c.gq, 9, none⟩ = some (.int .i64 (c.q.out : Int)) := Q5.blk.cell 9
    have f9 := Q5.blk.frozen 9
    have v1 : IntKind.i64.wrap ((c.q.out : Int) + (h1.count : Int)) = (c.q.out : Int) + (h1.count : Int) := by rw [IntKind.wrap_i64]; omega
    have HT := Lib.hid T5
    have HQ := Lib.hid Q5
    clear T5 Q5
    go_wp2_with fail
    refine wp_region_noPanic ?_
    refine wp_region_held_drew (S := fun W => W.cell? ⟨w.heap.size, 0, none⟩ = some (.pointer (some ⟨c.gq, 0, none⟩)) ∧ W.cell? ⟨w.heap.size + 1, 1, none⟩ = some (.int .i64 (h1.count : Int))) (by kernel_rfl) HT.out.two (fun hHeld => ?_)
    refine wpAnyH_take (i := 0) (v := .pointer (some ⟨c.gq, 0, none⟩)) (by rfl) (by kernel_rfl) (by kernel_rfl) (by kernel_rfl) (by intro _ _ _ h; exact h) (Or.inl ⟨by rfl, ?_⟩) (by assumption) ?_
    · intro W hSw
      obtain ⟨hS1, hS2⟩ := hSw
      go_simp
      try with_reducible rfl
    simp only [Act.put, List.setIfInBounds_toArray]
    refine wpAnyH_take (i := 1) (v := .pointer (some ⟨c.gq, 0, none⟩)) (by rfl) (by kernel_rfl) (by kernel_rfl) (by kernel_rfl) (by intro _ _ _ h; exact h) (Or.inl ⟨by rfl, ?_⟩) (by assumption) ?_
    · intro W hSw
      obtain ⟨hS1, hS2⟩ := hSw
      go_simp
      try with_reducible rfl
    simp only [Act.put]
    refine wpAnyH_take (i := 2) (v := .pointer (some ⟨c.gq, 9, none⟩)) (by rfl) (by kernel_rfl) (by kernel_rfl) (by kernel_rfl) (by intro _ _ _ h; exact h) (Or.inl ⟨by rfl, ?_⟩) (by assumption) ?_
    · intro W hSw
      obtain ⟨hS1, hS2⟩ := hSw
      go_simp
      try with_reducible rfl
    simp only [Act.put]
    refine wpAnyH_take (i := 4) (v := .pointer (some ⟨w.heap.size + 1, 1, none⟩)) (by rfl) (by kernel_rfl) (by kernel_rfl) (by kernel_rfl) (by intro _ _ _ h; exact h) (Or.inl ⟨by rfl, ?_⟩) (by assumption) ?_
    · intro W hSw
      obtain ⟨hS1, hS2⟩ := hSw
      go_simp
      try with_reducible rfl
    simp only [Act.put]
    refine wpAnyH_take (i := 5) (v := .int .i64 (h1.count : Int)) (by rfl) (by kernel_rfl) (by kernel_rfl) (by kernel_rfl) (by intro _ _ _ h; exact h) (Or.inl ⟨by rfl, ?_⟩) (by assumption) ?_
    · intro W hSw
      obtain ⟨hS1, hS2⟩ := hSw
      go_simp
      try with_reducible rfl
    simp only [Act.put]
    refine wpAnyH_ready (rs := [3]) (by kernel_rfl) (by simp) ?_
    refine AllReadyH.cons (by rfl) (fun K hK => ?_) AllReadyH.nil
    go_simp
    refine hK.out _ _ HT.out.two (fun hHeld2 => ?_)
    clear hK K hHeld
    refine wpAnyH_take (i := 6) (v := .int .i64 ((c.q.out : Int) + (h1.count : Int))) (by rfl) (by kernel_rfl) (by kernel_rfl) (by kernel_rfl) (by intro _ _ _ h; exact h) (Or.inl ⟨by rfl, ?_⟩) (by assumption) ?_
    · intro W hSw
      obtain ⟨hS1, hS2⟩ := hSw
      go_simp
      try with_reducible rfl
    simp only [Act.put]
    refine wpAnyH_take (i := 7) (v := .pointer (some ⟨c.gq, 0, none⟩)) (by rfl) (by kernel_rfl) (by kernel_rfl) (by kernel_rfl) (by intro _ _ _ h; exact h) (Or.inl ⟨by rfl, ?_⟩) (by assumption) ?_
    · intro W hSw
      obtain ⟨hS1, hS2⟩ := hSw
      go_simp
      try with_reducible rfl
    simp only [Act.put]
    refine wpAnyH_take (i := 8) (v := .pointer (some ⟨c.gq, 9, none⟩)) (by rfl) (by kernel_rfl) (by kernel_rfl) (by kernel_rfl) (by intro _ _ _ h; exact h) (Or.inl ⟨by rfl, ?_⟩) (by assumption) ?_
    · intro W hSw
      obtain ⟨hS1, hS2⟩ := hSw
      go_simp
      try with_reducible rfl
    simp only [Act.put]
    refine wpAnyH_ready (rs := [9]) (by kernel_rfl) (by simp) ?_
    refine AllReadyH.cons (by rfl) (fun K hK => ?_) AllReadyH.nil
    go_simp
    have T6 := (HT.out.other HQ.out.blk (by decide) (by decide) (by decide) (by decide) (by decide) 9 (.int .i64 ((c.q.out : Int) + (h1.count : Int)))).keep (Keep.of_below (Below.refl _ _).drew)
    have Q6 := (HQ.out.set 9 (.int .i64 ((c.q.out : Int) + (h1.count : Int))) (q2 := takenQ c.q h1.count) rfl).drew
    refine hK.out _ _ T6.two (fun hHeld4 => ?_)
    clear hK K hHeld2
    refine wpAnyH_done (by kernel_rfl) ?_ _
    refine NoPanic.normal ?_
    obtain ⟨W6, hW6⟩ : ∃ W6, (W5.setCell ⟨c.gq, 9, none⟩ (.int .i64 ((c.q.out : Int) + (h1.count : Int)))).drew = W6 := ⟨_, rfl⟩
    rw [hW6] at Q6 T6 hHeld4 ⊢
    clear hW6 g9 f9 v1 hHeld4
    obtain ⟨p0, p1, p2, p3, p4, p5, z1, z2, z3⟩ := T6.tk.facts
    have HR := Lib.hid (T6.tk.set (.int .i64 (h1.id : Int)) (.int .i64 (h1.count : Int)) (.slice A h1.parts.length cap) true 0)
    have HS := Lib.hid (T6.tk.qn Q6 (Nat.le_trans HB hk) (.int .i64 (h1.id : Int)) (.int .i64 (h1.count : Int)) (.slice A h1.parts.length cap) true 0)
    have HU := Lib.hid (T6.tk.own_set T6.own (.int .i64 (h1.id : Int)) (.int .i64 (h1.count : Int)) (.slice A h1.parts.length cap) true 0)
    clear T6 Q6
    go_wp2_with fail
    exact door_ret HR.out HS.out HU.out _ rfl rfl rfl
  · obtain ⟨hA, hB⟩ := TB.store (((B0.out.drew.below hq).alloc (.cells #[.int .u64 0, .int .u32 0, .int .i64 0, .int .i64 0] 100)).on hr) hk2 (by have := drew_le hq; omega) (.int .u64 (d.a : Int)) (.int .u32 (d.n : Int)) (.int .i64 (d.id : Int)) (.int .i64 (d.f : Int))
    have hlk : w.heap.size + 1 + 1 + 1 < w1.heap.size := by have := drew_le hq; omega
    obtain ⟨W, hW⟩ : ∃ W, (((w2.setCell ⟨w1.heap.size, 0, none⟩ (.int .u64 (d.a : Int))).setCell ⟨w1.heap.size, 1, none⟩ (.int .u32 (d.n : Int))).setCell ⟨w1.heap.size, 2, none⟩ (.int .i64 (d.id : Int))).setCell ⟨w1.heap.size, 3, none⟩ (.int .i64 (d.f : Int)) = W := ⟨_, rfl⟩
    obtain ⟨K, hK⟩ : ∃ K, w1.heap.size = K := ⟨_, rfl⟩
    rw [hW] at hA hB ⊢
    rw [hK] at hB hlk ⊢
    clear hW hK hr hq
    obtain ⟨p0, p1, p2, p3, p4, p5, z1, z2, z3⟩ := hA.tk.facts
    obtain ⟨-, -, -, -, -, g6, -, -, -⟩ := hA.rm.cells
    have k3 := hB.cell 3
    have k0 := hB.cell 0
    have k1 := hB.cell 1
    have k2 := hB.cell 2
    simp only [List.getElem?_toArray, List.getElem?_cons_zero, List.getElem?_cons_succ] at k0 k1 k2 k3
    have HA1 := Lib.hid hA
    clear hA hB
    go_wp2_with fail
    go_quiet ((go_at_call 64; exact Calls.quiet_of_same ((HA.out _).mono fun _ _ hh => ⟨hh.1, hh.2.symm⟩)))
    have T1 := HA1.out.tk.below (below_drewN (Below.refl _ _) nq)
    have R1 := HA1.out.rm.drewN nq
    have kk0 : (World.drewN W nq).cell? ⟨K, 0, none⟩ = some (.int .u64 (d.a : Int)) := k0
    have kk1 : (World.drewN W nq).cell? ⟨K, 1, none⟩ = some (.int .u32 (d.n : Int)) := k1
    have kk2 : (World.drewN W nq).cell? ⟨K, 2, none⟩ = some (.int .i64 (d.id : Int)) := k2
    have kk3 : (World.drewN W nq).cell? ⟨K, 3, none⟩ = some (.int .i64 (d.f : Int)) := k3
    clear k0 k1 k2 k3 p0 p1 p2 p3 p4 p5 z1 z2 z3 g6
    obtain ⟨p0, -⟩ := T1.facts
    generalize World.drewN W nq = W2 at *
    have T1 := Lib.hid T1
    have R1 := Lib.hid R1
    go_wp2_with fail
    refine (HC.out _ R1.out.enter).mono ?_
    intro e w3 hL
    obtain ⟨R3, A, cap, rfl, own⟩ := hL
    have T3 := T1.out.keep R3.keep
    have R3 := R1.out.leave R3
    have hw3 := R3.keep.size
    obtain ⟨p0, p1, p2, p3, p4, p5, z1, z2, z3⟩ := T3.facts
    have G := TG.first R3 T3 (own_base own R1.out.keep.size)
    have G := Lib.hid G
    clear own R3 T3 R1 T1 kk0 kk1 kk2 kk3
    go_wp2_with fail
    obtain ⟨W3, hW3⟩ : ∃ W3, (((w3.setCell ⟨w.heap.size + 1, 0, none⟩ (.int .i64 (h1.id : Int))).setCell ⟨w.heap.size + 1, 1, none⟩ (.int .i64 (h1.count : Int))).setCell ⟨w.heap.size + 1, 2, none⟩ (.slice A h1.parts.length cap)) = W3 := ⟨_, rfl⟩
    rw [hW3] at G ⊢
    clear hW3 p0 p1 p2 p3 p4 p5 z1 z2 z3
    have R4 := Lib.hid G.out.1.drew
    have T4 := Lib.hid (G.out.2.keep (Keep.of_below (Below.refl _ _).drew))
    obtain ⟨-, -, -, -, g5, g6, -, -, -⟩ := G.out.1.cells
    clear G
    refine wp_region_noPanic ?_
    refine wp_region_held_drew (S := fun W => W.cell? ⟨w.heap.size, 0, none⟩ = some (.pointer (some ⟨c.gq, 0, none⟩)) ∧ W.cell? ⟨w.heap.size + 1, 1, none⟩ = some (.int .i64 (h1.count : Int))) (by kernel_rfl) T4.out.two (fun hHeld => ?_)
    refine wpAnyH_take (i := 0) (v := .pointer (some ⟨c.gq, 0, none⟩)) (by rfl) (by kernel_rfl) (by kernel_rfl) (by kernel_rfl) (by intro _ _ _ h; exact h) (Or.inl ⟨by rfl, ?_⟩) (by assumption) ?_
    · intro W hSw
      obtain ⟨hS1, hS2⟩ := hSw
      go_simp
      try with_reducible rfl
    simp only [Act.put, List.setIfInBounds_toArray]
    refine wpAnyH_take (i := 1) (v := .pointer (some ⟨c.gq, 0, none⟩)) (by rfl) (by kernel_rfl) (by kernel_rfl) (by kernel_rfl) (by intro _ _ _ h; exact h) (Or.inl ⟨by rfl, ?_⟩) (by assumption) ?_
    · intro W hSw
      obtain ⟨hS1, hS2⟩ := hSw
      go_simp
      try with_reducible rfl
    simp only [Act.put]
    refine wpAnyH_take (i := 2) (v := .pointer (some ⟨c.gq, 0, none⟩)) (by rfl) (by kernel_rfl) (by kernel_rfl) (by kernel_rfl) (by intro _ _ _ h; exact h) (Or.inl ⟨by rfl, ?_⟩) (by assumption) ?_
    · intro W hSw
      obtain ⟨hS1, hS2⟩ := hSw
      go_simp
      try with_reducible rfl
    simp only [Act.put]
    refine wpAnyH_take (i := 3) (v := .pointer (some ⟨c.gq, 0, none⟩)) (by rfl) (by kernel_rfl) (by kernel_rfl) (by kernel_rfl) (by intro _ _ _ h; exact h) (Or.inl ⟨by rfl, ?_⟩) (by assumption) ?_
    · intro W hSw
      obtain ⟨hS1, hS2⟩ := hSw
      go_simp
      try with_reducible rfl
    simp only [Act.put]
    refine wpAnyH_take (i := 4) (v := .pointer (some ⟨c.gq, 5, none⟩)) (by rfl) (by kernel_rfl) (by kernel_rfl) (by kernel_rfl) (by intro _ _ _ h; exact h) (Or.inl ⟨by rfl, ?_⟩) (by assumption) ?_
    · intro W hSw
      obtain ⟨hS1, hS2⟩ := hSw
      go_simp
      try with_reducible rfl
    simp only [Act.put]
    refine wpAnyH_take (i := 6) (v := .pointer (some ⟨w.heap.size + 1, 1, none⟩)) (by rfl) (by kernel_rfl) (by kernel_rfl) (by kernel_rfl) (by intro _ _ _ h; exact h) (Or.inl ⟨by rfl, ?_⟩) (by assumption) ?_
    · intro W hSw
      obtain ⟨hS1, hS2⟩ := hSw
      go_simp
      try with_reducible rfl
    simp only [Act.put]
    refine wpAnyH_take (i := 7) (v := .int .i64 (h1.count : Int)) (by rfl) (by kernel_rfl) (by kernel_rfl) (by kernel_rfl) (by intro _ _ _ h; exact h) (Or.inl ⟨by rfl, ?_⟩) (by assumption) ?_
    · intro W hSw
      obtain ⟨hS1, hS2⟩ := hSw
      go_simp
      try with_reducible rfl
    simp only [Act.put]
    refine wpAnyH_ready (rs := [5]) (by kernel_rfl) (by simp) ?_
    refine AllReadyH.cons (by rfl) (fun K hK => ?_) AllReadyH.nil
    go_simp
    refine hK.out _ _ T4.out.two (fun hHeld2 => ?_)
    clear hK K hHeld
    refine wpAnyH_ready (rs := [8]) (by kernel_rfl) (by simp) ?_
    refine AllReadyH.cons (by rfl) (fun K hK => ?_) AllReadyH.nil
    go_simp
    refine (HN.out _ R4.out.enter).mono ?_
    rintro e w4 ⟨rfl, hr⟩
    refine hK.out _ _ (T4.out.keep hr.keep).two (fun hHeld3 => ?_)
    clear hK K hHeld2
    have gc5 : w4.cell? ⟨c.gq, 5, none⟩ = some (.int .i64 (c.q.na : Int)) := hr.blk.cell 5
    have gc6 : w4.cell? ⟨c.gq, 6, none⟩ = some (.bool c.q.nw) := hr.blk.cell 6
    have gf5 := hr.blk.frozen 5
    have gf6 := hr.blk.frozen 6
    refine wpAnyH_take (i := 9) (v := .pointer (some ⟨c.gq, 0, none⟩)) (by rfl) (by kernel_rfl) (by kernel_rfl) (by kernel_rfl) (by intro _ _ _ h; exact h) (Or.inl ⟨by rfl, ?_⟩) (by assumption) ?_
    · intro W hSw
      obtain ⟨hS1, hS2⟩ := hSw
      go_simp
      try with_reducible rfl
    simp only [Act.put]
    refine wpAnyH_take (i := 10) (v := .pointer (some ⟨c.gq, 5, none⟩)) (by rfl) (by kernel_rfl) (by kernel_rfl) (by kernel_rfl) (by intro _ _ _ h; exact h) (Or.inl ⟨by rfl, ?_⟩) (by assumption) ?_
    · intro W hSw
      obtain ⟨hS1, hS2⟩ := hSw
      go_simp
      try with_reducible rfl
    simp only [Act.put]
    refine wpAnyH_ready (rs := [11]) (by kernel_rfl) (by simp) ?_
    refine AllReadyH.cons (by rfl) (fun K hK => ?_) AllReadyH.nil
    go_simp
    have T5 := ((T4.out.keep hr.keep).other hr.blk (by decide) (by decide) (by decide) (by decide) (by decide) 5 (.int .i64 (stA c.q.size c.q.na h1.count : Int))).other (hr.blk.put 5 (.int .i64 (stA c.q.size c.q.na h1.count : Int))) (by decide) (by decide) (by decide) (by decide) (by decide) 6 (.bool (stW c.q.size c.q.na h1.count c.q.nw))
    refine hK.out _ _ T5.two (fun hHeld4 => ?_)
    clear hK K hHeld3
    refine wpAnyH_done (by kernel_rfl) ?_ _
    refine NoPanic.normal ?_
    have Q5 := (Qn.of (R4.out.leave hr)).set 5 (.int .i64 (stA c.q.size c.q.na h1.count : Int)) (q2 := { c.q with na := stA c.q.size c.q.na h1.count }) rfl
    have Q5 := Q5.set 6 (.bool (stW c.q.size c.q.na h1.count c.q.nw)) (q2 := { c.q with na := stA c.q.size c.q.na h1.count, nw := stW c.q.size c.q.na h1.count c.q.nw }) rfl
    obtain ⟨W5, hW5⟩ : ∃ W5, (w4.setCell ⟨c.gq, 5, none⟩ (.int .i64 (stA c.q.size c.q.na h1.count : Int))).setCell ⟨c.gq, 6, none⟩ (.bool (stW c.q.size c.q.na h1.count c.q.nw)) = W5 := ⟨_, rfl⟩
    rw [hW5] at Q5 T5 ⊢
    clear hW5 gc5 gc6 gf5 gf6 hr g5 g6 R4 T4
    have g9 : W5.cell? ⟨c.gq, 9, none⟩ = some (.int .i64 (c.q.out : Int)) := Q5.blk.cell 9
    have f9 := Q5.blk.frozen 9
    have v1 : IntKind.i64.wrap ((c.q.out : Int) + (h1.count : Int)) = (c.q.out : Int) + (h1.count : Int) := by rw [IntKind.wrap_i64]; omega
    have HT := Lib.hid T5
    have HQ := Lib.hid Q5
    clear T5 Q5
    go_wp2_with fail
    refine wp_region_noPanic ?_
    refine wp_region_held_drew (S := fun W => W.cell? ⟨w.heap.size, 0, none⟩ = some (.pointer (some ⟨c.gq, 0, none⟩)) ∧ W.cell? ⟨w.heap.size + 1, 1, none⟩ = some (.int .i64 (h1.count : Int))) (by kernel_rfl) HT.out.two (fun hHeld => ?_)
    refine wpAnyH_take (i := 0) (v := .pointer (some ⟨c.gq, 0, none⟩)) (by rfl) (by kernel_rfl) (by kernel_rfl) (by kernel_rfl) (by intro _ _ _ h; exact h) (Or.inl ⟨by rfl, ?_⟩) (by assumption) ?_
    · intro W hSw
      obtain ⟨hS1, hS2⟩ := hSw
      go_simp
      try with_reducible rfl
    simp only [Act.put, List.setIfInBounds_toArray]
    refine wpAnyH_take (i := 1) (v := .pointer (some ⟨c.gq, 0, none⟩)) (by rfl) (by kernel_rfl) (by kernel_rfl) (by kernel_rfl) (by intro _ _ _ h; exact h) (Or.inl ⟨by rfl, ?_⟩) (by assumption) ?_
    · intro W hSw
      obtain ⟨hS1, hS2⟩ := hSw
      go_simp
      try with_reducible rfl
    simp only [Act.put]
    refine wpAnyH_take (i := 2) (v := .pointer (some ⟨c.gq, 9, none⟩)) (by rfl) (by kernel_rfl) (by kernel_rfl) (by kernel_rfl) (by intro _ _ _ h; exact h) (Or.inl ⟨by rfl, ?_⟩) (by assumption) ?_
    · intro W hSw
      obtain ⟨hS1, hS2⟩ := hSw
      go_simp
      try with_reducible rfl
    simp only [Act.put]
    refine wpAnyH_take (i := 4) (v := .pointer (some ⟨w.heap.size + 1, 1, none⟩)) (by rfl) (by kernel_rfl) (by kernel_rfl) (by kernel_rfl) (by intro _ _ _ h; exact h) (Or.inl ⟨by rfl, ?_⟩) (by assumption) ?_
    · intro W hSw
      obtain ⟨hS1, hS2⟩ := hSw
      go_simp
      try with_reducible rfl
    simp only [Act.put]
    refine wpAnyH_take (i := 5) (v := .int .i64 (h1.count : Int)) (by rfl) (by kernel_rfl) (by kernel_rfl) (by kernel_rfl) (by intro _ _ _ h; exact h) (Or.inl ⟨by rfl, ?_⟩) (by assumption) ?_
    · intro W hSw
      obtain ⟨hS1, hS2⟩ := hSw
      go_simp
      try with_reducible rfl
    simp only [Act.put]
    refine wpAnyH_ready (rs := [3]) (by kernel_rfl) (by simp) ?_
    refine AllReadyH.cons (by rfl) (fun K hK => ?_) AllReadyH.nil
    go_simp
    refine hK.out _ _ HT.out.two (fun hHeld2 => ?_)
    clear hK K hHeld
    refine wpAnyH_take (i := 6) (v := .int .i64 ((c.q.out : Int) + (h1.count : Int))) (by rfl) (by kernel_rfl) (by kernel_rfl) (by kernel_rfl) (by intro _ _ _ h; exact h) (Or.inl ⟨by rfl, ?_⟩) (by assumption) ?_
    · intro W hSw
      obtain ⟨hS1, hS2⟩ := hSw
      go_simp
      try with_reducible rfl
    simp only [Act.put]
    refine wpAnyH_take (i := 7) (v := .pointer (some ⟨c.gq, 0, none⟩)) (by rfl) (by kernel_rfl) (by kernel_rfl) (by kernel_rfl) (by intro _ _ _ h; exact h) (Or.inl ⟨by rfl, ?_⟩) (by assumption) ?_
    · intro W hSw
      obtain ⟨hS1, hS2⟩ := hSw
      go_simp
      try with_reducible rfl
    simp only [Act.put]
    refine wpAnyH_take (i := 8) (v := .pointer (some ⟨c.gq, 9, none⟩)) (by rfl) (by kernel_rfl) (by kernel_rfl) (by kernel_rfl) (by intro _ _ _ h; exact h) (Or.inl ⟨by rfl, ?_⟩) (by assumption) ?_
    · intro W hSw
      obtain ⟨hS1, hS2⟩ := hSw
      go_simp
      try with_reducible rfl
    simp only [Act.put]
    refine wpAnyH_ready (rs := [9]) (by kernel_rfl) (by simp) ?_
    refine AllReadyH.cons (by rfl) (fun K hK => ?_) AllReadyH.nil
    go_simp
    have T6 := (HT.out.other HQ.out.blk (by decide) (by decide) (by decide) (by decide) (by decide) 9 (.int .i64 ((c.q.out : Int) + (h1.count : Int)))).keep (Keep.of_below (Below.refl _ _).drew)
    have Q6 := (HQ.out.set 9 (.int .i64 ((c.q.out : Int) + (h1.count : Int))) (q2 := takenQ c.q h1.count) rfl).drew
    refine hK.out _ _ T6.two (fun hHeld4 => ?_)
    clear hK K hHeld2
    refine wpAnyH_done (by kernel_rfl) ?_ _
    refine NoPanic.normal ?_
    obtain ⟨W6, hW6⟩ : ∃ W6, (W5.setCell ⟨c.gq, 9, none⟩ (.int .i64 ((c.q.out : Int) + (h1.count : Int)))).drew = W6 := ⟨_, rfl⟩
    rw [hW6] at Q6 T6 hHeld4 ⊢
    clear hW6 g9 f9 v1 hHeld4
    obtain ⟨p0, p1, p2, p3, p4, p5, z1, z2, z3⟩ := T6.tk.facts
    have HR := Lib.hid (T6.tk.set (.int .i64 (h1.id : Int)) (.int .i64 (h1.count : Int)) (.slice A h1.parts.length cap) true 0)
    have HS := Lib.hid (T6.tk.qn Q6 (Nat.le_trans HB hk) (.int .i64 (h1.id : Int)) (.int .i64 (h1.count : Int)) (.slice A h1.parts.length cap) true 0)
    have HU := Lib.hid (T6.tk.own_set T6.own (.int .i64 (h1.id : Int)) (.int .i64 (h1.count : Int)) (.slice A h1.parts.length cap) true 0)
    clear T6 Q6
    go_wp2_with fail
    exact door_ret HR.out HS.out HU.out _ rfl rfl rfl
  · obtain ⟨hA, hB⟩ := TB.store (((B0.out.alloc (.cells #[.int .u64 0, .int .u32 0, .int .i64 0, .int .i64 0] 100)).drew.below hq).on hr) hk1 (by omega) (.int .u64 (d.a : Int)) (.int .u32 (d.n : Int)) (.int .i64 (d.id : Int)) (.int .i64 (d.f : Int))
    have hlk : w.heap.size + 1 + 1 + 1 < W0.heap.size := hw0
    obtain ⟨W, hW⟩ : ∃ W, (((w2.setCell ⟨W0.heap.size, 0, none⟩ (.int .u64 (d.a : Int))).setCell ⟨W0.heap.size, 1, none⟩ (.int .u32 (d.n : Int))).setCell ⟨W0.heap.size, 2, none⟩ (.int .i64 (d.id : Int))).setCell ⟨W0.heap.size, 3, none⟩ (.int .i64 (d.f : Int)) = W := ⟨_, rfl⟩
    obtain ⟨K, hK⟩ : ∃ K, W0.heap.size = K := ⟨_, rfl⟩
    rw [hW] at hA hB ⊢
    rw [hK] at hB hlk ⊢
    clear hW hK hr hq
    obtain ⟨p0, p1, p2, p3, p4, p5, z1, z2, z3⟩ := hA.tk.facts
    obtain ⟨-, -, -, -, -, g6, -, -, -⟩ := hA.rm.cells
    have k3 := hB.cell 3
    have k0 := hB.cell 0
    have k1 := hB.cell 1
    have k2 := hB.cell 2
    simp only [List.getElem?_toArray, List.getElem?_cons_zero, List.getElem?_cons_succ] at k0 k1 k2 k3
    have HA1 := Lib.hid hA
    clear hA hB
    go_wp2_with fail
    go_quiet ((go_at_call 64; exact Calls.quiet_of_same ((HA.out _).mono fun _ _ hh => ⟨hh.1, hh.2.symm⟩)))
    have T1 := HA1.out.tk.below (below_drewN (Below.refl _ _) nq)
    have R1 := HA1.out.rm.drewN nq
    have kk0 : (World.drewN W nq).cell? ⟨K, 0, none⟩ = some (.int .u64 (d.a : Int)) := k0
    have kk1 : (World.drewN W nq).cell? ⟨K, 1, none⟩ = some (.int .u32 (d.n : Int)) := k1
    have kk2 : (World.drewN W nq).cell? ⟨K, 2, none⟩ = some (.int .i64 (d.id : Int)) := k2
    have kk3 : (World.drewN W nq).cell? ⟨K, 3, none⟩ = some (.int .i64 (d.f : Int)) := k3
    clear k0 k1 k2 k3 p0 p1 p2 p3 p4 p5 z1 z2 z3 g6
    obtain ⟨p0, -⟩ := T1.facts
    generalize World.drewN W nq = W2 at *
    have T1 := Lib.hid T1
    have R1 := Lib.hid R1
    go_wp2_with fail
    refine (HC.out _ R1.out.enter).mono ?_
    intro e w3 hL
    obtain ⟨R3, A, cap, rfl, own⟩ := hL
    have T3 := T1.out.keep R3.keep
    have R3 := R1.out.leave R3
    have hw3 := R3.keep.size
    obtain ⟨p0, p1, p2, p3, p4, p5, z1, z2, z3⟩ := T3.facts
    have G := TG.first R3 T3 (own_base own R1.out.keep.size)
    have G := Lib.hid G
    clear own R3 T3 R1 T1 kk0 kk1 kk2 kk3
    go_wp2_with fail
    obtain ⟨W3, hW3⟩ : ∃ W3, (((w3.setCell ⟨w.heap.size + 1, 0, none⟩ (.int .i64 (h1.id : Int))).setCell ⟨w.heap.size + 1, 1, none⟩ (.int .i64 (h1.count : Int))).setCell ⟨w.heap.size + 1, 2, none⟩ (.slice A h1.parts.length cap)) = W3 := ⟨_, rfl⟩
    rw [hW3] at G ⊢
    clear hW3 p0 p1 p2 p3 p4 p5 z1 z2 z3
    have R4 := Lib.hid G.out.1.drew
    have T4 := Lib.hid (G.out.2.keep (Keep.of_below (Below.refl _ _).drew))
    obtain ⟨-, -, -, -, g5, g6, -, -, -⟩ := G.out.1.cells
    clear G
    refine wp_region_noPanic ?_
    refine wp_region_held_drew (S := fun W => W.cell? ⟨w.heap.size, 0, none⟩ = some (.pointer (some ⟨c.gq, 0, none⟩)) ∧ W.cell? ⟨w.heap.size + 1, 1, none⟩ = some (.int .i64 (h1.count : Int))) (by kernel_rfl) T4.out.two (fun hHeld => ?_)
    refine wpAnyH_take (i := 0) (v := .pointer (some ⟨c.gq, 0, none⟩)) (by rfl) (by kernel_rfl) (by kernel_rfl) (by kernel_rfl) (by intro _ _ _ h; exact h) (Or.inl ⟨by rfl, ?_⟩) (by assumption) ?_
    · intro W hSw
      obtain ⟨hS1, hS2⟩ := hSw
      go_simp
      try with_reducible rfl
    simp only [Act.put, List.setIfInBounds_toArray]
    refine wpAnyH_take (i := 1) (v := .pointer (some ⟨c.gq, 0, none⟩)) (by rfl) (by kernel_rfl) (by kernel_rfl) (by kernel_rfl) (by intro _ _ _ h; exact h) (Or.inl ⟨by rfl, ?_⟩) (by assumption) ?_
    · intro W hSw
      obtain ⟨hS1, hS2⟩ := hSw
      go_simp
      try with_reducible rfl
    simp only [Act.put]
    refine wpAnyH_take (i := 2) (v := .pointer (some ⟨c.gq, 0, none⟩)) (by rfl) (by kernel_rfl) (by kernel_rfl) (by kernel_rfl) (by intro _ _ _ h; exact h) (Or.inl ⟨by rfl, ?_⟩) (by assumption) ?_
    · intro W hSw
      obtain ⟨hS1, hS2⟩ := hSw
      go_simp
      try with_reducible rfl
    simp only [Act.put]
    refine wpAnyH_take (i := 3) (v := .pointer (some ⟨c.gq, 0, none⟩)) (by rfl) (by kernel_rfl) (by kernel_rfl) (by kernel_rfl) (by intro _ _ _ h; exact h) (Or.inl ⟨by rfl, ?_⟩) (by assumption) ?_
    · intro W hSw
      obtain ⟨hS1, hS2⟩ := hSw
      go_simp
      try with_reducible rfl
    simp only [Act.put]
    refine wpAnyH_take (i := 4) (v := .pointer (some ⟨c.gq, 5, none⟩)) (by rfl) (by kernel_rfl) (by kernel_rfl) (by kernel_rfl) (by intro _ _ _ h; exact h) (Or.inl ⟨by rfl, ?_⟩) (by assumption) ?_
    · intro W hSw
      obtain ⟨hS1, hS2⟩ := hSw
      go_simp
      try with_reducible rfl
    simp only [Act.put]
    refine wpAnyH_take (i := 6) (v := .pointer (some ⟨w.heap.size + 1, 1, none⟩)) (by rfl) (by kernel_rfl) (by kernel_rfl) (by kernel_rfl) (by intro _ _ _ h; exact h) (Or.inl ⟨by rfl, ?_⟩) (by assumption) ?_
    · intro W hSw
      obtain ⟨hS1, hS2⟩ := hSw
      go_simp
      try with_reducible rfl
    simp only [Act.put]
    refine wpAnyH_take (i := 7) (v := .int .i64 (h1.count : Int)) (by rfl) (by kernel_rfl) (by kernel_rfl) (by kernel_rfl) (by intro _ _ _ h; exact h) (Or.inl ⟨by rfl, ?_⟩) (by assumption) ?_
    · intro W hSw
      obtain ⟨hS1, hS2⟩ := hSw
      go_simp
      try with_reducible rfl
    simp only [Act.put]
    refine wpAnyH_ready (rs := [5]) (by kernel_rfl) (by simp) ?_
    refine AllReadyH.cons (by rfl) (fun K hK => ?_) AllReadyH.nil
    go_simp
    refine hK.out _ _ T4.out.two (fun hHeld2 => ?_)
    clear hK K hHeld
    refine wpAnyH_ready (rs := [8]) (by kernel_rfl) (by simp) ?_
    refine AllReadyH.cons (by rfl) (fun K hK => ?_) AllReadyH.nil
    go_simp
    refine (HN.out _ R4.out.enter).mono ?_
    rintro e w4 ⟨rfl, hr⟩
    refine hK.out _ _ (T4.out.keep hr.keep).two (fun hHeld3 => ?_)
    clear hK K hHeld2
    have gc5 : w4.cell? ⟨c.gq, 5, none⟩ = some (.int .i64 (c.q.na : Int)) := hr.blk.cell 5
    have gc6 : w4.cell? ⟨c.gq, 6, none⟩ = some (.bool c.q.nw) := hr.blk.cell 6
    have gf5 := hr.blk.frozen 5
    have gf6 := hr.blk.frozen 6
    refine wpAnyH_take (i := 9) (v := .pointer (some ⟨c.gq, 0, none⟩)) (by rfl) (by kernel_rfl) (by kernel_rfl) (by kernel_rfl) (by intro _ _ _ h; exact h) (Or.inl ⟨by rfl, ?_⟩) (by assumption) ?_
    · intro W hSw
      obtain ⟨hS1, hS2⟩ := hSw
      go_simp
      try with_reducible rfl
    simp only [Act.put]
    refine wpAnyH_take (i := 10) (v := .pointer (some ⟨c.gq, 5, none⟩)) (by rfl) (by kernel_rfl) (by kernel_rfl) (by kernel_rfl) (by intro _ _ _ h; exact h) (Or.inl ⟨by rfl, ?_⟩) (by assumption) ?_
    · intro W hSw
      obtain ⟨hS1, hS2⟩ := hSw
      go_simp
      try with_reducible rfl
    simp only [Act.put]
    refine wpAnyH_ready (rs := [11]) (by kernel_rfl) (by simp) ?_
    refine AllReadyH.cons (by rfl) (fun K hK => ?_) AllReadyH.nil
    go_simp
    have T5 := ((T4.out.keep hr.keep).other hr.blk (by decide) (by decide) (by decide) (by decide) (by decide) 5 (.int .i64 (stA c.q.size c.q.na h1.count : Int))).other (hr.blk.put 5 (.int .i64 (stA c.q.size c.q.na h1.count : Int))) (by decide) (by decide) (by decide) (by decide) (by decide) 6 (.bool (stW c.q.size c.q.na h1.count c.q.nw))
    refine hK.out _ _ T5.two (fun hHeld4 => ?_)
    clear hK K hHeld3
    refine wpAnyH_done (by kernel_rfl) ?_ _
    refine NoPanic.normal ?_
    have Q5 := (Qn.of (R4.out.leave hr)).set 5 (.int .i64 (stA c.q.size c.q.na h1.count : Int)) (q2 := { c.q with na := stA c.q.size c.q.na h1.count }) rfl
    have Q5 := Q5.set 6 (.bool (stW c.q.size c.q.na h1.count c.q.nw)) (q2 := { c.q with na := stA c.q.size c.q.na h1.count, nw := stW c.q.size c.q.na h1.count c.q.nw }) rfl
    obtain ⟨W5, hW5⟩ : ∃ W5, (w4.setCell ⟨c.gq, 5, none⟩ (.int .i64 (stA c.q.size c.q.na h1.count : Int))).setCell ⟨c.gq, 6, none⟩ (.bool (stW c.q.size c.q.na h1.count c.q.nw)) = W5 := ⟨_, rfl⟩
    rw [hW5] at Q5 T5 ⊢
    clear hW5 gc5 gc6 gf5 gf6 hr g5 g6 R4 T4
    have g9 : W5.cell? ⟨c.gq, 9, none⟩ = some (.int .i64 (c.q.out : Int)) := Q5.blk.cell 9
    have f9 := Q5.blk.frozen 9
    have v1 : IntKind.i64.wrap ((c.q.out : Int) + (h1.count : Int)) = (c.q.out : Int) + (h1.count : Int) := by rw [IntKind.wrap_i64]; omega
    have HT := Lib.hid T5
    have HQ := Lib.hid Q5
    clear T5 Q5
    go_wp2_with fail
    refine wp_region_noPanic ?_
    refine wp_region_held_drew (S := fun W => W.cell? ⟨w.heap.size, 0, none⟩ = some (.pointer (some ⟨c.gq, 0, none⟩)) ∧ W.cell? ⟨w.heap.size + 1, 1, none⟩ = some (.int .i64 (h1.count : Int))) (by kernel_rfl) HT.out.two (fun hHeld => ?_)
    refine wpAnyH_take (i := 0) (v := .pointer (some ⟨c.gq, 0, none⟩)) (by rfl) (by kernel_rfl) (by kernel_rfl) (by kernel_rfl) (by intro _ _ _ h; exact h) (Or.inl ⟨by rfl, ?_⟩) (by assumption) ?_
    · intro W hSw
      obtain ⟨hS1, hS2⟩ := hSw
      go_simp
      try with_reducible rfl
    simp only [Act.put, List.setIfInBounds_toArray]
    refine wpAnyH_take (i := 1) (v := .pointer (some ⟨c.gq, 0, none⟩)) (by rfl) (by kernel_rfl) (by kernel_rfl) (by kernel_rfl) (by intro _ _ _ h; exact h) (Or.inl ⟨by rfl, ?_⟩) (by assumption) ?_
    · intro W hSw
      obtain ⟨hS1, hS2⟩ := hSw
      go_simp
      try with_reducible rfl
    simp only [Act.put]
    refine wpAnyH_take (i := 2) (v := .pointer (some ⟨c.gq, 9, none⟩)) (by rfl) (by kernel_rfl) (by kernel_rfl) (by kernel_rfl) (by intro _ _ _ h; exact h) (Or.inl ⟨by rfl, ?_⟩) (by assumption) ?_
    · intro W hSw
      obtain ⟨hS1, hS2⟩ := hSw
      go_simp
      try with_reducible rfl
    simp only [Act.put]
    refine wpAnyH_take (i := 4) (v := .pointer (some ⟨w.heap.size + 1, 1, none⟩)) (by rfl) (by kernel_rfl) (by kernel_rfl) (by kernel_rfl) (by intro _ _ _ h; exact h) (Or.inl ⟨by rfl, ?_⟩) (by assumption) ?_
    · intro W hSw
      obtain ⟨hS1, hS2⟩ := hSw
      go_simp
      try with_reducible rfl
    simp only [Act.put]
    refine wpAnyH_take (i := 5) (v := .int .i64 (h1.count : Int)) (by rfl) (by kernel_rfl) (by kernel_rfl) (by kernel_rfl) (by intro _ _ _ h; exact h) (Or.inl ⟨by rfl, ?_⟩) (by assumption) ?_
    · intro W hSw
      obtain ⟨hS1, hS2⟩ := hSw
      go_simp
      try with_reducible rfl
    simp only [Act.put]
    refine wpAnyH_ready (rs := [3]) (by kernel_rfl) (by simp) ?_
    refine AllReadyH.cons (by rfl) (fun K hK => ?_) AllReadyH.nil
    go_simp
    refine hK.out _ _ HT.out.two (fun hHeld2 => ?_)
    clear hK K hHeld
    refine wpAnyH_take (i := 6) (v := .int .i64 ((c.q.out : Int) + (h1.count : Int))) (by rfl) (by kernel_rfl) (by kernel_rfl) (by kernel_rfl) (by intro _ _ _ h; exact h) (Or.inl ⟨by rfl, ?_⟩) (by assumption) ?_
    · intro W hSw
      obtain ⟨hS1, hS2⟩ := hSw
      go_simp
      try with_reducible rfl
    simp only [Act.put]
    refine wpAnyH_take (i := 7) (v := .pointer (some ⟨c.gq, 0, none⟩)) (by rfl) (by kernel_rfl) (by kernel_rfl) (by kernel_rfl) (by intro _ _ _ h; exact h) (Or.inl ⟨by rfl, ?_⟩) (by assumption) ?_
    · intro W hSw
      obtain ⟨hS1, hS2⟩ := hSw
      go_simp
      try with_reducible rfl
    simp only [Act.put]
    refine wpAnyH_take (i := 8) (v := .pointer (some ⟨c.gq, 9, none⟩)) (by rfl) (by kernel_rfl) (by kernel_rfl) (by kernel_rfl) (by intro _ _ _ h; exact h) (Or.inl ⟨by rfl, ?_⟩) (by assumption) ?_
    · intro W hSw
      obtain ⟨hS1, hS2⟩ := hSw
      go_simp
      try with_reducible rfl
    simp only [Act.put]
    refine wpAnyH_ready (rs := [9]) (by kernel_rfl) (by simp) ?_
    refine AllReadyH.cons (by rfl) (fun K hK => ?_) AllReadyH.nil
    go_simp
    have T6 := (HT.out.other HQ.out.blk (by decide) (by decide) (by decide) (by decide) (by decide) 9 (.int .i64 ((c.q.out : Int) + (h1.count : Int)))).keep (Keep.of_below (Below.refl _ _).drew)
    have Q6 := (HQ.out.set 9 (.int .i64 ((c.q.out : Int) + (h1.count : Int))) (q2 := takenQ c.q h1.count) rfl).drew
    refine hK.out _ _ T6.two (fun hHeld4 => ?_)
    clear hK K hHeld2
    refine wpAnyH_done (by kernel_rfl) ?_ _
    refine NoPanic.normal ?_
    obtain ⟨W6, hW6⟩ : ∃ W6, (W5.setCell ⟨c.gq, 9, none⟩ (.int .i64 ((c.q.out : Int) + (h1.count : Int)))).drew = W6 := ⟨_, rfl⟩
    rw [hW6] at Q6 T6 hHeld4 ⊢
    clear hW6 g9 f9 v1 hHeld4
    obtain ⟨p0, p1, p2, p3, p4, p5, z1, z2, z3⟩ := T6.tk.facts
    have HR := Lib.hid (T6.tk.set (.int .i64 (h1.id : Int)) (.int .i64 (h1.count : Int)) (.slice A h1.parts.length cap) true 0)
    have HS := Lib.hid (T6.tk.qn Q6 (Nat.le_trans HB hk) (.int .i64 (h1.id : Int)) (.int .i64 (h1.count : Int)) (.slice A h1.parts.length cap) true 0)
    have HU := Lib.hid (T6.tk.own_set T6.own (.int .i64 (h1.id : Int)) (.int .i64 (h1.count : Int)) (.slice A h1.parts.length cap) true 0)
    clear T6 Q6
    go_wp2_with fail
    exact door_ret HR.out HS.out HU.out _ rfl rfl rfl
end Go.Proofs.Ytbpgblmhacpjlaa
namespace Go.Proofs.Ytbpgblmhacpjlaa
open Go.RowKit

theorem chain_count {xs : List UInt8} {q : Qs} {h : Ch} (hq : q.Ok xs.length) (hout : q.out < q.size) (hV : chainV xs q = some h) : 1 ≤ h.count ∧ h.count ≤ 64 ∧ q.out + h.count ≤ q.size := by
  have _ := hq
  unfold chainV ringV at hV
  generalize hr : ringGo xs q.ring q.size (allowed q - 1) q.na [] (deAt xs (q.ring + 16 * q.na)) = r at hV
  cases r with
  | none => cases hV
  | some l =>
    have hl2 := ringGo_length hr
    have hal : allowed q ≤ 64 ∧ 1 ≤ allowed q ∧ allowed q ≤ q.size - q.out := by unfold allowed; omega
    have hV : ((nameV xs l).bind fun n => (partsGo xs n false).map fun p => (⟨lastId l, l.length, p⟩ : Ch)) = some h := hV
    cases hn : nameV xs l with
    | none => rw [hn] at hV; cases hV
    | some n =>
      rw [hn] at hV
      have hV : ((partsGo xs n false).map fun p => (⟨lastId l, l.length, p⟩ : Ch)) = some h := hV
      cases hp : partsGo xs n false with
      | none => rw [hp] at hV; cases hV
      | some p =>
        rw [hp] at hV
        injection hV with hV
        subst hV
        simp at hl2 ⊢
        omega
theorem takenQ_ok {q : Qs} {n k : Nat} (hq : q.Ok n) (hk : q.out + k ≤ q.size) : (takenQ q k).Ok n :=
  ⟨hq.s1, hq.s2, hq.r, hq.drv, hq.dev, stA_lt hq.na (by omega), hq.ba, hq.ta, hk⟩
theorem nextC_ok {xs : List UInt8} {q : Qs} (hq : q.Ok xs.length) : (nextC xs q).2.2.2.Ok xs.length ∧ (nextC xs q).2.2.2.since = q.since := by
  unfold nextC
  by_cases h1 : q.broken = true
  · rw [if_pos h1]; exact ⟨hq, rfl⟩
  · rw [if_neg h1]
    by_cases h2 : q.out = q.size
    · rw [if_pos h2]; exact ⟨hq, rfl⟩
    · rw [if_neg h2]
      cases ha : availB (deAt xs (q.ring + 16 * q.na)).f q.nw
      · rw [if_neg (by simp)]; exact ⟨hq, rfl⟩
      · rw [if_pos rfl]
        cases hV : chainV xs q with
        | none => exact ⟨⟨hq.s1, hq.s2, hq.r, hq.drv, hq.dev, hq.na, hq.ba, hq.ta, hq.out⟩, rfl⟩
        | some h => exact ⟨takenQ_ok hq (chain_count hq (by have := hq.out; omega) hV).2.2, rfl⟩
theorem take_any {c : Ctx} {wE w : World} (h : Rm c wE w) (hq : c.q.Ok c.xs.length) (hb : c.q.broken = false) (hout : c.q.out ≠ c.q.size) :
    Calls Try.prog 38 #[.pointer (some ⟨c.gq, 0, none⟩)] w (TakeP c w (nextC c.xs c.q).1 (nextC c.xs c.q).2.1 (nextC c.xs c.q).2.2.1 (nextC c.xs c.q).2.2.2) := by
  have ho : c.q.out < c.q.size := by have := hq.out; omega
  unfold nextC
  rw [if_neg (by simp [hb]), if_neg hout]
  cases ha : availB (deAt c.xs (c.q.ring + 16 * c.q.na)).f c.q.nw
  · rw [if_neg (by simp)]; exact take_not h hq ha
  · rw [if_pos rfl]
    cases hV : chainV c.xs c.q with
    | none => exact take_bad h hq ho ha hV
    | some h1 =>
      have := chain_count hq ho hV
      have := hq.s2
      exact take_good h hq ho ha h1 hV (by omega) (by omega)
theorem three_next (f : Func) (w : World) (tmps : Array Value) (gf : Nat) (is : Bool) (er : Int) (hf : f.results = Try.f13.results) (h2 : tmps[2]?.getD undef = .pointer (some ⟨gf, 0, none⟩)) (h3 : tmps[3]?.getD undef = .bool is) (h4 : tmps[4]?.getD undef = .int .i64 er) (a b c : Value)
    (hF : Blk w gf 44 #[a, b, c]) : (results f tmps).run Try.prog w = .ok (.tuple #[.agg #[a, b, c], .bool is, .int .i64 er]) w := by
  have c0 := hF.cell 0
  have c1 := hF.cell 1
  have c2 := hF.cell 2
  simp only [List.getElem?_toArray, List.getElem?_cons_zero, List.getElem?_cons_succ] at c0 c1 c2
  simp [results, hf, Try.results13, go_sem, h2, h3, h4, c0, c1, c2]
section
variable {c : Ctx} {q' : Qs} {xs' : List UInt8} {wE w w' : World}
theorem Qn.put3 (h : Qn c q' xs' w) {k : Nat} {t : TypeId} {a0 a1 a2 : Value} (hk : Blk w k t #[a0, a1, a2]) (hE : c.w0.heap.size ≤ k) (a : t ≠ 85) (b : t ≠ 5) (d : t ≠ 141) (e : t ≠ 92) (b0 b1 b2 : Value) :
    Qn c q' xs' (((w.setCell ⟨k, 0, none⟩ b0).setCell ⟨k, 1, none⟩ b1).setCell ⟨k, 2, none⟩ b2) ∧ Blk (((w.setCell ⟨k, 0, none⟩ b0).setCell ⟨k, 1, none⟩ b1).setCell ⟨k, 2, none⟩ b2) k t #[b0, b1, b2] := by
  have k1 := hk.put 0 b0
  have k2 := k1.put 1 b1
  have k3 := k2.put 2 b2
  exact ⟨((h.put hk hE a b d e 0 b0).put k1 hE a b d e 1 b1).put k2 hE a b d e 2 b2, by simpa using k3⟩
/-- a call on the queue from here: what it leaves, seen from here and from the beginning -/
theorem Rm.again (h : Rm c wE w) : ∃ lv1, Rm { c with w0 := w, lv := lv1 } w w ∧ Mem c.B c.g c.gb lv1 c.xs w ∧ ∀ (q' : Qs) (xs' : List UInt8) (w' : World), Qn { c with w0 := w, lv := lv1 } q' xs' w' → Qn c q' xs' w' ∧
    ∀ (k : Nat) (t : TypeId) (cs : Array Value) (fr : Nat × Nat), w.heap[k]? = some (Obj.cells cs t fr) → t ≠ 85 → t ≠ 5 → t ≠ 141 → t ≠ 92 → w'.heap[k]? = w.heap[k]? := by
  obtain ⟨lv1, hM, hT, hL⟩ := h.mem
  refine ⟨lv1, ⟨h.blk, Noted.refl hM, Keep.refl _, Nat.le_refl _⟩, hM, fun q' xs' w' hQ => ⟨?_, fun k t cs fr hk a b d e => ?_⟩⟩
  · obtain ⟨lv2, hM2, hL2⟩ := hQ.mem
    have hs := hT.size
    refine ⟨hQ.blk, ⟨lv2, hM2, fun k hk => ?_⟩, hQ.os.trans hT.os, hQ.tape.trans hT.tape, hQ.output.trans hT.output, Nat.le_trans hs hQ.size, fun k hk x a b d => ?_⟩
    · rcases hL2 k hk with e | e
      · exact hL k e
      · right; exact Nat.le_trans hs e
    · exact (hQ.block k (Nat.lt_of_lt_of_le hk hs) x a b (fun e => by rcases hL k e with e | e; exact d e; omega)).trans (hT.block k hk a b d)
  · obtain ⟨n1, n2, n3⟩ := hM.far hk a b d
    refine hQ.block k (heap_lt hk) (fun e1 => ?_) n1 n2 n3
    subst e1
    have hb := h.blk
    unfold Blk at hb
    rw [hb] at hk
    injection hk with hk
    injection hk with _ e2
    exact e e2.symm
end
theorem next_broken {c : Ctx} {wE w : World} (h : Rm c wE w) (hb : c.q.broken = true) :
    Calls Try.prog 13 #[.pointer (some ⟨c.gq, 0, none⟩)] w (TakeP c w noCh false 141 c.q) := by
  have hB : w.cell? ⟨c.gq, 13, none⟩ = some (.bool true) := by rw [← hb]; exact h.blk.cell 13
  have HE := Lib.hid h.enter
  have HB := Nat.le_trans h.base h.keep.size
  have hlt := h.lt
  have hne := Nat.ne_of_lt hlt
  clear h hb
  go_enter Try.func13, Try.ntmps13
  go_wp2_with fail
  have k0 := Blk.new w 44 #[.int .i64 0, .int .i64 0, .slice none 0 0]
  have Q0 := Qn.of (HE.out.alloc (.cells #[.int .i64 0, .int .i64 0, .slice none 0 0] 44))
  exact bodyPost_ret (v := .tuple #[.agg #[.int .i64 0, .int .i64 0, .slice none 0 0], .bool false, .int .i64 141]) (three_next _ _ _ w.heap.size false 141 rfl rfl rfl rfl _ _ _ k0) rfl ⟨none, 0, rfl, World.ownsRow_nil _ _ _ _, Q0⟩
theorem next_full {c : Ctx} {wE w : World} (h : Rm c wE w) (hb : c.q.broken = false) (ho : c.q.out = c.q.size) :
    Calls Try.prog 13 #[.pointer (some ⟨c.gq, 0, none⟩)] w (TakeP c w noCh false 0 c.q) := by
  have hB : w.cell? ⟨c.gq, 13, none⟩ = some (.bool false) := by rw [← hb]; exact h.blk.cell 13
  obtain ⟨-, -, p2, -, -, -, -, -, p9⟩ := h.cells
  have he : (((c.q.out : Int)) == (c.q.size : Int)) = true := by rw [ho]; simp
  have HE := Lib.hid h.enter
  have HB := Nat.le_trans h.base h.keep.size
  have hlt := h.lt
  have hne := Nat.ne_of_lt hlt
  clear h hb ho
  go_enter Try.func13, Try.ntmps13
  go_wp2_with fail
  go_quiet (fail)
  have k0 := Blk.new w 44 #[.int .i64 0, .int .i64 0, .slice none 0 0]
  have Q0 := Qn.of ((HE.out.alloc (.cells #[.int .i64 0, .int .i64 0, .slice none 0 0] 44)).drewN nq)
  have k0 : Blk ((w.alloc (.cells #[.int .i64 0, .int .i64 0, .slice none 0 0] 44)).drewN nq) w.heap.size 44 #[.int .i64 0, .int .i64 0, .slice none 0 0] := k0
  obtain ⟨Q1, k1⟩ := Q0.put3 k0 HB (by decide) (by decide) (by decide) (by decide) (.int .i64 0) (.int .i64 0) (.slice none 0 0)
  have Q1 := Lib.hid Q1
  have k1 := Lib.hid k1
  clear Q0 k0
  go_wp2_with fail
  exact bodyPost_ret (v := .tuple #[.agg #[.int .i64 0, .int .i64 0, .slice none 0 0], .bool false, .int .i64 0]) (three_next _ _ _ w.heap.size false 0 rfl rfl rfl rfl _ _ _ k1.out) rfl ⟨none, 0, rfl, World.ownsRow_nil _ _ _ _, Q1.out⟩
theorem next_take {c : Ctx} {wE w : World} (h : Rm c wE w) (hb : c.q.broken = false) (ho : c.q.out ≠ c.q.size) (R : Ch) (is : Bool) (er : Int) (q' : Qs)
    (HT : ∀ W lv1, Rm { c with w0 := W, lv := lv1 } W W → Calls Try.prog 38 #[.pointer (some ⟨c.gq, 0, none⟩)] W (TakeP { c with w0 := W, lv := lv1 } W R is er q')) :
    Calls Try.prog 13 #[.pointer (some ⟨c.gq, 0, none⟩)] w (TakeP c w R is er q') := by
  have HT := Lib.hid HT
  have hB : w.cell? ⟨c.gq, 13, none⟩ = some (.bool false) := by rw [← hb]; exact h.blk.cell 13
  obtain ⟨-, -, p2, -, -, -, -, -, p9⟩ := h.cells
  have he : (((c.q.out : Int)) == (c.q.size : Int)) = false := by simp; omega
  have HE := Lib.hid h.enter
  have HB := Nat.le_trans h.base h.keep.size
  have hlt := h.lt
  have hne := Nat.ne_of_lt hlt
  clear h hb ho
  go_enter Try.func13, Try.ntmps13
  go_wp2_with fail
  go_quiet (fail)
  have R0 := ((HE.out.alloc (.cells #[.int .i64 0, .int .i64 0, .slice none 0 0] 44)).drewN nq)
  have k0 : Blk ((w.alloc (.cells #[.int .i64 0, .int .i64 0, .slice none 0 0] 44)).drewN nq) w.heap.size 44 #[.int .i64 0, .int .i64 0, .slice none 0 0] := Blk.new w 44 #[.int .i64 0, .int .i64 0, .slice none 0 0]
  obtain ⟨W, hW⟩ : ∃ W, (w.alloc (.cells #[.int .i64 0, .int .i64 0, .slice none 0 0] 44)).drewN nq = W := ⟨_, rfl⟩
  rw [hW] at R0 k0 ⊢
  clear hW
  go_wp2_with fail
  obtain ⟨lv1, RA, hMA, HQ⟩ := R0.again
  refine (HT.out _ lv1 RA).mono ?_
  rintro e w1 ⟨A, cap, rfl, own, Q1⟩
  have hws := Q1.size
  obtain ⟨Q2, hfar⟩ := HQ _ _ _ Q1
  have k1 := k0.same (hfar _ _ _ _ k0 (by decide) (by decide) (by decide) (by decide))
  have hwl : w.heap.size < W.heap.size := k0.lt
  have own := own_base own (Nat.le_of_lt hwl)
  have x0 := k1.cell 0
  have x1 := k1.cell 1
  have x2 := k1.cell 2
  simp only [List.getElem?_toArray, List.getElem?_cons_zero, List.getElem?_cons_succ] at x0 x1 x2
  have z := k1.frozen
  obtain ⟨Q3, k3⟩ := Q2.put3 k1 HB (by decide) (by decide) (by decide) (by decide) (.int .i64 (R.id : Int)) (.int .i64 (R.count : Int)) (.slice A R.parts.length cap)
  have O3 := own_same (w' := ((w1.setCell ⟨w.heap.size, 0, none⟩ (.int .i64 (R.id : Int))).setCell ⟨w.heap.size, 1, none⟩ (.int .i64 (R.count : Int))).setCell ⟨w.heap.size, 2, none⟩ (.slice A R.parts.length cap)) own (fun j hj => by
    have hne : j ≠ w.heap.size := fun e1 => own_ne own k1 (by decide) (e1 ▸ hj)
    rw [Below.heap_setCell _ _ _ _ hne, Below.heap_setCell _ _ _ _ hne, Below.heap_setCell _ _ _ _ hne])
  have Q3 := Lib.hid Q3
  have k3 := Lib.hid k3
  have O3 := Lib.hid O3
  clear Q1 Q2 k1 own hfar HQ hMA RA R0 k0
  go_wp2_with fail
  exact bodyPost_ret (v := .tuple #[.agg #[.int .i64 (R.id : Int), .int .i64 (R.count : Int), .slice A R.parts.length cap], .bool is, .int .i64 er]) (three_next _ _ _ w.heap.size is er rfl rfl rfl rfl _ _ _ k3.out) rfl ⟨A, cap, rfl, O3.out, Q3.out⟩
theorem next_any {c : Ctx} {wE w : World} (h : Rm c wE w) (hq : c.q.Ok c.xs.length) :
    Calls Try.prog 13 #[.pointer (some ⟨c.gq, 0, none⟩)] w (TakeP c w (nextC c.xs c.q).1 (nextC c.xs c.q).2.1 (nextC c.xs c.q).2.2.1 (nextC c.xs c.q).2.2.2) := by
  cases hb : c.q.broken
  · by_cases ho : c.q.out = c.q.size
    · have e : nextC c.xs c.q = (noCh, false, 0, c.q) := by unfold nextC; rw [if_neg (by simp [hb]), if_pos ho]
      rw [e]
      exact next_full h hb ho
    · exact next_take h hb ho _ _ _ _ (fun W lv1 hW => take_any hW hq hb ho)
  · have e : nextC c.xs c.q = (noCh, false, 141, c.q) := by unfold nextC; rw [if_pos hb]
    rw [e]
    exact next_broken h hb
theorem broken_any {c : Ctx} {wE w : World} (h : Rm c wE w) : Calls Try.prog 18 #[.pointer (some ⟨c.gq, 0, none⟩)] w fun e w' => e = .returned (.bool c.q.broken) ∧ w = w' := by
  have h0 : w.cell? ⟨c.gq, 13, none⟩ = some (.bool c.q.broken) := h.blk.cell 13
  clear h
  go_enter Try.func18, Try.ntmps18
  go_wp2
  go_ret
  exact ⟨rfl, rfl⟩
theorem out_any {c : Ctx} {wE w : World} (h : Rm c wE w) : Calls Try.prog 45 #[.pointer (some ⟨c.gq, 0, none⟩)] w fun e w' => e = .returned (.int .i64 (c.q.out : Int)) ∧ w = w' := by
  have h0 : w.cell? ⟨c.gq, 9, none⟩ = some (.int .i64 (c.q.out : Int)) := h.blk.cell 9
  clear h
  go_enter Try.func45, Try.ntmps45
  go_wp2
  go_ret
  exact ⟨rfl, rfl⟩
theorem failQ {c : Ctx} {wE w : World} (h : Rm c wE w) : Calls Try.prog 61 #[.pointer (some ⟨c.gq, 0, none⟩)] w fun e w' => e = .returned (.tuple #[]) ∧ Qn c { c.q with broken := true } c.xs w' :=
  (fail_any (Qn.of h)).mono fun _ _ ⟨he, hw⟩ => ⟨he, hw ▸ (Qn.of h).failed⟩
end Go.Proofs.Ytbpgblmhacpjlaa
namespace Go.Proofs.Ytbpgblmhacpjlaa
open Go.RowKit

section
variable {c : Ctx} {q' : Qs} {xs' : List UInt8} {w w' : World}
/-- the queue as a later call finds it -/
theorem Qn.again (h : Qn c q' xs' w) : ∃ lv1, Rm { c with q := q', xs := xs', w0 := w, lv := lv1 } w w ∧ ∀ (q2 : Qs) (xs2 : List UInt8) (w' : World), Qn { c with q := q', xs := xs', w0 := w, lv := lv1 } q2 xs2 w' → Qn c q2 xs2 w' := by
  obtain ⟨lv1, hM, hL⟩ := h.mem
  refine ⟨lv1, ⟨h.blk, Noted.refl hM, Keep.refl _, Nat.le_refl _⟩, fun q2 xs2 w' hQ => ?_⟩
  obtain ⟨lv2, hM2, hL2⟩ := hQ.mem
  have hs := h.size
  refine ⟨hQ.blk, ⟨lv2, hM2, fun k hk => ?_⟩, hQ.os.trans h.os, hQ.tape.trans h.tape, hQ.output.trans h.output, Nat.le_trans hs hQ.size, fun k hk x a b d => ?_⟩
  · rcases hL2 k hk with e | e
    · exact hL k e
    · right; exact Nat.le_trans hs e
  · exact (hQ.block k (Nat.lt_of_lt_of_le hk hs) x a b (fun e => by rcases hL k e with e | e; exact d e; omega)).trans (h.block k hk x a b d)
theorem Qn.noted {lv1 : Value} {ys : List UInt8} (h : Qn c q' xs' w) (hM : Mem c.B c.g c.gb lv1 xs' w) (hL : ∀ k, lv1.ownBlock = some k → c.lv.ownBlock = some k ∨ c.w0.heap.size ≤ k) (hn : Noted c.B c.g c.gb lv1 ys w w') : Qn c q' ys w' ∧ Keep w w' := by
  have hk := Keep.of_noted hM hn
  obtain ⟨lv2, hM2, hT2, hL2⟩ := hn
  have hs := h.size
  refine ⟨⟨h.blk.keep hk (by decide) (by decide) (by decide), ⟨lv2, hM2, fun k hk2 => ?_⟩, hT2.os.trans h.os, hT2.tape.trans h.tape, hT2.output.trans h.output, Nat.le_trans hs hT2.size, fun k hk2 x a b d => ?_⟩, hk⟩
  · rcases hL2 k hk2 with e | e
    · exact hL k e
    · right; omega
  · exact (hT2.block k (by omega) a b (fun e => by rcases hL k e with e | e; exact d e; omega)).trans (h.block k hk2 x a b d)
theorem Qn.write (h : Qn c q' xs' w) (a : Nat) (s : ByteArray) (hn : a + s.size ≤ xs'.length) :
    Calls Try.prog 27 #[.pointer (some ⟨c.g, 0, none⟩), .int .i64 a, .string s] w fun e w' => e = .returned (.int .i64 0) ∧ Qn c q' (over xs' a s) w' ∧ Keep w w' := by
  obtain ⟨lv1, hM, hL⟩ := h.mem
  exact (write_ok hM a s hn).mono fun _ _ ⟨he, hN⟩ => ⟨he, h.noted hM hL hN⟩
theorem Qn.p0 (h : Qn c q' xs' w) : w.cell? ⟨c.gq, 0, none⟩ = some (.pointer (some ⟨c.g, 0, none⟩)) := h.blk.cell 0
theorem Rm.len (h : Rm c w w') : c.xs.length ≤ 1048576 := by obtain ⟨lv, hM⟩ := h.get; exact hM.len
end
/-- the flags of what is given back -/
def doneF (q : Qs) (wr : Nat) : Nat := (if 0 < wr then 2 else 0) + mk q.bw (q.bw == true)
theorem doneF_lt (q : Qs) (wr : Nat) : doneF q wr ≤ 65535 := by
  unfold doneF mk one
  cases q.bw <;> by_cases h : 0 < wr <;> simp [h]
/-- the memory's bytes where a chain was given back: as the code writes them -/
def usedX (xs : List UInt8) (q : Qs) (id wr : Nat) : List UInt8 :=
  over (over xs (q.ring + 16 * q.ba + 8) ((desB 0 wr id (doneF q wr)).extract 8 14)) (q.ring + 16 * q.ba + 14) ((desB 0 wr id (doneF q wr)).extract 14 16)
theorem usedX_length (xs : List UInt8) (q : Qs) (id wr : Nat) (hq : q.Ok xs.length) : (usedX xs q id wr).length = xs.length := by
  have := hq.r; have := hq.ba
  have e1 : ((desB 0 wr id (doneF q wr)).extract 8 14).size = 6 := by rw [ByteArray.size_extract, desB_size]; rfl
  have e2 : ((desB 0 wr id (doneF q wr)).extract 14 16).size = 2 := by rw [ByteArray.size_extract, desB_size]; rfl
  unfold usedX
  rw [over_length, over_length] <;> (try rw [over_length]) <;> omega
theorem rest_0 : Rest 0 := ⟨by decide, by decide, by decide⟩
theorem rest_2 : Rest 2 := ⟨by decide, by decide, by decide⟩
set_option maxRecDepth 100000 in
set_option maxHeartbeats 1600000 in
theorem used_walk0 {c : Ctx} {wE w : World} (h : Rm c wE w) (id wr : Nat) (F : Nat) (S : ByteArray) (hS : S.size = 16) (n : Nat) (hn : n + 16 ≤ c.xs.length) (fl : Int) (hwr : wr < 4294967296)
    (q0 : (fl = 0 ∧ ¬ 0 < wr) ∨ (fl = 2 ∧ 0 < wr))
    (HMk : ∀ W, Calls Try.prog 66 #[.int .i64 fl, .bool c.q.bw, .bool true] W fun e w' => e = .returned (.int .i64 (F : Int)) ∧ W = w')
    (HBd : ∀ W, Calls Try.prog 67 #[.agg #[.int .u64 0, .int .u32 (wr : Int), .int .i64 (id : Int), .int .i64 (F : Int)]] W fun e w' => e = .returned (.tuple #[.string S, .int .i64 0]) ∧ Below W.heap.size W w')
    (HOf : ∀ W, Rm c W W → Calls Try.prog 63 #[.pointer (some ⟨c.gq, 0, none⟩), .agg #[.int .i64 (c.q.ba : Int), .bool c.q.bw]] W fun e w' => e = .returned (.int .i64 (n : Int)) ∧ Below W.heap.size W w') :
    Calls Try.prog 39 #[.pointer (some ⟨c.gq, 0, none⟩), .int .i64 (id : Int), .int .i64 (wr : Int)] w fun e w' => e = .returned (.tuple #[]) ∧ Qn c c.q (over (over c.xs (n + 8) (S.extract 8 14)) (n + 14) (S.extract 14 16)) w' := by
  have HMk := Lib.hid HMk
  have HBd := Lib.hid HBd
  have HOf := Lib.hid HOf
  have hx := h.len
  have HE := Lib.hid h.enter
  have v1 : IntKind.u32.wrap (wr : Int) = (wr : Int) := by rw [IntKind.wrap_u32]; omega
  obtain ⟨S1, e1, z1⟩ : ∃ S1, S.extract 8 14 = S1 ∧ S1.size = 6 := ⟨_, rfl, by rw [ByteArray.size_extract, hS]; rfl⟩
  obtain ⟨S2, e2, z2⟩ : ∃ S2, S.extract 14 16 = S2 ∧ S2.size = 2 := ⟨_, rfl, by rw [ByteArray.size_extract, hS]; rfl⟩
  have HW1 := fun W (hQ : Qn c c.q c.xs W) => hQ.write (n + 8) S1 (by omega)
  have HW2 := fun W (hQ : Qn c c.q (over c.xs (n + 8) S1) W) => hQ.write (n + 14) S2 (by rw [over_length _ _ _ (by omega)]; omega)
  rw [e1, e2]
  rw [show ((n + 8 : Nat) : Int) = (n : Int) + 8 by omega] at HW1
  rw [show ((n + 14 : Nat) : Int) = (n : Int) + 14 by omega] at HW2
  have HW1 := Lib.hid HW1
  have HW2 := Lib.hid HW2
  have hn2 : (n : Int) ≤ 1048576 := by omega
  have v2 : IntKind.i64.wrap ((n : Int) + 8) = (n : Int) + 8 := by rw [IntKind.wrap_i64]; omega
  have v3 : IntKind.i64.wrap ((n : Int) + 14) = (n : Int) + 14 := by rw [IntKind.wrap_i64]; omega
  have s1 : (14 : Int) ≤ S.size := by omega
  have s2 : 14 ≤ S.size := by omega
  have s3 : ¬ (S.size : Int) < 14 := by omega
  have s4 : ¬ S.size < 14 := by omega
  have e3 : S.extract 14 S.size = S2 := by rw [hS]; exact e2
  have hlt := h.lt
  have hne := Nat.ne_of_lt hlt
  have b8 : w.cell? ⟨c.gq, 8, none⟩ = some (.bool c.q.bw) := h.blk.cell 8
  clear h hS e2 hn hx z1 z2 hwr
  rcases q0 with ⟨rfl, q0⟩ | ⟨rfl, q0⟩
  all_goals
    go_enter Try.func39, Try.ntmps39
    go_wp2_with fail
    refine (HMk.out _).mono ?_
    rintro e wa ⟨rfl, rfl⟩
    go_wp2_with fail
    refine (HBd.out _).mono ?_
    rintro e w2 ⟨rfl, hq2⟩
    have R2 := HE.out.below hq2
    clear hq2
    have b7 : w2.cell? ⟨c.gq, 7, none⟩ = some (.int .i64 (c.q.ba : Int)) := R2.blk.cell 7
    have b8 : w2.cell? ⟨c.gq, 8, none⟩ = some (.bool c.q.bw) := R2.blk.cell 8
    have R2 := Lib.hid R2
    go_wp2_with fail
    refine (HOf.out _ R2.out.enter).mono ?_
    rintro e w3 ⟨rfl, hq3⟩
    have R3 := R2.out.below hq3
    clear hq3 R2 b7 b8
    have Q3 := Qn.of R3.drew
    have p0 := Q3.p0
    have Q3 := Lib.hid Q3
    clear R3
    go_wp2_with fail
    go_region_held3 (fun W => W.cell? ⟨c.gq, 0, none⟩ = some (.pointer (some ⟨c.g, 0, none⟩)))
      (with_reducible (first | exact Q3.out.p0 | exact Q4.p0))
      ((go_at_call 27; ((with_reducible refine (HW1.out _ Q3.out).mono ?_); rintro e w4 ⟨rfl, Q4, _⟩)))
    have Q4 := Q4.drew
    have p0 := Q4.p0
    have Q4 := Lib.hid Q4
    go_wp2_with fail
    go_region_held3 (fun W => W.cell? ⟨c.gq, 0, none⟩ = some (.pointer (some ⟨c.g, 0, none⟩)))
      (with_reducible (first | exact Q4.out.p0 | exact Q5.p0))
      ((go_at_call 27; ((with_reducible refine (HW2.out _ Q4.out).mono ?_); rintro e w5 ⟨rfl, Q5, _⟩)))
    go_wp2_with fail
    go_end0
    exact ⟨rfl, Q5⟩
set_option maxRecDepth 100000 in
theorem done_bad0 {c : Ctx} {wE w : World} (h : Rm c wE w) (hb : c.q.broken = false) (id count written : Int) (k0 : id < 0) :
    Calls Try.prog 15 #[.pointer (some ⟨c.gq, 0, none⟩), .int .i64 id, .int .i64 count, .int .i64 written] w fun e w' => e = .returned (.int .i64 1) ∧ Qn c c.q c.xs w' := by
  have hB : w.cell? ⟨c.gq, 13, none⟩ = some (.bool false) := by rw [← hb]; exact h.blk.cell 13
  obtain ⟨-, -, -, -, -, -, -, -, p9⟩ := h.cells
  have HE := Lib.hid h.enter
  have q1 : decide (id < 0) = true := decide_eq_true k0
  clear k0
  clear h hb
  go_enter Try.func15, Try.ntmps15
  go_wp2_with fail
  go_ret
  exact ⟨rfl, Qn.of HE.out⟩
set_option maxRecDepth 100000 in
theorem done_bad1 {c : Ctx} {wE w : World} (h : Rm c wE w) (hb : c.q.broken = false) (id count written : Int) (k0 : ¬ id < 0) (k1 : 65535 < id) :
    Calls Try.prog 15 #[.pointer (some ⟨c.gq, 0, none⟩), .int .i64 id, .int .i64 count, .int .i64 written] w fun e w' => e = .returned (.int .i64 1) ∧ Qn c c.q c.xs w' := by
  have hB : w.cell? ⟨c.gq, 13, none⟩ = some (.bool false) := by rw [← hb]; exact h.blk.cell 13
  obtain ⟨-, -, -, -, -, -, -, -, p9⟩ := h.cells
  have HE := Lib.hid h.enter
  have q1 : decide (id < 0) = false := decide_eq_false k0
  have q2 : decide (65535 < id) = true := decide_eq_true k1
  clear k0 k1
  clear h hb
  go_enter Try.func15, Try.ntmps15
  go_wp2_with fail
  go_ret
  exact ⟨rfl, Qn.of HE.out⟩
set_option maxRecDepth 100000 in
theorem done_bad2 {c : Ctx} {wE w : World} (h : Rm c wE w) (hb : c.q.broken = false) (id count written : Int) (k0 : ¬ id < 0) (k1 : ¬ 65535 < id) (k2 : count < 1) :
    Calls Try.prog 15 #[.pointer (some ⟨c.gq, 0, none⟩), .int .i64 id, .int .i64 count, .int .i64 written] w fun e w' => e = .returned (.int .i64 1) ∧ Qn c c.q c.xs w' := by
  have hB : w.cell? ⟨c.gq, 13, none⟩ = some (.bool false) := by rw [← hb]; exact h.blk.cell 13
  obtain ⟨-, -, -, -, -, -, -, -, p9⟩ := h.cells
  have HE := Lib.hid h.enter
  have q1 : decide (id < 0) = false := decide_eq_false k0
  have q2 : decide (65535 < id) = false := decide_eq_false k1
  have q3 : decide (count < 1) = true := decide_eq_true k2
  clear k0 k1 k2
  clear h hb
  go_enter Try.func15, Try.ntmps15
  go_wp2_with fail
  go_ret
  exact ⟨rfl, Qn.of HE.out⟩
set_option maxRecDepth 100000 in
theorem done_bad3 {c : Ctx} {wE w : World} (h : Rm c wE w) (hb : c.q.broken = false) (id count written : Int) (k0 : ¬ id < 0) (k1 : ¬ 65535 < id) (k2 : ¬ count < 1) (k3 : (c.q.out : Int) < count) :
    Calls Try.prog 15 #[.pointer (some ⟨c.gq, 0, none⟩), .int .i64 id, .int .i64 count, .int .i64 written] w fun e w' => e = .returned (.int .i64 1) ∧ Qn c c.q c.xs w' := by
  have hB : w.cell? ⟨c.gq, 13, none⟩ = some (.bool false) := by rw [← hb]; exact h.blk.cell 13
  obtain ⟨-, -, -, -, -, -, -, -, p9⟩ := h.cells
  have HE := Lib.hid h.enter
  have q1 : decide (id < 0) = false := decide_eq_false k0
  have q2 : decide (65535 < id) = false := decide_eq_false k1
  have q3 : decide (count < 1) = false := decide_eq_false k2
  have q4 : decide ((c.q.out : Int) < count) = true := decide_eq_true k3
  clear k0 k1 k2 k3
  clear h hb
  go_enter Try.func15, Try.ntmps15
  go_wp2_with fail
  go_ret
  exact ⟨rfl, Qn.of HE.out⟩
set_option maxRecDepth 100000 in
theorem done_bad4 {c : Ctx} {wE w : World} (h : Rm c wE w) (hb : c.q.broken = false) (id count written : Int) (k0 : ¬ id < 0) (k1 : ¬ 65535 < id) (k2 : ¬ count < 1) (k3 : ¬ (c.q.out : Int) < count) (k4 : written < 0) :
    Calls Try.prog 15 #[.pointer (some ⟨c.gq, 0, none⟩), .int .i64 id, .int .i64 count, .int .i64 written] w fun e w' => e = .returned (.int .i64 1) ∧ Qn c c.q c.xs w' := by
  have hB : w.cell? ⟨c.gq, 13, none⟩ = some (.bool false) := by rw [← hb]; exact h.blk.cell 13
  obtain ⟨-, -, -, -, -, -, -, -, p9⟩ := h.cells
  have HE := Lib.hid h.enter
  have q1 : decide (id < 0) = false := decide_eq_false k0
  have q2 : decide (65535 < id) = false := decide_eq_false k1
  have q3 : decide (count < 1) = false := decide_eq_false k2
  have q4 : decide ((c.q.out : Int) < count) = false := decide_eq_false k3
  have q5 : decide (written < 0) = true := decide_eq_true k4
  clear k0 k1 k2 k3 k4
  clear h hb
  go_enter Try.func15, Try.ntmps15
  go_wp2_with fail
  go_ret
  exact ⟨rfl, Qn.of HE.out⟩
set_option maxRecDepth 100000 in
theorem done_bad5 {c : Ctx} {wE w : World} (h : Rm c wE w) (hb : c.q.broken = false) (id count written : Int) (k0 : ¬ id < 0) (k1 : ¬ 65535 < id) (k2 : ¬ count < 1) (k3 : ¬ (c.q.out : Int) < count) (k4 : ¬ written < 0) (k5 : 4294967295 < written) :
    Calls Try.prog 15 #[.pointer (some ⟨c.gq, 0, none⟩), .int .i64 id, .int .i64 count, .int .i64 written] w fun e w' => e = .returned (.int .i64 1) ∧ Qn c c.q c.xs w' := by
  have hB : w.cell? ⟨c.gq, 13, none⟩ = some (.bool false) := by rw [← hb]; exact h.blk.cell 13
  obtain ⟨-, -, -, -, -, -, -, -, p9⟩ := h.cells
  have HE := Lib.hid h.enter
  have q1 : decide (id < 0) = false := decide_eq_false k0
  have q2 : decide (65535 < id) = false := decide_eq_false k1
  have q3 : decide (count < 1) = false := decide_eq_false k2
  have q4 : decide ((c.q.out : Int) < count) = false := decide_eq_false k3
  have q5 : decide (written < 0) = false := decide_eq_false k4
  have q6 : decide (4294967295 < written) = true := decide_eq_true k5
  clear k0 k1 k2 k3 k4 k5
  clear h hb
  go_enter Try.func15, Try.ntmps15
  go_wp2_with fail
  go_ret
  exact ⟨rfl, Qn.of HE.out⟩
theorem put_used {c : Ctx} {wE w : World} (h : Rm c wE w) (hq : c.q.Ok c.xs.length) (id wr : Nat) (hid : id ≤ 65535) (hwr : wr < 4294967296) :
    Calls Try.prog 39 #[.pointer (some ⟨c.gq, 0, none⟩), .int .i64 (id : Int), .int .i64 (wr : Int)] w fun e w' => e = .returned (.tuple #[]) ∧ Qn c c.q (usedX c.xs c.q id wr) w' := by
  have hx := h.len
  have h1 := hq.r
  have h2 := hq.ba
  have hF := doneF_lt c.q wr
  have HBd := fun W => build_ok 0 wr id (doneF c.q wr) (by decide) hwr hid hF W
  have HOf := fun W (h : Rm c W W) => offset_any h c.q.ba c.q.bw (by omega)
  by_cases k : 0 < wr
  · refine used_walk0 h id wr (doneF c.q wr) _ (desB_size _ _ _ _) (c.q.ring + 16 * c.q.ba) (by omega) 2 hwr (.inr ⟨rfl, k⟩) (fun W => ?_) HBd HOf
    have := mark_any 2 rest_2 false false c.q.bw true W
    rw [show 2 + mk false false = 2 from rfl] at this
    rw [doneF, if_pos k]
    exact this
  · refine used_walk0 h id wr (doneF c.q wr) _ (desB_size _ _ _ _) (c.q.ring + 16 * c.q.ba) (by omega) 0 hwr (.inl ⟨rfl, k⟩) (fun W => ?_) HBd HOf
    have := mark_any 0 rest_0 false false c.q.bw true W
    rw [show 0 + mk false false = 0 from rfl] at this
    rw [doneF, if_neg k]
    exact this
def doneQ (q : Qs) (k : Nat) : Qs := { q with ba := stA q.size q.ba k, bw := stW q.size q.ba k q.bw, out := q.out - k, since := q.since + k }
theorem doneQ_ok {q : Qs} {n k : Nat} (hq : q.Ok n) (hk : k ≤ q.out) : (doneQ q k).Ok n :=
  ⟨hq.s1, hq.s2, hq.r, hq.drv, hq.dev, hq.na, stA_lt hq.ba (by have := hq.out; omega), hq.ta, by have := hq.out; show q.out - k ≤ q.size; omega⟩
set_option maxRecDepth 100000 in
set_option maxHeartbeats 1600000 in
theorem done_good {c : Ctx} {wE w : World} (h : Rm c wE w) (hq : c.q.Ok c.xs.length) (hb : c.q.broken = false) (id k wr : Nat) (hid : id ≤ 65535) (hk : 1 ≤ k) (hk2 : k ≤ c.q.out) (hwr : wr < 4294967296) (hs : c.q.since ≤ 1099511627776) :
    Calls Try.prog 15 #[.pointer (some ⟨c.gq, 0, none⟩), .int .i64 (id : Int), .int .i64 (k : Int), .int .i64 (wr : Int)] w fun e w' => e = .returned (.int .i64 0) ∧ Qn c (doneQ c.q k) (usedX c.xs c.q id wr) w' := by
  have hB : w.cell? ⟨c.gq, 13, none⟩ = some (.bool false) := by rw [← hb]; exact h.blk.cell 13
  obtain ⟨-, -, -, -, -, -, -, -, p9⟩ := h.cells
  have HP := Lib.hid (put_used h hq id wr hid hwr)
  have HQ := Lib.hid hq
  have ho2 := hq.out
  have hz2 := hq.s2
  have q1 : decide ((id : Int) < 0) = false := decide_eq_false (by omega)
  have q2 : decide (65535 < (id : Int)) = false := decide_eq_false (by omega)
  have q2' : decide (65535 < id) = false := decide_eq_false (by omega)
  have q3 : decide ((k : Int) < 1) = false := decide_eq_false (by omega)
  have q3' : decide (k < 1) = false := decide_eq_false (by omega)
  have q4 : decide (c.q.out < k) = false := decide_eq_false (by omega)
  have q5 : decide ((wr : Int) < 0) = false := decide_eq_false (by omega)
  have q6 : decide (4294967295 < (wr : Int)) = false := decide_eq_false (by omega)
  have n1 : ((c.q.out - k : Nat) : Int) = (c.q.out : Int) - (k : Int) := by omega
  have N1 := Lib.hid n1
  clear n1
  have HA := Lib.hid (fun (c2 : Ctx) W (h2 : Rm c2 W W) (e : c2.q = c.q) => after_any h2 c.q.ba k c.q.bw (by rw [e]; exact hq.s1) (by rw [e]; exact hq.s2) (by rw [e]; exact hq.ba) (by rw [e]; omega))
  have hs2 : (c.q.since : Int) ≤ 1099511627776 := by omega
  have hk3 : (k : Int) ≤ (c.q.out : Int) := by omega
  have ho3 : (c.q.out : Int) ≤ 32768 := by omega
  clear h hb hid hk hk2 hwr hs hq ho2 hz2
  go_enter Try.func15, Try.ntmps15
  go_wp2_with fail
  refine HP.out.mono ?_
  rintro e w1 ⟨rfl, Q1⟩
  obtain ⟨lv1, R1, back⟩ := Q1.again
  have HR := Lib.hid R1
  have HK := Lib.hid back
  have b7 : w1.cell? ⟨c.gq, 7, none⟩ = some (.int .i64 (c.q.ba : Int)) := R1.blk.cell 7
  have b8 : w1.cell? ⟨c.gq, 8, none⟩ = some (.bool c.q.bw) := R1.blk.cell 8
  clear R1 back Q1 hB p9
  go_wp2_with fail
  refine (HA.out _ _ HR.out rfl).mono ?_
  rintro e w2 ⟨rfl, R2⟩
  have Q2 := ((((Qn.of R2).set 7 (.int .i64 (stA c.q.size c.q.ba k : Int)) (q2 := { c.q with ba := stA c.q.size c.q.ba k }) rfl).set 8 (.bool (stW c.q.size c.q.ba k c.q.bw)) (q2 := { c.q with ba := stA c.q.size c.q.ba k, bw := stW c.q.size c.q.ba k c.q.bw }) rfl).set 9 (.int .i64 ((c.q.out - k : Nat) : Int)) (q2 := { c.q with ba := stA c.q.size c.q.ba k, bw := stW c.q.size c.q.ba k c.q.bw, out := c.q.out - k }) rfl).set 12 (.int .i64 ((c.q.since + k : Nat) : Int)) (q2 := doneQ c.q k) rfl
  rw [N1.out, Int.natCast_add] at Q2
  have Q3 := Lib.hid (HK.out _ _ _ Q2)
  have b7 : w2.cell? ⟨c.gq, 7, none⟩ = some (.int .i64 (c.q.ba : Int)) := R2.blk.cell 7
  have b8 : w2.cell? ⟨c.gq, 8, none⟩ = some (.bool c.q.bw) := R2.blk.cell 8
  have b9 : w2.cell? ⟨c.gq, 9, none⟩ = some (.int .i64 (c.q.out : Int)) := R2.blk.cell 9
  have b12 : w2.cell? ⟨c.gq, 12, none⟩ = some (.int .i64 (c.q.since : Int)) := R2.blk.cell 12
  have f7 : w2.frozen? ⟨c.gq, 7, none⟩ = false := R2.blk.frozen 7
  have f8 : w2.frozen? ⟨c.gq, 8, none⟩ = false := R2.blk.frozen 8
  have f9 : w2.frozen? ⟨c.gq, 9, none⟩ = false := R2.blk.frozen 9
  have f12 : w2.frozen? ⟨c.gq, 12, none⟩ = false := R2.blk.frozen 12
  clear Q2 R2
  go_wp2_with fail
  go_ret
  exact ⟨rfl, Q3.out⟩
theorem done_broken {c : Ctx} {wE w : World} (h : Rm c wE w) (hb : c.q.broken = true) (id count written : Int) :
    Calls Try.prog 15 #[.pointer (some ⟨c.gq, 0, none⟩), .int .i64 id, .int .i64 count, .int .i64 written] w fun e w' => e = .returned (.int .i64 141) ∧ Qn c c.q c.xs w' := by
  have hB : w.cell? ⟨c.gq, 13, none⟩ = some (.bool true) := by rw [← hb]; exact h.blk.cell 13
  have HE := Lib.hid h.enter
  clear h hb
  go_enter Try.func15, Try.ntmps15
  go_wp2_with fail
  go_ret
  exact ⟨rfl, Qn.of HE.out⟩
/-- may this be given back? -/
def doneOk (q : Qs) (id count written : Int) : Bool := decide (0 ≤ id ∧ id ≤ 65535 ∧ 1 ≤ count ∧ count ≤ q.out ∧ 0 ≤ written ∧ written ≤ 4294967295)
/-- Done: the error, the bytes and the queue then -/
def doneC (xs : List UInt8) (q : Qs) (id count written : Int) : Int × List UInt8 × Qs :=
  if q.broken then (141, xs, q) else if doneOk q id count written then (0, usedX xs q id.toNat written.toNat, doneQ q count.toNat) else (1, xs, q)
theorem done_any {c : Ctx} {wE w : World} (h : Rm c wE w) (hq : c.q.Ok c.xs.length) (hs : c.q.since ≤ 1099511627776) (id count written : Int) :
    Calls Try.prog 15 #[.pointer (some ⟨c.gq, 0, none⟩), .int .i64 id, .int .i64 count, .int .i64 written] w fun e w' => e = .returned (.int .i64 (doneC c.xs c.q id count written).1) ∧ Qn c (doneC c.xs c.q id count written).2.2 (doneC c.xs c.q id count written).2.1 w' := by
  cases hb : c.q.broken
  · by_cases k : 0 ≤ id ∧ id ≤ 65535 ∧ 1 ≤ count ∧ count ≤ c.q.out ∧ 0 ≤ written ∧ written ≤ 4294967295
    · have e : doneC c.xs c.q id count written = (0, usedX c.xs c.q id.toNat written.toNat, doneQ c.q count.toNat) := by
        unfold doneC
        rw [if_neg (by simp [hb]), if_pos (show doneOk c.q id count written = true from decide_eq_true k)]
      rw [e]
      obtain ⟨k1, k2, k3, k4, k5, k6⟩ := k
      obtain ⟨i, rfl⟩ := Int.eq_ofNat_of_zero_le k1
      obtain ⟨j, rfl⟩ := Int.eq_ofNat_of_zero_le (Int.le_trans (by decide) k3)
      obtain ⟨m, rfl⟩ := Int.eq_ofNat_of_zero_le k5
      exact done_good h hq hb i j m (by omega) (by omega) (by omega) (by omega) hs
    · have e : doneC c.xs c.q id count written = (1, c.xs, c.q) := by
        unfold doneC
        rw [if_neg (by simp [hb]), if_neg (by unfold doneOk; simpa using k)]
      rw [e]
      by_cases k0 : id < 0
      · exact done_bad0 h hb id count written k0
      by_cases k1 : 65535 < id
      · exact done_bad1 h hb id count written k0 k1
      by_cases k2 : count < 1
      · exact done_bad2 h hb id count written k0 k1 k2
      by_cases k3 : (c.q.out : Int) < count
      · exact done_bad3 h hb id count written k0 k1 k2 k3
      by_cases k4 : written < 0
      · exact done_bad4 h hb id count written k0 k1 k2 k3 k4
      by_cases k5 : 4294967295 < written
      · exact done_bad5 h hb id count written k0 k1 k2 k3 k4 k5
      · exact absurd (by omega) k
  · have e : doneC c.xs c.q id count written = (141, c.xs, c.q) := by unfold doneC; rw [if_pos hb]
    rw [e]
    exact done_broken h hb id count written
theorem doneC_ok {xs : List UInt8} {q : Qs} (hq : q.Ok xs.length) (id count written : Int) :
    (doneC xs q id count written).2.1.length = xs.length ∧ (doneC xs q id count written).2.2.Ok xs.length ∧ (doneC xs q id count written).2.2.since ≤ q.since + 32768 := by
  unfold doneC
  by_cases h1 : q.broken = true
  · rw [if_pos h1]; exact ⟨rfl, hq, by simp⟩
  · rw [if_neg h1]
    by_cases h2 : doneOk q id count written = true
    · rw [if_pos h2]
      have k : 0 ≤ id ∧ id ≤ 65535 ∧ 1 ≤ count ∧ count ≤ q.out ∧ 0 ≤ written ∧ written ≤ 4294967295 := by unfold doneOk at h2; simpa using h2
      refine ⟨usedX_length xs q _ _ hq, doneQ_ok hq (by omega), ?_⟩
      have := hq.out; have := hq.s2
      show q.since + count.toNat ≤ q.since + 32768
      omega
    · rw [if_neg h2]; exact ⟨rfl, hq, by simp⟩
end Go.Proofs.Ytbpgblmhacpjlaa
namespace Go.Proofs.Ytbpgblmhacpjlaa
open Go.RowKit

theorem used_off (xs : List UInt8) (q : Qs) (id wr : Nat) (hq : q.Ok xs.length) (n : Nat) (hd : n + 16 ≤ q.ring + 16 * q.ba ∨ q.ring + 16 * q.ba + 16 ≤ n) : deAt (usedX xs q id wr) n = deAt xs n := by
  have := hq.r; have := hq.ba
  have e1 : ((desB 0 wr id (doneF q wr)).extract 8 14).size = 6 := by rw [ByteArray.size_extract, desB_size]; rfl
  have e2 : ((desB 0 wr id (doneF q wr)).extract 14 16).size = 2 := by rw [ByteArray.size_extract, desB_size]; rfl
  have l1 : (over xs (q.ring + 16 * q.ba + 8) ((desB 0 wr id (doneF q wr)).extract 8 14)).length = xs.length := over_length _ _ _ (by omega)
  unfold usedX
  rw [deAt_off _ _ _ (by omega) _ (by omega), deAt_off _ _ _ (by omega) _ (by omega)]
theorem used_flags (xs : List UInt8) (q : Qs) (id wr : Nat) (hq : q.Ok xs.length) : ((usedX xs q id wr).drop (q.ring + 16 * q.ba + 14)).take 2 = digs (doneF q wr) 2 := by
  have := hq.r; have := hq.ba
  have e1 : ((desB 0 wr id (doneF q wr)).extract 8 14).size = 6 := by rw [ByteArray.size_extract, desB_size]; rfl
  have e2 : ((desB 0 wr id (doneF q wr)).extract 14 16).size = 2 := by rw [ByteArray.size_extract, desB_size]; rfl
  have l1 : (over xs (q.ring + 16 * q.ba + 8) ((desB 0 wr id (doneF q wr)).extract 8 14)).length = xs.length := over_length _ _ _ (by omega)
  have h := cut_on (over xs (q.ring + 16 * q.ba + 8) ((desB 0 wr id (doneF q wr)).extract 8 14)) (q.ring + 16 * q.ba + 14) ((desB 0 wr id (doneF q wr)).extract 14 16) (by omega)
  rw [e2] at h
  unfold usedX
  rw [h]
  have hl : ((desB 0 wr id (doneF q wr)).extract 14 16).data.toList = ((desB 0 wr id (doneF q wr)).data.toList.drop 14).take 2 := by
    rw [ByteArray.data_extract, Array.toList_extract]
  rw [hl, desB_list]
  have e3 : digs 0 8 ++ (digs wr 4 ++ (digs id 2 ++ digs (doneF q wr) 2)) = (digs 0 8 ++ digs wr 4 ++ digs id 2) ++ (digs (doneF q wr) 2 ++ []) := by simp
  rw [e3, mid _ _ _ 14 2 (by simp [digs_length]) (digs_length _ _)]
theorem used_val (xs : List UInt8) (q : Qs) (id wr : Nat) (hq : q.Ok xs.length) : val (((usedX xs q id wr).drop (q.ring + 16 * q.ba + 14)).take 2) = doneF q wr := by
  rw [used_flags xs q id wr hq, val_digs, Nat.mod_eq_of_lt]
  have := doneF_lt q wr
  omega
theorem used_on (xs : List UInt8) (q : Qs) (id wr : Nat) (hq : q.Ok xs.length) : (deAt (usedX xs q id wr) (q.ring + 16 * q.ba)).f = doneF q wr := by
  have := hq.r; have := hq.ba
  have hl := usedX_length xs q id wr hq
  show gn (cut16 (usedX xs q id wr) (q.ring + 16 * q.ba)) 14 2 = doneF q wr
  rw [← used_val xs q id wr hq]
  unfold gn cutl cut16
  congr 1
  apply List.ext_getElem?
  intro j
  rw [cut_get _ 14 2 j, cut_get (usedX xs q id wr) (q.ring + 16 * q.ba + 14) 2 j]
  by_cases hj : j < 2
  · rw [if_pos hj, if_pos hj]
    show (((usedX xs q id wr).drop (q.ring + 16 * q.ba)).take 16)[14 + j]? = _
    rw [cut_get, if_pos (by omega)]
    congr 1; omega
  · rw [if_neg hj, if_neg hj]
end Go.Proofs.Ytbpgblmhacpjlaa

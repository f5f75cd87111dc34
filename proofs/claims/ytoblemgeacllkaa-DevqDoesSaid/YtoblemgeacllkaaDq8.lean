/-
  take where a chain stands there.
-/
import Derived.Test.YtoblemgeacllkaaDq7
namespace Go.Proofs.Ytoblemgeacllkaa
open Go.RowKit

def takenQ (q : Qs) (k : Nat) : Qs := { q with na := stA q.size q.na k, nw := stW q.size q.na k q.nw, out := q.out + k }
/-- take behind the chain: its variables, its parts, the queue -/
structure TG (c : Ctx) (w : World) (h : Ch) (A : Option Addr) (cap : Nat) (W : World) : Prop where
  tk : TK c w (.int .i64 (h.id : Int)) (.int .i64 (h.count : Int)) (.slice A h.parts.length cap) false 0 W
  own : W.ownsRow w.heap.size 56 3 (.slice A h.parts.length cap) h.parts.length (ptCells h.parts)
section
variable {c : Ctx} {w W W' : World} {h : Ch} {A : Option Addr} {cap : Nat}
theorem TG.keep (g : TG c w h A cap W) (hk : Keep W W') : TG c w h A cap W' := ⟨g.tk.keep hk, own_keep g.own hk (by decide) (by decide) (by decide)⟩
theorem TG.other (g : TG c w h A cap W) {k : Nat} {t : TypeId} {cs : Array Value} (hk : Blk W k t cs) (a : t ≠ 28) (b : t ≠ 51) (d : t ≠ 4) (e : t ≠ 42) (x : t ≠ 56) (i : Nat) (u : Value) : TG c w h A cap (W.setCell ⟨k, i, none⟩ u) :=
  ⟨g.tk.other hk a b d e i u, own_same g.own (fun j hj => by
    have hne : j ≠ k := fun e1 => own_ne g.own hk (fun e2 => x e2.symm) (e1 ▸ hj)
    rw [Below.heap_setCell _ _ _ _ hne])⟩
theorem TG.two (g : TG c w h A cap W) : W.cell? ⟨w.heap.size, 0, none⟩ = some (.pointer (some ⟨c.gq, 0, none⟩)) ∧ W.cell? ⟨w.heap.size + 1, 1, none⟩ = some (.int .i64 (h.count : Int)) := ⟨g.tk.facts.1, g.tk.facts.2.2.1⟩
theorem _root_.Go.Proofs.Ytoblemgeacllkaa.TK.own_set {x y z : Value} {is : Bool} {er : Int} {v : Value} {n : Nat} {xs : List Value} (hT : TK c w x y z is er W) (own : W.ownsRow w.heap.size 56 3 v n xs) (a b d : Value) (u : Bool) (m : Int) :
    (((((W.setCell ⟨w.heap.size + 1, 0, none⟩ a).setCell ⟨w.heap.size + 1, 1, none⟩ b).setCell ⟨w.heap.size + 1, 2, none⟩ d).setCell ⟨w.heap.size + 1 + 1, 0, none⟩ (.bool u)).setCell ⟨w.heap.size + 1 + 1 + 1, 0, none⟩ (.int .i64 m)).ownsRow w.heap.size 56 3 v n xs := by
  refine own_same own (fun j hj => ?_)
  have h1 : j ≠ w.heap.size + 1 := fun e1 => own_ne own hT.b2 (by decide) (e1 ▸ hj)
  have h2 : j ≠ w.heap.size + 1 + 1 := fun e1 => own_ne own hT.b3 (by decide) (e1 ▸ hj)
  have h3 : j ≠ w.heap.size + 1 + 1 + 1 := fun e1 => own_ne own hT.b4 (by decide) (e1 ▸ hj)
  rw [Below.heap_setCell _ _ _ _ h3, Below.heap_setCell _ _ _ _ h2, Below.heap_setCell _ _ _ _ h1, Below.heap_setCell _ _ _ _ h1, Below.heap_setCell _ _ _ _ h1]
theorem TG.first {x y z : Value} (hr : Rm c w W) (hT : TK c w x y z false 0 W) (own : W.ownsRow w.heap.size 56 3 (.slice A h.parts.length cap) h.parts.length (ptCells h.parts)) :
    Rm c w (((W.setCell ⟨w.heap.size + 1, 0, none⟩ (.int .i64 (h.id : Int))).setCell ⟨w.heap.size + 1, 1, none⟩ (.int .i64 (h.count : Int))).setCell ⟨w.heap.size + 1, 2, none⟩ (.slice A h.parts.length cap)) ∧
    TG c w h A cap (((W.setCell ⟨w.heap.size + 1, 0, none⟩ (.int .i64 (h.id : Int))).setCell ⟨w.heap.size + 1, 1, none⟩ (.int .i64 (h.count : Int))).setCell ⟨w.heap.size + 1, 2, none⟩ (.slice A h.parts.length cap)) := by
  have k1 := hT.b2.put 0 (.int .i64 (h.id : Int))
  have k2 := k1.put 1 (.int .i64 (h.count : Int))
  have k3 := k2.put 2 (.slice A h.parts.length cap)
  refine ⟨((hr.put hT.b2 (by omega) (by decide) (by decide) (by decide) (by decide) 0 _).put k1 (by omega) (by decide) (by decide) (by decide) (by decide) 1 _).put k2 (by omega) (by decide) (by decide) (by decide) (by decide) 2 _, ⟨?_, ?_, ?_, ?_⟩, ?_⟩
  · exact ((hT.b1.other (by omega) 0 _).other (by omega) 1 _).other (by omega) 2 _
  · simpa using k3
  · exact ((hT.b3.other (by omega) 0 _).other (by omega) 1 _).other (by omega) 2 _
  · exact ((hT.b4.other (by omega) 0 _).other (by omega) 1 _).other (by omega) 2 _
  · refine own_same own (fun j hj => ?_)
    have hne : j ≠ w.heap.size + 1 := fun e1 => own_ne own hT.b2 (by decide) (e1 ▸ hj)
    rw [Below.heap_setCell _ _ _ _ hne, Below.heap_setCell _ _ _ _ hne, Below.heap_setCell _ _ _ _ hne]
end
set_option maxRecDepth 100000 in
set_option maxHeartbeats 3200000 in
theorem take_good {c : Ctx} {wE w : World} (h : Rm c wE w) (hq : c.q.Ok c.xs.length) (hout : c.q.out < c.q.size) (ha : availB (deAt c.xs (c.q.ring + 16 * c.q.na)).f c.q.nw = true) (h1 : Ch) (hV : chainV c.xs c.q = some h1) (hcount : h1.count ≤ c.q.size) (hsum : c.q.out + h1.count ≤ 32768) :
    Calls Try.prog 42 #[.pointer (some ⟨c.gq, 0, none⟩)] w (TakeP c w h1 true 0 (takenQ c.q h1.count)) := by
  have hd := deAt_ok c.xs (c.q.ring + 16 * c.q.na) (by have := hq.r; have := hq.na; omega)
  obtain ⟨lvx, hMx⟩ := h.get
  have hxl := hMx.len
  have HO := fun W (h : Rm c W W) => offset_any h c.q.na c.q.nw (by have := hq.r; have := hq.na; omega)
  have HN := fun W (h : Rm c W W) => after_any h c.q.na h1.count c.q.nw hq.s1 hq.s2 hq.na hcount
  have HX := fun W (h : Rm c W W) => desc_any h (c.q.ring + 16 * c.q.na) (by have := hq.r; have := hq.na; omega)
  have HA := fun W => avail_f _ hd.f c.q.nw W
  rw [ha] at HA
  have HC := fun W (h : Rm c W W) => chain_any h hq hout
  rw [hV] at HC
  obtain ⟨d, ed⟩ : ∃ d, deAt c.xs (c.q.ring + 16 * c.q.na) = d := ⟨_, rfl⟩
  rw [ed] at HX HA HC
  unfold De.v at HX HC
  have HC := Lib.hid HC
  have HN := Lib.hid HN
  obtain ⟨p', ep⟩ : ∃ p', ((c.q.ring + 16 * c.q.na : Nat) : Int) = p' := ⟨_, rfl⟩
  rw [ep] at HX HO
  have HO := Lib.hid HO
  have HX := Lib.hid HX
  have HA := Lib.hid HA
  have HE := Lib.hid h.enter
  have HB := h.base
  have hk := h.keep.size
  have hlt := h.lt
  have hne := Nat.ne_of_lt hlt
  have hmf := make_func
  have B0 : TB c w ((((w.alloc (.cells #[.pointer (some ⟨c.gq, 0, none⟩)] 28)).alloc (.cells #[.int .i64 0, .int .i64 0, .slice none 0 0] 51)).alloc (.cells #[.bool false] 4)).alloc (.cells #[.int .i64 0] 42)) :=
    ⟨(((HE.out.alloc _).alloc _).alloc _).alloc _, tk_new c w⟩
  have B0 := Lib.hid B0
  clear h hq hd ha ed hMx hxl ep hV
  go_enter_defers Try.func42, Try.ntmps42
  go_wp2_with fail
  obtain ⟨W0, hW0⟩ : ∃ W0, ((((w.alloc (.cells #[.pointer (some ⟨c.gq, 0, none⟩)] 28)).alloc (.cells #[.int .i64 0, .int .i64 0, .slice none 0 0] 51)).alloc (.cells #[.bool false] 4)).alloc (.cells #[.int .i64 0] 42)) = W0 := ⟨_, rfl⟩
  rw [hW0] at B0 ⊢
  clear hW0
  have hw0 : w.heap.size + 1 + 1 + 1 < W0.heap.size := B0.out.tk.b4.lt
  go_region_held3 (fun W => (W.cell? ⟨w.heap.size, 0, none⟩ = some (.pointer (some ⟨c.gq, 0, none⟩)) ∧ W.cell? ⟨c.gq, 5, none⟩ = some (.int .i64 (c.q.na : Int)) ∧ W.cell? ⟨c.gq, 6, none⟩ = some (.bool c.q.nw)) ∧ TB c w W)
    ((refine (id (α := TF c w _) ?_); with_reducible (first
      | exact TF.of B0.out.drew | exact TF.of (B0.out.alloc _).drew
      | exact TF.of (B0.out.drew.below hq) | exact TF.of ((B0.out.alloc _).drew.below hq)
      | exact TF.of ((B0.out.drew.below hq).alloc _)
      | exact TF.of ((B0.out.drew.below hq).on hr) | exact TF.of (((B0.out.alloc _).drew.below hq).on hr) | exact TF.of (((B0.out.drew.below hq).alloc _).on hr)
      | exact TF.of (((B0.out.drew.below hq).on hr).alloc _)
      | exact TF.of (TB.store (((B0.out.alloc _).drew.below hq).on hr) hk1 (by omega) _ _ _ _).1 | exact TF.of (TB.store (((B0.out.drew.below hq).alloc _).on hr) hk2 (by have := drew_le hq; omega) _ _ _ _).1)))
    (first
      | (go_at_call 64; ((with_reducible refine (HO.out _ B0.out.drew.rm.enter).mono ?_); rintro e w1 ⟨rfl, hq⟩))
      | (go_at_call 64; ((with_reducible refine (HO.out _ (B0.out.alloc (.cells #[.int .u64 0, .int .u32 0, .int .i64 0, .int .i64 0] 35)).drew.rm.enter).mono ?_); rintro e w1 ⟨rfl, hq⟩))
      | (go_at_call 63; ((with_reducible refine (HX.out _ ((B0.out.alloc (.cells #[.int .u64 0, .int .u32 0, .int .i64 0, .int .i64 0] 35)).drew.below hq).rm.enter).mono ?_); rintro e w2 ⟨rfl, hr⟩; have hk1 := (((Blk.new W0 35 #[.int .u64 0, .int .u32 0, .int .i64 0, .int .i64 0]).drew).same (hq.block _ ((Blk.new W0 35 #[.int .u64 0, .int .u32 0, .int .i64 0, .int .i64 0]).drew).lt)).keep hr.keep (by decide) (by decide) (by decide); obtain ⟨q0, q1, q2, q3, s0, s1, s2, s3⟩ := blk4 hk1))
      | (go_at_call 63; ((with_reducible refine (HX.out _ ((B0.out.drew.below hq).alloc (.cells #[.int .u64 0, .int .u32 0, .int .i64 0, .int .i64 0] 35)).rm.enter).mono ?_); rintro e w2 ⟨rfl, hr⟩; have hk2 := (Blk.new w1 35 #[.int .u64 0, .int .u32 0, .int .i64 0, .int .i64 0]).keep hr.keep (by decide) (by decide) (by decide); obtain ⟨q0, q1, q2, q3, s0, s1, s2, s3⟩ := blk4 hk2))
      | (go_at_call 63; ((with_reducible refine (HX.out _ (B0.out.drew.below hq).rm.enter).mono ?_); rintro e w2 ⟨rfl, hr⟩)))
  · have hA := ((B0.out.drew.below hq).on hr).alloc (.cells #[.int .u64 (d.a : Int), .int .u32 (d.n : Int), .int .i64 (d.id : Int), .int .i64 (d.f : Int)] 35)
    have hB := Blk.new w2 35 #[.int .u64 (d.a : Int), .int .u32 (d.n : Int), .int .i64 (d.id : Int), .int .i64 (d.f : Int)]
    have hlk : w.heap.size + 1 + 1 + 1 < w2.heap.size := ((B0.out.drew.below hq).on hr).tk.b4.lt
    obtain ⟨W, hW⟩ : ∃ W, w2.alloc (.cells #[.int .u64 (d.a : Int), .int .u32 (d.n : Int), .int .i64 (d.id : Int), .int .i64 (d.f : Int)] 35) = W := ⟨_, rfl⟩
    obtain ⟨K, hK⟩ : ∃ K, w2.heap.size = K := ⟨_, rfl⟩
    rw [hW] at hA hB ⊢
    rw [hK] at hB hlk ⊢
    clear hW hK hr hq
    obtain ⟨p0, p1, p2, p3, p4, p5, z1, z2, z3⟩ := hA.tk.facts
    obtain ⟨-, -, -, -, -, g6, -, -, -⟩ := hA.rm.cells
    have k3 := hB.cell 3
    have k0 := hB.cell 0
    have k1 := hB.cell 1
    have k2 := hB.cell 2
    simp only [List.getElem?_toArray, List.getElem?_cons_zero, List.getElem?_cons_succ] at k0 k1 k2 k3
    have HA1 := Lib.hid hA
    clear hA hB
    go_wp2_with fail
    go_quiet ((go_at_call 65; exact Calls.quiet_of_same ((HA.out _).mono fun _ _ hh => ⟨hh.1, hh.2.symm⟩)))
    have T1 := HA1.out.tk.below (below_drewN (Below.refl _ _) nq)
    have R1 := HA1.out.rm.drewN nq
    have kk0 : (World.drewN W nq).cell? ⟨K, 0, none⟩ = some (.int .u64 (d.a : Int)) := k0
    have kk1 : (World.drewN W nq).cell? ⟨K, 1, none⟩ = some (.int .u32 (d.n : Int)) := k1
    have kk2 : (World.drewN W nq).cell? ⟨K, 2, none⟩ = some (.int .i64 (d.id : Int)) := k2
    have kk3 : (World.drewN W nq).cell? ⟨K, 3, none⟩ = some (.int .i64 (d.f : Int)) := k3
    clear k0 k1 k2 k3 p0 p1 p2 p3 p4 p5 z1 z2 z3 g6
    obtain ⟨p0, -⟩ := T1.facts
    generalize World.drewN W nq = W2 at *
    have T1 := Lib.hid T1
    have R1 := Lib.hid R1
    go_wp2_with fail
    refine (HC.out _ R1.out.enter).mono ?_
    intro e w3 hL
    obtain ⟨R3, A, cap, rfl, own⟩ := hL
    have T3 := T1.out.keep R3.keep
    have R3 := R1.out.leave R3
    have hw3 := R3.keep.size
    obtain ⟨p0, p1, p2, p3, p4, p5, z1, z2, z3⟩ := T3.facts
    have G := TG.first R3 T3 (own_base own R1.out.keep.size)
    have G := Lib.hid G
    clear own R3 T3 R1 T1 kk0 kk1 kk2 kk3
    go_wp2_with fail
    obtain ⟨W3, hW3⟩ : ∃ W3, (((w3.setCell ⟨w.heap.size + 1, 0, none⟩ (.int .i64 (h1.id : Int))).setCell ⟨w.heap.size + 1, 1, none⟩ (.int .i64 (h1.count : Int))).setCell ⟨w.heap.size + 1, 2, none⟩ (.slice A h1.parts.length cap)) = W3 := ⟨_, rfl⟩
    rw [hW3] at G ⊢
    clear hW3 p0 p1 p2 p3 p4 p5 z1 z2 z3
    have R4 := Lib.hid G.out.1.drew
    have T4 := Lib.hid (G.out.2.keep (Keep.of_below (Below.refl _ _).drew))
    obtain ⟨-, -, -, -, g5, g6, -, -, -⟩ := G.out.1.cells
    clear G
    refine wp_region_noPanic ?_
    refine wp_region_held_drew (S := fun W => W.cell? ⟨w.heap.size, 0, none⟩ = some (.pointer (some ⟨c.gq, 0, none⟩)) ∧ W.cell? ⟨w.heap.size + 1, 1, none⟩ = some (.int .i64 (h1.count : Int))) (by kernel_rfl) T4.out.two (fun hHeld => ?_)
    refine wpAnyH_take (i := 0) (v := .pointer (some ⟨c.gq, 0, none⟩)) (by rfl) (by kernel_rfl) (by kernel_rfl) (by kernel_rfl) (by intro _ _ _ h; exact h) (Or.inl ⟨by rfl, ?_⟩) (by assumption) ?_
    · intro W hSw
      obtain ⟨hS1, hS2⟩ := hSw
      go_simp
      try with_reducible rfl
    simp only [Act.put, List.setIfInBounds_toArray]
    refine wpAnyH_take (i := 1) (v := .pointer (some ⟨c.gq, 0, none⟩)) (by rfl) (by kernel_rfl) (by kernel_rfl) (by kernel_rfl) (by intro _ _ _ h; exact h) (Or.inl ⟨by rfl, ?_⟩) (by assumption) ?_
    · intro W hSw
      obtain ⟨hS1, hS2⟩ := hSw
      go_simp
      try with_reducible rfl
    simp only [Act.put]
    refine wpAnyH_take (i := 2) (v := .pointer (some ⟨c.gq, 0, none⟩)) (by rfl) (by kernel_rfl) (by kernel_rfl) (by kernel_rfl) (by intro _ _ _ h; exact h) (Or.inl ⟨by rfl, ?_⟩) (by assumption) ?_
    · intro W hSw
      obtain ⟨hS1, hS2⟩ := hSw
      go_simp
      try with_reducible rfl
    simp only [Act.put]
    refine wpAnyH_take (i := 3) (v := .pointer (some ⟨c.gq, 0, none⟩)) (by rfl) (by kernel_rfl) (by kernel_rfl) (by kernel_rfl) (by intro _ _ _ h; exact h) (Or.inl ⟨by rfl, ?_⟩) (by assumption) ?_
    · intro W hSw
      obtain ⟨hS1, hS2⟩ := hSw
      go_simp
      try with_reducible rfl
    simp only [Act.put]
    refine wpAnyH_take (i := 4) (v := .pointer (some ⟨c.gq, 5, none⟩)) (by rfl) (by kernel_rfl) (by kernel_rfl) (by kernel_rfl) (by intro _ _ _ h; exact h) (Or.inl ⟨by rfl, ?_⟩) (by assumption) ?_
    · intro W hSw
      obtain ⟨hS1, hS2⟩ := hSw
      go_simp
      try with_reducible rfl
    simp only [Act.put]
    refine wpAnyH_take (i := 6) (v := .pointer (some ⟨w.heap.size + 1, 1, none⟩)) (by rfl) (by kernel_rfl) (by kernel_rfl) (by kernel_rfl) (by intro _ _ _ h; exact h) (Or.inl ⟨by rfl, ?_⟩) (by assumption) ?_
    · intro W hSw
      obtain ⟨hS1, hS2⟩ := hSw
      go_simp
      try with_reducible rfl
    simp only [Act.put]
    refine wpAnyH_take (i := 7) (v := .int .i64 (h1.count : Int)) (by rfl) (by kernel_rfl) (by kernel_rfl) (by kernel_rfl) (by intro _ _ _ h; exact h) (Or.inl ⟨by rfl, ?_⟩) (by assumption) ?_
    · intro W hSw
      obtain ⟨hS1, hS2⟩ := hSw
      go_simp
      try with_reducible rfl
    simp only [Act.put]
    refine wpAnyH_ready (rs := [5]) (by kernel_rfl) (by simp) ?_
    refine AllReadyH.cons (by rfl) (fun K hK => ?_) AllReadyH.nil
    go_simp
    refine hK.out _ _ T4.out.two (fun hHeld2 => ?_)
    clear hK K hHeld
    refine wpAnyH_ready (rs := [8]) (by kernel_rfl) (by simp) ?_
    refine AllReadyH.cons (by rfl) (fun K hK => ?_) AllReadyH.nil
    go_simp
    refine (HN.out _ R4.out.enter).mono ?_
    rintro e w4 ⟨rfl, hr⟩
    refine hK.out _ _ (T4.out.keep hr.keep).two (fun hHeld3 => ?_)
    clear hK K hHeld2
    have gc5 : w4.cell? ⟨c.gq, 5, none⟩ = some (.int .i64 (c.q.na : Int)) := hr.blk.cell 5
    have gc6 : w4.cell? ⟨c.gq, 6, none⟩ = some (.bool c.q.nw) := hr.blk.cell 6
    have gf5 := hr.blk.frozen 5
    have gf6 := hr.blk.frozen 6
    refine wpAnyH_take (i := 9) (v := .pointer (some ⟨c.gq, 0, none⟩)) (by rfl) (by kernel_rfl) (by kernel_rfl) (by kernel_rfl) (by intro _ _ _ h; exact h) (Or.inl ⟨by rfl, ?_⟩) (by assumption) ?_
    · intro W hSw
      obtain ⟨hS1, hS2⟩ := hSw
      go_simp
      try with_reducible rfl
    simp only [Act.put]
    refine wpAnyH_take (i := 10) (v := .pointer (some ⟨c.gq, 5, none⟩)) (by rfl) (by kernel_rfl) (by kernel_rfl) (by kernel_rfl) (by intro _ _ _ h; exact h) (Or.inl ⟨by rfl, ?_⟩) (by assumption) ?_
    · intro W hSw
      obtain ⟨hS1, hS2⟩ := hSw
      go_simp
      try with_reducible rfl
    simp only [Act.put]
    refine wpAnyH_ready (rs := [11]) (by kernel_rfl) (by simp) ?_
    refine AllReadyH.cons (by rfl) (fun K hK => ?_) AllReadyH.nil
    go_simp
    have T5 := ((T4.out.keep hr.keep).other hr.blk (by decide) (by decide) (by decide) (by decide) (by decide) 5 (.int .i64 (stA c.q.size c.q.na h1.count : Int))).other (hr.blk.put 5 (.int .i64 (stA c.q.size c.q.na h1.count : Int))) (by decide) (by decide) (by decide) (by decide) (by decide) 6 (.bool (stW c.q.size c.q.na h1.count c.q.nw))
    refine hK.out _ _ T5.two (fun hHeld4 => ?_)
    clear hK K hHeld3
    refine wpAnyH_done (by kernel_rfl) ?_ _
    refine NoPanic.normal ?_
    have Q5 := (Qn.of (R4.out.leave hr)).set 5 (.int .i64 (stA c.q.size c.q.na h1.count : Int)) (q2 := { c.q with na := stA c.q.size c.q.na h1.count }) rfl
    have Q5 := Q5.set 6 (.bool (stW c.q.size c.q.na h1.count c.q.nw)) (q2 := { c.q with na := stA c.q.size c.q.na h1.count, nw := stW c.q.size c.q.na h1.count c.q.nw }) rfl
    obtain ⟨W5, hW5⟩ : ∃ W5, (w4.setCell ⟨c.gq, 5, none⟩ (.int .i64 (stA c.q.size c.q.na h1.count : Int))).setCell ⟨c.gq, 6, none⟩ (.bool (stW c.q.size c.q.na h1.count c.q.nw)) = W5 := ⟨_, rfl⟩
    rw [hW5] at Q5 T5 ⊢
    clear hW5 gc5 gc6 gf5 gf6 hr g5 g6 R4 T4
    have g9 : W5.cell? ⟨c.gq, 9, none⟩ = some (.int .i64 (c.q.out : Int)) := Q5.blk.cell 9
    have f9 := Q5.blk.frozen 9
    have v1 : IntKind.i64.wrap ((c.q.out : Int) + (h1.count : Int)) = (c.q.out : Int) + (h1.count : Int) := by rw [IntKind.wrap_i64]; omega
    have HT := Lib.hid T5
    have HQ := Lib.hid Q5
    clear T5 Q5
    go_wp2_with fail
    refine wp_region_noPanic ?_
    refine wp_region_held_drew (S := fun W => W.cell? ⟨w.heap.size, 0, none⟩ = some (.pointer (some ⟨c.gq, 0, none⟩)) ∧ W.cell? ⟨w.heap.size + 1, 1, none⟩ = some (.int .i64 (h1.count : Int))) (by kernel_rfl) HT.out.two (fun hHeld => ?_)
    refine wpAnyH_take (i := 0) (v := .pointer (some ⟨c.gq, 0, none⟩)) (by rfl) (by kernel_rfl) (by kernel_rfl) (by kernel_rfl) (by intro _ _ _ h; exact h) (Or.inl ⟨by rfl, ?_⟩) (by assumption) ?_
    · intro W hSw
      obtain ⟨hS1, hS2⟩ := hSw
      go_simp
      try with_reducible rfl
    simp only [Act.put, List.setIfInBounds_toArray]
    refine wpAnyH_take (i := 1) (v := .pointer (some ⟨c.gq, 0, none⟩)) (by rfl) (by kernel_rfl) (by kernel_rfl) (by kernel_rfl) (by intro _ _ _ h; exact h) (Or.inl ⟨by rfl, ?_⟩) (by assumption) ?_
    · intro W hSw
      obtain ⟨hS1, hS2⟩ := hSw
      go_simp
      try with_reducible rfl
    simp only [Act.put]
    refine wpAnyH_take (i := 2) (v := .pointer (some ⟨c.gq, 9, none⟩)) (by rfl) (by kernel_rfl) (by kernel_rfl) (by kernel_rfl) (by intro _ _ _ h; exact h) (Or.inl ⟨by rfl, ?_⟩) (by assumption) ?_
    · intro W hSw
      obtain ⟨hS1, hS2⟩ := hSw
      go_simp
      try with_reducible rfl
    simp only [Act.put]
    refine wpAnyH_take (i := 4) (v := .pointer (some ⟨w.heap.size + 1, 1, none⟩)) (by rfl) (by kernel_rfl) (by kernel_rfl) (by kernel_rfl) (by intro _ _ _ h; exact h) (Or.inl ⟨by rfl, ?_⟩) (by assumption) ?_
    · intro W hSw
      obtain ⟨hS1, hS2⟩ := hSw
      go_simp
      try with_reducible rfl
    simp only [Act.put]
    refine wpAnyH_take (i := 5) (v := .int .i64 (h1.count : Int)) (by rfl) (by kernel_rfl) (by kernel_rfl) (by kernel_rfl) (by intro _ _ _ h; exact h) (Or.inl ⟨by rfl, ?_⟩) (by assumption) ?_
    · intro W hSw
      obtain ⟨hS1, hS2⟩ := hSw
      go_simp
      try with_reducible rfl
    simp only [Act.put]
    refine wpAnyH_ready (rs := [3]) (by kernel_rfl) (by simp) ?_
    refine AllReadyH.cons (by rfl) (fun K hK => ?_) AllReadyH.nil
    go_simp
    refine hK.out _ _ HT.out.two (fun hHeld2 => ?_)
    clear hK K hHeld
    refine wpAnyH_take (i := 6) (v := .int .i64 ((c.q.out : Int) + (h1.count : Int))) (by rfl) (by kernel_rfl) (by kernel_rfl) (by kernel_rfl) (by intro _ _ _ h; exact h) (Or.inl ⟨by rfl, ?_⟩) (by assumption) ?_
    · intro W hSw
      obtain ⟨hS1, hS2⟩ := hSw
      go_simp
      try with_reducible rfl
    simp only [Act.put]
    refine wpAnyH_take (i := 7) (v := .pointer (some ⟨c.gq, 0, none⟩)) (by rfl) (by kernel_rfl) (by kernel_rfl) (by kernel_rfl) (by intro _ _ _ h; exact h) (Or.inl ⟨by rfl, ?_⟩) (by assumption) ?_
    · intro W hSw
      obtain ⟨hS1, hS2⟩ := hSw
      go_simp
      try with_reducible rfl
    simp only [Act.put]
    refine wpAnyH_take (i := 8) (v := .pointer (some ⟨c.gq, 9, none⟩)) (by rfl) (by kernel_rfl) (by kernel_rfl) (by kernel_rfl) (by intro _ _ _ h; exact h) (Or.inl ⟨by rfl, ?_⟩) (by assumption) ?_
    · intro W hSw
      obtain ⟨hS1, hS2⟩ := hSw
      go_simp
      try with_reducible rfl
    simp only [Act.put]
    refine wpAnyH_ready (rs := [9]) (by kernel_rfl) (by simp) ?_
    refine AllReadyH.cons (by rfl) (fun K hK => ?_) AllReadyH.nil
    go_simp
    have T6 := (HT.out.other HQ.out.blk (by decide) (by decide) (by decide) (by decide) (by decide) 9 (.int .i64 ((c.q.out : Int) + (h1.count : Int)))).keep (Keep.of_below (Below.refl _ _).drew)
    have Q6 := (HQ.out.set 9 (.int .i64 ((c.q.out : Int) + (h1.count : Int))) (q2 := takenQ c.q h1.count) rfl).drew
    refine hK.out _ _ T6.two (fun hHeld4 => ?_)
    clear hK K hHeld2
    refine wpAnyH_done (by kernel_rfl) ?_ _
    refine NoPanic.normal ?_
    obtain ⟨W6, hW6⟩ : ∃ W6, (W5.setCell ⟨c.gq, 9, none⟩ (.int .i64 ((c.q.out : Int) + (h1.count : Int)))).drew = W6 := ⟨_, rfl⟩
    rw [hW6] at Q6 T6 hHeld4 ⊢
    clear hW6 g9 f9 v1 hHeld4
    obtain ⟨p0, p1, p2, p3, p4, p5, z1, z2, z3⟩ := T6.tk.facts
    have HR := Lib.hid (T6.tk.set (.int .i64 (h1.id : Int)) (.int .i64 (h1.count : Int)) (.slice A h1.parts.length cap) true 0)
    have HS := Lib.hid (T6.tk.qn Q6 (Nat.le_trans HB hk) (.int .i64 (h1.id : Int)) (.int .i64 (h1.count : Int)) (.slice A h1.parts.length cap) true 0)
    have HU := Lib.hid (T6.tk.own_set T6.own (.int .i64 (h1.id : Int)) (.int .i64 (h1.count : Int)) (.slice A h1.parts.length cap) true 0)
    clear T6 Q6
    go_wp2_with fail
    exact door_ret HR.out HS.out HU.out _ rfl rfl rfl
  · obtain ⟨hA, hB⟩ := TB.store (((B0.out.drew.below hq).alloc (.cells #[.int .u64 0, .int .u32 0, .int .i64 0, .int .i64 0] 35)).on hr) hk2 (by have := drew_le hq; omega) (.int .u64 (d.a : Int)) (.int .u32 (d.n : Int)) (.int .i64 (d.id : Int)) (.int .i64 (d.f : Int))
    have hlk : w.heap.size + 1 + 1 + 1 < w1.heap.size := by have := drew_le hq; omega
    obtain ⟨W, hW⟩ : ∃ W, (((w2.setCell ⟨w1.heap.size, 0, none⟩ (.int .u64 (d.a : Int))).setCell ⟨w1.heap.size, 1, none⟩ (.int .u32 (d.n : Int))).setCell ⟨w1.heap.size, 2, none⟩ (.int .i64 (d.id : Int))).setCell ⟨w1.heap.size, 3, none⟩ (.int .i64 (d.f : Int)) = W := ⟨_, rfl⟩
    obtain ⟨K, hK⟩ : ∃ K, w1.heap.size = K := ⟨_, rfl⟩
    rw [hW] at hA hB ⊢
    rw [hK] at hB hlk ⊢
    clear hW hK hr hq
    obtain ⟨p0, p1, p2, p3, p4, p5, z1, z2, z3⟩ := hA.tk.facts
    obtain ⟨-, -, -, -, -, g6, -, -, -⟩ := hA.rm.cells
    have k3 := hB.cell 3
    have k0 := hB.cell 0
    have k1 := hB.cell 1
    have k2 := hB.cell 2
    simp only [List.getElem?_toArray, List.getElem?_cons_zero, List.getElem?_cons_succ] at k0 k1 k2 k3
    have HA1 := Lib.hid hA
    clear hA hB
    go_wp2_with fail
    go_quiet ((go_at_call 65; exact Calls.quiet_of_same ((HA.out _).mono fun _ _ hh => ⟨hh.1, hh.2.symm⟩)))
    have T1 := HA1.out.tk.below (below_drewN (Below.refl _ _) nq)
    have R1 := HA1.out.rm.drewN nq
    have kk0 : (World.drewN W nq).cell? ⟨K, 0, none⟩ = some (.int .u64 (d.a : Int)) := k0
    have kk1 : (World.drewN W nq).cell? ⟨K, 1, none⟩ = some (.int .u32 (d.n : Int)) := k1
    have kk2 : (World.drewN W nq).cell? ⟨K, 2, none⟩ = some (.int .i64 (d.id : Int)) := k2
    have kk3 : (World.drewN W nq).cell? ⟨K, 3, none⟩ = some (.int .i64 (d.f : Int)) := k3
    clear k0 k1 k2 k3 p0 p1 p2 p3 p4 p5 z1 z2 z3 g6
    obtain ⟨p0, -⟩ := T1.facts
    generalize World.drewN W nq = W2 at *
    have T1 := Lib.hid T1
    have R1 := Lib.hid R1
    go_wp2_with fail
    refine (HC.out _ R1.out.enter).mono ?_
    intro e w3 hL
    obtain ⟨R3, A, cap, rfl, own⟩ := hL
    have T3 := T1.out.keep R3.keep
    have R3 := R1.out.leave R3
    have hw3 := R3.keep.size
    obtain ⟨p0, p1, p2, p3, p4, p5, z1, z2, z3⟩ := T3.facts
    have G := TG.first R3 T3 (own_base own R1.out.keep.size)
    have G := Lib.hid G
    clear own R3 T3 R1 T1 kk0 kk1 kk2 kk3
    go_wp2_with fail
    obtain ⟨W3, hW3⟩ : ∃ W3, (((w3.setCell ⟨w.heap.size + 1, 0, none⟩ (.int .i64 (h1.id : Int))).setCell ⟨w.heap.size + 1, 1, none⟩ (.int .i64 (h1.count : Int))).setCell ⟨w.heap.size + 1, 2, none⟩ (.slice A h1.parts.length cap)) = W3 := ⟨_, rfl⟩
    rw [hW3] at G ⊢
    clear hW3 p0 p1 p2 p3 p4 p5 z1 z2 z3
    have R4 := Lib.hid G.out.1.drew
    have T4 := Lib.hid (G.out.2.keep (Keep.of_below (Below.refl _ _).drew))
    obtain ⟨-, -, -, -, g5, g6, -, -, -⟩ := G.out.1.cells
    clear G
    refine wp_region_noPanic ?_
    refine wp_region_held_drew (S := fun W => W.cell? ⟨w.heap.size, 0, none⟩ = some (.pointer (some ⟨c.gq, 0, none⟩)) ∧ W.cell? ⟨w.heap.size + 1, 1, none⟩ = some (.int .i64 (h1.count : Int))) (by kernel_rfl) T4.out.two (fun hHeld => ?_)
    refine wpAnyH_take (i := 0) (v := .pointer (some ⟨c.gq, 0, none⟩)) (by rfl) (by kernel_rfl) (by kernel_rfl) (by kernel_rfl) (by intro _ _ _ h; exact h) (Or.inl ⟨by rfl, ?_⟩) (by assumption) ?_
    · intro W hSw
      obtain ⟨hS1, hS2⟩ := hSw
      go_simp
      try with_reducible rfl
    simp only [Act.put, List.setIfInBounds_toArray]
    refine wpAnyH_take (i := 1) (v := .pointer (some ⟨c.gq, 0, none⟩)) (by rfl) (by kernel_rfl) (by kernel_rfl) (by kernel_rfl) (by intro _ _ _ h; exact h) (Or.inl ⟨by rfl, ?_⟩) (by assumption) ?_
    · intro W hSw
      obtain ⟨hS1, hS2⟩ := hSw
      go_simp
      try with_reducible rfl
    simp only [Act.put]
    refine wpAnyH_take (i := 2) (v := .pointer (some ⟨c.gq, 0, none⟩)) (by rfl) (by kernel_rfl) (by kernel_rfl) (by kernel_rfl) (by intro _ _ _ h; exact h) (Or.inl ⟨by rfl, ?_⟩) (by assumption) ?_
    · intro W hSw
      obtain ⟨hS1, hS2⟩ := hSw
      go_simp
      try with_reducible rfl
    simp only [Act.put]
    refine wpAnyH_take (i := 3) (v := .pointer (some ⟨c.gq, 0, none⟩)) (by rfl) (by kernel_rfl) (by kernel_rfl) (by kernel_rfl) (by intro _ _ _ h; exact h) (Or.inl ⟨by rfl, ?_⟩) (by assumption) ?_
    · intro W hSw
      obtain ⟨hS1, hS2⟩ := hSw
      go_simp
      try with_reducible rfl
    simp only [Act.put]
    refine wpAnyH_take (i := 4) (v := .pointer (some ⟨c.gq, 5, none⟩)) (by rfl) (by kernel_rfl) (by kernel_rfl) (by kernel_rfl) (by intro _ _ _ h; exact h) (Or.inl ⟨by rfl, ?_⟩) (by assumption) ?_
    · intro W hSw
      obtain ⟨hS1, hS2⟩ := hSw
      go_simp
      try with_reducible rfl
    simp only [Act.put]
    refine wpAnyH_take (i := 6) (v := .pointer (some ⟨w.heap.size + 1, 1, none⟩)) (by rfl) (by kernel_rfl) (by kernel_rfl) (by kernel_rfl) (by intro _ _ _ h; exact h) (Or.inl ⟨by rfl, ?_⟩) (by assumption) ?_
    · intro W hSw
      obtain ⟨hS1, hS2⟩ := hSw
      go_simp
      try with_reducible rfl
    simp only [Act.put]
    refine wpAnyH_take (i := 7) (v := .int .i64 (h1.count : Int)) (by rfl) (by kernel_rfl) (by kernel_rfl) (by kernel_rfl) (by intro _ _ _ h; exact h) (Or.inl ⟨by rfl, ?_⟩) (by assumption) ?_
    · intro W hSw
      obtain ⟨hS1, hS2⟩ := hSw
      go_simp
      try with_reducible rfl
    simp only [Act.put]
    refine wpAnyH_ready (rs := [5]) (by kernel_rfl) (by simp) ?_
    refine AllReadyH.cons (by rfl) (fun K hK => ?_) AllReadyH.nil
    go_simp
    refine hK.out _ _ T4.out.two (fun hHeld2 => ?_)
    clear hK K hHeld
    refine wpAnyH_ready (rs := [8]) (by kernel_rfl) (by simp) ?_
    refine AllReadyH.cons (by rfl) (fun K hK => ?_) AllReadyH.nil
    go_simp
    refine (HN.out _ R4.out.enter).mono ?_
    rintro e w4 ⟨rfl, hr⟩
    refine hK.out _ _ (T4.out.keep hr.keep).two (fun hHeld3 => ?_)
    clear hK K hHeld2
    have gc5 : w4.cell? ⟨c.gq, 5, none⟩ = some (.int .i64 (c.q.na : Int)) := hr.blk.cell 5
    have gc6 : w4.cell? ⟨c.gq, 6, none⟩ = some (.bool c.q.nw) := hr.blk.cell 6
    have gf5 := hr.blk.frozen 5
    have gf6 := hr.blk.frozen 6
    refine wpAnyH_take (i := 9) (v := .pointer (some ⟨c.gq, 0, none⟩)) (by rfl) (by kernel_rfl) (by kernel_rfl) (by kernel_rfl) (by intro _ _ _ h; exact h) (Or.inl ⟨by rfl, ?_⟩) (by assumption) ?_
    · intro W hSw
      obtain ⟨hS1, hS2⟩ := hSw
      go_simp
      try with_reducible rfl
    simp only [Act.put]
    refine wpAnyH_take (i := 10) (v := .pointer (some ⟨c.gq, 5, none⟩)) (by rfl) (by kernel_rfl) (by kernel_rfl) (by kernel_rfl) (by intro _ _ _ h; exact h) (Or.inl ⟨by rfl, ?_⟩) (by assumption) ?_
    · intro W hSw
      obtain ⟨hS1, hS2⟩ := hSw
      go_simp
      try with_reducible rfl
    simp only [Act.put]
    refine wpAnyH_ready (rs := [11]) (by kernel_rfl) (by simp) ?_
    refine AllReadyH.cons (by rfl) (fun K hK => ?_) AllReadyH.nil
    go_simp
    have T5 := ((T4.out.keep hr.keep).other hr.blk (by decide) (by decide) (by decide) (by decide) (by decide) 5 (.int .i64 (stA c.q.size c.q.na h1.count : Int))).other (hr.blk.put 5 (.int .i64 (stA c.q.size c.q.na h1.count : Int))) (by decide) (by decide) (by decide) (by decide) (by decide) 6 (.bool (stW c.q.size c.q.na h1.count c.q.nw))
    refine hK.out _ _ T5.two (fun hHeld4 => ?_)
    clear hK K hHeld3
    refine wpAnyH_done (by kernel_rfl) ?_ _
    refine NoPanic.normal ?_
    have Q5 := (Qn.of (R4.out.leave hr)).set 5 (.int .i64 (stA c.q.size c.q.na h1.count : Int)) (q2 := { c.q with na := stA c.q.size c.q.na h1.count }) rfl
    have Q5 := Q5.set 6 (.bool (stW c.q.size c.q.na h1.count c.q.nw)) (q2 := { c.q with na := stA c.q.size c.q.na h1.count, nw := stW c.q.size c.q.na h1.count c.q.nw }) rfl
    obtain ⟨W5, hW5⟩ : ∃ W5, (w4.setCell ⟨c.gq, 5, none⟩ (.int .i64 (stA c.q.size c.q.na h1.count : Int))).setCell ⟨c.gq, 6, none⟩ (.bool (stW c.q.size c.q.na h1.count c.q.nw)) = W5 := ⟨_, rfl⟩
    rw [hW5] at Q5 T5 ⊢
    clear hW5 gc5 gc6 gf5 gf6 hr g5 g6 R4 T4
    have g9 : W5.cell? ⟨c.gq, 9, none⟩ = some (.int .i64 (c.q.out : Int)) := Q5.blk.cell 9
    have f9 := Q5.blk.frozen 9
    have v1 : IntKind.i64.wrap ((c.q.out : Int) + (h1.count : Int)) = (c.q.out : Int) + (h1.count : Int) := by rw [IntKind.wrap_i64]; omega
    have HT := Lib.hid T5
    have HQ := Lib.hid Q5
    clear T5 Q5
    go_wp2_with fail
    refine wp_region_noPanic ?_
    refine wp_region_held_drew (S := fun W => W.cell? ⟨w.heap.size, 0, none⟩ = some (.pointer (some ⟨c.gq, 0, none⟩)) ∧ W.cell? ⟨w.heap.size + 1, 1, none⟩ = some (.int .i64 (h1.count : Int))) (by kernel_rfl) HT.out.two (fun hHeld => ?_)
    refine wpAnyH_take (i := 0) (v := .pointer (some ⟨c.gq, 0, none⟩)) (by rfl) (by kernel_rfl) (by kernel_rfl) (by kernel_rfl) (by intro _ _ _ h; exact h) (Or.inl ⟨by rfl, ?_⟩) (by assumption) ?_
    · intro W hSw
      obtain ⟨hS1, hS2⟩ := hSw
      go_simp
      try with_reducible rfl
    simp only [Act.put, List.setIfInBounds_toArray]
    refine wpAnyH_take (i := 1) (v := .pointer (some ⟨c.gq, 0, none⟩)) (by rfl) (by kernel_rfl) (by kernel_rfl) (by kernel_rfl) (by intro _ _ _ h; exact h) (Or.inl ⟨by rfl, ?_⟩) (by assumption) ?_
    · intro W hSw
      obtain ⟨hS1, hS2⟩ := hSw
      go_simp
      try with_reducible rfl
    simp only [Act.put]
    refine wpAnyH_take (i := 2) (v := .pointer (some ⟨c.gq, 9, none⟩)) (by rfl) (by kernel_rfl) (by kernel_rfl) (by kernel_rfl) (by intro _ _ _ h; exact h) (Or.inl ⟨by rfl, ?_⟩) (by assumption) ?_
    · intro W hSw
      obtain ⟨hS1, hS2⟩ := hSw
      go_simp
      try with_reducible rfl
    simp only [Act.put]
    refine wpAnyH_take (i := 4) (v := .pointer (some ⟨w.heap.size + 1, 1, none⟩)) (by rfl) (by kernel_rfl) (by kernel_rfl) (by kernel_rfl) (by intro _ _ _ h; exact h) (Or.inl ⟨by rfl, ?_⟩) (by assumption) ?_
    · intro W hSw
      obtain ⟨hS1, hS2⟩ := hSw
      go_simp
      try with_reducible rfl
    simp only [Act.put]
    refine wpAnyH_take (i := 5) (v := .int .i64 (h1.count : Int)) (by rfl) (by kernel_rfl) (by kernel_rfl) (by kernel_rfl) (by intro _ _ _ h; exact h) (Or.inl ⟨by rfl, ?_⟩) (by assumption) ?_
    · intro W hSw
      obtain ⟨hS1, hS2⟩ := hSw
      go_simp
      try with_reducible rfl
    simp only [Act.put]
    refine wpAnyH_ready (rs := [3]) (by kernel_rfl) (by simp) ?_
    refine AllReadyH.cons (by rfl) (fun K hK => ?_) AllReadyH.nil
    go_simp
    refine hK.out _ _ HT.out.two (fun hHeld2 => ?_)
    clear hK K hHeld
    refine wpAnyH_take (i := 6) (v := .int .i64 ((c.q.out : Int) + (h1.count : Int))) (by rfl) (by kernel_rfl) (by kernel_rfl) (by kernel_rfl) (by intro _ _ _ h; exact h) (Or.inl ⟨by rfl, ?_⟩) (by assumption) ?_
    · intro W hSw
      obtain ⟨hS1, hS2⟩ := hSw
      go_simp
      try with_reducible rfl
    simp only [Act.put]
    refine wpAnyH_take (i := 7) (v := .pointer (some ⟨c.gq, 0, none⟩)) (by rfl) (by kernel_rfl) (by kernel_rfl) (by kernel_rfl) (by intro _ _ _ h; exact h) (Or.inl ⟨by rfl, ?_⟩) (by assumption) ?_
    · intro W hSw
      obtain ⟨hS1, hS2⟩ := hSw
      go_simp
      try with_reducible rfl
    simp only [Act.put]
    refine wpAnyH_take (i := 8) (v := .pointer (some ⟨c.gq, 9, none⟩)) (by rfl) (by kernel_rfl) (by kernel_rfl) (by kernel_rfl) (by intro _ _ _ h; exact h) (Or.inl ⟨by rfl, ?_⟩) (by assumption) ?_
    · intro W hSw
      obtain ⟨hS1, hS2⟩ := hSw
      go_simp
      try with_reducible rfl
    simp only [Act.put]
    refine wpAnyH_ready (rs := [9]) (by kernel_rfl) (by simp) ?_
    refine AllReadyH.cons (by rfl) (fun K hK => ?_) AllReadyH.nil
    go_simp
    have T6 := (HT.out.other HQ.out.blk (by decide) (by decide) (by decide) (by decide) (by decide) 9 (.int .i64 ((c.q.out : Int) + (h1.count : Int)))).keep (Keep.of_below (Below.refl _ _).drew)
    have Q6 := (HQ.out.set 9 (.int .i64 ((c.q.out : Int) + (h1.count : Int))) (q2 := takenQ c.q h1.count) rfl).drew
    refine hK.out _ _ T6.two (fun hHeld4 => ?_)
    clear hK K hHeld2
    refine wpAnyH_done (by kernel_rfl) ?_ _
    refine NoPanic.normal ?_
    obtain ⟨W6, hW6⟩ : ∃ W6, (W5.setCell ⟨c.gq, 9, none⟩ (.int .i64 ((c.q.out : Int) + (h1.count : Int)))).drew = W6 := ⟨_, rfl⟩
    rw [hW6] at Q6 T6 hHeld4 ⊢
    clear hW6 g9 f9 v1 hHeld4
    obtain ⟨p0, p1, p2, p3, p4, p5, z1, z2, z3⟩ := T6.tk.facts
    have HR := Lib.hid (T6.tk.set (.int .i64 (h1.id : Int)) (.int .i64 (h1.count : Int)) (.slice A h1.parts.length cap) true 0)
    have HS := Lib.hid (T6.tk.qn Q6 (Nat.le_trans HB hk) (.int .i64 (h1.id : Int)) (.int .i64 (h1.count : Int)) (.slice A h1.parts.length cap) true 0)
    have HU := Lib.hid (T6.tk.own_set T6.own (.int .i64 (h1.id : Int)) (.int .i64 (h1.count : Int)) (.slice A h1.parts.length cap) true 0)
    clear T6 Q6
    go_wp2_with fail
    exact door_ret HR.out HS.out HU.out _ rfl rfl rfl
  · obtain ⟨hA, hB⟩ := TB.store (((B0.out.alloc (.cells #[.int .u64 0, .int .u32 0, .int .i64 0, .int .i64 0] 35)).drew.below hq).on hr) hk1 (by omega) (.int .u64 (d.a : Int)) (.int .u32 (d.n : Int)) (.int .i64 (d.id : Int)) (.int .i64 (d.f : Int))
    have hlk : w.heap.size + 1 + 1 + 1 < W0.heap.size := hw0
    obtain ⟨W, hW⟩ : ∃ W, (((w2.setCell ⟨W0.heap.size, 0, none⟩ (.int .u64 (d.a : Int))).setCell ⟨W0.heap.size, 1, none⟩ (.int .u32 (d.n : Int))).setCell ⟨W0.heap.size, 2, none⟩ (.int .i64 (d.id : Int))).setCell ⟨W0.heap.size, 3, none⟩ (.int .i64 (d.f : Int)) = W := ⟨_, rfl⟩
    obtain ⟨K, hK⟩ : ∃ K, W0.heap.size = K := ⟨_, rfl⟩
    rw [hW] at hA hB ⊢
    rw [hK] at hB hlk ⊢
    clear hW hK hr hq
    obtain ⟨p0, p1, p2, p3, p4, p5, z1, z2, z3⟩ := hA.tk.facts
    obtain ⟨-, -, -, -, -, g6, -, -, -⟩ := hA.rm.cells
    have k3 := hB.cell 3
    have k0 := hB.cell 0
    have k1 := hB.cell 1
    have k2 := hB.cell 2
    simp only [List.getElem?_toArray, List.getElem?_cons_zero, List.getElem?_cons_succ] at k0 k1 k2 k3
    have HA1 := Lib.hid hA
    clear hA hB
    go_wp2_with fail
    go_quiet ((go_at_call 65; exact Calls.quiet_of_same ((HA.out _).mono fun _ _ hh => ⟨hh.1, hh.2.symm⟩)))
    have T1 := HA1.out.tk.below (below_drewN (Below.refl _ _) nq)
    have R1 := HA1.out.rm.drewN nq
    have kk0 : (World.drewN W nq).cell? ⟨K, 0, none⟩ = some (.int .u64 (d.a : Int)) := k0
    have kk1 : (World.drewN W nq).cell? ⟨K, 1, none⟩ = some (.int .u32 (d.n : Int)) := k1
    have kk2 : (World.drewN W nq).cell? ⟨K, 2, none⟩ = some (.int .i64 (d.id : Int)) := k2
    have kk3 : (World.drewN W nq).cell? ⟨K, 3, none⟩ = some (.int .i64 (d.f : Int)) := k3
    clear k0 k1 k2 k3 p0 p1 p2 p3 p4 p5 z1 z2 z3 g6
    obtain ⟨p0, -⟩ := T1.facts
    generalize World.drewN W nq = W2 at *
    have T1 := Lib.hid T1
    have R1 := Lib.hid R1
    go_wp2_with fail
    refine (HC.out _ R1.out.enter).mono ?_
    intro e w3 hL
    obtain ⟨R3, A, cap, rfl, own⟩ := hL
    have T3 := T1.out.keep R3.keep
    have R3 := R1.out.leave R3
    have hw3 := R3.keep.size
    obtain ⟨p0, p1, p2, p3, p4, p5, z1, z2, z3⟩ := T3.facts
    have G := TG.first R3 T3 (own_base own R1.out.keep.size)
    have G := Lib.hid G
    clear own R3 T3 R1 T1 kk0 kk1 kk2 kk3
    go_wp2_with fail
    obtain ⟨W3, hW3⟩ : ∃ W3, (((w3.setCell ⟨w.heap.size + 1, 0, none⟩ (.int .i64 (h1.id : Int))).setCell ⟨w.heap.size + 1, 1, none⟩ (.int .i64 (h1.count : Int))).setCell ⟨w.heap.size + 1, 2, none⟩ (.slice A h1.parts.length cap)) = W3 := ⟨_, rfl⟩
    rw [hW3] at G ⊢
    clear hW3 p0 p1 p2 p3 p4 p5 z1 z2 z3
    have R4 := Lib.hid G.out.1.drew
    have T4 := Lib.hid (G.out.2.keep (Keep.of_below (Below.refl _ _).drew))
    obtain ⟨-, -, -, -, g5, g6, -, -, -⟩ := G.out.1.cells
    clear G
    refine wp_region_noPanic ?_
    refine wp_region_held_drew (S := fun W => W.cell? ⟨w.heap.size, 0, none⟩ = some (.pointer (some ⟨c.gq, 0, none⟩)) ∧ W.cell? ⟨w.heap.size + 1, 1, none⟩ = some (.int .i64 (h1.count : Int))) (by kernel_rfl) T4.out.two (fun hHeld => ?_)
    refine wpAnyH_take (i := 0) (v := .pointer (some ⟨c.gq, 0, none⟩)) (by rfl) (by kernel_rfl) (by kernel_rfl) (by kernel_rfl) (by intro _ _ _ h; exact h) (Or.inl ⟨by rfl, ?_⟩) (by assumption) ?_
    · intro W hSw
      obtain ⟨hS1, hS2⟩ := hSw
      go_simp
      try with_reducible rfl
    simp only [Act.put, List.setIfInBounds_toArray]
    refine wpAnyH_take (i := 1) (v := .pointer (some ⟨c.gq, 0, none⟩)) (by rfl) (by kernel_rfl) (by kernel_rfl) (by kernel_rfl) (by intro _ _ _ h; exact h) (Or.inl ⟨by rfl, ?_⟩) (by assumption) ?_
    · intro W hSw
      obtain ⟨hS1, hS2⟩ := hSw
      go_simp
      try with_reducible rfl
    simp only [Act.put]
    refine wpAnyH_take (i := 2) (v := .pointer (some ⟨c.gq, 0, none⟩)) (by rfl) (by kernel_rfl) (by kernel_rfl) (by kernel_rfl) (by intro _ _ _ h; exact h) (Or.inl ⟨by rfl, ?_⟩) (by assumption) ?_
    · intro W hSw
      obtain ⟨hS1, hS2⟩ := hSw
      go_simp
      try with_reducible rfl
    simp only [Act.put]
    refine wpAnyH_take (i := 3) (v := .pointer (some ⟨c.gq, 0, none⟩)) (by rfl) (by kernel_rfl) (by kernel_rfl) (by kernel_rfl) (by intro _ _ _ h; exact h) (Or.inl ⟨by rfl, ?_⟩) (by assumption) ?_
    · intro W hSw
      obtain ⟨hS1, hS2⟩ := hSw
      go_simp
      try with_reducible rfl
    simp only [Act.put]
    refine wpAnyH_take (i := 4) (v := .pointer (some ⟨c.gq, 5, none⟩)) (by rfl) (by kernel_rfl) (by kernel_rfl) (by kernel_rfl) (by intro _ _ _ h; exact h) (Or.inl ⟨by rfl, ?_⟩) (by assumption) ?_
    · intro W hSw
      obtain ⟨hS1, hS2⟩ := hSw
      go_simp
      try with_reducible rfl
    simp only [Act.put]
    refine wpAnyH_take (i := 6) (v := .pointer (some ⟨w.heap.size + 1, 1, none⟩)) (by rfl) (by kernel_rfl) (by kernel_rfl) (by kernel_rfl) (by intro _ _ _ h; exact h) (Or.inl ⟨by rfl, ?_⟩) (by assumption) ?_
    · intro W hSw
      obtain ⟨hS1, hS2⟩ := hSw
      go_simp
      try with_reducible rfl
    simp only [Act.put]
    refine wpAnyH_take (i := 7) (v := .int .i64 (h1.count : Int)) (by rfl) (by kernel_rfl) (by kernel_rfl) (by kernel_rfl) (by intro _ _ _ h; exact h) (Or.inl ⟨by rfl, ?_⟩) (by assumption) ?_
    · intro W hSw
      obtain ⟨hS1, hS2⟩ := hSw
      go_simp
      try with_reducible rfl
    simp only [Act.put]
    refine wpAnyH_ready (rs := [5]) (by kernel_rfl) (by simp) ?_
    refine AllReadyH.cons (by rfl) (fun K hK => ?_) AllReadyH.nil
    go_simp
    refine hK.out _ _ T4.out.two (fun hHeld2 => ?_)
    clear hK K hHeld
    refine wpAnyH_ready (rs := [8]) (by kernel_rfl) (by simp) ?_
    refine AllReadyH.cons (by rfl) (fun K hK => ?_) AllReadyH.nil
    go_simp
    refine (HN.out _ R4.out.enter).mono ?_
    rintro e w4 ⟨rfl, hr⟩
    refine hK.out _ _ (T4.out.keep hr.keep).two (fun hHeld3 => ?_)
    clear hK K hHeld2
    have gc5 : w4.cell? ⟨c.gq, 5, none⟩ = some (.int .i64 (c.q.na : Int)) := hr.blk.cell 5
    have gc6 : w4.cell? ⟨c.gq, 6, none⟩ = some (.bool c.q.nw) := hr.blk.cell 6
    have gf5 := hr.blk.frozen 5
    have gf6 := hr.blk.frozen 6
    refine wpAnyH_take (i := 9) (v := .pointer (some ⟨c.gq, 0, none⟩)) (by rfl) (by kernel_rfl) (by kernel_rfl) (by kernel_rfl) (by intro _ _ _ h; exact h) (Or.inl ⟨by rfl, ?_⟩) (by assumption) ?_
    · intro W hSw
      obtain ⟨hS1, hS2⟩ := hSw
      go_simp
      try with_reducible rfl
    simp only [Act.put]
    refine wpAnyH_take (i := 10) (v := .pointer (some ⟨c.gq, 5, none⟩)) (by rfl) (by kernel_rfl) (by kernel_rfl) (by kernel_rfl) (by intro _ _ _ h; exact h) (Or.inl ⟨by rfl, ?_⟩) (by assumption) ?_
    · intro W hSw
      obtain ⟨hS1, hS2⟩ := hSw
      go_simp
      try with_reducible rfl
    simp only [Act.put]
    refine wpAnyH_ready (rs := [11]) (by kernel_rfl) (by simp) ?_
    refine AllReadyH.cons (by rfl) (fun K hK => ?_) AllReadyH.nil
    go_simp
    have T5 := ((T4.out.keep hr.keep).other hr.blk (by decide) (by decide) (by decide) (by decide) (by decide) 5 (.int .i64 (stA c.q.size c.q.na h1.count : Int))).other (hr.blk.put 5 (.int .i64 (stA c.q.size c.q.na h1.count : Int))) (by decide) (by decide) (by decide) (by decide) (by decide) 6 (.bool (stW c.q.size c.q.na h1.count c.q.nw))
    refine hK.out _ _ T5.two (fun hHeld4 => ?_)
    clear hK K hHeld3
    refine wpAnyH_done (by kernel_rfl) ?_ _
    refine NoPanic.normal ?_
    have Q5 := (Qn.of (R4.out.leave hr)).set 5 (.int .i64 (stA c.q.size c.q.na h1.count : Int)) (q2 := { c.q with na := stA c.q.size c.q.na h1.count }) rfl
    have Q5 := Q5.set 6 (.bool (stW c.q.size c.q.na h1.count c.q.nw)) (q2 := { c.q with na := stA c.q.size c.q.na h1.count, nw := stW c.q.size c.q.na h1.count c.q.nw }) rfl
    obtain ⟨W5, hW5⟩ : ∃ W5, (w4.setCell ⟨c.gq, 5, none⟩ (.int .i64 (stA c.q.size c.q.na h1.count : Int))).setCell ⟨c.gq, 6, none⟩ (.bool (stW c.q.size c.q.na h1.count c.q.nw)) = W5 := ⟨_, rfl⟩
    rw [hW5] at Q5 T5 ⊢
    clear hW5 gc5 gc6 gf5 gf6 hr g5 g6 R4 T4
    have g9 : W5.cell? ⟨c.gq, 9, none⟩ = some (.int .i64 (c.q.out : Int)) := Q5.blk.cell 9
    have f9 := Q5.blk.frozen 9
    have v1 : IntKind.i64.wrap ((c.q.out : Int) + (h1.count : Int)) = (c.q.out : Int) + (h1.count : Int) := by rw [IntKind.wrap_i64]; omega
    have HT := Lib.hid T5
    have HQ := Lib.hid Q5
    clear T5 Q5
    go_wp2_with fail
    refine wp_region_noPanic ?_
    refine wp_region_held_drew (S := fun W => W.cell? ⟨w.heap.size, 0, none⟩ = some (.pointer (some ⟨c.gq, 0, none⟩)) ∧ W.cell? ⟨w.heap.size + 1, 1, none⟩ = some (.int .i64 (h1.count : Int))) (by kernel_rfl) HT.out.two (fun hHeld => ?_)
    refine wpAnyH_take (i := 0) (v := .pointer (some ⟨c.gq, 0, none⟩)) (by rfl) (by kernel_rfl) (by kernel_rfl) (by kernel_rfl) (by intro _ _ _ h; exact h) (Or.inl ⟨by rfl, ?_⟩) (by assumption) ?_
    · intro W hSw
      obtain ⟨hS1, hS2⟩ := hSw
      go_simp
      try with_reducible rfl
    simp only [Act.put, List.setIfInBounds_toArray]
    refine wpAnyH_take (i := 1) (v := .pointer (some ⟨c.gq, 0, none⟩)) (by rfl) (by kernel_rfl) (by kernel_rfl) (by kernel_rfl) (by intro _ _ _ h; exact h) (Or.inl ⟨by rfl, ?_⟩) (by assumption) ?_
    · intro W hSw
      obtain ⟨hS1, hS2⟩ := hSw
      go_simp
      try with_reducible rfl
    simp only [Act.put]
    refine wpAnyH_take (i := 2) (v := .pointer (some ⟨c.gq, 9, none⟩)) (by rfl) (by kernel_rfl) (by kernel_rfl) (by kernel_rfl) (by intro _ _ _ h; exact h) (Or.inl ⟨by rfl, ?_⟩) (by assumption) ?_
    · intro W hSw
      obtain ⟨hS1, hS2⟩ := hSw
      go_simp
      try with_reducible rfl
    simp only [Act.put]
    refine wpAnyH_take (i := 4) (v := .pointer (some ⟨w.heap.size + 1, 1, none⟩)) (by rfl) (by kernel_rfl) (by kernel_rfl) (by kernel_rfl) (by intro _ _ _ h; exact h) (Or.inl ⟨by rfl, ?_⟩) (by assumption) ?_
    · intro W hSw
      obtain ⟨hS1, hS2⟩ := hSw
      go_simp
      try with_reducible rfl
    simp only [Act.put]
    refine wpAnyH_take (i := 5) (v := .int .i64 (h1.count : Int)) (by rfl) (by kernel_rfl) (by kernel_rfl) (by kernel_rfl) (by intro _ _ _ h; exact h) (Or.inl ⟨by rfl, ?_⟩) (by assumption) ?_
    · intro W hSw
      obtain ⟨hS1, hS2⟩ := hSw
      go_simp
      try with_reducible rfl
    simp only [Act.put]
    refine wpAnyH_ready (rs := [3]) (by kernel_rfl) (by simp) ?_
    refine AllReadyH.cons (by rfl) (fun K hK => ?_) AllReadyH.nil
    go_simp
    refine hK.out _ _ HT.out.two (fun hHeld2 => ?_)
    clear hK K hHeld
    refine wpAnyH_take (i := 6) (v := .int .i64 ((c.q.out : Int) + (h1.count : Int))) (by rfl) (by kernel_rfl) (by kernel_rfl) (by kernel_rfl) (by intro _ _ _ h; exact h) (Or.inl ⟨by rfl, ?_⟩) (by assumption) ?_
    · intro W hSw
      obtain ⟨hS1, hS2⟩ := hSw
      go_simp
      try with_reducible rfl
    simp only [Act.put]
    refine wpAnyH_take (i := 7) (v := .pointer (some ⟨c.gq, 0, none⟩)) (by rfl) (by kernel_rfl) (by kernel_rfl) (by kernel_rfl) (by intro _ _ _ h; exact h) (Or.inl ⟨by rfl, ?_⟩) (by assumption) ?_
    · intro W hSw
      obtain ⟨hS1, hS2⟩ := hSw
      go_simp
      try with_reducible rfl
    simp only [Act.put]
    refine wpAnyH_take (i := 8) (v := .pointer (some ⟨c.gq, 9, none⟩)) (by rfl) (by kernel_rfl) (by kernel_rfl) (by kernel_rfl) (by intro _ _ _ h; exact h) (Or.inl ⟨by rfl, ?_⟩) (by assumption) ?_
    · intro W hSw
      obtain ⟨hS1, hS2⟩ := hSw
      go_simp
      try with_reducible rfl
    simp only [Act.put]
    refine wpAnyH_ready (rs := [9]) (by kernel_rfl) (by simp) ?_
    refine AllReadyH.cons (by rfl) (fun K hK => ?_) AllReadyH.nil
    go_simp
    have T6 := (HT.out.other HQ.out.blk (by decide) (by decide) (by decide) (by decide) (by decide) 9 (.int .i64 ((c.q.out : Int) + (h1.count : Int)))).keep (Keep.of_below (Below.refl _ _).drew)
    have Q6 := (HQ.out.set 9 (.int .i64 ((c.q.out : Int) + (h1.count : Int))) (q2 := takenQ c.q h1.count) rfl).drew
    refine hK.out _ _ T6.two (fun hHeld4 => ?_)
    clear hK K hHeld2
    refine wpAnyH_done (by kernel_rfl) ?_ _
    refine NoPanic.normal ?_
    obtain ⟨W6, hW6⟩ : ∃ W6, (W5.setCell ⟨c.gq, 9, none⟩ (.int .i64 ((c.q.out : Int) + (h1.count : Int)))).drew = W6 := ⟨_, rfl⟩
    rw [hW6] at Q6 T6 hHeld4 ⊢
    clear hW6 g9 f9 v1 hHeld4
    obtain ⟨p0, p1, p2, p3, p4, p5, z1, z2, z3⟩ := T6.tk.facts
    have HR := Lib.hid (T6.tk.set (.int .i64 (h1.id : Int)) (.int .i64 (h1.count : Int)) (.slice A h1.parts.length cap) true 0)
    have HS := Lib.hid (T6.tk.qn Q6 (Nat.le_trans HB hk) (.int .i64 (h1.id : Int)) (.int .i64 (h1.count : Int)) (.slice A h1.parts.length cap) true 0)
    have HU := Lib.hid (T6.tk.own_set T6.own (.int .i64 (h1.id : Int)) (.int .i64 (h1.count : Int)) (.slice A h1.parts.length cap) true 0)
    clear T6 Q6
    go_wp2_with fail
    exact door_ret HR.out HS.out HU.out _ rfl rfl rfl
end Go.Proofs.Ytoblemgeacllkaa

/-
  The document's Parse of segments of UDP.
-/
import Derived.Test.YtalkpllmcigjnaaMo
namespace Go.Proofs.Ytalkpllmcigjnaa
open Go.RowKit

set_option maxRecDepth 100000 in
set_option maxHeartbeats 3200000 in
theorem rps_udp_good_n (v : Int) (src dst : ByteArray) (proto hops cls id flags off label : Int) (opt body : ByteArray) (w : World) (hp : (proto == 17) = true) (X0 X2 X6 : Nat) (hX0 : nat body 0 2 = X0) (hX2 : nat body 2 2 = X2) (hX6 : nat body 6 2 = X6) (h : 8 ≤ body.size) (hb : body.size ≤ 65535) (h4 : nat body 4 2 = body.size) (hv : (v == 4) = false) (a : Nat) (Xs : Nat) (V : Int) (hV : 0 ≤ V ∧ V ≤ 65535) (hE : ((Xs : Int) != V) = false) (A38 : ∀ W, Calls Try.prog 38 #[.agg #[.int .i64 v, .string src, .string dst, .int .i64 proto, .int .i64 hops, .int .i64 cls, .int .i64 id, .int .i64 flags, .int .i64 off, .int .i64 label, .string opt, .string body]] W fun e w' => e = .returned (.int .i64 a) ∧ Below W.heap.size W w') (A78 : ∀ W, Calls Try.prog 78 #[.string body, .int .i64 a, .int .i64 2] W fun e w' => e = .returned (.int .i64 Xs) ∧ W = w') (A79 : ∀ W, Calls Try.prog 79 #[.agg #[.int .i64 v, .string src, .string dst, .int .i64 proto, .int .i64 hops, .int .i64 cls, .int .i64 id, .int .i64 flags, .int .i64 off, .int .i64 label, .string opt, .string body], .string body] W fun e w' => e = .returned (.int .u16 V) ∧ Below W.heap.size W w') (A1 : ∀ W, Calls Try.prog 77 #[.agg #[.int .i64 v, .string src, .string dst, .int .i64 proto, .int .i64 hops, .int .i64 cls, .int .i64 id, .int .i64 flags, .int .i64 off, .int .i64 label, .string opt, .string body]] W fun e w' => e = .returned (.bool true) ∧ Below W.heap.size W w') : Calls Try.prog 36 #[.agg #[.int .i64 v, .string src, .string dst, .int .i64 proto, .int .i64 hops, .int .i64 cls, .int .i64 id, .int .i64 flags, .int .i64 off, .int .i64 label, .string opt, .string body]] w (SaysG w #[.int .i64 X0, .int .i64 X2, .int .u32 0, .int .u32 0, .int .i64 0, .int .i64 0, .int .i64 0, .string ⟨#[]⟩, .string (body.extract 8 body.size), .bool false] 0) := by
  have hbz : body.size ≤ maxLen := by unfold maxLen; omega
  have d8 : ¬ (body.size : Int) < 8 := by omega
  have q1 : (8 : Int) ≤ body.size := by omega
  have e4 : ((nat body 4 2 : Int) != (body.size : Int)) = false := by rw [h4]; simp
  have A4 : ∀ W, Calls Try.prog 78 #[.string body, .int .i64 4, .int .i64 2] W fun e w' => e = .returned (.int .i64 (nat body 4 2)) ∧ W = w' := fun W => num8_any body 4 2 W hbz (by omega) (by omega) (by omega)
  have A0 : ∀ W, Calls Try.prog 78 #[.string body, .int .i64 0, .int .i64 2] W fun e w' => e = .returned (.int .i64 (nat body 0 2)) ∧ W = w' := fun W => num8_any body 0 2 W hbz (by omega) (by omega) (by omega)
  have A2 : ∀ W, Calls Try.prog 78 #[.string body, .int .i64 2, .int .i64 2] W fun e w' => e = .returned (.int .i64 (nat body 2 2)) ∧ W = w' := fun W => num8_any body 2 2 W hbz (by omega) (by omega) (by omega)
  have A6 : ∀ W, Calls Try.prog 78 #[.string body, .int .i64 6, .int .i64 2] W fun e w' => e = .returned (.int .i64 (nat body 6 2)) ∧ W = w' := fun W => num8_any body 6 2 W hbz (by omega) (by omega) (by omega)
  rw [hX0] at A0
  rw [hX2] at A2
  rw [hX6] at A6
  generalize nat body 4 2 = X4 at *
  have H4 := Lib.hid A4
  have HA0 := Lib.hid A0
  have HA2 := Lib.hid A2
  have HA6 := Lib.hid A6
  clear A4 A0 A2 A6 h4
  have _ := hv
  have H38 := Lib.hid A38
  have H78 := Lib.hid A78
  have H79 := Lib.hid A79
  clear A38 A78 A79
  have wV : IntKind.i64.wrap V = V := IntWalk.i64_in _ (by omega)
  have H1 := Lib.hid A1
  clear A1
  have hN := Two2.new w #[.int .i64 v, .string src, .string dst, .int .i64 proto, .int .i64 hops, .int .i64 cls, .int .i64 id, .int .i64 flags, .int .i64 off, .int .i64 label, .string opt, .string body] #[.int .i64 0, .int .i64 0, .int .u32 0, .int .u32 0, .int .i64 0, .int .i64 0, .int .i64 0, .string ⟨#[]⟩, .string ⟨#[]⟩, .bool false]
  go_enter Try.func36, Try.ntmps36
  go_wp2_with fail
  refine (H1.out _).mono ?_
  rintro e w1 ⟨rfl, hq⟩
  have h1 := hN.next hq
  clear hq hN
  obtain ⟨⟨c0, c1, c2, c3, c4, c5, c6, c7, c8, c9, c10, c11⟩, ⟨g0, g1, g2, g3, g4, g5, g6, g7, g8, g9⟩⟩ := h1.cells
  have fr := h1.g.frozen
  have hB := h1.below
  have hzr := h1.g.lt
  have hz0 : w.heap.size < w1.heap.size := by omega
  have hne0 : w.heap.size ≠ w1.heap.size := by omega
  have hne1 : w.heap.size + 1 ≠ w1.heap.size := by omega
  go_wp2_with (go_at_call 78; (with_reducible refine (H4.out _).mono ?_); rintro e w' ⟨rfl, rfl⟩)
  have hF : RF w w1.heap.size #[.int .i64 v, .string src, .string dst, .int .i64 proto, .int .i64 hops, .int .i64 cls, .int .i64 id, .int .i64 flags, .int .i64 off, .int .i64 label, .string opt, .string body] (w1.alloc (.cells #[.int .i64 0, .int .i64 0, .int .u32 0, .int .u32 0, .int .i64 0, .int .i64 0, .int .i64 0, .string ⟨#[]⟩, .string ⟨#[]⟩, .bool false] 39)) := ⟨h1.p.alloc _, h1.g.alloc _, ⟨_, _, _, _, _, _, _, _, _, _, Blk.new w1 39 _⟩, hB.alloc (by omega) _, hzr⟩
  clear c0 c1 c2 c3 c4 c5 c6 c7 c8 c9 c10 c11 g0 g1 g2 g3 g4 g5 g6 g7 g8 g9 fr hB h1
  generalize w1.alloc (.cells #[.int .i64 0, .int .i64 0, .int .u32 0, .int .u32 0, .int .i64 0, .int .i64 0, .int .i64 0, .string ⟨#[]⟩, .string ⟨#[]⟩, .bool false] 39) = W1 at *
  have hF0 := hF.on (Below.drew (Below.refl _ W1))
  obtain ⟨⟨c0, c1, c2, c3, c4, c5, c6, c7, c8, c9, c10, c11⟩, g0, g1, g2, g3, g4, g5, g6, g7, g8, g9, gf⟩ := hF0.cells
  go_still_tail 15, (by kernel_rfl)
  still_call ((HA0.out _).mono fun e w' ⟨he, hw⟩ => ⟨he, hw.symm⟩)
  repeat still_step
  still_call ((HA2.out _).mono fun e w' ⟨he, hw⟩ => ⟨he, hw.symm⟩)
  repeat still_step
  refine wpStill_nil ?_
  change wpList _ _ _ _ _ W1.drew
  have hF2 := hF.on (Below.drew (Below.refl _ W1))
  clear hF hF0
  generalize W1.drew = W2 at *
  clear c0 c1 c2 c3 c4 c5 c6 c7 c8 c9 c10 c11 g0 g1 g2 g3 g4 g5 g6 g7 g8 g9 gf
  obtain ⟨⟨c0, c1, c2, c3, c4, c5, c6, c7, c8, c9, c10, c11⟩, g0, g1, g2, g3, g4, g5, g6, g7, g8, g9, gf⟩ := hF2.cells
  go_wp2_with fail
  have hG := hF2.fill (.int .i64 X0) (.int .i64 X2) (.int .u32 0) (.int .u32 0) (.int .i64 0) (.int .i64 0) (.int .i64 0) (.string ⟨#[]⟩) (.string (body.extract 8 body.size)) (.bool false)
  clear hF2
  clear c0 c1 c2 c3 c4 c5 c6 c7 c8 c9 c10 c11 g0 g1 g2 g3 g4 g5 g6 g7 g8 g9 gf
  generalize ((((((((((W2.setCell ⟨w1.heap.size, 0, none⟩ (.int .i64 X0)).setCell ⟨w1.heap.size, 1, none⟩ (.int .i64 X2)).setCell ⟨w1.heap.size, 2, none⟩ (.int .u32 0)).setCell ⟨w1.heap.size, 3, none⟩ (.int .u32 0)).setCell ⟨w1.heap.size, 4, none⟩ (.int .i64 0)).setCell ⟨w1.heap.size, 5, none⟩ (.int .i64 0)).setCell ⟨w1.heap.size, 6, none⟩ (.int .i64 0)).setCell ⟨w1.heap.size, 7, none⟩ (.string ⟨#[]⟩)).setCell ⟨w1.heap.size, 8, none⟩ (.string (body.extract 8 body.size))).setCell ⟨w1.heap.size, 9, none⟩ (.bool false)) = W3 at *
  have d0 := rg_here hG
  go_region_held3 (fun w' => ((w'.cell? ⟨w.heap.size, 0, none⟩ = some (.int .i64 v) ∧ w'.cell? ⟨w.heap.size, 1, none⟩ = some (.string src) ∧ w'.cell? ⟨w.heap.size, 2, none⟩ = some (.string dst) ∧ w'.cell? ⟨w.heap.size, 3, none⟩ = some (.int .i64 proto) ∧ w'.cell? ⟨w.heap.size, 4, none⟩ = some (.int .i64 hops) ∧ w'.cell? ⟨w.heap.size, 5, none⟩ = some (.int .i64 cls) ∧ w'.cell? ⟨w.heap.size, 6, none⟩ = some (.int .i64 id) ∧ w'.cell? ⟨w.heap.size, 7, none⟩ = some (.int .i64 flags) ∧ w'.cell? ⟨w.heap.size, 8, none⟩ = some (.int .i64 off) ∧ w'.cell? ⟨w.heap.size, 9, none⟩ = some (.int .i64 label) ∧ w'.cell? ⟨w.heap.size, 10, none⟩ = some (.string opt) ∧ w'.cell? ⟨w.heap.size, 11, none⟩ = some (.string body)) ∧ w'.cell? ⟨w1.heap.size, 9, none⟩ = some (.bool false)) ∧ RG w w1.heap.size #[.int .i64 v, .string src, .string dst, .int .i64 proto, .int .i64 hops, .int .i64 cls, .int .i64 id, .int .i64 flags, .int .i64 off, .int .i64 label, .string opt, .string body] #[.int .i64 X0, .int .i64 X2, .int .u32 0, .int .u32 0, .int .i64 0, .int .i64 0, .int .i64 0, .string ⟨#[]⟩, .string (body.extract 8 body.size), .bool false] w')
    (first | (with_reducible exact d0) | (with_reducible exact rg_on (by assumption) hq) | (with_reducible assumption))
    (first | (go_at_call 38; (with_reducible refine (H38.out _).mono ?_); rintro e w' ⟨rfl, hq⟩) | (go_at_call 78; (with_reducible refine (H78.out _).mono ?_); rintro e w' ⟨rfl, rfl⟩) | (go_at_call 79; (with_reducible refine (H79.out _).mono ?_); rintro e w' ⟨rfl, hq⟩))
  all_goals
    rename_i hH
    have hG2 := hH.2
    clear hH d0 hG
    have _fr := hG2.res.frozen
    have r0 := hG2.res.cell 0
    have k0 := hG2.gb.cell 0
    have r1 := hG2.res.cell 1
    have k1 := hG2.gb.cell 1
    have r2 := hG2.res.cell 2
    have k2 := hG2.gb.cell 2
    have r3 := hG2.res.cell 3
    have k3 := hG2.gb.cell 3
    have r4 := hG2.res.cell 4
    have k4 := hG2.gb.cell 4
    have r5 := hG2.res.cell 5
    have k5 := hG2.gb.cell 5
    have r6 := hG2.res.cell 6
    have k6 := hG2.gb.cell 6
    have r7 := hG2.res.cell 7
    have k7 := hG2.gb.cell 7
    have r8 := hG2.res.cell 8
    have k8 := hG2.gb.cell 8
    have r9 := hG2.res.cell 9
    have k9 := hG2.gb.cell 9
    simp only [List.getElem?_toArray, List.getElem?_cons_zero, List.getElem?_cons_succ] at r0 k0 r1 k1 r2 k2 r3 k3 r4 k4 r5 k5 r6 k6 r7 k7 r8 k8 r9 k9
    go_wp2_with fail
    exact bodyPost_ret (v := .tuple #[.agg #[.int .i64 X0, .int .i64 X2, .int .u32 0, .int .u32 0, .int .i64 0, .int .i64 0, .int .i64 0, .string ⟨#[]⟩, .string (body.extract 8 body.size), .bool false], .int .i64 0]) (rps_results _ _ (w.heap.size + 1) rfl rfl (set10 hG2.res (.int .i64 X0) (.int .i64 X2) (.int .u32 0) (.int .u32 0) (.int .i64 0) (.int .i64 0) (.int .i64 0) (.string ⟨#[]⟩) (.string (body.extract 8 body.size)) (.bool false))) rfl ⟨rfl, below10 hG2.below (by omega : w.heap.size ≤ w.heap.size + 1) (.int .i64 X0) (.int .i64 X2) (.int .u32 0) (.int .u32 0) (.int .i64 0) (.int .i64 0) (.int .i64 0) (.string ⟨#[]⟩) (.string (body.extract 8 body.size)) (.bool false)⟩
set_option maxRecDepth 100000 in
set_option maxHeartbeats 3200000 in
theorem rps_udp_sum_n (v : Int) (src dst : ByteArray) (proto hops cls id flags off label : Int) (opt body : ByteArray) (w : World) (hp : (proto == 17) = true) (X0 X2 X6 : Nat) (hX0 : nat body 0 2 = X0) (hX2 : nat body 2 2 = X2) (hX6 : nat body 6 2 = X6) (h : 8 ≤ body.size) (hb : body.size ≤ 65535) (h4 : nat body 4 2 = body.size) (hv : (v == 4) = false) (a : Nat) (Xs : Nat) (V : Int) (hV : 0 ≤ V ∧ V ≤ 65535) (hE : ((Xs : Int) != V) = true) (A38 : ∀ W, Calls Try.prog 38 #[.agg #[.int .i64 v, .string src, .string dst, .int .i64 proto, .int .i64 hops, .int .i64 cls, .int .i64 id, .int .i64 flags, .int .i64 off, .int .i64 label, .string opt, .string body]] W fun e w' => e = .returned (.int .i64 a) ∧ Below W.heap.size W w') (A78 : ∀ W, Calls Try.prog 78 #[.string body, .int .i64 a, .int .i64 2] W fun e w' => e = .returned (.int .i64 Xs) ∧ W = w') (A79 : ∀ W, Calls Try.prog 79 #[.agg #[.int .i64 v, .string src, .string dst, .int .i64 proto, .int .i64 hops, .int .i64 cls, .int .i64 id, .int .i64 flags, .int .i64 off, .int .i64 label, .string opt, .string body], .string body] W fun e w' => e = .returned (.int .u16 V) ∧ Below W.heap.size W w') (A1 : ∀ W, Calls Try.prog 77 #[.agg #[.int .i64 v, .string src, .string dst, .int .i64 proto, .int .i64 hops, .int .i64 cls, .int .i64 id, .int .i64 flags, .int .i64 off, .int .i64 label, .string opt, .string body]] W fun e w' => e = .returned (.bool true) ∧ Below W.heap.size W w') : Calls Try.prog 36 #[.agg #[.int .i64 v, .string src, .string dst, .int .i64 proto, .int .i64 hops, .int .i64 cls, .int .i64 id, .int .i64 flags, .int .i64 off, .int .i64 label, .string opt, .string body]] w (SaysG w #[.int .i64 0, .int .i64 0, .int .u32 0, .int .u32 0, .int .i64 0, .int .i64 0, .int .i64 0, .string ⟨#[]⟩, .string ⟨#[]⟩, .bool false] 82) := by
  have hbz : body.size ≤ maxLen := by unfold maxLen; omega
  have d8 : ¬ (body.size : Int) < 8 := by omega
  have q1 : (8 : Int) ≤ body.size := by omega
  have e4 : ((nat body 4 2 : Int) != (body.size : Int)) = false := by rw [h4]; simp
  have A4 : ∀ W, Calls Try.prog 78 #[.string body, .int .i64 4, .int .i64 2] W fun e w' => e = .returned (.int .i64 (nat body 4 2)) ∧ W = w' := fun W => num8_any body 4 2 W hbz (by omega) (by omega) (by omega)
  have A0 : ∀ W, Calls Try.prog 78 #[.string body, .int .i64 0, .int .i64 2] W fun e w' => e = .returned (.int .i64 (nat body 0 2)) ∧ W = w' := fun W => num8_any body 0 2 W hbz (by omega) (by omega) (by omega)
  have A2 : ∀ W, Calls Try.prog 78 #[.string body, .int .i64 2, .int .i64 2] W fun e w' => e = .returned (.int .i64 (nat body 2 2)) ∧ W = w' := fun W => num8_any body 2 2 W hbz (by omega) (by omega) (by omega)
  have A6 : ∀ W, Calls Try.prog 78 #[.string body, .int .i64 6, .int .i64 2] W fun e w' => e = .returned (.int .i64 (nat body 6 2)) ∧ W = w' := fun W => num8_any body 6 2 W hbz (by omega) (by omega) (by omega)
  rw [hX0] at A0
  rw [hX2] at A2
  rw [hX6] at A6
  generalize nat body 4 2 = X4 at *
  have H4 := Lib.hid A4
  have HA0 := Lib.hid A0
  have HA2 := Lib.hid A2
  have HA6 := Lib.hid A6
  clear A4 A0 A2 A6 h4
  have _ := hv
  have H38 := Lib.hid A38
  have H78 := Lib.hid A78
  have H79 := Lib.hid A79
  clear A38 A78 A79
  have wV : IntKind.i64.wrap V = V := IntWalk.i64_in _ (by omega)
  have H1 := Lib.hid A1
  clear A1
  have hN := Two2.new w #[.int .i64 v, .string src, .string dst, .int .i64 proto, .int .i64 hops, .int .i64 cls, .int .i64 id, .int .i64 flags, .int .i64 off, .int .i64 label, .string opt, .string body] #[.int .i64 0, .int .i64 0, .int .u32 0, .int .u32 0, .int .i64 0, .int .i64 0, .int .i64 0, .string ⟨#[]⟩, .string ⟨#[]⟩, .bool false]
  go_enter Try.func36, Try.ntmps36
  go_wp2_with fail
  refine (H1.out _).mono ?_
  rintro e w1 ⟨rfl, hq⟩
  have h1 := hN.next hq
  clear hq hN
  obtain ⟨⟨c0, c1, c2, c3, c4, c5, c6, c7, c8, c9, c10, c11⟩, ⟨g0, g1, g2, g3, g4, g5, g6, g7, g8, g9⟩⟩ := h1.cells
  have fr := h1.g.frozen
  have hB := h1.below
  have hzr := h1.g.lt
  have hz0 : w.heap.size < w1.heap.size := by omega
  have hne0 : w.heap.size ≠ w1.heap.size := by omega
  have hne1 : w.heap.size + 1 ≠ w1.heap.size := by omega
  go_wp2_with (go_at_call 78; (with_reducible refine (H4.out _).mono ?_); rintro e w' ⟨rfl, rfl⟩)
  have hF : RF w w1.heap.size #[.int .i64 v, .string src, .string dst, .int .i64 proto, .int .i64 hops, .int .i64 cls, .int .i64 id, .int .i64 flags, .int .i64 off, .int .i64 label, .string opt, .string body] (w1.alloc (.cells #[.int .i64 0, .int .i64 0, .int .u32 0, .int .u32 0, .int .i64 0, .int .i64 0, .int .i64 0, .string ⟨#[]⟩, .string ⟨#[]⟩, .bool false] 39)) := ⟨h1.p.alloc _, h1.g.alloc _, ⟨_, _, _, _, _, _, _, _, _, _, Blk.new w1 39 _⟩, hB.alloc (by omega) _, hzr⟩
  clear c0 c1 c2 c3 c4 c5 c6 c7 c8 c9 c10 c11 g0 g1 g2 g3 g4 g5 g6 g7 g8 g9 fr hB h1
  generalize w1.alloc (.cells #[.int .i64 0, .int .i64 0, .int .u32 0, .int .u32 0, .int .i64 0, .int .i64 0, .int .i64 0, .string ⟨#[]⟩, .string ⟨#[]⟩, .bool false] 39) = W1 at *
  have hF0 := hF.on (Below.drew (Below.refl _ W1))
  obtain ⟨⟨c0, c1, c2, c3, c4, c5, c6, c7, c8, c9, c10, c11⟩, g0, g1, g2, g3, g4, g5, g6, g7, g8, g9, gf⟩ := hF0.cells
  go_still_tail 15, (by kernel_rfl)
  still_call ((HA0.out _).mono fun e w' ⟨he, hw⟩ => ⟨he, hw.symm⟩)
  repeat still_step
  still_call ((HA2.out _).mono fun e w' ⟨he, hw⟩ => ⟨he, hw.symm⟩)
  repeat still_step
  refine wpStill_nil ?_
  change wpList _ _ _ _ _ W1.drew
  have hF2 := hF.on (Below.drew (Below.refl _ W1))
  clear hF hF0
  generalize W1.drew = W2 at *
  clear c0 c1 c2 c3 c4 c5 c6 c7 c8 c9 c10 c11 g0 g1 g2 g3 g4 g5 g6 g7 g8 g9 gf
  obtain ⟨⟨c0, c1, c2, c3, c4, c5, c6, c7, c8, c9, c10, c11⟩, g0, g1, g2, g3, g4, g5, g6, g7, g8, g9, gf⟩ := hF2.cells
  go_wp2_with fail
  have hG := hF2.fill (.int .i64 X0) (.int .i64 X2) (.int .u32 0) (.int .u32 0) (.int .i64 0) (.int .i64 0) (.int .i64 0) (.string ⟨#[]⟩) (.string (body.extract 8 body.size)) (.bool false)
  clear hF2
  clear c0 c1 c2 c3 c4 c5 c6 c7 c8 c9 c10 c11 g0 g1 g2 g3 g4 g5 g6 g7 g8 g9 gf
  generalize ((((((((((W2.setCell ⟨w1.heap.size, 0, none⟩ (.int .i64 X0)).setCell ⟨w1.heap.size, 1, none⟩ (.int .i64 X2)).setCell ⟨w1.heap.size, 2, none⟩ (.int .u32 0)).setCell ⟨w1.heap.size, 3, none⟩ (.int .u32 0)).setCell ⟨w1.heap.size, 4, none⟩ (.int .i64 0)).setCell ⟨w1.heap.size, 5, none⟩ (.int .i64 0)).setCell ⟨w1.heap.size, 6, none⟩ (.int .i64 0)).setCell ⟨w1.heap.size, 7, none⟩ (.string ⟨#[]⟩)).setCell ⟨w1.heap.size, 8, none⟩ (.string (body.extract 8 body.size))).setCell ⟨w1.heap.size, 9, none⟩ (.bool false)) = W3 at *
  have d0 := rg_here hG
  go_region_held3 (fun w' => ((w'.cell? ⟨w.heap.size, 0, none⟩ = some (.int .i64 v) ∧ w'.cell? ⟨w.heap.size, 1, none⟩ = some (.string src) ∧ w'.cell? ⟨w.heap.size, 2, none⟩ = some (.string dst) ∧ w'.cell? ⟨w.heap.size, 3, none⟩ = some (.int .i64 proto) ∧ w'.cell? ⟨w.heap.size, 4, none⟩ = some (.int .i64 hops) ∧ w'.cell? ⟨w.heap.size, 5, none⟩ = some (.int .i64 cls) ∧ w'.cell? ⟨w.heap.size, 6, none⟩ = some (.int .i64 id) ∧ w'.cell? ⟨w.heap.size, 7, none⟩ = some (.int .i64 flags) ∧ w'.cell? ⟨w.heap.size, 8, none⟩ = some (.int .i64 off) ∧ w'.cell? ⟨w.heap.size, 9, none⟩ = some (.int .i64 label) ∧ w'.cell? ⟨w.heap.size, 10, none⟩ = some (.string opt) ∧ w'.cell? ⟨w.heap.size, 11, none⟩ = some (.string body)) ∧ w'.cell? ⟨w1.heap.size, 9, none⟩ = some (.bool false)) ∧ RG w w1.heap.size #[.int .i64 v, .string src, .string dst, .int .i64 proto, .int .i64 hops, .int .i64 cls, .int .i64 id, .int .i64 flags, .int .i64 off, .int .i64 label, .string opt, .string body] #[.int .i64 X0, .int .i64 X2, .int .u32 0, .int .u32 0, .int .i64 0, .int .i64 0, .int .i64 0, .string ⟨#[]⟩, .string (body.extract 8 body.size), .bool false] w')
    (first | (with_reducible exact d0) | (with_reducible exact rg_on (by assumption) hq) | (with_reducible assumption))
    (first | (go_at_call 38; (with_reducible refine (H38.out _).mono ?_); rintro e w' ⟨rfl, hq⟩) | (go_at_call 78; (with_reducible refine (H78.out _).mono ?_); rintro e w' ⟨rfl, rfl⟩) | (go_at_call 79; (with_reducible refine (H79.out _).mono ?_); rintro e w' ⟨rfl, hq⟩))
  all_goals
    rename_i hH
    have hG2 := hH.2
    clear hH d0 hG
    have _fr := hG2.res.frozen
    have r0 := hG2.res.cell 0
    have k0 := hG2.gb.cell 0
    have r1 := hG2.res.cell 1
    have k1 := hG2.gb.cell 1
    have r2 := hG2.res.cell 2
    have k2 := hG2.gb.cell 2
    have r3 := hG2.res.cell 3
    have k3 := hG2.gb.cell 3
    have r4 := hG2.res.cell 4
    have k4 := hG2.gb.cell 4
    have r5 := hG2.res.cell 5
    have k5 := hG2.gb.cell 5
    have r6 := hG2.res.cell 6
    have k6 := hG2.gb.cell 6
    have r7 := hG2.res.cell 7
    have k7 := hG2.gb.cell 7
    have r8 := hG2.res.cell 8
    have k8 := hG2.gb.cell 8
    have r9 := hG2.res.cell 9
    have k9 := hG2.gb.cell 9
    simp only [List.getElem?_toArray, List.getElem?_cons_zero, List.getElem?_cons_succ] at r0 k0 r1 k1 r2 k2 r3 k3 r4 k4 r5 k5 r6 k6 r7 k7 r8 k8 r9 k9
    go_wp2_with fail
    exact bodyPost_ret (v := .tuple #[.agg #[.int .i64 0, .int .i64 0, .int .u32 0, .int .u32 0, .int .i64 0, .int .i64 0, .int .i64 0, .string ⟨#[]⟩, .string ⟨#[]⟩, .bool false], .int .i64 82]) (rps_results _ _ (w.heap.size + 1) rfl rfl (set10 hG2.res (.int .i64 0) (.int .i64 0) (.int .u32 0) (.int .u32 0) (.int .i64 0) (.int .i64 0) (.int .i64 0) (.string ⟨#[]⟩) (.string ⟨#[]⟩) (.bool false))) rfl ⟨rfl, below10 hG2.below (by omega : w.heap.size ≤ w.heap.size + 1) (.int .i64 0) (.int .i64 0) (.int .u32 0) (.int .u32 0) (.int .i64 0) (.int .i64 0) (.int .i64 0) (.string ⟨#[]⟩) (.string ⟨#[]⟩) (.bool false)⟩
set_option maxRecDepth 100000 in
set_option maxHeartbeats 3200000 in
theorem rps_udp_good_4 (src dst : ByteArray) (proto hops cls id flags off label : Int) (opt body : ByteArray) (w : World) (hp : (proto == 17) = true) (X0 X2 X6 : Nat) (hX0 : nat body 0 2 = X0) (hX2 : nat body 2 2 = X2) (hX6 : nat body 6 2 = X6) (h : 8 ≤ body.size) (hb : body.size ≤ 65535) (h4 : nat body 4 2 = body.size) (a : Nat) (Xs : Nat) (V : Int) (hV : 0 ≤ V ∧ V ≤ 65535) (hE : ((Xs : Int) != V) = false) (A38 : ∀ W, Calls Try.prog 38 #[.agg #[.int .i64 4, .string src, .string dst, .int .i64 proto, .int .i64 hops, .int .i64 cls, .int .i64 id, .int .i64 flags, .int .i64 off, .int .i64 label, .string opt, .string body]] W fun e w' => e = .returned (.int .i64 a) ∧ Below W.heap.size W w') (A78 : ∀ W, Calls Try.prog 78 #[.string body, .int .i64 a, .int .i64 2] W fun e w' => e = .returned (.int .i64 Xs) ∧ W = w') (A79 : ∀ W, Calls Try.prog 79 #[.agg #[.int .i64 4, .string src, .string dst, .int .i64 proto, .int .i64 hops, .int .i64 cls, .int .i64 id, .int .i64 flags, .int .i64 off, .int .i64 label, .string opt, .string body], .string body] W fun e w' => e = .returned (.int .u16 V) ∧ Below W.heap.size W w') (h6 : X6 ≠ 0) (A1 : ∀ W, Calls Try.prog 77 #[.agg #[.int .i64 4, .string src, .string dst, .int .i64 proto, .int .i64 hops, .int .i64 cls, .int .i64 id, .int .i64 flags, .int .i64 off, .int .i64 label, .string opt, .string body]] W fun e w' => e = .returned (.bool true) ∧ Below W.heap.size W w') : Calls Try.prog 36 #[.agg #[.int .i64 4, .string src, .string dst, .int .i64 proto, .int .i64 hops, .int .i64 cls, .int .i64 id, .int .i64 flags, .int .i64 off, .int .i64 label, .string opt, .string body]] w (SaysG w #[.int .i64 X0, .int .i64 X2, .int .u32 0, .int .u32 0, .int .i64 0, .int .i64 0, .int .i64 0, .string ⟨#[]⟩, .string (body.extract 8 body.size), .bool false] 0) := by
  have hbz : body.size ≤ maxLen := by unfold maxLen; omega
  have d8 : ¬ (body.size : Int) < 8 := by omega
  have q1 : (8 : Int) ≤ body.size := by omega
  have e4 : ((nat body 4 2 : Int) != (body.size : Int)) = false := by rw [h4]; simp
  have A4 : ∀ W, Calls Try.prog 78 #[.string body, .int .i64 4, .int .i64 2] W fun e w' => e = .returned (.int .i64 (nat body 4 2)) ∧ W = w' := fun W => num8_any body 4 2 W hbz (by omega) (by omega) (by omega)
  have A0 : ∀ W, Calls Try.prog 78 #[.string body, .int .i64 0, .int .i64 2] W fun e w' => e = .returned (.int .i64 (nat body 0 2)) ∧ W = w' := fun W => num8_any body 0 2 W hbz (by omega) (by omega) (by omega)
  have A2 : ∀ W, Calls Try.prog 78 #[.string body, .int .i64 2, .int .i64 2] W fun e w' => e = .returned (.int .i64 (nat body 2 2)) ∧ W = w' := fun W => num8_any body 2 2 W hbz (by omega) (by omega) (by omega)
  have A6 : ∀ W, Calls Try.prog 78 #[.string body, .int .i64 6, .int .i64 2] W fun e w' => e = .returned (.int .i64 (nat body 6 2)) ∧ W = w' := fun W => num8_any body 6 2 W hbz (by omega) (by omega) (by omega)
  rw [hX0] at A0
  rw [hX2] at A2
  rw [hX6] at A6
  generalize nat body 4 2 = X4 at *
  have H4 := Lib.hid A4
  have HA0 := Lib.hid A0
  have HA2 := Lib.hid A2
  have HA6 := Lib.hid A6
  clear A4 A0 A2 A6 h4
  have e6 : ((X6 : Int) == 0) = false := by simpa using (by omega : (X6 : Int) ≠ 0)
  have H38 := Lib.hid A38
  have H78 := Lib.hid A78
  have H79 := Lib.hid A79
  clear A38 A78 A79
  have wV : IntKind.i64.wrap V = V := IntWalk.i64_in _ (by omega)
  have H1 := Lib.hid A1
  clear A1
  have hN := Two2.new w #[.int .i64 4, .string src, .string dst, .int .i64 proto, .int .i64 hops, .int .i64 cls, .int .i64 id, .int .i64 flags, .int .i64 off, .int .i64 label, .string opt, .string body] #[.int .i64 0, .int .i64 0, .int .u32 0, .int .u32 0, .int .i64 0, .int .i64 0, .int .i64 0, .string ⟨#[]⟩, .string ⟨#[]⟩, .bool false]
  go_enter Try.func36, Try.ntmps36
  go_wp2_with fail
  refine (H1.out _).mono ?_
  rintro e w1 ⟨rfl, hq⟩
  have h1 := hN.next hq
  clear hq hN
  obtain ⟨⟨c0, c1, c2, c3, c4, c5, c6, c7, c8, c9, c10, c11⟩, ⟨g0, g1, g2, g3, g4, g5, g6, g7, g8, g9⟩⟩ := h1.cells
  have fr := h1.g.frozen
  have hB := h1.below
  have hzr := h1.g.lt
  have hz0 : w.heap.size < w1.heap.size := by omega
  have hne0 : w.heap.size ≠ w1.heap.size := by omega
  have hne1 : w.heap.size + 1 ≠ w1.heap.size := by omega
  go_wp2_with (go_at_call 78; (with_reducible refine (H4.out _).mono ?_); rintro e w' ⟨rfl, rfl⟩)
  have hF : RF w w1.heap.size #[.int .i64 4, .string src, .string dst, .int .i64 proto, .int .i64 hops, .int .i64 cls, .int .i64 id, .int .i64 flags, .int .i64 off, .int .i64 label, .string opt, .string body] (w1.alloc (.cells #[.int .i64 0, .int .i64 0, .int .u32 0, .int .u32 0, .int .i64 0, .int .i64 0, .int .i64 0, .string ⟨#[]⟩, .string ⟨#[]⟩, .bool false] 39)) := ⟨h1.p.alloc _, h1.g.alloc _, ⟨_, _, _, _, _, _, _, _, _, _, Blk.new w1 39 _⟩, hB.alloc (by omega) _, hzr⟩
  clear c0 c1 c2 c3 c4 c5 c6 c7 c8 c9 c10 c11 g0 g1 g2 g3 g4 g5 g6 g7 g8 g9 fr hB h1
  generalize w1.alloc (.cells #[.int .i64 0, .int .i64 0, .int .u32 0, .int .u32 0, .int .i64 0, .int .i64 0, .int .i64 0, .string ⟨#[]⟩, .string ⟨#[]⟩, .bool false] 39) = W1 at *
  have hF0 := hF.on (Below.drew (Below.refl _ W1))
  obtain ⟨⟨c0, c1, c2, c3, c4, c5, c6, c7, c8, c9, c10, c11⟩, g0, g1, g2, g3, g4, g5, g6, g7, g8, g9, gf⟩ := hF0.cells
  go_still_tail 15, (by kernel_rfl)
  still_call ((HA0.out _).mono fun e w' ⟨he, hw⟩ => ⟨he, hw.symm⟩)
  repeat still_step
  still_call ((HA2.out _).mono fun e w' ⟨he, hw⟩ => ⟨he, hw.symm⟩)
  repeat still_step
  still_call ((HA6.out _).mono fun e w' ⟨he, hw⟩ => ⟨he, hw.symm⟩)
  repeat still_step
  refine wpStill_nil ?_
  change wpList _ _ _ _ _ W1.drew
  have hF2 := hF.on (Below.drew (Below.refl _ W1))
  clear hF hF0
  generalize W1.drew = W2 at *
  clear c0 c1 c2 c3 c4 c5 c6 c7 c8 c9 c10 c11 g0 g1 g2 g3 g4 g5 g6 g7 g8 g9 gf
  obtain ⟨⟨c0, c1, c2, c3, c4, c5, c6, c7, c8, c9, c10, c11⟩, g0, g1, g2, g3, g4, g5, g6, g7, g8, g9, gf⟩ := hF2.cells
  go_wp2_with fail
  have hG := hF2.fill (.int .i64 X0) (.int .i64 X2) (.int .u32 0) (.int .u32 0) (.int .i64 0) (.int .i64 0) (.int .i64 0) (.string ⟨#[]⟩) (.string (body.extract 8 body.size)) (.bool false)
  clear hF2
  clear c0 c1 c2 c3 c4 c5 c6 c7 c8 c9 c10 c11 g0 g1 g2 g3 g4 g5 g6 g7 g8 g9 gf
  generalize ((((((((((W2.setCell ⟨w1.heap.size, 0, none⟩ (.int .i64 X0)).setCell ⟨w1.heap.size, 1, none⟩ (.int .i64 X2)).setCell ⟨w1.heap.size, 2, none⟩ (.int .u32 0)).setCell ⟨w1.heap.size, 3, none⟩ (.int .u32 0)).setCell ⟨w1.heap.size, 4, none⟩ (.int .i64 0)).setCell ⟨w1.heap.size, 5, none⟩ (.int .i64 0)).setCell ⟨w1.heap.size, 6, none⟩ (.int .i64 0)).setCell ⟨w1.heap.size, 7, none⟩ (.string ⟨#[]⟩)).setCell ⟨w1.heap.size, 8, none⟩ (.string (body.extract 8 body.size))).setCell ⟨w1.heap.size, 9, none⟩ (.bool false)) = W3 at *
  have d0 := rg_here hG
  go_region_held3 (fun w' => ((w'.cell? ⟨w.heap.size, 0, none⟩ = some (.int .i64 4) ∧ w'.cell? ⟨w.heap.size, 1, none⟩ = some (.string src) ∧ w'.cell? ⟨w.heap.size, 2, none⟩ = some (.string dst) ∧ w'.cell? ⟨w.heap.size, 3, none⟩ = some (.int .i64 proto) ∧ w'.cell? ⟨w.heap.size, 4, none⟩ = some (.int .i64 hops) ∧ w'.cell? ⟨w.heap.size, 5, none⟩ = some (.int .i64 cls) ∧ w'.cell? ⟨w.heap.size, 6, none⟩ = some (.int .i64 id) ∧ w'.cell? ⟨w.heap.size, 7, none⟩ = some (.int .i64 flags) ∧ w'.cell? ⟨w.heap.size, 8, none⟩ = some (.int .i64 off) ∧ w'.cell? ⟨w.heap.size, 9, none⟩ = some (.int .i64 label) ∧ w'.cell? ⟨w.heap.size, 10, none⟩ = some (.string opt) ∧ w'.cell? ⟨w.heap.size, 11, none⟩ = some (.string body)) ∧ w'.cell? ⟨w1.heap.size, 9, none⟩ = some (.bool false)) ∧ RG w w1.heap.size #[.int .i64 4, .string src, .string dst, .int .i64 proto, .int .i64 hops, .int .i64 cls, .int .i64 id, .int .i64 flags, .int .i64 off, .int .i64 label, .string opt, .string body] #[.int .i64 X0, .int .i64 X2, .int .u32 0, .int .u32 0, .int .i64 0, .int .i64 0, .int .i64 0, .string ⟨#[]⟩, .string (body.extract 8 body.size), .bool false] w')
    (first | (with_reducible exact d0) | (with_reducible exact rg_on (by assumption) hq) | (with_reducible assumption))
    (first | (go_at_call 38; (with_reducible refine (H38.out _).mono ?_); rintro e w' ⟨rfl, hq⟩) | (go_at_call 78; (with_reducible refine (H78.out _).mono ?_); rintro e w' ⟨rfl, rfl⟩) | (go_at_call 79; (with_reducible refine (H79.out _).mono ?_); rintro e w' ⟨rfl, hq⟩))
  all_goals
    rename_i hH
    have hG2 := hH.2
    clear hH d0 hG
    have _fr := hG2.res.frozen
    have r0 := hG2.res.cell 0
    have k0 := hG2.gb.cell 0
    have r1 := hG2.res.cell 1
    have k1 := hG2.gb.cell 1
    have r2 := hG2.res.cell 2
    have k2 := hG2.gb.cell 2
    have r3 := hG2.res.cell 3
    have k3 := hG2.gb.cell 3
    have r4 := hG2.res.cell 4
    have k4 := hG2.gb.cell 4
    have r5 := hG2.res.cell 5
    have k5 := hG2.gb.cell 5
    have r6 := hG2.res.cell 6
    have k6 := hG2.gb.cell 6
    have r7 := hG2.res.cell 7
    have k7 := hG2.gb.cell 7
    have r8 := hG2.res.cell 8
    have k8 := hG2.gb.cell 8
    have r9 := hG2.res.cell 9
    have k9 := hG2.gb.cell 9
    simp only [List.getElem?_toArray, List.getElem?_cons_zero, List.getElem?_cons_succ] at r0 k0 r1 k1 r2 k2 r3 k3 r4 k4 r5 k5 r6 k6 r7 k7 r8 k8 r9 k9
    go_wp2_with fail
    exact bodyPost_ret (v := .tuple #[.agg #[.int .i64 X0, .int .i64 X2, .int .u32 0, .int .u32 0, .int .i64 0, .int .i64 0, .int .i64 0, .string ⟨#[]⟩, .string (body.extract 8 body.size), .bool false], .int .i64 0]) (rps_results _ _ (w.heap.size + 1) rfl rfl (set10 hG2.res (.int .i64 X0) (.int .i64 X2) (.int .u32 0) (.int .u32 0) (.int .i64 0) (.int .i64 0) (.int .i64 0) (.string ⟨#[]⟩) (.string (body.extract 8 body.size)) (.bool false))) rfl ⟨rfl, below10 hG2.below (by omega : w.heap.size ≤ w.heap.size + 1) (.int .i64 X0) (.int .i64 X2) (.int .u32 0) (.int .u32 0) (.int .i64 0) (.int .i64 0) (.int .i64 0) (.string ⟨#[]⟩) (.string (body.extract 8 body.size)) (.bool false)⟩
set_option maxRecDepth 100000 in
set_option maxHeartbeats 3200000 in
theorem rps_udp_sum_4 (src dst : ByteArray) (proto hops cls id flags off label : Int) (opt body : ByteArray) (w : World) (hp : (proto == 17) = true) (X0 X2 X6 : Nat) (hX0 : nat body 0 2 = X0) (hX2 : nat body 2 2 = X2) (hX6 : nat body 6 2 = X6) (h : 8 ≤ body.size) (hb : body.size ≤ 65535) (h4 : nat body 4 2 = body.size) (a : Nat) (Xs : Nat) (V : Int) (hV : 0 ≤ V ∧ V ≤ 65535) (hE : ((Xs : Int) != V) = true) (A38 : ∀ W, Calls Try.prog 38 #[.agg #[.int .i64 4, .string src, .string dst, .int .i64 proto, .int .i64 hops, .int .i64 cls, .int .i64 id, .int .i64 flags, .int .i64 off, .int .i64 label, .string opt, .string body]] W fun e w' => e = .returned (.int .i64 a) ∧ Below W.heap.size W w') (A78 : ∀ W, Calls Try.prog 78 #[.string body, .int .i64 a, .int .i64 2] W fun e w' => e = .returned (.int .i64 Xs) ∧ W = w') (A79 : ∀ W, Calls Try.prog 79 #[.agg #[.int .i64 4, .string src, .string dst, .int .i64 proto, .int .i64 hops, .int .i64 cls, .int .i64 id, .int .i64 flags, .int .i64 off, .int .i64 label, .string opt, .string body], .string body] W fun e w' => e = .returned (.int .u16 V) ∧ Below W.heap.size W w') (h6 : X6 ≠ 0) (A1 : ∀ W, Calls Try.prog 77 #[.agg #[.int .i64 4, .string src, .string dst, .int .i64 proto, .int .i64 hops, .int .i64 cls, .int .i64 id, .int .i64 flags, .int .i64 off, .int .i64 label, .string opt, .string body]] W fun e w' => e = .returned (.bool true) ∧ Below W.heap.size W w') : Calls Try.prog 36 #[.agg #[.int .i64 4, .string src, .string dst, .int .i64 proto, .int .i64 hops, .int .i64 cls, .int .i64 id, .int .i64 flags, .int .i64 off, .int .i64 label, .string opt, .string body]] w (SaysG w #[.int .i64 0, .int .i64 0, .int .u32 0, .int .u32 0, .int .i64 0, .int .i64 0, .int .i64 0, .string ⟨#[]⟩, .string ⟨#[]⟩, .bool false] 82) := by
  have hbz : body.size ≤ maxLen := by unfold maxLen; omega
  have d8 : ¬ (body.size : Int) < 8 := by omega
  have q1 : (8 : Int) ≤ body.size := by omega
  have e4 : ((nat body 4 2 : Int) != (body.size : Int)) = false := by rw [h4]; simp
  have A4 : ∀ W, Calls Try.prog 78 #[.string body, .int .i64 4, .int .i64 2] W fun e w' => e = .returned (.int .i64 (nat body 4 2)) ∧ W = w' := fun W => num8_any body 4 2 W hbz (by omega) (by omega) (by omega)
  have A0 : ∀ W, Calls Try.prog 78 #[.string body, .int .i64 0, .int .i64 2] W fun e w' => e = .returned (.int .i64 (nat body 0 2)) ∧ W = w' := fun W => num8_any body 0 2 W hbz (by omega) (by omega) (by omega)
  have A2 : ∀ W, Calls Try.prog 78 #[.string body, .int .i64 2, .int .i64 2] W fun e w' => e = .returned (.int .i64 (nat body 2 2)) ∧ W = w' := fun W => num8_any body 2 2 W hbz (by omega) (by omega) (by omega)
  have A6 : ∀ W, Calls Try.prog 78 #[.string body, .int .i64 6, .int .i64 2] W fun e w' => e = .returned (.int .i64 (nat body 6 2)) ∧ W = w' := fun W => num8_any body 6 2 W hbz (by omega) (by omega) (by omega)
  rw [hX0] at A0
  rw [hX2] at A2
  rw [hX6] at A6
  generalize nat body 4 2 = X4 at *
  have H4 := Lib.hid A4
  have HA0 := Lib.hid A0
  have HA2 := Lib.hid A2
  have HA6 := Lib.hid A6
  clear A4 A0 A2 A6 h4
  have e6 : ((X6 : Int) == 0) = false := by simpa using (by omega : (X6 : Int) ≠ 0)
  have H38 := Lib.hid A38
  have H78 := Lib.hid A78
  have H79 := Lib.hid A79
  clear A38 A78 A79
  have wV : IntKind.i64.wrap V = V := IntWalk.i64_in _ (by omega)
  have H1 := Lib.hid A1
  clear A1
  have hN := Two2.new w #[.int .i64 4, .string src, .string dst, .int .i64 proto, .int .i64 hops, .int .i64 cls, .int .i64 id, .int .i64 flags, .int .i64 off, .int .i64 label, .string opt, .string body] #[.int .i64 0, .int .i64 0, .int .u32 0, .int .u32 0, .int .i64 0, .int .i64 0, .int .i64 0, .string ⟨#[]⟩, .string ⟨#[]⟩, .bool false]
  go_enter Try.func36, Try.ntmps36
  go_wp2_with fail
  refine (H1.out _).mono ?_
  rintro e w1 ⟨rfl, hq⟩
  have h1 := hN.next hq
  clear hq hN
  obtain ⟨⟨c0, c1, c2, c3, c4, c5, c6, c7, c8, c9, c10, c11⟩, ⟨g0, g1, g2, g3, g4, g5, g6, g7, g8, g9⟩⟩ := h1.cells
  have fr := h1.g.frozen
  have hB := h1.below
  have hzr := h1.g.lt
  have hz0 : w.heap.size < w1.heap.size := by omega
  have hne0 : w.heap.size ≠ w1.heap.size := by omega
  have hne1 : w.heap.size + 1 ≠ w1.heap.size := by omega
  go_wp2_with (go_at_call 78; (with_reducible refine (H4.out _).mono ?_); rintro e w' ⟨rfl, rfl⟩)
  have hF : RF w w1.heap.size #[.int .i64 4, .string src, .string dst, .int .i64 proto, .int .i64 hops, .int .i64 cls, .int .i64 id, .int .i64 flags, .int .i64 off, .int .i64 label, .string opt, .string body] (w1.alloc (.cells #[.int .i64 0, .int .i64 0, .int .u32 0, .int .u32 0, .int .i64 0, .int .i64 0, .int .i64 0, .string ⟨#[]⟩, .string ⟨#[]⟩, .bool false] 39)) := ⟨h1.p.alloc _, h1.g.alloc _, ⟨_, _, _, _, _, _, _, _, _, _, Blk.new w1 39 _⟩, hB.alloc (by omega) _, hzr⟩
  clear c0 c1 c2 c3 c4 c5 c6 c7 c8 c9 c10 c11 g0 g1 g2 g3 g4 g5 g6 g7 g8 g9 fr hB h1
  generalize w1.alloc (.cells #[.int .i64 0, .int .i64 0, .int .u32 0, .int .u32 0, .int .i64 0, .int .i64 0, .int .i64 0, .string ⟨#[]⟩, .string ⟨#[]⟩, .bool false] 39) = W1 at *
  have hF0 := hF.on (Below.drew (Below.refl _ W1))
  obtain ⟨⟨c0, c1, c2, c3, c4, c5, c6, c7, c8, c9, c10, c11⟩, g0, g1, g2, g3, g4, g5, g6, g7, g8, g9, gf⟩ := hF0.cells
  go_still_tail 15, (by kernel_rfl)
  still_call ((HA0.out _).mono fun e w' ⟨he, hw⟩ => ⟨he, hw.symm⟩)
  repeat still_step
  still_call ((HA2.out _).mono fun e w' ⟨he, hw⟩ => ⟨he, hw.symm⟩)
  repeat still_step
  still_call ((HA6.out _).mono fun e w' ⟨he, hw⟩ => ⟨he, hw.symm⟩)
  repeat still_step
  refine wpStill_nil ?_
  change wpList _ _ _ _ _ W1.drew
  have hF2 := hF.on (Below.drew (Below.refl _ W1))
  clear hF hF0
  generalize W1.drew = W2 at *
  clear c0 c1 c2 c3 c4 c5 c6 c7 c8 c9 c10 c11 g0 g1 g2 g3 g4 g5 g6 g7 g8 g9 gf
  obtain ⟨⟨c0, c1, c2, c3, c4, c5, c6, c7, c8, c9, c10, c11⟩, g0, g1, g2, g3, g4, g5, g6, g7, g8, g9, gf⟩ := hF2.cells
  go_wp2_with fail
  have hG := hF2.fill (.int .i64 X0) (.int .i64 X2) (.int .u32 0) (.int .u32 0) (.int .i64 0) (.int .i64 0) (.int .i64 0) (.string ⟨#[]⟩) (.string (body.extract 8 body.size)) (.bool false)
  clear hF2
  clear c0 c1 c2 c3 c4 c5 c6 c7 c8 c9 c10 c11 g0 g1 g2 g3 g4 g5 g6 g7 g8 g9 gf
  generalize ((((((((((W2.setCell ⟨w1.heap.size, 0, none⟩ (.int .i64 X0)).setCell ⟨w1.heap.size, 1, none⟩ (.int .i64 X2)).setCell ⟨w1.heap.size, 2, none⟩ (.int .u32 0)).setCell ⟨w1.heap.size, 3, none⟩ (.int .u32 0)).setCell ⟨w1.heap.size, 4, none⟩ (.int .i64 0)).setCell ⟨w1.heap.size, 5, none⟩ (.int .i64 0)).setCell ⟨w1.heap.size, 6, none⟩ (.int .i64 0)).setCell ⟨w1.heap.size, 7, none⟩ (.string ⟨#[]⟩)).setCell ⟨w1.heap.size, 8, none⟩ (.string (body.extract 8 body.size))).setCell ⟨w1.heap.size, 9, none⟩ (.bool false)) = W3 at *
  have d0 := rg_here hG
  go_region_held3 (fun w' => ((w'.cell? ⟨w.heap.size, 0, none⟩ = some (.int .i64 4) ∧ w'.cell? ⟨w.heap.size, 1, none⟩ = some (.string src) ∧ w'.cell? ⟨w.heap.size, 2, none⟩ = some (.string dst) ∧ w'.cell? ⟨w.heap.size, 3, none⟩ = some (.int .i64 proto) ∧ w'.cell? ⟨w.heap.size, 4, none⟩ = some (.int .i64 hops) ∧ w'.cell? ⟨w.heap.size, 5, none⟩ = some (.int .i64 cls) ∧ w'.cell? ⟨w.heap.size, 6, none⟩ = some (.int .i64 id) ∧ w'.cell? ⟨w.heap.size, 7, none⟩ = some (.int .i64 flags) ∧ w'.cell? ⟨w.heap.size, 8, none⟩ = some (.int .i64 off) ∧ w'.cell? ⟨w.heap.size, 9, none⟩ = some (.int .i64 label) ∧ w'.cell? ⟨w.heap.size, 10, none⟩ = some (.string opt) ∧ w'.cell? ⟨w.heap.size, 11, none⟩ = some (.string body)) ∧ w'.cell? ⟨w1.heap.size, 9, none⟩ = some (.bool false)) ∧ RG w w1.heap.size #[.int .i64 4, .string src, .string dst, .int .i64 proto, .int .i64 hops, .int .i64 cls, .int .i64 id, .int .i64 flags, .int .i64 off, .int .i64 label, .string opt, .string body] #[.int .i64 X0, .int .i64 X2, .int .u32 0, .int .u32 0, .int .i64 0, .int .i64 0, .int .i64 0, .string ⟨#[]⟩, .string (body.extract 8 body.size), .bool false] w')
    (first | (with_reducible exact d0) | (with_reducible exact rg_on (by assumption) hq) | (with_reducible assumption))
    (first | (go_at_call 38; (with_reducible refine (H38.out _).mono ?_); rintro e w' ⟨rfl, hq⟩) | (go_at_call 78; (with_reducible refine (H78.out _).mono ?_); rintro e w' ⟨rfl, rfl⟩) | (go_at_call 79; (with_reducible refine (H79.out _).mono ?_); rintro e w' ⟨rfl, hq⟩))
  all_goals
    rename_i hH
    have hG2 := hH.2
    clear hH d0 hG
    have _fr := hG2.res.frozen
    have r0 := hG2.res.cell 0
    have k0 := hG2.gb.cell 0
    have r1 := hG2.res.cell 1
    have k1 := hG2.gb.cell 1
    have r2 := hG2.res.cell 2
    have k2 := hG2.gb.cell 2
    have r3 := hG2.res.cell 3
    have k3 := hG2.gb.cell 3
    have r4 := hG2.res.cell 4
    have k4 := hG2.gb.cell 4
    have r5 := hG2.res.cell 5
    have k5 := hG2.gb.cell 5
    have r6 := hG2.res.cell 6
    have k6 := hG2.gb.cell 6
    have r7 := hG2.res.cell 7
    have k7 := hG2.gb.cell 7
    have r8 := hG2.res.cell 8
    have k8 := hG2.gb.cell 8
    have r9 := hG2.res.cell 9
    have k9 := hG2.gb.cell 9
    simp only [List.getElem?_toArray, List.getElem?_cons_zero, List.getElem?_cons_succ] at r0 k0 r1 k1 r2 k2 r3 k3 r4 k4 r5 k5 r6 k6 r7 k7 r8 k8 r9 k9
    go_wp2_with fail
    exact bodyPost_ret (v := .tuple #[.agg #[.int .i64 0, .int .i64 0, .int .u32 0, .int .u32 0, .int .i64 0, .int .i64 0, .int .i64 0, .string ⟨#[]⟩, .string ⟨#[]⟩, .bool false], .int .i64 82]) (rps_results _ _ (w.heap.size + 1) rfl rfl (set10 hG2.res (.int .i64 0) (.int .i64 0) (.int .u32 0) (.int .u32 0) (.int .i64 0) (.int .i64 0) (.int .i64 0) (.string ⟨#[]⟩) (.string ⟨#[]⟩) (.bool false))) rfl ⟨rfl, below10 hG2.below (by omega : w.heap.size ≤ w.heap.size + 1) (.int .i64 0) (.int .i64 0) (.int .u32 0) (.int .u32 0) (.int .i64 0) (.int .i64 0) (.int .i64 0) (.string ⟨#[]⟩) (.string ⟨#[]⟩) (.bool false)⟩
set_option maxRecDepth 100000 in
set_option maxHeartbeats 3200000 in
theorem rps_udp_nosum (src dst : ByteArray) (proto hops cls id flags off label : Int) (opt body : ByteArray) (w : World) (hp : (proto == 17) = true) (X0 X2 X6 : Nat) (hX0 : nat body 0 2 = X0) (hX2 : nat body 2 2 = X2) (hX6 : nat body 6 2 = X6) (h : 8 ≤ body.size) (hb : body.size ≤ 65535) (h4 : nat body 4 2 = body.size) (h6 : X6 = 0) (A1 : ∀ W, Calls Try.prog 77 #[.agg #[.int .i64 4, .string src, .string dst, .int .i64 proto, .int .i64 hops, .int .i64 cls, .int .i64 id, .int .i64 flags, .int .i64 off, .int .i64 label, .string opt, .string body]] W fun e w' => e = .returned (.bool true) ∧ Below W.heap.size W w') : Calls Try.prog 36 #[.agg #[.int .i64 4, .string src, .string dst, .int .i64 proto, .int .i64 hops, .int .i64 cls, .int .i64 id, .int .i64 flags, .int .i64 off, .int .i64 label, .string opt, .string body]] w (SaysG w #[.int .i64 X0, .int .i64 X2, .int .u32 0, .int .u32 0, .int .i64 0, .int .i64 0, .int .i64 0, .string ⟨#[]⟩, .string (body.extract 8 body.size), .bool true] 0) := by
  have hbz : body.size ≤ maxLen := by unfold maxLen; omega
  have d8 : ¬ (body.size : Int) < 8 := by omega
  have q1 : (8 : Int) ≤ body.size := by omega
  have e4 : ((nat body 4 2 : Int) != (body.size : Int)) = false := by rw [h4]; simp
  have A4 : ∀ W, Calls Try.prog 78 #[.string body, .int .i64 4, .int .i64 2] W fun e w' => e = .returned (.int .i64 (nat body 4 2)) ∧ W = w' := fun W => num8_any body 4 2 W hbz (by omega) (by omega) (by omega)
  have A0 : ∀ W, Calls Try.prog 78 #[.string body, .int .i64 0, .int .i64 2] W fun e w' => e = .returned (.int .i64 (nat body 0 2)) ∧ W = w' := fun W => num8_any body 0 2 W hbz (by omega) (by omega) (by omega)
  have A2 : ∀ W, Calls Try.prog 78 #[.string body, .int .i64 2, .int .i64 2] W fun e w' => e = .returned (.int .i64 (nat body 2 2)) ∧ W = w' := fun W => num8_any body 2 2 W hbz (by omega) (by omega) (by omega)
  have A6 : ∀ W, Calls Try.prog 78 #[.string body, .int .i64 6, .int .i64 2] W fun e w' => e = .returned (.int .i64 (nat body 6 2)) ∧ W = w' := fun W => num8_any body 6 2 W hbz (by omega) (by omega) (by omega)
  rw [hX0] at A0
  rw [hX2] at A2
  rw [hX6] at A6
  generalize nat body 4 2 = X4 at *
  have H4 := Lib.hid A4
  have HA0 := Lib.hid A0
  have HA2 := Lib.hid A2
  have HA6 := Lib.hid A6
  clear A4 A0 A2 A6 h4
  subst h6
  have H1 := Lib.hid A1
  clear A1
  have hN := Two2.new w #[.int .i64 4, .string src, .string dst, .int .i64 proto, .int .i64 hops, .int .i64 cls, .int .i64 id, .int .i64 flags, .int .i64 off, .int .i64 label, .string opt, .string body] #[.int .i64 0, .int .i64 0, .int .u32 0, .int .u32 0, .int .i64 0, .int .i64 0, .int .i64 0, .string ⟨#[]⟩, .string ⟨#[]⟩, .bool false]
  go_enter Try.func36, Try.ntmps36
  go_wp2_with fail
  refine (H1.out _).mono ?_
  rintro e w1 ⟨rfl, hq⟩
  have h1 := hN.next hq
  clear hq hN
  obtain ⟨⟨c0, c1, c2, c3, c4, c5, c6, c7, c8, c9, c10, c11⟩, ⟨g0, g1, g2, g3, g4, g5, g6, g7, g8, g9⟩⟩ := h1.cells
  have fr := h1.g.frozen
  have hB := h1.below
  have hzr := h1.g.lt
  have hz0 : w.heap.size < w1.heap.size := by omega
  have hne0 : w.heap.size ≠ w1.heap.size := by omega
  have hne1 : w.heap.size + 1 ≠ w1.heap.size := by omega
  go_wp2_with (go_at_call 78; (with_reducible refine (H4.out _).mono ?_); rintro e w' ⟨rfl, rfl⟩)
  have hF : RF w w1.heap.size #[.int .i64 4, .string src, .string dst, .int .i64 proto, .int .i64 hops, .int .i64 cls, .int .i64 id, .int .i64 flags, .int .i64 off, .int .i64 label, .string opt, .string body] (w1.alloc (.cells #[.int .i64 0, .int .i64 0, .int .u32 0, .int .u32 0, .int .i64 0, .int .i64 0, .int .i64 0, .string ⟨#[]⟩, .string ⟨#[]⟩, .bool false] 39)) := ⟨h1.p.alloc _, h1.g.alloc _, ⟨_, _, _, _, _, _, _, _, _, _, Blk.new w1 39 _⟩, hB.alloc (by omega) _, hzr⟩
  clear c0 c1 c2 c3 c4 c5 c6 c7 c8 c9 c10 c11 g0 g1 g2 g3 g4 g5 g6 g7 g8 g9 fr hB h1
  generalize w1.alloc (.cells #[.int .i64 0, .int .i64 0, .int .u32 0, .int .u32 0, .int .i64 0, .int .i64 0, .int .i64 0, .string ⟨#[]⟩, .string ⟨#[]⟩, .bool false] 39) = W1 at *
  have hF0 := hF.on (Below.drew (Below.refl _ W1))
  obtain ⟨⟨c0, c1, c2, c3, c4, c5, c6, c7, c8, c9, c10, c11⟩, g0, g1, g2, g3, g4, g5, g6, g7, g8, g9, gf⟩ := hF0.cells
  go_still_tail 15, (by kernel_rfl)
  still_call ((HA0.out _).mono fun e w' ⟨he, hw⟩ => ⟨he, hw.symm⟩)
  repeat still_step
  still_call ((HA2.out _).mono fun e w' ⟨he, hw⟩ => ⟨he, hw.symm⟩)
  repeat still_step
  still_call ((HA6.out _).mono fun e w' ⟨he, hw⟩ => ⟨he, hw.symm⟩)
  repeat still_step
  refine wpStill_nil ?_
  change wpList _ _ _ _ _ W1.drew
  have hF2 := hF.on (Below.drew (Below.refl _ W1))
  clear hF hF0
  generalize W1.drew = W2 at *
  clear c0 c1 c2 c3 c4 c5 c6 c7 c8 c9 c10 c11 g0 g1 g2 g3 g4 g5 g6 g7 g8 g9 gf
  obtain ⟨⟨c0, c1, c2, c3, c4, c5, c6, c7, c8, c9, c10, c11⟩, g0, g1, g2, g3, g4, g5, g6, g7, g8, g9, gf⟩ := hF2.cells
  go_wp2_with fail
  have hG := hF2.fill (.int .i64 X0) (.int .i64 X2) (.int .u32 0) (.int .u32 0) (.int .i64 0) (.int .i64 0) (.int .i64 0) (.string ⟨#[]⟩) (.string (body.extract 8 body.size)) (.bool true)
  clear hF2
  clear c0 c1 c2 c3 c4 c5 c6 c7 c8 c9 c10 c11 g0 g1 g2 g3 g4 g5 g6 g7 g8 g9 gf
  generalize ((((((((((W2.setCell ⟨w1.heap.size, 0, none⟩ (.int .i64 X0)).setCell ⟨w1.heap.size, 1, none⟩ (.int .i64 X2)).setCell ⟨w1.heap.size, 2, none⟩ (.int .u32 0)).setCell ⟨w1.heap.size, 3, none⟩ (.int .u32 0)).setCell ⟨w1.heap.size, 4, none⟩ (.int .i64 0)).setCell ⟨w1.heap.size, 5, none⟩ (.int .i64 0)).setCell ⟨w1.heap.size, 6, none⟩ (.int .i64 0)).setCell ⟨w1.heap.size, 7, none⟩ (.string ⟨#[]⟩)).setCell ⟨w1.heap.size, 8, none⟩ (.string (body.extract 8 body.size))).setCell ⟨w1.heap.size, 9, none⟩ (.bool true)) = W3 at *
  have r9 : W3.cell? ⟨w1.heap.size, 9, none⟩ = some (.bool true) := hG.gb.cell 9
  go_quiet (fail)
  clear r9
  have hG2 := hG.on (below_drewN (Below.refl _ W3) nq)
  clear hG
  generalize W3.drewN nq = W4 at *
  have _fr := hG2.res.frozen
  have r0 := hG2.res.cell 0
  have k0 := hG2.gb.cell 0
  have r1 := hG2.res.cell 1
  have k1 := hG2.gb.cell 1
  have r2 := hG2.res.cell 2
  have k2 := hG2.gb.cell 2
  have r3 := hG2.res.cell 3
  have k3 := hG2.gb.cell 3
  have r4 := hG2.res.cell 4
  have k4 := hG2.gb.cell 4
  have r5 := hG2.res.cell 5
  have k5 := hG2.gb.cell 5
  have r6 := hG2.res.cell 6
  have k6 := hG2.gb.cell 6
  have r7 := hG2.res.cell 7
  have k7 := hG2.gb.cell 7
  have r8 := hG2.res.cell 8
  have k8 := hG2.gb.cell 8
  have r9 := hG2.res.cell 9
  have k9 := hG2.gb.cell 9
  simp only [List.getElem?_toArray, List.getElem?_cons_zero, List.getElem?_cons_succ] at r0 k0 r1 k1 r2 k2 r3 k3 r4 k4 r5 k5 r6 k6 r7 k7 r8 k8 r9 k9
  go_wp2_with fail
  exact bodyPost_ret (v := .tuple #[.agg #[.int .i64 X0, .int .i64 X2, .int .u32 0, .int .u32 0, .int .i64 0, .int .i64 0, .int .i64 0, .string ⟨#[]⟩, .string (body.extract 8 body.size), .bool true], .int .i64 0]) (rps_results _ _ (w.heap.size + 1) rfl rfl (set10 hG2.res (.int .i64 X0) (.int .i64 X2) (.int .u32 0) (.int .u32 0) (.int .i64 0) (.int .i64 0) (.int .i64 0) (.string ⟨#[]⟩) (.string (body.extract 8 body.size)) (.bool true))) rfl ⟨rfl, below10 hG2.below (by omega : w.heap.size ≤ w.heap.size + 1) (.int .i64 X0) (.int .i64 X2) (.int .u32 0) (.int .u32 0) (.int .i64 0) (.int .i64 0) (.int .i64 0) (.string ⟨#[]⟩) (.string (body.extract 8 body.size)) (.bool true)⟩
end Go.Proofs.Ytalkpllmcigjnaa

/-
  The document's Tell; no condition.
-/
import Derived.Test.YtbpgblmhacpjlaaGreatSTt
import Derived.Test.YtbpgblmhacpjlaaGreatZp
import Derived.Test.YtbpgblmhacpjlaaGreatZl
import Derived.Deep.RegionHeld3
namespace Go.Proofs.YtbpgblmhacpjlaaGreat
open Go.RowKit

theorem St.out {F : Nat → Prop} {w W : World} {A : As} (h : St F w A W) {gk : Nat} (hg : gk < w.heap.size) (hn : ¬ F gk) (i : Nat) : W.cell? ⟨gk, i, none⟩ = w.cell? ⟨gk, i, none⟩ := by
  have e := h.step.block gk hg hn
  simp only [World.cell?, e]
theorem rt_cells1 {F : Nat → Prop} {w W : World} {gx gk : Nat} {q : Vs} {hv s : Value} {R : As} (h : St F w (stars [box gx 48 (q.cellsR gk hv), R]) W) (HK : Hid (gk < w.heap.size ∧ ¬ F gk ∧ w.cell? ⟨gk, 0, none⟩ = some s)) :
    W.cell? ⟨gx, 0, none⟩ = some (.pointer (some ⟨gk, 0, none⟩)) ∧ W.cell? ⟨gk, 0, none⟩ = some s ∧ W.cell? ⟨gx, 4, none⟩ = some (.int .i64 (q.dev : Int)) := by
  have hb := h.blk 0 (by simp) rfl
  exact ⟨hb.cell 0, (h.out HK.out.1 HK.out.2.1 0).trans HK.out.2.2, hb.cell 4⟩
theorem rt_cells2 {F : Nat → Prop} {w W : World} {k gx gk : Nat} {q : Vs} {hv a b c : Value} {R : As} (h : St F w (stars [box k 34 #[a, b, c], box gx 48 (q.cellsR gk hv), R]) W) :
    W.cell? ⟨k, 0, none⟩ = some a ∧ W.cell? ⟨k, 1, none⟩ = some b ∧ W.cell? ⟨k, 2, none⟩ = some c ∧ W.cell? ⟨gx, 9, none⟩ = some (.int .i64 (q.ta : Int)) ∧ W.cell? ⟨gx, 10, none⟩ = some (.bool q.tw) ∧ W.cell? ⟨gx, 5, none⟩ = some (.int .i64 (q.na : Int)) ∧ W.cell? ⟨gx, 6, none⟩ = some (.bool q.nw) ∧ W.cell? ⟨gx, 2, none⟩ = some (.int .i64 (q.size : Int)) := by
  have hk := h.blk 0 (by simp) rfl
  have hb := h.blk 1 (by simp) rfl
  exact ⟨hk.cell 0, hk.cell 1, hk.cell 2, hb.cell 9, hb.cell 10, hb.cell 5, hb.cell 6, hb.cell 2⟩
theorem rt_keep3 {F : Nat → Prop} {w W w' : World} {A B : As} (h : St F w (stars [A, B]) W) {a b c : Value} (hq : Below (W.alloc (.cells #[a, b, c] 34)).drew.heap.size (W.alloc (.cells #[a, b, c] 34)).drew w') (p r s : Value) :
    St F w (stars [box W.heap.size 34 #[p, r, s], A, B]) (((w'.setCell ⟨W.heap.size, 0, none⟩ p).setCell ⟨W.heap.size, 1, none⟩ r).setCell ⟨W.heap.size, 2, none⟩ s) :=
  ((h.push 34 #[a, b, c]).drew.below hq).put3 0 (by simp) rfl p r s
theorem rt_st3 {F : Nat → Prop} {w W w' : World} {A B : As} (h : St F w (stars [A, B]) W) {a b c : Value} (hq : Below (W.alloc (.cells #[a, b, c] 34)).drew.heap.size (W.alloc (.cells #[a, b, c] 34)).drew w') (p r s : Value) :
    St F w (stars [A, B]) (((w'.setCell ⟨W.heap.size, 0, none⟩ p).setCell ⟨W.heap.size, 1, none⟩ r).setCell ⟨W.heap.size, 2, none⟩ s) := St.pop (rt_keep3 h hq p r s)
set_option maxRecDepth 100000 in
set_option maxHeartbeats 6400000 in
theorem rtell_n0 {F : Nat → Prop} {w : World} {gx gk : Nat} {xs : List UInt8} {q : Vs} (h : (refA gx gk q).P F w) (hk : w.cell? ⟨gk, 0, none⟩ = some (.string ⟨xs.toArray⟩)) (hF : ¬ F gk) (hx : xs.length ≤ 1048576) (hd : q.dev + 4 ≤ xs.length) (o f : Int) (v B : Bool) (hs : q.since ≤ q.size) (hf : f = 0)
    (HP : ∀ W, Calls Tryz.prog 45 #[.string (cut4 xs q.dev)] W fun e w' => e = .returned (.tuple #[.agg #[.int .i64 o, .bool v, .int .i64 f], .int .i64 0]) ∧ Below W.heap.size W w')
    (HN : ∀ W, Calls Tryz.prog 46 #[.agg #[.int .i64 o, .bool v, .int .i64 f], .agg #[.int .i64 (q.ta : Int), .bool q.tw], .agg #[.int .i64 (q.na : Int), .bool q.nw], .int .i64 (q.size : Int)] W fun e w' => e = .returned (.bool B) ∧ Below W.heap.size W w') :
    Calls Tryz.prog 14 #[.pointer (some ⟨gx, 0, none⟩)] w fun e w' => e = .returned (.bool B) ∧ St F w (refA gx gk (toldQ q)) w' := by
  obtain ⟨A, cap, h'⟩ := ref_open h
  have hE : (⟨xs.toArray⟩ : ByteArray).extract q.dev (q.dev + 4) = cut4 xs q.dev := cut_extract xs q.dev 4
  generalize cut4 xs q.dev = S at *
  obtain ⟨S0, hS0⟩ : ∃ S0 : ByteArray, ⟨xs.toArray⟩ = S0 := ⟨_, rfl⟩
  have hs0 : S0.size = xs.length := by rw [← hS0]; show xs.toArray.size = _; simp
  rw [hS0] at hE hk
  obtain ⟨m, hm0, hm⟩ : ∃ m : Nat, q.dev + 4 = m ∧ (q.dev : Int) + 4 = (m : Int) := ⟨_, rfl, by omega⟩
  rw [hm0] at hE
  have v1 : IntKind.i64.wrap (m : Int) = (m : Int) := by rw [IntKind.wrap_i64]; omega
  have v2 : (q.dev : Int) ≤ (m : Int) := by omega
  have v3 : (m : Int) ≤ (S0.size : Int) := by omega
  have v4 : ¬ (S0.size : Int) < (m : Int) := by omega
  have v5 : m ≤ S0.size := by omega
  have v6 : q.dev ≤ m := by omega
  have HK := Lib.hid (And.intro (World.block_lt_of_cell? w ⟨gk, 0, none⟩ hk) (And.intro hF hk))
  have T0 := St.start h'
  have HN := Lib.hid HN
  have HP := Lib.hid HP
  have hb := T0.blk 0 (by simp) rfl
  have hlt := hb.lt
  have hne := Nat.ne_of_lt hlt
  have hltk := HK.out.1
  have hnek := Nat.ne_of_lt hltk
  have T0 := Lib.hid T0
  have s1 : (q.since : Int) ≤ (q.size : Int) := by omega
  have f0 : (f == 0) = true := by simp [hf]
  clear hf
  clear h h' hk hF hS0 hs0 hm0 hb hx hd
  go_enter Tryz.func14, Tryz.ntmps14
  go_wp2_with fail
  go_region_held3 (fun W => W.cell? ⟨gx, 0, none⟩ = some (.pointer (some ⟨gk, 0, none⟩)) ∧ W.cell? ⟨gk, 0, none⟩ = some (.string S0) ∧ W.cell? ⟨gx, 4, none⟩ = some (.int .i64 (q.dev : Int)))
    (with_reducible (first | exact rt_cells1 T0.out.drew HK | exact rt_cells1 (T0.out.alloc _).drew HK | exact rt_cells1 (T0.out.drew.below hq) HK | exact rt_cells1 ((T0.out.alloc _).drew.below hq) HK | exact rt_cells1 ((T0.out.drew.below hq).alloc _) HK | exact rt_cells1 (rt_st3 T0.out hq _ _ _) HK))
    ((go_at_call 45; ((with_reducible refine (HP.out _).mono ?_); rintro e w1 ⟨rfl, hq⟩; obtain ⟨hc1, hf1⟩ := bcell hq; have hz1 := hq.size; (try simp at hz1))))
  · clear hlt hne hltk hnek v1 v2 v3 v4 v5 v6 hm hE
    have T3 := (T0.out.drew.below hq).push 34 #[.int .i64 o, .bool v, .int .i64 f]
    obtain ⟨W3, hW3⟩ : ∃ W3, w1.alloc (.cells #[.int .i64 o, .bool v, .int .i64 f] 34) = W3 := ⟨_, rfl⟩
    obtain ⟨K, hK⟩ : ∃ K, w1.heap.size = K := ⟨_, rfl⟩
    rw [hW3] at T3 ⊢
    rw [hK] at T3 ⊢
    clear hW3 hK hq hc1 hf1 hz1 T0
    have hb := T3.blk 1 (by simp) rfl
    have k2 : W3.cell? ⟨K, 2, none⟩ = some (.int .i64 f) := (T3.blk 0 (by simp) rfl).cell 2
    have c11 : W3.cell? ⟨gx, 11, none⟩ = some (.int .i64 (q.since : Int)) := hb.cell 11
    have c2 : W3.cell? ⟨gx, 2, none⟩ = some (.int .i64 (q.size : Int)) := hb.cell 2
    have hlt := hb.lt
    have hne := Nat.ne_of_lt hlt
    have hltk := (T3.blk 0 (by simp) rfl).lt
    have hnek := Nat.ne_of_lt hltk
    have T3 := Lib.hid T3
    clear hb
    go_wp2_with fail
    go_quiet (fail)
    have T4 := T3.out.drewN nq
    generalize World.drewN W3 nq = W4 at *
    clear k2 c11 c2 T3 hlt hne hltk hnek
    have T4 := Lib.hid T4
    go_wp2_with fail
    go_region_held3 (fun W => W.cell? ⟨K, 0, none⟩ = some (.int .i64 o) ∧ W.cell? ⟨K, 1, none⟩ = some (.bool v) ∧ W.cell? ⟨K, 2, none⟩ = some (.int .i64 f) ∧ W.cell? ⟨gx, 9, none⟩ = some (.int .i64 (q.ta : Int)) ∧ W.cell? ⟨gx, 10, none⟩ = some (.bool q.tw) ∧ W.cell? ⟨gx, 5, none⟩ = some (.int .i64 (q.na : Int)) ∧ W.cell? ⟨gx, 6, none⟩ = some (.bool q.nw) ∧ W.cell? ⟨gx, 2, none⟩ = some (.int .i64 (q.size : Int)))
      (with_reducible (first | exact rt_cells2 T4.out.drew | exact rt_cells2 (T4.out.drew.below hq)))
      ((go_at_call 46; ((with_reducible refine (HN.out _).mono ?_); rintro e w6 ⟨rfl, hq⟩)))
    have T6 := T4.out.drew.below hq
    clear hq T4
    generalize w6 = W6 at *
    have hb := T6.blk 1 (by simp) rfl
    have b5 : W6.cell? ⟨gx, 5, none⟩ = some (.int .i64 (q.na : Int)) := hb.cell 5
    have b6 : W6.cell? ⟨gx, 6, none⟩ = some (.bool q.nw) := hb.cell 6
    have b9 : W6.cell? ⟨gx, 9, none⟩ = some (.int .i64 (q.ta : Int)) := hb.cell 9
    have b10 : W6.cell? ⟨gx, 10, none⟩ = some (.bool q.tw) := hb.cell 10
    have b11 : W6.cell? ⟨gx, 11, none⟩ = some (.int .i64 (q.since : Int)) := hb.cell 11
    have f9 := hb.frozen 9
    have f10 := hb.frozen 10
    have f11 := hb.frozen 11
    have hlt := hb.lt
    have hne := Nat.ne_of_lt hlt
    have T7 := Lib.hid (ref_shut (q := toldQ q) (((T6.pop.put 0 (by simp) rfl 9 (.int .i64 (q.na : Int))).put 0 (by simp) rfl 10 (.bool q.nw)).put 0 (by simp) rfl 11 (.int .i64 ((0 : Nat) : Int))) rfl rfl rfl)
    clear T6 hb
    go_wp2_with fail
    go_ret
    exact ⟨rfl, T7.out⟩
  · clear hlt hne hltk hnek v1 v2 v3 v4 v5 v6 hm hE
    have T3 := rt_keep3 T0.out hq (.int .i64 o) (.bool v) (.int .i64 f)
    obtain ⟨W3, hW3⟩ : ∃ W3, ((w1.setCell ⟨w.heap.size, 0, none⟩ (.int .i64 o)).setCell ⟨w.heap.size, 1, none⟩ (.bool v)).setCell ⟨w.heap.size, 2, none⟩ (.int .i64 f) = W3 := ⟨_, rfl⟩
    obtain ⟨K, hK⟩ : ∃ K, w.heap.size = K := ⟨_, rfl⟩
    rw [hW3] at T3 ⊢
    rw [hK] at T3 ⊢
    clear hW3 hK hq hc1 hf1 hz1 T0
    have hb := T3.blk 1 (by simp) rfl
    have k2 : W3.cell? ⟨K, 2, none⟩ = some (.int .i64 f) := (T3.blk 0 (by simp) rfl).cell 2
    have c11 : W3.cell? ⟨gx, 11, none⟩ = some (.int .i64 (q.since : Int)) := hb.cell 11
    have c2 : W3.cell? ⟨gx, 2, none⟩ = some (.int .i64 (q.size : Int)) := hb.cell 2
    have hlt := hb.lt
    have hne := Nat.ne_of_lt hlt
    have hltk := (T3.blk 0 (by simp) rfl).lt
    have hnek := Nat.ne_of_lt hltk
    have T3 := Lib.hid T3
    clear hb
    go_wp2_with fail
    go_quiet (fail)
    have T4 := T3.out.drewN nq
    generalize World.drewN W3 nq = W4 at *
    clear k2 c11 c2 T3 hlt hne hltk hnek
    have T4 := Lib.hid T4
    go_wp2_with fail
    go_region_held3 (fun W => W.cell? ⟨K, 0, none⟩ = some (.int .i64 o) ∧ W.cell? ⟨K, 1, none⟩ = some (.bool v) ∧ W.cell? ⟨K, 2, none⟩ = some (.int .i64 f) ∧ W.cell? ⟨gx, 9, none⟩ = some (.int .i64 (q.ta : Int)) ∧ W.cell? ⟨gx, 10, none⟩ = some (.bool q.tw) ∧ W.cell? ⟨gx, 5, none⟩ = some (.int .i64 (q.na : Int)) ∧ W.cell? ⟨gx, 6, none⟩ = some (.bool q.nw) ∧ W.cell? ⟨gx, 2, none⟩ = some (.int .i64 (q.size : Int)))
      (with_reducible (first | exact rt_cells2 T4.out.drew | exact rt_cells2 (T4.out.drew.below hq)))
      ((go_at_call 46; ((with_reducible refine (HN.out _).mono ?_); rintro e w6 ⟨rfl, hq⟩)))
    have T6 := T4.out.drew.below hq
    clear hq T4
    generalize w6 = W6 at *
    have hb := T6.blk 1 (by simp) rfl
    have b5 : W6.cell? ⟨gx, 5, none⟩ = some (.int .i64 (q.na : Int)) := hb.cell 5
    have b6 : W6.cell? ⟨gx, 6, none⟩ = some (.bool q.nw) := hb.cell 6
    have b9 : W6.cell? ⟨gx, 9, none⟩ = some (.int .i64 (q.ta : Int)) := hb.cell 9
    have b10 : W6.cell? ⟨gx, 10, none⟩ = some (.bool q.tw) := hb.cell 10
    have b11 : W6.cell? ⟨gx, 11, none⟩ = some (.int .i64 (q.since : Int)) := hb.cell 11
    have f9 := hb.frozen 9
    have f10 := hb.frozen 10
    have f11 := hb.frozen 11
    have hlt := hb.lt
    have hne := Nat.ne_of_lt hlt
    have T7 := Lib.hid (ref_shut (q := toldQ q) (((T6.pop.put 0 (by simp) rfl 9 (.int .i64 (q.na : Int))).put 0 (by simp) rfl 10 (.bool q.nw)).put 0 (by simp) rfl 11 (.int .i64 ((0 : Nat) : Int))) rfl rfl rfl)
    clear T6 hb
    go_wp2_with fail
    go_ret
    exact ⟨rfl, T7.out⟩
set_option maxRecDepth 100000 in
set_option maxHeartbeats 6400000 in
theorem rtell_n2 {F : Nat → Prop} {w : World} {gx gk : Nat} {xs : List UInt8} {q : Vs} (h : (refA gx gk q).P F w) (hk : w.cell? ⟨gk, 0, none⟩ = some (.string ⟨xs.toArray⟩)) (hF : ¬ F gk) (hx : xs.length ≤ 1048576) (hd : q.dev + 4 ≤ xs.length) (o f : Int) (v B : Bool) (hs : q.since ≤ q.size) (hf : f = 2)
    (HP : ∀ W, Calls Tryz.prog 45 #[.string (cut4 xs q.dev)] W fun e w' => e = .returned (.tuple #[.agg #[.int .i64 o, .bool v, .int .i64 f], .int .i64 0]) ∧ Below W.heap.size W w')
    (HN : ∀ W, Calls Tryz.prog 46 #[.agg #[.int .i64 o, .bool v, .int .i64 f], .agg #[.int .i64 (q.ta : Int), .bool q.tw], .agg #[.int .i64 (q.na : Int), .bool q.nw], .int .i64 (q.size : Int)] W fun e w' => e = .returned (.bool B) ∧ Below W.heap.size W w') :
    Calls Tryz.prog 14 #[.pointer (some ⟨gx, 0, none⟩)] w fun e w' => e = .returned (.bool B) ∧ St F w (refA gx gk (toldQ q)) w' := by
  obtain ⟨A, cap, h'⟩ := ref_open h
  have hE : (⟨xs.toArray⟩ : ByteArray).extract q.dev (q.dev + 4) = cut4 xs q.dev := cut_extract xs q.dev 4
  generalize cut4 xs q.dev = S at *
  obtain ⟨S0, hS0⟩ : ∃ S0 : ByteArray, ⟨xs.toArray⟩ = S0 := ⟨_, rfl⟩
  have hs0 : S0.size = xs.length := by rw [← hS0]; show xs.toArray.size = _; simp
  rw [hS0] at hE hk
  obtain ⟨m, hm0, hm⟩ : ∃ m : Nat, q.dev + 4 = m ∧ (q.dev : Int) + 4 = (m : Int) := ⟨_, rfl, by omega⟩
  rw [hm0] at hE
  have v1 : IntKind.i64.wrap (m : Int) = (m : Int) := by rw [IntKind.wrap_i64]; omega
  have v2 : (q.dev : Int) ≤ (m : Int) := by omega
  have v3 : (m : Int) ≤ (S0.size : Int) := by omega
  have v4 : ¬ (S0.size : Int) < (m : Int) := by omega
  have v5 : m ≤ S0.size := by omega
  have v6 : q.dev ≤ m := by omega
  have HK := Lib.hid (And.intro (World.block_lt_of_cell? w ⟨gk, 0, none⟩ hk) (And.intro hF hk))
  have T0 := St.start h'
  have HN := Lib.hid HN
  have HP := Lib.hid HP
  have hb := T0.blk 0 (by simp) rfl
  have hlt := hb.lt
  have hne := Nat.ne_of_lt hlt
  have hltk := HK.out.1
  have hnek := Nat.ne_of_lt hltk
  have T0 := Lib.hid T0
  have s1 : (q.since : Int) ≤ (q.size : Int) := by omega
  have f0 : (f == 0) = false := by simp [hf]
  have f2 : (f == 2) = true := by simp [hf]
  clear hf
  clear h h' hk hF hS0 hs0 hm0 hb hx hd
  go_enter Tryz.func14, Tryz.ntmps14
  go_wp2_with fail
  go_region_held3 (fun W => W.cell? ⟨gx, 0, none⟩ = some (.pointer (some ⟨gk, 0, none⟩)) ∧ W.cell? ⟨gk, 0, none⟩ = some (.string S0) ∧ W.cell? ⟨gx, 4, none⟩ = some (.int .i64 (q.dev : Int)))
    (with_reducible (first | exact rt_cells1 T0.out.drew HK | exact rt_cells1 (T0.out.alloc _).drew HK | exact rt_cells1 (T0.out.drew.below hq) HK | exact rt_cells1 ((T0.out.alloc _).drew.below hq) HK | exact rt_cells1 ((T0.out.drew.below hq).alloc _) HK | exact rt_cells1 (rt_st3 T0.out hq _ _ _) HK))
    ((go_at_call 45; ((with_reducible refine (HP.out _).mono ?_); rintro e w1 ⟨rfl, hq⟩; obtain ⟨hc1, hf1⟩ := bcell hq; have hz1 := hq.size; (try simp at hz1))))
  · clear hlt hne hltk hnek v1 v2 v3 v4 v5 v6 hm hE
    have T3 := (T0.out.drew.below hq).push 34 #[.int .i64 o, .bool v, .int .i64 f]
    obtain ⟨W3, hW3⟩ : ∃ W3, w1.alloc (.cells #[.int .i64 o, .bool v, .int .i64 f] 34) = W3 := ⟨_, rfl⟩
    obtain ⟨K, hK⟩ : ∃ K, w1.heap.size = K := ⟨_, rfl⟩
    rw [hW3] at T3 ⊢
    rw [hK] at T3 ⊢
    clear hW3 hK hq hc1 hf1 hz1 T0
    have hb := T3.blk 1 (by simp) rfl
    have k2 : W3.cell? ⟨K, 2, none⟩ = some (.int .i64 f) := (T3.blk 0 (by simp) rfl).cell 2
    have c11 : W3.cell? ⟨gx, 11, none⟩ = some (.int .i64 (q.since : Int)) := hb.cell 11
    have c2 : W3.cell? ⟨gx, 2, none⟩ = some (.int .i64 (q.size : Int)) := hb.cell 2
    have hlt := hb.lt
    have hne := Nat.ne_of_lt hlt
    have hltk := (T3.blk 0 (by simp) rfl).lt
    have hnek := Nat.ne_of_lt hltk
    have T3 := Lib.hid T3
    clear hb
    go_wp2_with fail
    go_quiet (fail)
    have T4 := T3.out.drewN nq
    generalize World.drewN W3 nq = W4 at *
    clear k2 c11 c2 T3 hlt hne hltk hnek
    have T4 := Lib.hid T4
    go_wp2_with fail
    go_region_held3 (fun W => W.cell? ⟨K, 0, none⟩ = some (.int .i64 o) ∧ W.cell? ⟨K, 1, none⟩ = some (.bool v) ∧ W.cell? ⟨K, 2, none⟩ = some (.int .i64 f) ∧ W.cell? ⟨gx, 9, none⟩ = some (.int .i64 (q.ta : Int)) ∧ W.cell? ⟨gx, 10, none⟩ = some (.bool q.tw) ∧ W.cell? ⟨gx, 5, none⟩ = some (.int .i64 (q.na : Int)) ∧ W.cell? ⟨gx, 6, none⟩ = some (.bool q.nw) ∧ W.cell? ⟨gx, 2, none⟩ = some (.int .i64 (q.size : Int)))
      (with_reducible (first | exact rt_cells2 T4.out.drew | exact rt_cells2 (T4.out.drew.below hq)))
      ((go_at_call 46; ((with_reducible refine (HN.out _).mono ?_); rintro e w6 ⟨rfl, hq⟩)))
    have T6 := T4.out.drew.below hq
    clear hq T4
    generalize w6 = W6 at *
    have hb := T6.blk 1 (by simp) rfl
    have b5 : W6.cell? ⟨gx, 5, none⟩ = some (.int .i64 (q.na : Int)) := hb.cell 5
    have b6 : W6.cell? ⟨gx, 6, none⟩ = some (.bool q.nw) := hb.cell 6
    have b9 : W6.cell? ⟨gx, 9, none⟩ = some (.int .i64 (q.ta : Int)) := hb.cell 9
    have b10 : W6.cell? ⟨gx, 10, none⟩ = some (.bool q.tw) := hb.cell 10
    have b11 : W6.cell? ⟨gx, 11, none⟩ = some (.int .i64 (q.since : Int)) := hb.cell 11
    have f9 := hb.frozen 9
    have f10 := hb.frozen 10
    have f11 := hb.frozen 11
    have hlt := hb.lt
    have hne := Nat.ne_of_lt hlt
    have T7 := Lib.hid (ref_shut (q := toldQ q) (((T6.pop.put 0 (by simp) rfl 9 (.int .i64 (q.na : Int))).put 0 (by simp) rfl 10 (.bool q.nw)).put 0 (by simp) rfl 11 (.int .i64 ((0 : Nat) : Int))) rfl rfl rfl)
    clear T6 hb
    go_wp2_with fail
    go_ret
    exact ⟨rfl, T7.out⟩
  · clear hlt hne hltk hnek v1 v2 v3 v4 v5 v6 hm hE
    have T3 := rt_keep3 T0.out hq (.int .i64 o) (.bool v) (.int .i64 f)
    obtain ⟨W3, hW3⟩ : ∃ W3, ((w1.setCell ⟨w.heap.size, 0, none⟩ (.int .i64 o)).setCell ⟨w.heap.size, 1, none⟩ (.bool v)).setCell ⟨w.heap.size, 2, none⟩ (.int .i64 f) = W3 := ⟨_, rfl⟩
    obtain ⟨K, hK⟩ : ∃ K, w.heap.size = K := ⟨_, rfl⟩
    rw [hW3] at T3 ⊢
    rw [hK] at T3 ⊢
    clear hW3 hK hq hc1 hf1 hz1 T0
    have hb := T3.blk 1 (by simp) rfl
    have k2 : W3.cell? ⟨K, 2, none⟩ = some (.int .i64 f) := (T3.blk 0 (by simp) rfl).cell 2
    have c11 : W3.cell? ⟨gx, 11, none⟩ = some (.int .i64 (q.since : Int)) := hb.cell 11
    have c2 : W3.cell? ⟨gx, 2, none⟩ = some (.int .i64 (q.size : Int)) := hb.cell 2
    have hlt := hb.lt
    have hne := Nat.ne_of_lt hlt
    have hltk := (T3.blk 0 (by simp) rfl).lt
    have hnek := Nat.ne_of_lt hltk
    have T3 := Lib.hid T3
    clear hb
    go_wp2_with fail
    go_quiet (fail)
    have T4 := T3.out.drewN nq
    generalize World.drewN W3 nq = W4 at *
    clear k2 c11 c2 T3 hlt hne hltk hnek
    have T4 := Lib.hid T4
    go_wp2_with fail
    go_region_held3 (fun W => W.cell? ⟨K, 0, none⟩ = some (.int .i64 o) ∧ W.cell? ⟨K, 1, none⟩ = some (.bool v) ∧ W.cell? ⟨K, 2, none⟩ = some (.int .i64 f) ∧ W.cell? ⟨gx, 9, none⟩ = some (.int .i64 (q.ta : Int)) ∧ W.cell? ⟨gx, 10, none⟩ = some (.bool q.tw) ∧ W.cell? ⟨gx, 5, none⟩ = some (.int .i64 (q.na : Int)) ∧ W.cell? ⟨gx, 6, none⟩ = some (.bool q.nw) ∧ W.cell? ⟨gx, 2, none⟩ = some (.int .i64 (q.size : Int)))
      (with_reducible (first | exact rt_cells2 T4.out.drew | exact rt_cells2 (T4.out.drew.below hq)))
      ((go_at_call 46; ((with_reducible refine (HN.out _).mono ?_); rintro e w6 ⟨rfl, hq⟩)))
    have T6 := T4.out.drew.below hq
    clear hq T4
    generalize w6 = W6 at *
    have hb := T6.blk 1 (by simp) rfl
    have b5 : W6.cell? ⟨gx, 5, none⟩ = some (.int .i64 (q.na : Int)) := hb.cell 5
    have b6 : W6.cell? ⟨gx, 6, none⟩ = some (.bool q.nw) := hb.cell 6
    have b9 : W6.cell? ⟨gx, 9, none⟩ = some (.int .i64 (q.ta : Int)) := hb.cell 9
    have b10 : W6.cell? ⟨gx, 10, none⟩ = some (.bool q.tw) := hb.cell 10
    have b11 : W6.cell? ⟨gx, 11, none⟩ = some (.int .i64 (q.since : Int)) := hb.cell 11
    have f9 := hb.frozen 9
    have f10 := hb.frozen 10
    have f11 := hb.frozen 11
    have hlt := hb.lt
    have hne := Nat.ne_of_lt hlt
    have T7 := Lib.hid (ref_shut (q := toldQ q) (((T6.pop.put 0 (by simp) rfl 9 (.int .i64 (q.na : Int))).put 0 (by simp) rfl 10 (.bool q.nw)).put 0 (by simp) rfl 11 (.int .i64 ((0 : Nat) : Int))) rfl rfl rfl)
    clear T6 hb
    go_wp2_with fail
    go_ret
    exact ⟨rfl, T7.out⟩
set_option maxRecDepth 100000 in
set_option maxHeartbeats 6400000 in
theorem rtell_nn {F : Nat → Prop} {w : World} {gx gk : Nat} {xs : List UInt8} {q : Vs} (h : (refA gx gk q).P F w) (hk : w.cell? ⟨gk, 0, none⟩ = some (.string ⟨xs.toArray⟩)) (hF : ¬ F gk) (hx : xs.length ≤ 1048576) (hd : q.dev + 4 ≤ xs.length) (o f : Int) (v B : Bool) (hs : q.since ≤ q.size) (hf : ¬ f = 0) (hf2 : ¬ f = 2)
    (HP : ∀ W, Calls Tryz.prog 45 #[.string (cut4 xs q.dev)] W fun e w' => e = .returned (.tuple #[.agg #[.int .i64 o, .bool v, .int .i64 f], .int .i64 0]) ∧ Below W.heap.size W w')
    (HN : ∀ W, Calls Tryz.prog 46 #[.agg #[.int .i64 o, .bool v, .int .i64 f], .agg #[.int .i64 (q.ta : Int), .bool q.tw], .agg #[.int .i64 (q.na : Int), .bool q.nw], .int .i64 (q.size : Int)] W fun e w' => e = .returned (.bool B) ∧ Below W.heap.size W w') :
    Calls Tryz.prog 14 #[.pointer (some ⟨gx, 0, none⟩)] w fun e w' => e = .returned (.bool B) ∧ St F w (refA gx gk (toldQ q)) w' := by
  obtain ⟨A, cap, h'⟩ := ref_open h
  have hE : (⟨xs.toArray⟩ : ByteArray).extract q.dev (q.dev + 4) = cut4 xs q.dev := cut_extract xs q.dev 4
  generalize cut4 xs q.dev = S at *
  obtain ⟨S0, hS0⟩ : ∃ S0 : ByteArray, ⟨xs.toArray⟩ = S0 := ⟨_, rfl⟩
  have hs0 : S0.size = xs.length := by rw [← hS0]; show xs.toArray.size = _; simp
  rw [hS0] at hE hk
  obtain ⟨m, hm0, hm⟩ : ∃ m : Nat, q.dev + 4 = m ∧ (q.dev : Int) + 4 = (m : Int) := ⟨_, rfl, by omega⟩
  rw [hm0] at hE
  have v1 : IntKind.i64.wrap (m : Int) = (m : Int) := by rw [IntKind.wrap_i64]; omega
  have v2 : (q.dev : Int) ≤ (m : Int) := by omega
  have v3 : (m : Int) ≤ (S0.size : Int) := by omega
  have v4 : ¬ (S0.size : Int) < (m : Int) := by omega
  have v5 : m ≤ S0.size := by omega
  have v6 : q.dev ≤ m := by omega
  have HK := Lib.hid (And.intro (World.block_lt_of_cell? w ⟨gk, 0, none⟩ hk) (And.intro hF hk))
  have T0 := St.start h'
  have HN := Lib.hid HN
  have HP := Lib.hid HP
  have hb := T0.blk 0 (by simp) rfl
  have hlt := hb.lt
  have hne := Nat.ne_of_lt hlt
  have hltk := HK.out.1
  have hnek := Nat.ne_of_lt hltk
  have T0 := Lib.hid T0
  have s1 : (q.since : Int) ≤ (q.size : Int) := by omega
  have f0 : (f == 0) = false := by simp [hf]
  have f2 : (f == 2) = false := by simp [hf2]
  clear hf hf2
  clear h h' hk hF hS0 hs0 hm0 hb hx hd
  go_enter Tryz.func14, Tryz.ntmps14
  go_wp2_with fail
  go_region_held3 (fun W => W.cell? ⟨gx, 0, none⟩ = some (.pointer (some ⟨gk, 0, none⟩)) ∧ W.cell? ⟨gk, 0, none⟩ = some (.string S0) ∧ W.cell? ⟨gx, 4, none⟩ = some (.int .i64 (q.dev : Int)))
    (with_reducible (first | exact rt_cells1 T0.out.drew HK | exact rt_cells1 (T0.out.alloc _).drew HK | exact rt_cells1 (T0.out.drew.below hq) HK | exact rt_cells1 ((T0.out.alloc _).drew.below hq) HK | exact rt_cells1 ((T0.out.drew.below hq).alloc _) HK | exact rt_cells1 (rt_st3 T0.out hq _ _ _) HK))
    ((go_at_call 45; ((with_reducible refine (HP.out _).mono ?_); rintro e w1 ⟨rfl, hq⟩; obtain ⟨hc1, hf1⟩ := bcell hq; have hz1 := hq.size; (try simp at hz1))))
  · clear hlt hne hltk hnek v1 v2 v3 v4 v5 v6 hm hE
    have T3 := (T0.out.drew.below hq).push 34 #[.int .i64 o, .bool v, .int .i64 f]
    obtain ⟨W3, hW3⟩ : ∃ W3, w1.alloc (.cells #[.int .i64 o, .bool v, .int .i64 f] 34) = W3 := ⟨_, rfl⟩
    obtain ⟨K, hK⟩ : ∃ K, w1.heap.size = K := ⟨_, rfl⟩
    rw [hW3] at T3 ⊢
    rw [hK] at T3 ⊢
    clear hW3 hK hq hc1 hf1 hz1 T0
    have hb := T3.blk 1 (by simp) rfl
    have k2 : W3.cell? ⟨K, 2, none⟩ = some (.int .i64 f) := (T3.blk 0 (by simp) rfl).cell 2
    have c11 : W3.cell? ⟨gx, 11, none⟩ = some (.int .i64 (q.since : Int)) := hb.cell 11
    have c2 : W3.cell? ⟨gx, 2, none⟩ = some (.int .i64 (q.size : Int)) := hb.cell 2
    have hlt := hb.lt
    have hne := Nat.ne_of_lt hlt
    have hltk := (T3.blk 0 (by simp) rfl).lt
    have hnek := Nat.ne_of_lt hltk
    have T3 := Lib.hid T3
    clear hb
    go_wp2_with fail
    go_quiet (fail)
    have T4 := T3.out.drewN nq
    generalize World.drewN W3 nq = W4 at *
    clear k2 c11 c2 T3 hlt hne hltk hnek
    have T4 := Lib.hid T4
    go_wp2_with fail
    go_region_held3 (fun W => W.cell? ⟨K, 0, none⟩ = some (.int .i64 o) ∧ W.cell? ⟨K, 1, none⟩ = some (.bool v) ∧ W.cell? ⟨K, 2, none⟩ = some (.int .i64 f) ∧ W.cell? ⟨gx, 9, none⟩ = some (.int .i64 (q.ta : Int)) ∧ W.cell? ⟨gx, 10, none⟩ = some (.bool q.tw) ∧ W.cell? ⟨gx, 5, none⟩ = some (.int .i64 (q.na : Int)) ∧ W.cell? ⟨gx, 6, none⟩ = some (.bool q.nw) ∧ W.cell? ⟨gx, 2, none⟩ = some (.int .i64 (q.size : Int)))
      (with_reducible (first | exact rt_cells2 T4.out.drew | exact rt_cells2 (T4.out.drew.below hq)))
      ((go_at_call 46; ((with_reducible refine (HN.out _).mono ?_); rintro e w6 ⟨rfl, hq⟩)))
    have T6 := T4.out.drew.below hq
    clear hq T4
    generalize w6 = W6 at *
    have hb := T6.blk 1 (by simp) rfl
    have b5 : W6.cell? ⟨gx, 5, none⟩ = some (.int .i64 (q.na : Int)) := hb.cell 5
    have b6 : W6.cell? ⟨gx, 6, none⟩ = some (.bool q.nw) := hb.cell 6
    have b9 : W6.cell? ⟨gx, 9, none⟩ = some (.int .i64 (q.ta : Int)) := hb.cell 9
    have b10 : W6.cell? ⟨gx, 10, none⟩ = some (.bool q.tw) := hb.cell 10
    have b11 : W6.cell? ⟨gx, 11, none⟩ = some (.int .i64 (q.since : Int)) := hb.cell 11
    have f9 := hb.frozen 9
    have f10 := hb.frozen 10
    have f11 := hb.frozen 11
    have hlt := hb.lt
    have hne := Nat.ne_of_lt hlt
    have T7 := Lib.hid (ref_shut (q := toldQ q) (((T6.pop.put 0 (by simp) rfl 9 (.int .i64 (q.na : Int))).put 0 (by simp) rfl 10 (.bool q.nw)).put 0 (by simp) rfl 11 (.int .i64 ((0 : Nat) : Int))) rfl rfl rfl)
    clear T6 hb
    go_wp2_with fail
    go_ret
    exact ⟨rfl, T7.out⟩
  · clear hlt hne hltk hnek v1 v2 v3 v4 v5 v6 hm hE
    have T3 := rt_keep3 T0.out hq (.int .i64 o) (.bool v) (.int .i64 f)
    obtain ⟨W3, hW3⟩ : ∃ W3, ((w1.setCell ⟨w.heap.size, 0, none⟩ (.int .i64 o)).setCell ⟨w.heap.size, 1, none⟩ (.bool v)).setCell ⟨w.heap.size, 2, none⟩ (.int .i64 f) = W3 := ⟨_, rfl⟩
    obtain ⟨K, hK⟩ : ∃ K, w.heap.size = K := ⟨_, rfl⟩
    rw [hW3] at T3 ⊢
    rw [hK] at T3 ⊢
    clear hW3 hK hq hc1 hf1 hz1 T0
    have hb := T3.blk 1 (by simp) rfl
    have k2 : W3.cell? ⟨K, 2, none⟩ = some (.int .i64 f) := (T3.blk 0 (by simp) rfl).cell 2
    have c11 : W3.cell? ⟨gx, 11, none⟩ = some (.int .i64 (q.since : Int)) := hb.cell 11
    have c2 : W3.cell? ⟨gx, 2, none⟩ = some (.int .i64 (q.size : Int)) := hb.cell 2
    have hlt := hb.lt
    have hne := Nat.ne_of_lt hlt
    have hltk := (T3.blk 0 (by simp) rfl).lt
    have hnek := Nat.ne_of_lt hltk
    have T3 := Lib.hid T3
    clear hb
    go_wp2_with fail
    go_quiet (fail)
    have T4 := T3.out.drewN nq
    generalize World.drewN W3 nq = W4 at *
    clear k2 c11 c2 T3 hlt hne hltk hnek
    have T4 := Lib.hid T4
    go_wp2_with fail
    go_region_held3 (fun W => W.cell? ⟨K, 0, none⟩ = some (.int .i64 o) ∧ W.cell? ⟨K, 1, none⟩ = some (.bool v) ∧ W.cell? ⟨K, 2, none⟩ = some (.int .i64 f) ∧ W.cell? ⟨gx, 9, none⟩ = some (.int .i64 (q.ta : Int)) ∧ W.cell? ⟨gx, 10, none⟩ = some (.bool q.tw) ∧ W.cell? ⟨gx, 5, none⟩ = some (.int .i64 (q.na : Int)) ∧ W.cell? ⟨gx, 6, none⟩ = some (.bool q.nw) ∧ W.cell? ⟨gx, 2, none⟩ = some (.int .i64 (q.size : Int)))
      (with_reducible (first | exact rt_cells2 T4.out.drew | exact rt_cells2 (T4.out.drew.below hq)))
      ((go_at_call 46; ((with_reducible refine (HN.out _).mono ?_); rintro e w6 ⟨rfl, hq⟩)))
    have T6 := T4.out.drew.below hq
    clear hq T4
    generalize w6 = W6 at *
    have hb := T6.blk 1 (by simp) rfl
    have b5 : W6.cell? ⟨gx, 5, none⟩ = some (.int .i64 (q.na : Int)) := hb.cell 5
    have b6 : W6.cell? ⟨gx, 6, none⟩ = some (.bool q.nw) := hb.cell 6
    have b9 : W6.cell? ⟨gx, 9, none⟩ = some (.int .i64 (q.ta : Int)) := hb.cell 9
    have b10 : W6.cell? ⟨gx, 10, none⟩ = some (.bool q.tw) := hb.cell 10
    have b11 : W6.cell? ⟨gx, 11, none⟩ = some (.int .i64 (q.since : Int)) := hb.cell 11
    have f9 := hb.frozen 9
    have f10 := hb.frozen 10
    have f11 := hb.frozen 11
    have hlt := hb.lt
    have hne := Nat.ne_of_lt hlt
    have T7 := Lib.hid (ref_shut (q := toldQ q) (((T6.pop.put 0 (by simp) rfl 9 (.int .i64 (q.na : Int))).put 0 (by simp) rfl 10 (.bool q.nw)).put 0 (by simp) rfl 11 (.int .i64 ((0 : Nat) : Int))) rfl rfl rfl)
    clear T6 hb
    go_wp2_with fail
    go_ret
    exact ⟨rfl, T7.out⟩
set_option maxRecDepth 100000 in
set_option maxHeartbeats 6400000 in
theorem rtell_z0 {F : Nat → Prop} {w : World} {gx gk : Nat} {xs : List UInt8} {q : Vs} (h : (refA gx gk q).P F w) (hk : w.cell? ⟨gk, 0, none⟩ = some (.string ⟨xs.toArray⟩)) (hF : ¬ F gk) (hx : xs.length ≤ 1048576) (hd : q.dev + 4 ≤ xs.length) (o f : Int) (v B : Bool) (hs : ¬ q.since ≤ q.size) (hf : f = 0)
    (HP : ∀ W, Calls Tryz.prog 45 #[.string (cut4 xs q.dev)] W fun e w' => e = .returned (.tuple #[.agg #[.int .i64 o, .bool v, .int .i64 f], .int .i64 0]) ∧ Below W.heap.size W w')
    (HN : ∀ W, Calls Tryz.prog 46 #[.agg #[.int .i64 o, .bool v, .int .i64 f], .agg #[.int .i64 (q.ta : Int), .bool q.tw], .agg #[.int .i64 (q.na : Int), .bool q.nw], .int .i64 (q.size : Int)] W fun e w' => e = .returned (.bool B) ∧ Below W.heap.size W w') :
    Calls Tryz.prog 14 #[.pointer (some ⟨gx, 0, none⟩)] w fun e w' => e = .returned (.bool true) ∧ St F w (refA gx gk (toldQ q)) w' := by
  obtain ⟨A, cap, h'⟩ := ref_open h
  have hE : (⟨xs.toArray⟩ : ByteArray).extract q.dev (q.dev + 4) = cut4 xs q.dev := cut_extract xs q.dev 4
  generalize cut4 xs q.dev = S at *
  obtain ⟨S0, hS0⟩ : ∃ S0 : ByteArray, ⟨xs.toArray⟩ = S0 := ⟨_, rfl⟩
  have hs0 : S0.size = xs.length := by rw [← hS0]; show xs.toArray.size = _; simp
  rw [hS0] at hE hk
  obtain ⟨m, hm0, hm⟩ : ∃ m : Nat, q.dev + 4 = m ∧ (q.dev : Int) + 4 = (m : Int) := ⟨_, rfl, by omega⟩
  rw [hm0] at hE
  have v1 : IntKind.i64.wrap (m : Int) = (m : Int) := by rw [IntKind.wrap_i64]; omega
  have v2 : (q.dev : Int) ≤ (m : Int) := by omega
  have v3 : (m : Int) ≤ (S0.size : Int) := by omega
  have v4 : ¬ (S0.size : Int) < (m : Int) := by omega
  have v5 : m ≤ S0.size := by omega
  have v6 : q.dev ≤ m := by omega
  have HK := Lib.hid (And.intro (World.block_lt_of_cell? w ⟨gk, 0, none⟩ hk) (And.intro hF hk))
  have T0 := St.start h'
  have HN := Lib.hid HN
  have HP := Lib.hid HP
  have hb := T0.blk 0 (by simp) rfl
  have hlt := hb.lt
  have hne := Nat.ne_of_lt hlt
  have hltk := HK.out.1
  have hnek := Nat.ne_of_lt hltk
  have T0 := Lib.hid T0
  have s1 : ¬ (q.since : Int) ≤ (q.size : Int) := by omega
  have f0 : (f == 0) = true := by simp [hf]
  clear hf
  clear h h' hk hF hS0 hs0 hm0 hb hx hd
  go_enter Tryz.func14, Tryz.ntmps14
  go_wp2_with fail
  go_region_held3 (fun W => W.cell? ⟨gx, 0, none⟩ = some (.pointer (some ⟨gk, 0, none⟩)) ∧ W.cell? ⟨gk, 0, none⟩ = some (.string S0) ∧ W.cell? ⟨gx, 4, none⟩ = some (.int .i64 (q.dev : Int)))
    (with_reducible (first | exact rt_cells1 T0.out.drew HK | exact rt_cells1 (T0.out.alloc _).drew HK | exact rt_cells1 (T0.out.drew.below hq) HK | exact rt_cells1 ((T0.out.alloc _).drew.below hq) HK | exact rt_cells1 ((T0.out.drew.below hq).alloc _) HK | exact rt_cells1 (rt_st3 T0.out hq _ _ _) HK))
    ((go_at_call 45; ((with_reducible refine (HP.out _).mono ?_); rintro e w1 ⟨rfl, hq⟩; obtain ⟨hc1, hf1⟩ := bcell hq; have hz1 := hq.size; (try simp at hz1))))
  · clear hlt hne hltk hnek v1 v2 v3 v4 v5 v6 hm hE
    have T3 := (T0.out.drew.below hq).push 34 #[.int .i64 o, .bool v, .int .i64 f]
    obtain ⟨W3, hW3⟩ : ∃ W3, w1.alloc (.cells #[.int .i64 o, .bool v, .int .i64 f] 34) = W3 := ⟨_, rfl⟩
    obtain ⟨K, hK⟩ : ∃ K, w1.heap.size = K := ⟨_, rfl⟩
    rw [hW3] at T3 ⊢
    rw [hK] at T3 ⊢
    clear hW3 hK hq hc1 hf1 hz1 T0
    have hb := T3.blk 1 (by simp) rfl
    have k2 : W3.cell? ⟨K, 2, none⟩ = some (.int .i64 f) := (T3.blk 0 (by simp) rfl).cell 2
    have c11 : W3.cell? ⟨gx, 11, none⟩ = some (.int .i64 (q.since : Int)) := hb.cell 11
    have c2 : W3.cell? ⟨gx, 2, none⟩ = some (.int .i64 (q.size : Int)) := hb.cell 2
    have hlt := hb.lt
    have hne := Nat.ne_of_lt hlt
    have hltk := (T3.blk 0 (by simp) rfl).lt
    have hnek := Nat.ne_of_lt hltk
    have T3 := Lib.hid T3
    clear hb
    go_wp2_with fail
    go_quiet (fail)
    have T4 := T3.out.drewN nq
    generalize World.drewN W3 nq = W4 at *
    clear k2 c11 c2 T3 hlt hne hltk hnek
    have T6 := T4
    generalize W4 = W6 at *
    have hb := T6.blk 1 (by simp) rfl
    have b5 : W6.cell? ⟨gx, 5, none⟩ = some (.int .i64 (q.na : Int)) := hb.cell 5
    have b6 : W6.cell? ⟨gx, 6, none⟩ = some (.bool q.nw) := hb.cell 6
    have b9 : W6.cell? ⟨gx, 9, none⟩ = some (.int .i64 (q.ta : Int)) := hb.cell 9
    have b10 : W6.cell? ⟨gx, 10, none⟩ = some (.bool q.tw) := hb.cell 10
    have b11 : W6.cell? ⟨gx, 11, none⟩ = some (.int .i64 (q.since : Int)) := hb.cell 11
    have f9 := hb.frozen 9
    have f10 := hb.frozen 10
    have f11 := hb.frozen 11
    have hlt := hb.lt
    have hne := Nat.ne_of_lt hlt
    have T7 := Lib.hid (ref_shut (q := toldQ q) (((T6.pop.put 0 (by simp) rfl 9 (.int .i64 (q.na : Int))).put 0 (by simp) rfl 10 (.bool q.nw)).put 0 (by simp) rfl 11 (.int .i64 ((0 : Nat) : Int))) rfl rfl rfl)
    clear T6 hb
    go_wp2_with fail
    go_ret
    exact ⟨rfl, T7.out⟩
  · clear hlt hne hltk hnek v1 v2 v3 v4 v5 v6 hm hE
    have T3 := rt_keep3 T0.out hq (.int .i64 o) (.bool v) (.int .i64 f)
    obtain ⟨W3, hW3⟩ : ∃ W3, ((w1.setCell ⟨w.heap.size, 0, none⟩ (.int .i64 o)).setCell ⟨w.heap.size, 1, none⟩ (.bool v)).setCell ⟨w.heap.size, 2, none⟩ (.int .i64 f) = W3 := ⟨_, rfl⟩
    obtain ⟨K, hK⟩ : ∃ K, w.heap.size = K := ⟨_, rfl⟩
    rw [hW3] at T3 ⊢
    rw [hK] at T3 ⊢
    clear hW3 hK hq hc1 hf1 hz1 T0
    have hb := T3.blk 1 (by simp) rfl
    have k2 : W3.cell? ⟨K, 2, none⟩ = some (.int .i64 f) := (T3.blk 0 (by simp) rfl).cell 2
    have c11 : W3.cell? ⟨gx, 11, none⟩ = some (.int .i64 (q.since : Int)) := hb.cell 11
    have c2 : W3.cell? ⟨gx, 2, none⟩ = some (.int .i64 (q.size : Int)) := hb.cell 2
    have hlt := hb.lt
    have hne := Nat.ne_of_lt hlt
    have hltk := (T3.blk 0 (by simp) rfl).lt
    have hnek := Nat.ne_of_lt hltk
    have T3 := Lib.hid T3
    clear hb
    go_wp2_with fail
    go_quiet (fail)
    have T4 := T3.out.drewN nq
    generalize World.drewN W3 nq = W4 at *
    clear k2 c11 c2 T3 hlt hne hltk hnek
    have T6 := T4
    generalize W4 = W6 at *
    have hb := T6.blk 1 (by simp) rfl
    have b5 : W6.cell? ⟨gx, 5, none⟩ = some (.int .i64 (q.na : Int)) := hb.cell 5
    have b6 : W6.cell? ⟨gx, 6, none⟩ = some (.bool q.nw) := hb.cell 6
    have b9 : W6.cell? ⟨gx, 9, none⟩ = some (.int .i64 (q.ta : Int)) := hb.cell 9
    have b10 : W6.cell? ⟨gx, 10, none⟩ = some (.bool q.tw) := hb.cell 10
    have b11 : W6.cell? ⟨gx, 11, none⟩ = some (.int .i64 (q.since : Int)) := hb.cell 11
    have f9 := hb.frozen 9
    have f10 := hb.frozen 10
    have f11 := hb.frozen 11
    have hlt := hb.lt
    have hne := Nat.ne_of_lt hlt
    have T7 := Lib.hid (ref_shut (q := toldQ q) (((T6.pop.put 0 (by simp) rfl 9 (.int .i64 (q.na : Int))).put 0 (by simp) rfl 10 (.bool q.nw)).put 0 (by simp) rfl 11 (.int .i64 ((0 : Nat) : Int))) rfl rfl rfl)
    clear T6 hb
    go_wp2_with fail
    go_ret
    exact ⟨rfl, T7.out⟩
set_option maxRecDepth 100000 in
set_option maxHeartbeats 6400000 in
theorem rtell_z2 {F : Nat → Prop} {w : World} {gx gk : Nat} {xs : List UInt8} {q : Vs} (h : (refA gx gk q).P F w) (hk : w.cell? ⟨gk, 0, none⟩ = some (.string ⟨xs.toArray⟩)) (hF : ¬ F gk) (hx : xs.length ≤ 1048576) (hd : q.dev + 4 ≤ xs.length) (o f : Int) (v B : Bool) (hs : ¬ q.since ≤ q.size) (hf : f = 2)
    (HP : ∀ W, Calls Tryz.prog 45 #[.string (cut4 xs q.dev)] W fun e w' => e = .returned (.tuple #[.agg #[.int .i64 o, .bool v, .int .i64 f], .int .i64 0]) ∧ Below W.heap.size W w')
    (HN : ∀ W, Calls Tryz.prog 46 #[.agg #[.int .i64 o, .bool v, .int .i64 f], .agg #[.int .i64 (q.ta : Int), .bool q.tw], .agg #[.int .i64 (q.na : Int), .bool q.nw], .int .i64 (q.size : Int)] W fun e w' => e = .returned (.bool B) ∧ Below W.heap.size W w') :
    Calls Tryz.prog 14 #[.pointer (some ⟨gx, 0, none⟩)] w fun e w' => e = .returned (.bool true) ∧ St F w (refA gx gk (toldQ q)) w' := by
  obtain ⟨A, cap, h'⟩ := ref_open h
  have hE : (⟨xs.toArray⟩ : ByteArray).extract q.dev (q.dev + 4) = cut4 xs q.dev := cut_extract xs q.dev 4
  generalize cut4 xs q.dev = S at *
  obtain ⟨S0, hS0⟩ : ∃ S0 : ByteArray, ⟨xs.toArray⟩ = S0 := ⟨_, rfl⟩
  have hs0 : S0.size = xs.length := by rw [← hS0]; show xs.toArray.size = _; simp
  rw [hS0] at hE hk
  obtain ⟨m, hm0, hm⟩ : ∃ m : Nat, q.dev + 4 = m ∧ (q.dev : Int) + 4 = (m : Int) := ⟨_, rfl, by omega⟩
  rw [hm0] at hE
  have v1 : IntKind.i64.wrap (m : Int) = (m : Int) := by rw [IntKind.wrap_i64]; omega
  have v2 : (q.dev : Int) ≤ (m : Int) := by omega
  have v3 : (m : Int) ≤ (S0.size : Int) := by omega
  have v4 : ¬ (S0.size : Int) < (m : Int) := by omega
  have v5 : m ≤ S0.size := by omega
  have v6 : q.dev ≤ m := by omega
  have HK := Lib.hid (And.intro (World.block_lt_of_cell? w ⟨gk, 0, none⟩ hk) (And.intro hF hk))
  have T0 := St.start h'
  have HN := Lib.hid HN
  have HP := Lib.hid HP
  have hb := T0.blk 0 (by simp) rfl
  have hlt := hb.lt
  have hne := Nat.ne_of_lt hlt
  have hltk := HK.out.1
  have hnek := Nat.ne_of_lt hltk
  have T0 := Lib.hid T0
  have s1 : ¬ (q.since : Int) ≤ (q.size : Int) := by omega
  have f0 : (f == 0) = false := by simp [hf]
  have f2 : (f == 2) = true := by simp [hf]
  clear hf
  clear h h' hk hF hS0 hs0 hm0 hb hx hd
  go_enter Tryz.func14, Tryz.ntmps14
  go_wp2_with fail
  go_region_held3 (fun W => W.cell? ⟨gx, 0, none⟩ = some (.pointer (some ⟨gk, 0, none⟩)) ∧ W.cell? ⟨gk, 0, none⟩ = some (.string S0) ∧ W.cell? ⟨gx, 4, none⟩ = some (.int .i64 (q.dev : Int)))
    (with_reducible (first | exact rt_cells1 T0.out.drew HK | exact rt_cells1 (T0.out.alloc _).drew HK | exact rt_cells1 (T0.out.drew.below hq) HK | exact rt_cells1 ((T0.out.alloc _).drew.below hq) HK | exact rt_cells1 ((T0.out.drew.below hq).alloc _) HK | exact rt_cells1 (rt_st3 T0.out hq _ _ _) HK))
    ((go_at_call 45; ((with_reducible refine (HP.out _).mono ?_); rintro e w1 ⟨rfl, hq⟩; obtain ⟨hc1, hf1⟩ := bcell hq; have hz1 := hq.size; (try simp at hz1))))
  · clear hlt hne hltk hnek v1 v2 v3 v4 v5 v6 hm hE
    have T3 := (T0.out.drew.below hq).push 34 #[.int .i64 o, .bool v, .int .i64 f]
    obtain ⟨W3, hW3⟩ : ∃ W3, w1.alloc (.cells #[.int .i64 o, .bool v, .int .i64 f] 34) = W3 := ⟨_, rfl⟩
    obtain ⟨K, hK⟩ : ∃ K, w1.heap.size = K := ⟨_, rfl⟩
    rw [hW3] at T3 ⊢
    rw [hK] at T3 ⊢
    clear hW3 hK hq hc1 hf1 hz1 T0
    have hb := T3.blk 1 (by simp) rfl
    have k2 : W3.cell? ⟨K, 2, none⟩ = some (.int .i64 f) := (T3.blk 0 (by simp) rfl).cell 2
    have c11 : W3.cell? ⟨gx, 11, none⟩ = some (.int .i64 (q.since : Int)) := hb.cell 11
    have c2 : W3.cell? ⟨gx, 2, none⟩ = some (.int .i64 (q.size : Int)) := hb.cell 2
    have hlt := hb.lt
    have hne := Nat.ne_of_lt hlt
    have hltk := (T3.blk 0 (by simp) rfl).lt
    have hnek := Nat.ne_of_lt hltk
    have T3 := Lib.hid T3
    clear hb
    go_wp2_with fail
    go_quiet (fail)
    have T4 := T3.out.drewN nq
    generalize World.drewN W3 nq = W4 at *
    clear k2 c11 c2 T3 hlt hne hltk hnek
    have T6 := T4
    generalize W4 = W6 at *
    have hb := T6.blk 1 (by simp) rfl
    have b5 : W6.cell? ⟨gx, 5, none⟩ = some (.int .i64 (q.na : Int)) := hb.cell 5
    have b6 : W6.cell? ⟨gx, 6, none⟩ = some (.bool q.nw) := hb.cell 6
    have b9 : W6.cell? ⟨gx, 9, none⟩ = some (.int .i64 (q.ta : Int)) := hb.cell 9
    have b10 : W6.cell? ⟨gx, 10, none⟩ = some (.bool q.tw) := hb.cell 10
    have b11 : W6.cell? ⟨gx, 11, none⟩ = some (.int .i64 (q.since : Int)) := hb.cell 11
    have f9 := hb.frozen 9
    have f10 := hb.frozen 10
    have f11 := hb.frozen 11
    have hlt := hb.lt
    have hne := Nat.ne_of_lt hlt
    have T7 := Lib.hid (ref_shut (q := toldQ q) (((T6.pop.put 0 (by simp) rfl 9 (.int .i64 (q.na : Int))).put 0 (by simp) rfl 10 (.bool q.nw)).put 0 (by simp) rfl 11 (.int .i64 ((0 : Nat) : Int))) rfl rfl rfl)
    clear T6 hb
    go_wp2_with fail
    go_ret
    exact ⟨rfl, T7.out⟩
  · clear hlt hne hltk hnek v1 v2 v3 v4 v5 v6 hm hE
    have T3 := rt_keep3 T0.out hq (.int .i64 o) (.bool v) (.int .i64 f)
    obtain ⟨W3, hW3⟩ : ∃ W3, ((w1.setCell ⟨w.heap.size, 0, none⟩ (.int .i64 o)).setCell ⟨w.heap.size, 1, none⟩ (.bool v)).setCell ⟨w.heap.size, 2, none⟩ (.int .i64 f) = W3 := ⟨_, rfl⟩
    obtain ⟨K, hK⟩ : ∃ K, w.heap.size = K := ⟨_, rfl⟩
    rw [hW3] at T3 ⊢
    rw [hK] at T3 ⊢
    clear hW3 hK hq hc1 hf1 hz1 T0
    have hb := T3.blk 1 (by simp) rfl
    have k2 : W3.cell? ⟨K, 2, none⟩ = some (.int .i64 f) := (T3.blk 0 (by simp) rfl).cell 2
    have c11 : W3.cell? ⟨gx, 11, none⟩ = some (.int .i64 (q.since : Int)) := hb.cell 11
    have c2 : W3.cell? ⟨gx, 2, none⟩ = some (.int .i64 (q.size : Int)) := hb.cell 2
    have hlt := hb.lt
    have hne := Nat.ne_of_lt hlt
    have hltk := (T3.blk 0 (by simp) rfl).lt
    have hnek := Nat.ne_of_lt hltk
    have T3 := Lib.hid T3
    clear hb
    go_wp2_with fail
    go_quiet (fail)
    have T4 := T3.out.drewN nq
    generalize World.drewN W3 nq = W4 at *
    clear k2 c11 c2 T3 hlt hne hltk hnek
    have T6 := T4
    generalize W4 = W6 at *
    have hb := T6.blk 1 (by simp) rfl
    have b5 : W6.cell? ⟨gx, 5, none⟩ = some (.int .i64 (q.na : Int)) := hb.cell 5
    have b6 : W6.cell? ⟨gx, 6, none⟩ = some (.bool q.nw) := hb.cell 6
    have b9 : W6.cell? ⟨gx, 9, none⟩ = some (.int .i64 (q.ta : Int)) := hb.cell 9
    have b10 : W6.cell? ⟨gx, 10, none⟩ = some (.bool q.tw) := hb.cell 10
    have b11 : W6.cell? ⟨gx, 11, none⟩ = some (.int .i64 (q.since : Int)) := hb.cell 11
    have f9 := hb.frozen 9
    have f10 := hb.frozen 10
    have f11 := hb.frozen 11
    have hlt := hb.lt
    have hne := Nat.ne_of_lt hlt
    have T7 := Lib.hid (ref_shut (q := toldQ q) (((T6.pop.put 0 (by simp) rfl 9 (.int .i64 (q.na : Int))).put 0 (by simp) rfl 10 (.bool q.nw)).put 0 (by simp) rfl 11 (.int .i64 ((0 : Nat) : Int))) rfl rfl rfl)
    clear T6 hb
    go_wp2_with fail
    go_ret
    exact ⟨rfl, T7.out⟩
set_option maxRecDepth 100000 in
set_option maxHeartbeats 6400000 in
theorem rtell_zn {F : Nat → Prop} {w : World} {gx gk : Nat} {xs : List UInt8} {q : Vs} (h : (refA gx gk q).P F w) (hk : w.cell? ⟨gk, 0, none⟩ = some (.string ⟨xs.toArray⟩)) (hF : ¬ F gk) (hx : xs.length ≤ 1048576) (hd : q.dev + 4 ≤ xs.length) (o f : Int) (v B : Bool) (hs : ¬ q.since ≤ q.size) (hf : ¬ f = 0) (hf2 : ¬ f = 2)
    (HP : ∀ W, Calls Tryz.prog 45 #[.string (cut4 xs q.dev)] W fun e w' => e = .returned (.tuple #[.agg #[.int .i64 o, .bool v, .int .i64 f], .int .i64 0]) ∧ Below W.heap.size W w')
    (HN : ∀ W, Calls Tryz.prog 46 #[.agg #[.int .i64 o, .bool v, .int .i64 f], .agg #[.int .i64 (q.ta : Int), .bool q.tw], .agg #[.int .i64 (q.na : Int), .bool q.nw], .int .i64 (q.size : Int)] W fun e w' => e = .returned (.bool B) ∧ Below W.heap.size W w') :
    Calls Tryz.prog 14 #[.pointer (some ⟨gx, 0, none⟩)] w fun e w' => e = .returned (.bool false) ∧ St F w (refA gx gk (toldQ q)) w' := by
  obtain ⟨A, cap, h'⟩ := ref_open h
  have hE : (⟨xs.toArray⟩ : ByteArray).extract q.dev (q.dev + 4) = cut4 xs q.dev := cut_extract xs q.dev 4
  generalize cut4 xs q.dev = S at *
  obtain ⟨S0, hS0⟩ : ∃ S0 : ByteArray, ⟨xs.toArray⟩ = S0 := ⟨_, rfl⟩
  have hs0 : S0.size = xs.length := by rw [← hS0]; show xs.toArray.size = _; simp
  rw [hS0] at hE hk
  obtain ⟨m, hm0, hm⟩ : ∃ m : Nat, q.dev + 4 = m ∧ (q.dev : Int) + 4 = (m : Int) := ⟨_, rfl, by omega⟩
  rw [hm0] at hE
  have v1 : IntKind.i64.wrap (m : Int) = (m : Int) := by rw [IntKind.wrap_i64]; omega
  have v2 : (q.dev : Int) ≤ (m : Int) := by omega
  have v3 : (m : Int) ≤ (S0.size : Int) := by omega
  have v4 : ¬ (S0.size : Int) < (m : Int) := by omega
  have v5 : m ≤ S0.size := by omega
  have v6 : q.dev ≤ m := by omega
  have HK := Lib.hid (And.intro (World.block_lt_of_cell? w ⟨gk, 0, none⟩ hk) (And.intro hF hk))
  have T0 := St.start h'
  have HN := Lib.hid HN
  have HP := Lib.hid HP
  have hb := T0.blk 0 (by simp) rfl
  have hlt := hb.lt
  have hne := Nat.ne_of_lt hlt
  have hltk := HK.out.1
  have hnek := Nat.ne_of_lt hltk
  have T0 := Lib.hid T0
  have s1 : ¬ (q.since : Int) ≤ (q.size : Int) := by omega
  have f0 : (f == 0) = false := by simp [hf]
  have f2 : (f == 2) = false := by simp [hf2]
  clear hf hf2
  clear h h' hk hF hS0 hs0 hm0 hb hx hd
  go_enter Tryz.func14, Tryz.ntmps14
  go_wp2_with fail
  go_region_held3 (fun W => W.cell? ⟨gx, 0, none⟩ = some (.pointer (some ⟨gk, 0, none⟩)) ∧ W.cell? ⟨gk, 0, none⟩ = some (.string S0) ∧ W.cell? ⟨gx, 4, none⟩ = some (.int .i64 (q.dev : Int)))
    (with_reducible (first | exact rt_cells1 T0.out.drew HK | exact rt_cells1 (T0.out.alloc _).drew HK | exact rt_cells1 (T0.out.drew.below hq) HK | exact rt_cells1 ((T0.out.alloc _).drew.below hq) HK | exact rt_cells1 ((T0.out.drew.below hq).alloc _) HK | exact rt_cells1 (rt_st3 T0.out hq _ _ _) HK))
    ((go_at_call 45; ((with_reducible refine (HP.out _).mono ?_); rintro e w1 ⟨rfl, hq⟩; obtain ⟨hc1, hf1⟩ := bcell hq; have hz1 := hq.size; (try simp at hz1))))
  · clear hlt hne hltk hnek v1 v2 v3 v4 v5 v6 hm hE
    have T3 := (T0.out.drew.below hq).push 34 #[.int .i64 o, .bool v, .int .i64 f]
    obtain ⟨W3, hW3⟩ : ∃ W3, w1.alloc (.cells #[.int .i64 o, .bool v, .int .i64 f] 34) = W3 := ⟨_, rfl⟩
    obtain ⟨K, hK⟩ : ∃ K, w1.heap.size = K := ⟨_, rfl⟩
    rw [hW3] at T3 ⊢
    rw [hK] at T3 ⊢
    clear hW3 hK hq hc1 hf1 hz1 T0
    have hb := T3.blk 1 (by simp) rfl
    have k2 : W3.cell? ⟨K, 2, none⟩ = some (.int .i64 f) := (T3.blk 0 (by simp) rfl).cell 2
    have c11 : W3.cell? ⟨gx, 11, none⟩ = some (.int .i64 (q.since : Int)) := hb.cell 11
    have c2 : W3.cell? ⟨gx, 2, none⟩ = some (.int .i64 (q.size : Int)) := hb.cell 2
    have hlt := hb.lt
    have hne := Nat.ne_of_lt hlt
    have hltk := (T3.blk 0 (by simp) rfl).lt
    have hnek := Nat.ne_of_lt hltk
    have T3 := Lib.hid T3
    clear hb
    go_wp2_with fail
    go_quiet (fail)
    have T4 := T3.out.drewN nq
    generalize World.drewN W3 nq = W4 at *
    clear k2 c11 c2 T3 hlt hne hltk hnek
    have T6 := T4
    generalize W4 = W6 at *
    have hb := T6.blk 1 (by simp) rfl
    have b5 : W6.cell? ⟨gx, 5, none⟩ = some (.int .i64 (q.na : Int)) := hb.cell 5
    have b6 : W6.cell? ⟨gx, 6, none⟩ = some (.bool q.nw) := hb.cell 6
    have b9 : W6.cell? ⟨gx, 9, none⟩ = some (.int .i64 (q.ta : Int)) := hb.cell 9
    have b10 : W6.cell? ⟨gx, 10, none⟩ = some (.bool q.tw) := hb.cell 10
    have b11 : W6.cell? ⟨gx, 11, none⟩ = some (.int .i64 (q.since : Int)) := hb.cell 11
    have f9 := hb.frozen 9
    have f10 := hb.frozen 10
    have f11 := hb.frozen 11
    have hlt := hb.lt
    have hne := Nat.ne_of_lt hlt
    have T7 := Lib.hid (ref_shut (q := toldQ q) (((T6.pop.put 0 (by simp) rfl 9 (.int .i64 (q.na : Int))).put 0 (by simp) rfl 10 (.bool q.nw)).put 0 (by simp) rfl 11 (.int .i64 ((0 : Nat) : Int))) rfl rfl rfl)
    clear T6 hb
    go_wp2_with fail
    go_ret
    exact ⟨rfl, T7.out⟩
  · clear hlt hne hltk hnek v1 v2 v3 v4 v5 v6 hm hE
    have T3 := rt_keep3 T0.out hq (.int .i64 o) (.bool v) (.int .i64 f)
    obtain ⟨W3, hW3⟩ : ∃ W3, ((w1.setCell ⟨w.heap.size, 0, none⟩ (.int .i64 o)).setCell ⟨w.heap.size, 1, none⟩ (.bool v)).setCell ⟨w.heap.size, 2, none⟩ (.int .i64 f) = W3 := ⟨_, rfl⟩
    obtain ⟨K, hK⟩ : ∃ K, w.heap.size = K := ⟨_, rfl⟩
    rw [hW3] at T3 ⊢
    rw [hK] at T3 ⊢
    clear hW3 hK hq hc1 hf1 hz1 T0
    have hb := T3.blk 1 (by simp) rfl
    have k2 : W3.cell? ⟨K, 2, none⟩ = some (.int .i64 f) := (T3.blk 0 (by simp) rfl).cell 2
    have c11 : W3.cell? ⟨gx, 11, none⟩ = some (.int .i64 (q.since : Int)) := hb.cell 11
    have c2 : W3.cell? ⟨gx, 2, none⟩ = some (.int .i64 (q.size : Int)) := hb.cell 2
    have hlt := hb.lt
    have hne := Nat.ne_of_lt hlt
    have hltk := (T3.blk 0 (by simp) rfl).lt
    have hnek := Nat.ne_of_lt hltk
    have T3 := Lib.hid T3
    clear hb
    go_wp2_with fail
    go_quiet (fail)
    have T4 := T3.out.drewN nq
    generalize World.drewN W3 nq = W4 at *
    clear k2 c11 c2 T3 hlt hne hltk hnek
    have T6 := T4
    generalize W4 = W6 at *
    have hb := T6.blk 1 (by simp) rfl
    have b5 : W6.cell? ⟨gx, 5, none⟩ = some (.int .i64 (q.na : Int)) := hb.cell 5
    have b6 : W6.cell? ⟨gx, 6, none⟩ = some (.bool q.nw) := hb.cell 6
    have b9 : W6.cell? ⟨gx, 9, none⟩ = some (.int .i64 (q.ta : Int)) := hb.cell 9
    have b10 : W6.cell? ⟨gx, 10, none⟩ = some (.bool q.tw) := hb.cell 10
    have b11 : W6.cell? ⟨gx, 11, none⟩ = some (.int .i64 (q.since : Int)) := hb.cell 11
    have f9 := hb.frozen 9
    have f10 := hb.frozen 10
    have f11 := hb.frozen 11
    have hlt := hb.lt
    have hne := Nat.ne_of_lt hlt
    have T7 := Lib.hid (ref_shut (q := toldQ q) (((T6.pop.put 0 (by simp) rfl 9 (.int .i64 (q.na : Int))).put 0 (by simp) rfl 10 (.bool q.nw)).put 0 (by simp) rfl 11 (.int .i64 ((0 : Nat) : Int))) rfl rfl rfl)
    clear T6 hb
    go_wp2_with fail
    go_ret
    exact ⟨rfl, T7.out⟩
theorem rtell_v {F : Nat → Prop} {w : World} {gx gk : Nat} {xs : List UInt8} {q : Vs} (h : (refA gx gk q).P F w) (hk : w.cell? ⟨gk, 0, none⟩ = some (.string ⟨xs.toArray⟩)) (hF : ¬ F gk) (hx : xs.length ≤ 1048576) (hq : q.Ok xs.length) :
    Calls Tryz.prog 14 #[.pointer (some ⟨gx, 0, none⟩)] w fun e w' => e = .returned (.bool (tellB xs q)) ∧ St F w (refA gx gk (toldQ q)) w' := by
  have HP := fun W => Sp.rparse_any (cut4 xs q.dev) W
  have hz := cut4_size xs q.dev hq.dev
  have e0 : Sp.paE (cut4 xs q.dev) = 0 := by unfold Sp.paE; rw [if_pos hz]
  rw [e0] at HP
  unfold Sp.RP at HP
  have HN := fun W => Sp.rneed_any (Sp.paO (cut4 xs q.dev)) (Sp.paF (cut4 xs q.dev)) (q.ta : Int) (q.na : Int) (q.size : Int) (Sp.paW (cut4 xs q.dev)) q.tw q.nw W
  unfold Sp.RB at HN
  unfold tellB
  by_cases hs : q.since ≤ q.size
  · rw [if_neg (by omega)]
    by_cases h0 : Sp.paF (cut4 xs q.dev) = 0
    · exact rtell_n0 h hk hF hx hq.dev _ _ _ _ hs h0 HP HN
    · by_cases h2 : Sp.paF (cut4 xs q.dev) = 2
      · exact rtell_n2 h hk hF hx hq.dev _ _ _ _ hs h2 HP HN
      · exact rtell_nn h hk hF hx hq.dev _ _ _ _ hs h0 h2 HP HN
  · rw [if_pos (by omega)]
    by_cases h0 : Sp.paF (cut4 xs q.dev) = 0
    · rw [show (Sp.paF (cut4 xs q.dev) == 0 || Sp.paF (cut4 xs q.dev) == 2) = true by rw [h0]; rfl]
      exact rtell_z0 h hk hF hx hq.dev _ _ _ _ hs h0 HP HN
    · by_cases h2 : Sp.paF (cut4 xs q.dev) = 2
      · rw [show (Sp.paF (cut4 xs q.dev) == 0 || Sp.paF (cut4 xs q.dev) == 2) = true by rw [h2]; rfl]
        exact rtell_z2 h hk hF hx hq.dev _ _ _ _ hs h2 HP HN
      · rw [show (Sp.paF (cut4 xs q.dev) == 0 || Sp.paF (cut4 xs q.dev) == 2) = false by simp [h0, h2]]
        exact rtell_zn h hk hF hx hq.dev _ _ _ _ hs h0 h2 HP HN
end Go.Proofs.YtbpgblmhacpjlaaGreat

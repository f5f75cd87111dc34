/-
  control.setPairs: with rules and without; no condition.
-/
import Derived.Test.YtongkfimgohhbaaCi
namespace Go.Proofs.Ytongkfimgohhbaa
open Go.RowKit

def prB (v mx : Int) : Bool := decide (1 ≤ v) && decide (v ≤ mx)
def Pair0P (g h : Nat) (K : Cg) (s : ByteArray) (b : Bool) (w : World) (e : Ending) (w' : World) : Prop :=
  e = .returned (.bool (prB (nm s 2 : Nat) K.mx)) ∧ Cv g h { K with pairs := (nm s 2 : Nat), on := false } w' ∧ Blk w' h 64 (rdC (tkR s 2) (tkB s 2 b)) ∧ Tch [g, h] w w'
theorem Cv.pairs {g h : Nat} {K : Cg} {w : World} (c : Cv g h K w) (v : Int) (on : Bool) : Cv g h { K with pairs := v, on := on } ((w.setCell ⟨g, 11, none⟩ (.int .i64 v)).setCell ⟨g, 13, none⟩ (.bool on)) := by
  have h1 : Cv g h { K with pairs := v } (w.setCell ⟨g, 11, none⟩ (.int .i64 v)) := c.put (G := { K with pairs := v }) rfl ⟨c.at'.f, c.at'.t⟩ ⟨c.og.f, c.og.t⟩ ⟨c.oh.f, c.oh.t⟩
  exact h1.put (G := { K with pairs := v, on := on }) rfl ⟨h1.at'.f, h1.at'.t⟩ ⟨h1.og.f, h1.og.t⟩ ⟨h1.oh.f, h1.oh.t⟩
set_option maxHeartbeats 1000000 in
theorem pairs0 (g h : Nat) (K : Cg) (s : ByteArray) (b : Bool) (w : World) (hs : s.size ≤ maxLen) (hc : Cv g h K w) (hb : Blk w h 64 (rdC s b)) :
    Calls Try.prog 55 #[.pointer (some ⟨g, 0, none⟩), .int .i64 0, .pointer (some ⟨h, 0, none⟩)] w (Pair0P g h K s b w) := by
  have A1 := number_any h s b 2 w hs (by omega) (by omega) hb
  unfold Pair0P
  generalize nm s 2 = v at *
  generalize tkR s 2 = s1 at *
  generalize tkB s 2 b = b1 at *
  have H1 := Lib.hid A1
  have HC := Lib.hid hc
  clear A1 hc hb
  go_enter Try.func55, Try.ntmps55
  go_wp2_with fail
  refine (H1.out).mono ?_
  rintro e w1 ⟨rfl, hk, ht⟩
  have hc1 := HC.out.next ht
  have c11 := hc1.blk.cell 11
  have c13 := hc1.blk.cell 13
  simp only [List.getElem?_toArray, List.getElem?_cons_zero, List.getElem?_cons_succ] at c11 c13
  have f11 := hc1.blk.frozen 11
  have f13 := hc1.blk.frozen 13
  obtain ⟨w2, hw2⟩ : ∃ w2, ((w1.setCell ⟨g, 11, none⟩ (.int .i64 (v : Nat))).setCell ⟨g, 13, none⟩ (.bool false)) = w2 := ⟨_, rfl⟩
  have hc2 : Cv g h { K with pairs := (v : Nat), on := false } w2 := hw2 ▸ hc1.pairs (v : Nat) false
  have hk2 : Blk w2 h 64 (rdC s1 b1) := hw2 ▸ (hk.other (k := g) (by have := HC.out.ne; omega) 11 _).other (k := g) (by have := HC.out.ne; omega) 13 _
  have ht2 : Tch [g, h] w w2 := hw2 ▸ ((ht.mono (by simp)).setCell (.inl (by simp)) _ _).setCell (.inl (by simp)) _ _
  have d11 := hc2.blk.cell 11
  have d12 := hc2.blk.cell 12
  simp only [List.getElem?_toArray, List.getElem?_cons_zero, List.getElem?_cons_succ] at d11 d12
  have HW := Lib.hid hw2
  have HC2 := Lib.hid hc2
  have HK2 := Lib.hid hk2
  have HT2 := Lib.hid ht2
  clear hw2 hc2 hk2 ht2 hc1 hk ht H1 HC
  go_wp2_with (rw [HW.out]; clear c11 c13 f11 f13 HW)
  by_cases hv : (1 : Int) ≤ (v : Nat)
  · have e1 : decide ((1 : Int) ≤ (v : Nat)) = true := by simpa using hv
    have HE := Lib.hid (show prB (v : Nat) K.mx = decide ((v : Nat) ≤ K.mx) by unfold prB; rw [e1, Bool.true_and])
    clear hv
    go_quiet (fail)
    go_wp2
    go_ret
    exact ⟨by rw [HE.out]; rfl, HC2.out.below (below_drewN (Below.refl _ _) _), HK2.out, HT2.out.drewN _⟩
  · have e1 : decide ((1 : Int) ≤ (v : Nat)) = false := by simpa using hv
    have HE := Lib.hid (show prB (v : Nat) K.mx = false by unfold prB; rw [e1, Bool.false_and])
    clear hv
    go_quiet (fail)
    go_wp2
    go_ret
    exact ⟨by rw [HE.out]; rfl, HC2.out.below (below_drewN (Below.refl _ _) _), HK2.out, HT2.out.drewN _⟩
theorem region_class {P : Program} {id : Nat} {Q : Exit → Act → World → Prop} {a : Act} {w : World} {l : List Oper} (C : World → Prop) (hm : P.follows .mixedOrders = true) (hB : Region.lexB .any l.toArray = true) (hC : C w.drew)
    (h : wpQuiet P l.toArray C (fun a' => ∀ w', C w' → Q .normal a' w') l a) : (Code.region id l.toArray true).wp P Q a w :=
  wp_region_quiet (C := C) hm hB hC (by simpa using h)
/-- settings in a variable, the reader, and all else as it was -/
structure Pc (g h : Nat) (K : Cg) (s : ByteArray) (b : Bool) (w0 w : World) : Prop where
  cv : Cv g h K w
  rd : Blk w h 64 (rdC s b)
  tch : Tch [g, h] w0 w
theorem Pc.next {g h : Nat} {K : Cg} {s : ByteArray} {b : Bool} {w0 w w' : World} (c : Pc g h K s b w0 w) (hb : Below w.heap.size w w') : Pc g h K s b w0 w' := ⟨c.cv.below hb, c.rd.next hb, c.tch.trans (Tch.of_below hb _)⟩
theorem Cv.rules {g h : Nat} {K : Cg} {w : World} (c : Cv g h K w) (k : Int) (A : Option Addr) (n : Nat) (L : List Int) (x : ByteArray) (d p : Int) (ho : Rd w.heap.size A (L.map intV) w) (og : offL A (L.map intV) g) (oh : offL A (L.map intV) h) :
    Cv g h { K with pairs := p, on := true, kinds := k, T := A, tb := L, tc := n, key := x, df := d } (((w.setCells g 14 [.int .i64 k, .slice A L.length n, .string x, .int .i64 d]).setCell ⟨g, 11, none⟩ (.int .i64 p)).setCell ⟨g, 13, none⟩ (.bool true)) := by
  have h1 : Cv g h { K with kinds := k, T := A, tb := L, tc := n, key := x, df := d } (w.setCells g 14 [.int .i64 k, .slice A L.length n, .string x, .int .i64 d]) := c.store (G := { K with kinds := k, T := A, tb := L, tc := n, key := x, df := d }) 14 _ (by simp) rfl ⟨c.at'.f, ho⟩ ⟨c.og.f, og⟩ ⟨c.oh.f, oh⟩
  exact h1.pairs p true
def Pair1P (g h : Nat) (K : Cg) (s : ByteArray) (b : Bool) (w : World) (e : Ending) (w' : World) : Prop :=
  (areB (rlK s : Nat) (rlT s) (rlX s) (rlD s : Nat) K.mx = false ∧ e = .returned (.bool false) ∧ Tch [g, h] w w') ∨
  (areB (rlK s : Nat) (rlT s) (rlX s) (rlD s : Nat) K.mx = true ∧ e = .returned (.bool (prB (rlP s : Nat) K.mx)) ∧ ∃ A n, Pc g h { K with pairs := (rlP s : Nat), on := true, kinds := (rlK s : Nat), T := A, tb := rlT s, tc := n, key := rlX s, df := (rlD s : Nat) } (rl7 s) (rlB s b) w w')
set_option maxHeartbeats 2000000 in
theorem pairs1 (g h : Nat) (K : Cg) (s : ByteArray) (b : Bool) (w : World) (hs : s.size ≤ maxLen) (hc : Cv g h K w) (hb : Blk w h 64 (rdC s b)) :
    Calls Try.prog 55 #[.pointer (some ⟨g, 0, none⟩), .int .i64 1, .pointer (some ⟨h, 0, none⟩)] w (Pair1P g h K s b w) := by
  have A1 := crules_any h s b w hs hb
  have hL : (rlT s).length ≤ 600 := by
    have := quL_length (rl3 s) (rlN s)
    unfold rlT
    omega
  unfold RulesP at A1
  unfold Pair1P
  generalize rlK s = k at *
  generalize rlT s = L at *
  generalize rlX s = x at *
  generalize rlD s = d at *
  generalize rlP s = p at *
  generalize rl7 s = s1 at *
  generalize rlB s b = b1 at *
  have H1 := Lib.hid A1
  have HC := Lib.hid hc
  have HL := Lib.hid hL
  clear A1 hc hb hL
  go_enter Try.func55, Try.ntmps55
  go_wp2_with fail
  refine (H1.out).mono ?_
  rintro e w1 ⟨A, n, rfl, hO, hk, ht⟩
  have hc1 := HC.out.next ht
  have c11 := hc1.blk.cell 11
  have c13 := hc1.blk.cell 13
  have c14 := hc1.blk.cell 14
  have c15 := hc1.blk.cell 15
  have c16 := hc1.blk.cell 16
  have c17 := hc1.blk.cell 17
  simp only [List.getElem?_toArray, List.getElem?_cons_zero, List.getElem?_cons_succ] at c11 c13 c14 c15 c16 c17
  have f11 := hc1.blk.frozen 11
  have f13 := hc1.blk.frozen 13
  have f14 := hc1.blk.frozen 14
  have f15 := hc1.blk.frozen 15
  have f16 := hc1.blk.frozen 16
  have f17 := hc1.blk.frozen 17
  have hcv := hc1.rules (k : Nat) A n L x (d : Nat) (p : Nat) (Rd.own hO (Nat.le_refl _)) (offL_own hO HC.out.blk.lt) (offL_own hO HC.out.lt)
  have hne : h ≠ g := fun e => HC.out.ne e.symm
  have hpc : Pc g h { K with pairs := (p : Nat), on := true, kinds := (k : Nat), T := A, tb := L, tc := n, key := x, df := (d : Nat) } s1 b1 w (((w1.setCells g 14 [.int .i64 (k : Nat), .slice A L.length n, .string x, .int .i64 (d : Nat)]).setCell ⟨g, 11, none⟩ (.int .i64 (p : Nat))).setCell ⟨g, 13, none⟩ (.bool true)) :=
    ⟨hcv, ((hk.same (heap_puts _ _ _ _ hne)).other hne _ _).other hne _ _, ((Tch.store _ _ _ (ht.mono (by simp)) (.inl (by simp))).setCell (.inl (by simp)) _ _).setCell (.inl (by simp)) _ _⟩
  clear hcv hne
  simp only [World.setCells, Nat.reduceAdd] at hpc
  obtain ⟨w2, hw2⟩ : ∃ w2, ((((((w1.setCell ⟨g, 14, none⟩ (.int .i64 (k : Nat))).setCell ⟨g, 15, none⟩ (.slice A L.length n)).setCell ⟨g, 16, none⟩ (.string x)).setCell ⟨g, 17, none⟩ (.int .i64 (d : Nat))).setCell ⟨g, 11, none⟩ (.int .i64 (p : Nat))).setCell ⟨g, 13, none⟩ (.bool true)) = w2 := ⟨_, rfl⟩
  rw [hw2] at hpc
  have HW := Lib.hid hw2
  have HP := Lib.hid hpc
  clear hw2 hpc hO hk ht hc1 H1
  go_wp2_with (rw [HW.out]; clear c11 c13 c14 c15 c16 c17 f11 f13 f14 f15 f16 f17 HW)
  have R1 : ∀ W, Pc g h { K with pairs := (p : Nat), on := true, kinds := (k : Nat), T := A, tb := L, tc := n, key := x, df := (d : Nat) } s1 b1 w W → Calls Try.prog 69 #[.agg #[.int .i64 (k : Nat), .slice A L.length n, .string x, .int .i64 (d : Nat)], .int .i64 K.mx] W fun e w' => e = .returned (.bool (areB (k : Nat) L x (d : Nat) K.mx)) ∧ Below W.heap.size W w' :=
    fun W hW => are_any (k : Nat) A n L x (d : Nat) K.mx W (hW.cv.at'.t.tab (Nat.le_refl _)) HL.out
  obtain ⟨ar, har⟩ : ∃ ar, areB (k : Nat) L x (d : Nat) K.mx = ar := ⟨_, rfl⟩
  rw [har] at R1
  have HR := Lib.hid R1
  have HA := Lib.hid har
  clear R1 har
  refine region_class (Pc g h { K with pairs := (p : Nat), on := true, kinds := (k : Nat), T := A, tb := L, tc := n, key := x, df := (d : Nat) } s1 b1 w) (by kernel_rfl) (by kernel_rfl) (HP.out.next (Below.refl _ _).drew) ?_
  repeat (first
      | go_big_quiet_skip
      | (go_big_quiet_want; go_big_quiet_op; first
        | go_big_quiet_on
        | (refine ⟨_, fun _ _ => rfl, ?_⟩; go_big_quiet_on)
        | (apply Exists.intro; refine ⟨?_, ?_⟩; · (intro wq hC; first | (go_at_call 69; (with_reducible refine (HR.out _ hC).mono ?_); exact fun e w' h => ⟨h.1, hC.next h.2⟩))
           go_big_quiet_on)
        | (refine ⟨.agg #[.int .i64 (k : Nat), .slice A L.length n, .string x, .int .i64 (d : Nat)], fun wq hC => ?_, ?_⟩; · (have q := hC.cv.blk; have c14 := q.cell 14; have c15 := q.cell 15; have c16 := q.cell 16; have c17 := q.cell 17; simp only [List.getElem?_toArray, List.getElem?_cons_zero, List.getElem?_cons_succ] at c14 c15 c16 c17; simp [c14, c15, c16, c17]; done)
           go_big_quiet_on)
        | (refine ⟨.int .i64 K.mx, fun wq hC => ?_, ?_⟩; · (have q := hC.cv.blk; have c12 := q.cell 12; simp only [List.getElem?_toArray, List.getElem?_cons_zero, List.getElem?_cons_succ] at c12; simp [c12]; done)
           go_big_quiet_on)))
  refine wpQuiet_nil ?_
  intro w9 hM
  clear HR HP
  cases ar
  · go_wp2
    go_ret
    exact .inl ⟨HA.out, rfl, hM.tch⟩
  · have q := hM.cv.blk
    have d11 := q.cell 11
    have d12 := q.cell 12
    simp only [List.getElem?_toArray, List.getElem?_cons_zero, List.getElem?_cons_succ] at d11 d12
    have HM := Lib.hid hM
    clear q hM
    by_cases hv : (1 : Int) ≤ (p : Nat)
    · have e1 : decide ((1 : Int) ≤ (p : Nat)) = true := by simpa using hv
      have HE := Lib.hid (show prB (p : Nat) K.mx = decide ((p : Nat) ≤ K.mx) by unfold prB; rw [e1, Bool.true_and])
      clear hv
      go_wp2
      go_quiet (fail)
      go_wp2
      go_ret
      exact .inr ⟨HA.out, by rw [HE.out]; rfl, A, n, HM.out.next (below_drewN (Below.refl _ _) _)⟩
    · have e1 : decide ((1 : Int) ≤ (p : Nat)) = false := by simpa using hv
      have HE := Lib.hid (show prB (p : Nat) K.mx = false by unfold prB; rw [e1, Bool.false_and])
      clear hv
      go_wp2
      go_quiet (fail)
      go_wp2
      go_ret
      exact .inr ⟨HA.out, by rw [HE.out]; rfl, A, n, HM.out.next (below_drewN (Below.refl _ _) _)⟩
theorem pairs2 (g h : Nat) (n : Nat) (w : World) (hn : 1 < n) :
    Calls Try.prog 55 #[.pointer (some ⟨g, 0, none⟩), .int .i64 n, .pointer (some ⟨h, 0, none⟩)] w fun e w' => e = .returned (.bool false) ∧ w = w' := by
  have n0 : ((n : Int) == 0) = false := by rw [beq_eq_false_iff_ne]; omega
  have n1 : ((n : Int) == 1) = false := by rw [beq_eq_false_iff_ne]; omega
  clear hn
  go_enter Try.func55, Try.ntmps55
  go_wp2
  go_ret
  exact ⟨rfl, rfl⟩
end Go.Proofs.Ytongkfimgohhbaa

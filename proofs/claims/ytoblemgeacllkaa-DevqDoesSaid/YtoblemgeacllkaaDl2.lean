/-
  Same of two equal chains; what the laws' laid makes: two memories of noughts, and a queue over each; no condition.
-/
import Derived.Test.YtoblemgeacllkaaDl1
namespace Go.Proofs.Ytoblemgeacllkaa
open Go.RowKit

/-- A slice whose cells are those of the parts. -/
def PtsAt (A : Option Addr) (l : List Pt) (w : World) : Prop := 0 < l.length → ∃ gl, A = some ⟨gl, 0, none⟩ ∧ gl < w.heap.size ∧ ∀ j u, (ptCells l)[j]? = some u → w.cell? ⟨gl, j, none⟩ = some u
theorem PtsAt.of_own {w : World} {B : Nat} {A : Option Addr} {cap : Nat} {l : List Pt} (h : w.ownsRow B 56 3 (.slice A l.length cap) l.length (ptCells l)) : PtsAt A l w := by
  intro hn
  obtain ⟨gl, cap', hv, _, hlt⟩ := h.form hn
  have hA : A = some ⟨gl, 0, none⟩ := by injection hv
  subst hA
  refine ⟨gl, rfl, hlt, fun j u hu => ?_⟩
  have := h.cells (g := gl) rfl j u hu
  rwa [Addr.add_lit, Nat.zero_add] at this
theorem PtsAt.below {w w' : World} {A : Option Addr} {l : List Pt} (h : PtsAt A l w) (hb : Below w.heap.size w w') : PtsAt A l w' := by
  intro hn
  obtain ⟨gl, hA, hlt, hc⟩ := h hn
  exact ⟨gl, hA, by have := hb.size; omega, fun j u hu => (hb.cell (p := ⟨gl, j, none⟩) hlt).trans (hc j u hu)⟩
theorem PtsAt.pt {w : World} {A : Option Addr} {l : List Pt} (h : PtsAt A l w) (k : Nat) (hk : k < l.length) :
    ∃ gl, A = some ⟨gl, 0, none⟩ ∧ w.cell? ⟨gl, k * 3, none⟩ = some (.int .i64 (l[k].at_ : Int)) ∧ w.cell? ⟨gl, k * 3 + 1, none⟩ = some (.int .i64 (l[k].n : Int)) ∧ w.cell? ⟨gl, k * 3 + 2, none⟩ = some (.bool l[k].wr) := by
  obtain ⟨gl, hA, _, hc⟩ := h (by omega)
  obtain ⟨a, b, c⟩ := ptCells_at l k hk
  exact ⟨gl, hA, hc _ _ a, hc _ _ b, hc _ _ c⟩
/-- a chain as a value -/
def Ch.v (h : Ch) (A : Option Addr) (c : Nat) : Value := .agg #[.int .i64 (h.id : Int), .int .i64 (h.count : Int), .slice A h.parts.length c]
def chV (i k : Nat) (A : Option Addr) (n c : Nat) : Array Value := #[.int .i64 (i : Int), .int .i64 (k : Int), .slice A n c]
set_option maxHeartbeats 1600000 in
theorem same_yes (h : Ch) (A A' : Option Addr) (c c' : Nat) (w : World) (hl : h.parts.length ≤ 8192) (h1 : PtsAt A h.parts w) (h2 : PtsAt A' h.parts w) :
    Calls Try.prog 13 #[.agg #[.int .i64 (h.id : Int), .int .i64 (h.count : Int), .slice A h.parts.length c], .agg #[.int .i64 (h.id : Int), .int .i64 (h.count : Int), .slice A' h.parts.length c']] w fun e w' => e = .returned (.bool true) ∧ Below w.heap.size w w' := by
  obtain ⟨i, k, l⟩ := h
  simp only at hl h1 h2 ⊢
  have H1 := Lib.hid h1
  have H2 := Lib.hid h2
  clear h1 h2
  have e1 : ((i : Int) != (i : Int)) = false := by simp
  have e2 : ((k : Int) != (k : Int)) = false := by simp
  have e3 : ((l.length : Int) != (l.length : Int)) = false := by simp
  go_enter Try.func13, Try.ntmps13
  go_wp2_with fail
  go_loopw [5] (fun z wr => ∃ j : Nat, j ≤ l.length ∧ z = .int .i64 j ∧ Below w.heap.size w wr ∧ Blk wr w.heap.size 51 #[.int .i64 (i : Int), .int .i64 (k : Int), .slice A l.length c] ∧ Blk wr (w.heap.size + 1) 51 #[.int .i64 (i : Int), .int .i64 (k : Int), .slice A' l.length c']) (fun z _ => l.length - (intOf z).toNat)
  case atStart => exact ⟨0, Nat.zero_le _, rfl, ba (ba (Below.refl _ _) _) _, (Blk.new _ _ _).alloc _, Sp.Blk.new2 _ _ _ _⟩
  case round =>
    obtain ⟨j, hj, rfl, hb, k1, k2⟩ := hrel
    have x2 := k1.cell 2
    have y2 := k2.cell 2
    simp only [List.getElem?_toArray, List.getElem?_cons_zero, List.getElem?_cons_succ] at x2 y2
    by_cases hlt : j < l.length
    · obtain ⟨g1, rfl, c1, c2, c3⟩ := (H1.out.below hb).pt j hlt
      obtain ⟨g2, rfl, d1, d2, d3⟩ := (H2.out.below hb).pt j hlt
      have HB := Lib.hid hb
      have K1 := Lib.hid k1
      have K2 := Lib.hid k2
      clear hb k1 k2
      go_wp2_with fail
      have f1 : (0 : Int) ≤ (j : Int) := by omega
      have f2 : (j : Int) < (l.length : Int) := by omega
      go_quiet (fail)
      go_wp2
      go_roundw
      case rel => exact ⟨j + 1, by omega, by go_num, below_drewN HB.out _, K1.out, K2.out⟩
      case measure => simp [intOf]; omega
    · go_wp2
      go_ret
      exact ⟨rfl, hb⟩

theorem results_tmp4 {fn : Func} {t u v x : Tmp} (h : fn.results = #[.tmp t, .tmp u, .tmp v, .tmp x]) (tmps : Array Value) (P : Program) (w : World) :
    (results fn tmps).run P w = .ok (.tuple #[tmps.getD t undef, tmps.getD u undef, tmps.getD v undef, tmps.getD x undef]) w := by
  simp [results, h]
/-! what laid makes -/
/-- A memory and a queue of the law's own above B, and what was there as it was. -/
structure Own (B gq g gb : Nat) (lv : Value) (xs : List UInt8) (q : Qs) (w : World) : Prop where
  hq : B ≤ gq
  blk : Blk w gq 93 (q.cells g)
  mem : Mem B g gb lv xs w
structure Laid (B gq g gb gx gk : Nat) (lv lk : Value) (xs : List UInt8) (lg : List Acc) (q : Qs) (w : World) : Prop where
  own : Own B gq g gb lv xs q w
  hx : B ≤ gx
  blk : Blk w gx 48 (q.cellsR gk)
  mem : Mr B gk lk xs lg w
  apart : ∀ k, lv.ownBlock = some k → lk.ownBlock ≠ some k
section
variable {B gq g gb gx gk : Nat} {lv lk : Value} {xs : List UInt8} {lg : List Acc} {q : Qs} {w w' : World}
theorem Own.below (h : Own B gq g gb lv xs q w) (hb : Below w.heap.size w w') : Own B gq g gb lv xs q w' := ⟨h.hq, h.blk.same (hb.block _ h.blk.lt), h.mem.below hb (Nat.le_refl _)⟩
theorem Laid.below (h : Laid B gq g gb gx gk lv lk xs lg q w) (hb : Below w.heap.size w w') : Laid B gq g gb gx gk lv lk xs lg q w' := ⟨h.own.below hb, h.hx, h.blk.same (hb.block _ h.blk.lt), h.mem.below hb, h.apart⟩
end
/-- how many bytes -/
def bytesN (b : Int) : Nat := (max 64 (min b 2048)).toNat
theorem bytesN_le (b : Int) : 64 ≤ bytesN b ∧ bytesN b ≤ 2048 := by unfold bytesN; omega
def LaidP (b r z x y : Int) (w : World) (e : Ending) (w' : World) : Prop :=
  Below w.heap.size w w' ∧ if layB (List.replicate (bytesN b) 0) r z x y then
    ∃ gq g gb gx gk lv, e = .returned (.tuple #[.pointer (some ⟨g, 0, none⟩), .pointer (some ⟨gq, 0, none⟩), .pointer (some ⟨gx, 0, none⟩), .bool true]) ∧ Laid w.heap.size gq g gb gx gk lv (.slice none 0 0) (List.replicate (bytesN b) 0) [] (newQ r z x y) w'
  else ∃ p, e = .returned (.tuple #[p, .pointer none, .pointer none, .bool true])
/-- the world's variable and the two memories -/
structure LS (w : World) (b r z x y : Int) (S : Value) (g gb gk : Nat) (lv : Value) (X : List UInt8) (w' : World) : Prop where
  box : Blk w' w.heap.size 26 #[.int .i64 b, .int .i64 r, .int .i64 z, .int .i64 x, .int .i64 y, S]
  m : Mem w.heap.size g gb lv X w'
  k : Mr w.heap.size gk (.slice none 0 0) X [] w'
  b : Below w.heap.size w w'
def LF (w : World) (b r z x y : Int) (S : Value) (g gb gk : Nat) (lv : Value) (X : List UInt8) (w' : World) : Prop :=
  (w'.cell? ⟨w.heap.size, 1, none⟩ = some (.int .i64 r) ∧ w'.cell? ⟨w.heap.size, 2, none⟩ = some (.int .i64 z) ∧ w'.cell? ⟨w.heap.size, 3, none⟩ = some (.int .i64 x) ∧ w'.cell? ⟨w.heap.size, 4, none⟩ = some (.int .i64 y)) ∧ LS w b r z x y S g gb gk lv X w'
section
variable {w w1 w' : World} {b r z x y : Int} {S : Value} {g gb gk : Nat} {lv : Value} {X : List UInt8}
theorem LS.next (h : LS w b r z x y S g gb gk lv X w1) (hq : Below w1.heap.size w1 w') : LS w b r z x y S g gb gk lv X w' :=
  ⟨h.box.same (hq.block _ h.box.lt), h.m.below hq (Nat.le_refl _), h.k.below hq, b0 h.b hq⟩
theorem LF.of (h : LS w b r z x y S g gb gk lv X w') : LF w b r z x y S g gb gk lv X w' := ⟨⟨h.box.cell 1, h.box.cell 2, h.box.cell 3, h.box.cell 4⟩, h⟩
theorem LF.next (h : LF w b r z x y S g gb gk lv X w1) (hq : Below w1.heap.size w1 w') : LF w b r z x y S g gb gk lv X w' := LF.of (h.2.next hq)
theorem LF.drew (h : LF w b r z x y S g gb gk lv X w1) : LF w b r z x y S g gb gk lv X w1.drew := h.next (Below.refl _ _).drew
end
section
variable {B B' g gb : Nat} {lv : Value} {X : List UInt8} {w : World}
theorem Mem.down (h : Mem B g gb lv X w) (hB : B' ≤ B) : Mem B' g gb lv X w := by
  obtain ⟨ag, lg, old, h⟩ := h
  exact ⟨ag, lg, old, Nat.le_trans hB h.hB, Nat.le_trans hB h.hBb, h.blk, h.row, own_base h.log hB, h.len, h.pos, h.most, h.full⟩
theorem Mr.down {lg : List Acc} (h : Mr B g lv X lg w) (hB : B' ≤ B) : Mr B' g lv X lg w := ⟨Nat.le_trans hB h.hB, h.blk, own_base h.log hB, h.nil, h.len⟩
theorem newgood (h : Mem B g gb lv X w) (r z x y : Int) (hL : layB X r z x y = true) :
    Calls Try.prog 35 #[.pointer (some ⟨g, 0, none⟩), .agg #[.int .i64 r, .int .i64 z, .int .i64 x, .int .i64 y]] w fun e w' => Below w.heap.size w w' ∧ ∃ k, e = .returned (.tuple #[.pointer (some ⟨k, 0, none⟩), .int .i64 0]) ∧ w.heap.size ≤ k ∧ Blk w' k 93 ((newQ r z x y).cells g) := by
  have := qnew_any h r z x y
  unfold NewP at this
  rw [hL] at this
  exact this
theorem newbad (h : Mem B g gb lv X w) (r z x y : Int) (hL : layB X r z x y = false) :
    Calls Try.prog 35 #[.pointer (some ⟨g, 0, none⟩), .agg #[.int .i64 r, .int .i64 z, .int .i64 x, .int .i64 y]] w fun e w' => Below w.heap.size w w' ∧ e = .returned (.tuple #[.pointer none, .int .i64 140]) := by
  have := qnew_any h r z x y
  unfold NewP at this
  rw [hL] at this
  exact this
theorem rnewgood {lg : List Acc} (h : Mr B g lv X lg w) (r z x y : Int) (hL : layB X r z x y = true) :
    Calls Try.prog 36 #[.pointer (some ⟨g, 0, none⟩), .agg #[.int .i64 r, .int .i64 z, .int .i64 x, .int .i64 y]] w fun e w' => Below w.heap.size w w' ∧ ∃ k, e = .returned (.tuple #[.pointer (some ⟨k, 0, none⟩), .int .i64 0]) ∧ w.heap.size ≤ k ∧ Blk w' k 48 ((newQ r z x y).cellsR g) := by
  have := rqnew_any h r z x y
  unfold RnewP at this
  rw [hL] at this
  exact this
theorem rnewbad {lg : List Acc} (h : Mr B g lv X lg w) (r z x y : Int) (hL : layB X r z x y = false) :
    Calls Try.prog 36 #[.pointer (some ⟨g, 0, none⟩), .agg #[.int .i64 r, .int .i64 z, .int .i64 x, .int .i64 y]] w fun e w' => Below w.heap.size w w' ∧ e = .returned (.tuple #[.pointer none, .int .i64 140]) := by
  have := rqnew_any h r z x y
  unfold RnewP at this
  rw [hL] at this
  exact this
theorem chkgood (h : Mem B g gb lv X w) (r z x y : Int) (hL : layB X r z x y = true) :
    Calls Try.prog 32 #[.pointer (some ⟨g, 0, none⟩), .agg #[.int .i64 r, .int .i64 z, .int .i64 x, .int .i64 y]] w fun e w' => e = .returned (.int .i64 0) ∧ Below w.heap.size w w' := by
  have := check_any h r z x y
  unfold layE at this
  rw [hL] at this
  exact this
theorem chkbad (h : Mem B g gb lv X w) (r z x y : Int) (hL : layB X r z x y = false) :
    Calls Try.prog 32 #[.pointer (some ⟨g, 0, none⟩), .agg #[.int .i64 r, .int .i64 z, .int .i64 x, .int .i64 y]] w fun e w' => e = .returned (.int .i64 140) ∧ Below w.heap.size w w' := by
  have := check_any h r z x y
  unfold layE at this
  rw [hL] at this
  exact this
theorem rchkgood {lg : List Acc} (h : Mr B g lv X lg w) (r z x y : Int) (hL : layB X r z x y = true) :
    Calls Try.prog 37 #[.pointer (some ⟨g, 0, none⟩), .agg #[.int .i64 r, .int .i64 z, .int .i64 x, .int .i64 y]] w fun e w' => e = .returned (.int .i64 0) ∧ Below w.heap.size w w' := by
  have := rcheck_any h r z x y
  unfold layE at this
  rw [hL] at this
  exact this
theorem rchkbad {lg : List Acc} (h : Mr B g lv X lg w) (r z x y : Int) (hL : layB X r z x y = false) :
    Calls Try.prog 37 #[.pointer (some ⟨g, 0, none⟩), .agg #[.int .i64 r, .int .i64 z, .int .i64 x, .int .i64 y]] w fun e w' => e = .returned (.int .i64 140) ∧ Below w.heap.size w w' := by
  have := rcheck_any h r z x y
  unfold layE at this
  rw [hL] at this
  exact this
end
theorem region_class {P : Program} {id : Nat} {Q : Exit → Act → World → Prop} {a : Act} {w : World} {l : List Oper} (C : World → Prop) (hm : P.follows .mixedOrders = true) (hB : Region.lexB .any l.toArray = true) (hC : C w.drew)
    (h : wpQuiet P l.toArray C (fun a' => ∀ w', C w' → Q .normal a' w') l a) : (Code.region id l.toArray true).wp P Q a w :=
  wp_region_quiet (C := C) hm hB hC (by simpa using h)
/-- .. behind W0 -/
def LC (w : World) (b r z x y : Int) (S : Value) (g gb gk : Nat) (lv : Value) (X : List UInt8) (W0 W : World) : Prop := LF w b r z x y S g gb gk lv X W ∧ Below W0.heap.size W0 W
theorem LC.next {w : World} {b r z x y : Int} {S : Value} {g gb gk : Nat} {lv : Value} {X : List UInt8} {W0 W W' : World} (h : LC w b r z x y S g gb gk lv X W0 W) (hq : Below W.heap.size W W') : LC w b r z x y S g gb gk lv X W0 W' := ⟨h.1.next hq, b0 h.2 hq⟩
section
variable {w : World} {b r z x y : Int} {S : Value} {g gb gk : Nat} {lv : Value} {X : List UInt8} {W0 W : World}
theorem LC.m (h : LC w b r z x y S g gb gk lv X W0 W) : Mem w.heap.size g gb lv X W := h.1.2.m
theorem LC.k (h : LC w b r z x y S g gb gk lv X W0 W) : Mr w.heap.size gk (.slice none 0 0) X [] W := h.1.2.k
end
set_option maxRecDepth 100000 in
set_option maxHeartbeats 3200000 in
theorem laid_goodA (b r z x y : Int) (S : Value) (w : World) (h1 : ¬ 2048 < b) (h2 : ¬ 64 < b) (hL : layB (List.replicate 64 0) r z x y = true) :
    Calls Try.prog 7 #[.agg #[.int .i64 b, .int .i64 r, .int .i64 z, .int .i64 x, .int .i64 y, S]] w (LaidP b r z x y w) := by
  have hm : bytesN b = 64 := by unfold bytesN; omega
  obtain ⟨X, hX⟩ : ∃ X, List.replicate 64 (0 : UInt8) = X := ⟨_, rfl⟩
  have HN : ∀ W, Calls Try.prog 33 #[.int .i64 64] W fun e w' => ∃ g gb lv, e = .returned (.tuple #[.pointer (some ⟨g, 0, none⟩), .int .i64 0]) ∧ Mem W.heap.size g gb lv X w' ∧ Below W.heap.size W w' := fun W => by rw [← hX]; exact new_ok 64 W (by omega) (by omega)
  have HR : ∀ W, Calls Try.prog 34 #[.int .i64 64] W fun e w' => ∃ g, e = .returned (.tuple #[.pointer (some ⟨g, 0, none⟩), .int .i64 0]) ∧ Mr W.heap.size g (.slice none 0 0) X [] w' ∧ Below W.heap.size W w' := fun W => by rw [← hX]; exact rnew_ok 64 W (by omega) (by omega)
  have HN := Lib.hid HN
  have HR := Lib.hid HR
  rw [hX] at hL
  have HL := Lib.hid hL
  have HX := Lib.hid hX
  have HMM := Lib.hid hm
  have k0 := Blk.new w 26 #[.int .i64 b, .int .i64 r, .int .i64 z, .int .i64 x, .int .i64 y, S]
  have hB0 := ba (Below.refl w.heap.size w) (.cells #[.int .i64 b, .int .i64 r, .int .i64 z, .int .i64 x, .int .i64 y, S] 26)
  clear hm hL hX
  go_enter Try.func7, Try.ntmps7
  go_wp2_with fail
  refine (HN.out _).mono ?_
  rintro e w1 ⟨g, gb, lv, rfl, hM, hq⟩
  have k1 := k0.same (hq.block _ k0.lt)
  have hM1 := Lib.hid (hM.down hB0.size)
  have hB1 := Lib.hid (b0 hB0 hq)
  have k1 := Lib.hid k1
  clear hM hq hB0 k0
  go_wp2_with fail
  refine (HR.out _).mono ?_
  rintro e w2 ⟨gk, rfl, hR, hq⟩
  have L2 : LS w b r z x y S g gb gk lv X w2 := ⟨k1.out.same (hq.block _ k1.out.lt), hM1.out.below hq (Nat.le_refl _), hR.down hB1.out.size, b0 hB1.out hq⟩
  obtain ⟨⟨c1, c2, c3, c4⟩, _⟩ := LF.of L2
  have L2 := Lib.hid L2
  clear hR hq hM1 hB1 k1
  go_wp2_with fail
  refine (newgood L2.out.m r z x y HL.out).mono ?_
  rintro e w3 ⟨hq, kq, rfl, hkq, hbq⟩
  have L3 := L2.out.next hq
  clear c1 c2 c3 c4
  obtain ⟨⟨c1, c2, c3, c4⟩, _⟩ := LF.of L3
  have L3 := Lib.hid L3
  clear hq
  have hkq := Lib.hid (Nat.le_trans L2.out.b.size hkq)
  have hbq := Lib.hid hbq
  clear L2
  go_wp2_with fail
  refine (rnewgood L3.out.k r z x y HL.out).mono ?_
  rintro e w4 ⟨hq, kx, rfl, hkx, hbx⟩
  have hb4 := Lib.hid (hbq.out.same (hq.block _ hbq.out.lt))
  have hkx := Lib.hid (Nat.le_trans L3.out.b.size hkx)
  have hbx := Lib.hid hbx
  clear hbq
  have L4 := L3.out.next hq
  clear hq c1 c2 c3 c4 L3
  go_wp2_with fail
  refine region_class (LC w b r z x y S g gb gk lv X w4) (by kernel_rfl) (by kernel_rfl) ⟨(LF.of L4).drew, (Below.refl _ _).drew⟩ ?_
  clear L4
  repeat (first
      | go_big_quiet_skip
      | (go_big_quiet_want; go_big_quiet_op; first
        | go_big_quiet_on
        | (refine ⟨_, fun _ _ => rfl, ?_⟩; go_big_quiet_on)
        | (apply Exists.intro; refine ⟨?_, ?_⟩; · (intro wq hC; first | (go_at_call 32; (with_reducible refine (chkgood hC.m r z x y HL.out).mono ?_); exact fun e w' h => ⟨h.1, hC.next h.2⟩) | (go_at_call 37; (with_reducible refine (rchkgood hC.k r z x y HL.out).mono ?_); exact fun e w' h => ⟨h.1, hC.next h.2⟩))
           go_big_quiet_on)
        | (refine ⟨.agg #[.int .i64 r, .int .i64 z, .int .i64 x, .int .i64 y], fun wq hC => ?_, ?_⟩; · (obtain ⟨⟨⟨c1, c2, c3, c4⟩, _⟩, _⟩ := hC; simp [c1, c2, c3, c4]; done)
           go_big_quiet_on)))
  refine wpQuiet_nil ?_
  intro w9 hM
  go_wp2
  (try simp only [Exit.inBlock, Exit.then])
  refine bodyPost_ret (results_tmp4 rfl _ _ _) rfl ?_
  unfold LaidP
  rw [HMM.out, HX.out, HL.out]
  refine ⟨hM.1.2.b, ?_⟩
  rw [if_pos rfl]
  exact ⟨kq, g, gb, kx, gk, lv, rfl, ⟨hkq.out, hb4.out.same (hM.2.block _ hb4.out.lt), hM.1.2.m⟩, hkx.out, hbx.out.same (hM.2.block _ hbx.out.lt), hM.1.2.k, fun k _ => by simp [Value.ownBlock]⟩
set_option maxRecDepth 100000 in
set_option maxHeartbeats 3200000 in
theorem laid_goodB (b r z x y : Int) (S : Value) (w : World) (n : Nat) (hb : b = n) (h1 : ¬ 2048 < b) (h2 : 64 < b) (hL : layB (List.replicate n 0) r z x y = true) :
    Calls Try.prog 7 #[.agg #[.int .i64 b, .int .i64 r, .int .i64 z, .int .i64 x, .int .i64 y, S]] w (LaidP b r z x y w) := by
  have hm : bytesN b = n := by unfold bytesN; omega
  obtain ⟨X, hX⟩ : ∃ X, List.replicate n (0 : UInt8) = X := ⟨_, rfl⟩
  have HN : ∀ W, Calls Try.prog 33 #[.int .i64 (n : Int)] W fun e w' => ∃ g gb lv, e = .returned (.tuple #[.pointer (some ⟨g, 0, none⟩), .int .i64 0]) ∧ Mem W.heap.size g gb lv X w' ∧ Below W.heap.size W w' := fun W => by rw [← hX]; exact new_ok n W (by omega) (by omega)
  have HR : ∀ W, Calls Try.prog 34 #[.int .i64 (n : Int)] W fun e w' => ∃ g, e = .returned (.tuple #[.pointer (some ⟨g, 0, none⟩), .int .i64 0]) ∧ Mr W.heap.size g (.slice none 0 0) X [] w' ∧ Below W.heap.size W w' := fun W => by rw [← hX]; exact rnew_ok n W (by omega) (by omega)
  have HN := Lib.hid HN
  have HR := Lib.hid HR
  rw [hX] at hL
  have HL := Lib.hid hL
  have HX := Lib.hid hX
  subst hb
  have HMM := Lib.hid hm
  have k0 := Blk.new w 26 #[.int .i64 (n : Int), .int .i64 r, .int .i64 z, .int .i64 x, .int .i64 y, S]
  have hB0 := ba (Below.refl w.heap.size w) (.cells #[.int .i64 (n : Int), .int .i64 r, .int .i64 z, .int .i64 x, .int .i64 y, S] 26)
  clear hm hL hX
  go_enter Try.func7, Try.ntmps7
  go_wp2_with fail
  refine (HN.out _).mono ?_
  rintro e w1 ⟨g, gb, lv, rfl, hM, hq⟩
  have k1 := k0.same (hq.block _ k0.lt)
  have hM1 := Lib.hid (hM.down hB0.size)
  have hB1 := Lib.hid (b0 hB0 hq)
  have k1 := Lib.hid k1
  clear hM hq hB0 k0
  go_wp2_with fail
  refine (HR.out _).mono ?_
  rintro e w2 ⟨gk, rfl, hR, hq⟩
  have L2 : LS w (n : Int) r z x y S g gb gk lv X w2 := ⟨k1.out.same (hq.block _ k1.out.lt), hM1.out.below hq (Nat.le_refl _), hR.down hB1.out.size, b0 hB1.out hq⟩
  obtain ⟨⟨c1, c2, c3, c4⟩, _⟩ := LF.of L2
  have L2 := Lib.hid L2
  clear hR hq hM1 hB1 k1
  go_wp2_with fail
  refine (newgood L2.out.m r z x y HL.out).mono ?_
  rintro e w3 ⟨hq, kq, rfl, hkq, hbq⟩
  have L3 := L2.out.next hq
  clear c1 c2 c3 c4
  obtain ⟨⟨c1, c2, c3, c4⟩, _⟩ := LF.of L3
  have L3 := Lib.hid L3
  clear hq
  have hkq := Lib.hid (Nat.le_trans L2.out.b.size hkq)
  have hbq := Lib.hid hbq
  clear L2
  go_wp2_with fail
  refine (rnewgood L3.out.k r z x y HL.out).mono ?_
  rintro e w4 ⟨hq, kx, rfl, hkx, hbx⟩
  have hb4 := Lib.hid (hbq.out.same (hq.block _ hbq.out.lt))
  have hkx := Lib.hid (Nat.le_trans L3.out.b.size hkx)
  have hbx := Lib.hid hbx
  clear hbq
  have L4 := L3.out.next hq
  clear hq c1 c2 c3 c4 L3
  go_wp2_with fail
  refine region_class (LC w (n : Int) r z x y S g gb gk lv X w4) (by kernel_rfl) (by kernel_rfl) ⟨(LF.of L4).drew, (Below.refl _ _).drew⟩ ?_
  clear L4
  repeat (first
      | go_big_quiet_skip
      | (go_big_quiet_want; go_big_quiet_op; first
        | go_big_quiet_on
        | (refine ⟨_, fun _ _ => rfl, ?_⟩; go_big_quiet_on)
        | (apply Exists.intro; refine ⟨?_, ?_⟩; · (intro wq hC; first | (go_at_call 32; (with_reducible refine (chkgood hC.m r z x y HL.out).mono ?_); exact fun e w' h => ⟨h.1, hC.next h.2⟩) | (go_at_call 37; (with_reducible refine (rchkgood hC.k r z x y HL.out).mono ?_); exact fun e w' h => ⟨h.1, hC.next h.2⟩))
           go_big_quiet_on)
        | (refine ⟨.agg #[.int .i64 r, .int .i64 z, .int .i64 x, .int .i64 y], fun wq hC => ?_, ?_⟩; · (obtain ⟨⟨⟨c1, c2, c3, c4⟩, _⟩, _⟩ := hC; simp [c1, c2, c3, c4]; done)
           go_big_quiet_on)))
  refine wpQuiet_nil ?_
  intro w9 hM
  go_wp2
  (try simp only [Exit.inBlock, Exit.then])
  refine bodyPost_ret (results_tmp4 rfl _ _ _) rfl ?_
  unfold LaidP
  rw [HMM.out, HX.out, HL.out]
  refine ⟨hM.1.2.b, ?_⟩
  rw [if_pos rfl]
  exact ⟨kq, g, gb, kx, gk, lv, rfl, ⟨hkq.out, hb4.out.same (hM.2.block _ hb4.out.lt), hM.1.2.m⟩, hkx.out, hbx.out.same (hM.2.block _ hbx.out.lt), hM.1.2.k, fun k _ => by simp [Value.ownBlock]⟩
set_option maxRecDepth 100000 in
set_option maxHeartbeats 3200000 in
theorem laid_goodC (b r z x y : Int) (S : Value) (w : World) (h1 : 2048 < b) (hL : layB (List.replicate 2048 0) r z x y = true) :
    Calls Try.prog 7 #[.agg #[.int .i64 b, .int .i64 r, .int .i64 z, .int .i64 x, .int .i64 y, S]] w (LaidP b r z x y w) := by
  have hm : bytesN b = 2048 := by unfold bytesN; omega
  obtain ⟨X, hX⟩ : ∃ X, List.replicate 2048 (0 : UInt8) = X := ⟨_, rfl⟩
  have HN : ∀ W, Calls Try.prog 33 #[.int .i64 2048] W fun e w' => ∃ g gb lv, e = .returned (.tuple #[.pointer (some ⟨g, 0, none⟩), .int .i64 0]) ∧ Mem W.heap.size g gb lv X w' ∧ Below W.heap.size W w' := fun W => by rw [← hX]; exact new_ok 2048 W (by omega) (by omega)
  have HR : ∀ W, Calls Try.prog 34 #[.int .i64 2048] W fun e w' => ∃ g, e = .returned (.tuple #[.pointer (some ⟨g, 0, none⟩), .int .i64 0]) ∧ Mr W.heap.size g (.slice none 0 0) X [] w' ∧ Below W.heap.size W w' := fun W => by rw [← hX]; exact rnew_ok 2048 W (by omega) (by omega)
  have HN := Lib.hid HN
  have HR := Lib.hid HR
  rw [hX] at hL
  have HL := Lib.hid hL
  have HX := Lib.hid hX
  have HMM := Lib.hid hm
  have k0 := Blk.new w 26 #[.int .i64 b, .int .i64 r, .int .i64 z, .int .i64 x, .int .i64 y, S]
  have hB0 := ba (Below.refl w.heap.size w) (.cells #[.int .i64 b, .int .i64 r, .int .i64 z, .int .i64 x, .int .i64 y, S] 26)
  clear hm hL hX
  go_enter Try.func7, Try.ntmps7
  go_wp2_with fail
  refine (HN.out _).mono ?_
  rintro e w1 ⟨g, gb, lv, rfl, hM, hq⟩
  have k1 := k0.same (hq.block _ k0.lt)
  have hM1 := Lib.hid (hM.down hB0.size)
  have hB1 := Lib.hid (b0 hB0 hq)
  have k1 := Lib.hid k1
  clear hM hq hB0 k0
  go_wp2_with fail
  refine (HR.out _).mono ?_
  rintro e w2 ⟨gk, rfl, hR, hq⟩
  have L2 : LS w b r z x y S g gb gk lv X w2 := ⟨k1.out.same (hq.block _ k1.out.lt), hM1.out.below hq (Nat.le_refl _), hR.down hB1.out.size, b0 hB1.out hq⟩
  obtain ⟨⟨c1, c2, c3, c4⟩, _⟩ := LF.of L2
  have L2 := Lib.hid L2
  clear hR hq hM1 hB1 k1
  go_wp2_with fail
  refine (newgood L2.out.m r z x y HL.out).mono ?_
  rintro e w3 ⟨hq, kq, rfl, hkq, hbq⟩
  have L3 := L2.out.next hq
  clear c1 c2 c3 c4
  obtain ⟨⟨c1, c2, c3, c4⟩, _⟩ := LF.of L3
  have L3 := Lib.hid L3
  clear hq
  have hkq := Lib.hid (Nat.le_trans L2.out.b.size hkq)
  have hbq := Lib.hid hbq
  clear L2
  go_wp2_with fail
  refine (rnewgood L3.out.k r z x y HL.out).mono ?_
  rintro e w4 ⟨hq, kx, rfl, hkx, hbx⟩
  have hb4 := Lib.hid (hbq.out.same (hq.block _ hbq.out.lt))
  have hkx := Lib.hid (Nat.le_trans L3.out.b.size hkx)
  have hbx := Lib.hid hbx
  clear hbq
  have L4 := L3.out.next hq
  clear hq c1 c2 c3 c4 L3
  go_wp2_with fail
  refine region_class (LC w b r z x y S g gb gk lv X w4) (by kernel_rfl) (by kernel_rfl) ⟨(LF.of L4).drew, (Below.refl _ _).drew⟩ ?_
  clear L4
  repeat (first
      | go_big_quiet_skip
      | (go_big_quiet_want; go_big_quiet_op; first
        | go_big_quiet_on
        | (refine ⟨_, fun _ _ => rfl, ?_⟩; go_big_quiet_on)
        | (apply Exists.intro; refine ⟨?_, ?_⟩; · (intro wq hC; first | (go_at_call 32; (with_reducible refine (chkgood hC.m r z x y HL.out).mono ?_); exact fun e w' h => ⟨h.1, hC.next h.2⟩) | (go_at_call 37; (with_reducible refine (rchkgood hC.k r z x y HL.out).mono ?_); exact fun e w' h => ⟨h.1, hC.next h.2⟩))
           go_big_quiet_on)
        | (refine ⟨.agg #[.int .i64 r, .int .i64 z, .int .i64 x, .int .i64 y], fun wq hC => ?_, ?_⟩; · (obtain ⟨⟨⟨c1, c2, c3, c4⟩, _⟩, _⟩ := hC; simp [c1, c2, c3, c4]; done)
           go_big_quiet_on)))
  refine wpQuiet_nil ?_
  intro w9 hM
  go_wp2
  (try simp only [Exit.inBlock, Exit.then])
  refine bodyPost_ret (results_tmp4 rfl _ _ _) rfl ?_
  unfold LaidP
  rw [HMM.out, HX.out, HL.out]
  refine ⟨hM.1.2.b, ?_⟩
  rw [if_pos rfl]
  exact ⟨kq, g, gb, kx, gk, lv, rfl, ⟨hkq.out, hb4.out.same (hM.2.block _ hb4.out.lt), hM.1.2.m⟩, hkx.out, hbx.out.same (hM.2.block _ hbx.out.lt), hM.1.2.k, fun k _ => by simp [Value.ownBlock]⟩
set_option maxRecDepth 100000 in
set_option maxHeartbeats 3200000 in
theorem laid_badA (b r z x y : Int) (S : Value) (w : World) (h1 : ¬ 2048 < b) (h2 : ¬ 64 < b) (hL : layB (List.replicate 64 0) r z x y = false) :
    Calls Try.prog 7 #[.agg #[.int .i64 b, .int .i64 r, .int .i64 z, .int .i64 x, .int .i64 y, S]] w (LaidP b r z x y w) := by
  have hm : bytesN b = 64 := by unfold bytesN; omega
  obtain ⟨X, hX⟩ : ∃ X, List.replicate 64 (0 : UInt8) = X := ⟨_, rfl⟩
  have HN : ∀ W, Calls Try.prog 33 #[.int .i64 64] W fun e w' => ∃ g gb lv, e = .returned (.tuple #[.pointer (some ⟨g, 0, none⟩), .int .i64 0]) ∧ Mem W.heap.size g gb lv X w' ∧ Below W.heap.size W w' := fun W => by rw [← hX]; exact new_ok 64 W (by omega) (by omega)
  have HR : ∀ W, Calls Try.prog 34 #[.int .i64 64] W fun e w' => ∃ g, e = .returned (.tuple #[.pointer (some ⟨g, 0, none⟩), .int .i64 0]) ∧ Mr W.heap.size g (.slice none 0 0) X [] w' ∧ Below W.heap.size W w' := fun W => by rw [← hX]; exact rnew_ok 64 W (by omega) (by omega)
  have HN := Lib.hid HN
  have HR := Lib.hid HR
  rw [hX] at hL
  have HL := Lib.hid hL
  have HX := Lib.hid hX
  have HMM := Lib.hid hm
  have k0 := Blk.new w 26 #[.int .i64 b, .int .i64 r, .int .i64 z, .int .i64 x, .int .i64 y, S]
  have hB0 := ba (Below.refl w.heap.size w) (.cells #[.int .i64 b, .int .i64 r, .int .i64 z, .int .i64 x, .int .i64 y, S] 26)
  clear hm hL hX
  go_enter Try.func7, Try.ntmps7
  go_wp2_with fail
  refine (HN.out _).mono ?_
  rintro e w1 ⟨g, gb, lv, rfl, hM, hq⟩
  have k1 := k0.same (hq.block _ k0.lt)
  have hM1 := Lib.hid (hM.down hB0.size)
  have hB1 := Lib.hid (b0 hB0 hq)
  have k1 := Lib.hid k1
  clear hM hq hB0 k0
  go_wp2_with fail
  refine (HR.out _).mono ?_
  rintro e w2 ⟨gk, rfl, hR, hq⟩
  have L2 : LS w b r z x y S g gb gk lv X w2 := ⟨k1.out.same (hq.block _ k1.out.lt), hM1.out.below hq (Nat.le_refl _), hR.down hB1.out.size, b0 hB1.out hq⟩
  obtain ⟨⟨c1, c2, c3, c4⟩, _⟩ := LF.of L2
  have L2 := Lib.hid L2
  clear hR hq hM1 hB1 k1
  go_wp2_with fail
  refine (newbad L2.out.m r z x y HL.out).mono ?_
  rintro e w3 ⟨hq, rfl⟩
  have L3 := L2.out.next hq
  clear c1 c2 c3 c4
  obtain ⟨⟨c1, c2, c3, c4⟩, _⟩ := LF.of L3
  have L3 := Lib.hid L3
  clear hq
  clear L2
  go_wp2_with fail
  refine (rnewbad L3.out.k r z x y HL.out).mono ?_
  rintro e w4 ⟨hq, rfl⟩
  have L4 := L3.out.next hq
  clear hq c1 c2 c3 c4 L3
  go_wp2_with fail
  refine region_class (LC w b r z x y S g gb gk lv X w4) (by kernel_rfl) (by kernel_rfl) ⟨(LF.of L4).drew, (Below.refl _ _).drew⟩ ?_
  clear L4
  repeat (first
      | go_big_quiet_skip
      | (go_big_quiet_want; go_big_quiet_op; first
        | go_big_quiet_on
        | (refine ⟨_, fun _ _ => rfl, ?_⟩; go_big_quiet_on)
        | (apply Exists.intro; refine ⟨?_, ?_⟩; · (intro wq hC; first | (go_at_call 32; (with_reducible refine (chkbad hC.m r z x y HL.out).mono ?_); exact fun e w' h => ⟨h.1, hC.next h.2⟩) | (go_at_call 37; (with_reducible refine (rchkbad hC.k r z x y HL.out).mono ?_); exact fun e w' h => ⟨h.1, hC.next h.2⟩))
           go_big_quiet_on)
        | (refine ⟨.agg #[.int .i64 r, .int .i64 z, .int .i64 x, .int .i64 y], fun wq hC => ?_, ?_⟩; · (obtain ⟨⟨⟨c1, c2, c3, c4⟩, _⟩, _⟩ := hC; simp [c1, c2, c3, c4]; done)
           go_big_quiet_on)))
  refine wpQuiet_nil ?_
  intro w9 hM
  go_wp2
  (try simp only [Exit.inBlock, Exit.then])
  refine bodyPost_ret (results_tmp4 rfl _ _ _) rfl ?_
  unfold LaidP
  rw [HMM.out, HX.out, HL.out]
  refine ⟨hM.1.2.b, ?_⟩
  rw [if_neg (by simp)]
  exact ⟨_, rfl⟩
set_option maxRecDepth 100000 in
set_option maxHeartbeats 3200000 in
theorem laid_badB (b r z x y : Int) (S : Value) (w : World) (n : Nat) (hb : b = n) (h1 : ¬ 2048 < b) (h2 : 64 < b) (hL : layB (List.replicate n 0) r z x y = false) :
    Calls Try.prog 7 #[.agg #[.int .i64 b, .int .i64 r, .int .i64 z, .int .i64 x, .int .i64 y, S]] w (LaidP b r z x y w) := by
  have hm : bytesN b = n := by unfold bytesN; omega
  obtain ⟨X, hX⟩ : ∃ X, List.replicate n (0 : UInt8) = X := ⟨_, rfl⟩
  have HN : ∀ W, Calls Try.prog 33 #[.int .i64 (n : Int)] W fun e w' => ∃ g gb lv, e = .returned (.tuple #[.pointer (some ⟨g, 0, none⟩), .int .i64 0]) ∧ Mem W.heap.size g gb lv X w' ∧ Below W.heap.size W w' := fun W => by rw [← hX]; exact new_ok n W (by omega) (by omega)
  have HR : ∀ W, Calls Try.prog 34 #[.int .i64 (n : Int)] W fun e w' => ∃ g, e = .returned (.tuple #[.pointer (some ⟨g, 0, none⟩), .int .i64 0]) ∧ Mr W.heap.size g (.slice none 0 0) X [] w' ∧ Below W.heap.size W w' := fun W => by rw [← hX]; exact rnew_ok n W (by omega) (by omega)
  have HN := Lib.hid HN
  have HR := Lib.hid HR
  rw [hX] at hL
  have HL := Lib.hid hL
  have HX := Lib.hid hX
  subst hb
  have HMM := Lib.hid hm
  have k0 := Blk.new w 26 #[.int .i64 (n : Int), .int .i64 r, .int .i64 z, .int .i64 x, .int .i64 y, S]
  have hB0 := ba (Below.refl w.heap.size w) (.cells #[.int .i64 (n : Int), .int .i64 r, .int .i64 z, .int .i64 x, .int .i64 y, S] 26)
  clear hm hL hX
  go_enter Try.func7, Try.ntmps7
  go_wp2_with fail
  refine (HN.out _).mono ?_
  rintro e w1 ⟨g, gb, lv, rfl, hM, hq⟩
  have k1 := k0.same (hq.block _ k0.lt)
  have hM1 := Lib.hid (hM.down hB0.size)
  have hB1 := Lib.hid (b0 hB0 hq)
  have k1 := Lib.hid k1
  clear hM hq hB0 k0
  go_wp2_with fail
  refine (HR.out _).mono ?_
  rintro e w2 ⟨gk, rfl, hR, hq⟩
  have L2 : LS w (n : Int) r z x y S g gb gk lv X w2 := ⟨k1.out.same (hq.block _ k1.out.lt), hM1.out.below hq (Nat.le_refl _), hR.down hB1.out.size, b0 hB1.out hq⟩
  obtain ⟨⟨c1, c2, c3, c4⟩, _⟩ := LF.of L2
  have L2 := Lib.hid L2
  clear hR hq hM1 hB1 k1
  go_wp2_with fail
  refine (newbad L2.out.m r z x y HL.out).mono ?_
  rintro e w3 ⟨hq, rfl⟩
  have L3 := L2.out.next hq
  clear c1 c2 c3 c4
  obtain ⟨⟨c1, c2, c3, c4⟩, _⟩ := LF.of L3
  have L3 := Lib.hid L3
  clear hq
  clear L2
  go_wp2_with fail
  refine (rnewbad L3.out.k r z x y HL.out).mono ?_
  rintro e w4 ⟨hq, rfl⟩
  have L4 := L3.out.next hq
  clear hq c1 c2 c3 c4 L3
  go_wp2_with fail
  refine region_class (LC w (n : Int) r z x y S g gb gk lv X w4) (by kernel_rfl) (by kernel_rfl) ⟨(LF.of L4).drew, (Below.refl _ _).drew⟩ ?_
  clear L4
  repeat (first
      | go_big_quiet_skip
      | (go_big_quiet_want; go_big_quiet_op; first
        | go_big_quiet_on
        | (refine ⟨_, fun _ _ => rfl, ?_⟩; go_big_quiet_on)
        | (apply Exists.intro; refine ⟨?_, ?_⟩; · (intro wq hC; first | (go_at_call 32; (with_reducible refine (chkbad hC.m r z x y HL.out).mono ?_); exact fun e w' h => ⟨h.1, hC.next h.2⟩) | (go_at_call 37; (with_reducible refine (rchkbad hC.k r z x y HL.out).mono ?_); exact fun e w' h => ⟨h.1, hC.next h.2⟩))
           go_big_quiet_on)
        | (refine ⟨.agg #[.int .i64 r, .int .i64 z, .int .i64 x, .int .i64 y], fun wq hC => ?_, ?_⟩; · (obtain ⟨⟨⟨c1, c2, c3, c4⟩, _⟩, _⟩ := hC; simp [c1, c2, c3, c4]; done)
           go_big_quiet_on)))
  refine wpQuiet_nil ?_
  intro w9 hM
  go_wp2
  (try simp only [Exit.inBlock, Exit.then])
  refine bodyPost_ret (results_tmp4 rfl _ _ _) rfl ?_
  unfold LaidP
  rw [HMM.out, HX.out, HL.out]
  refine ⟨hM.1.2.b, ?_⟩
  rw [if_neg (by simp)]
  exact ⟨_, rfl⟩
set_option maxRecDepth 100000 in
set_option maxHeartbeats 3200000 in
theorem laid_badC (b r z x y : Int) (S : Value) (w : World) (h1 : 2048 < b) (hL : layB (List.replicate 2048 0) r z x y = false) :
    Calls Try.prog 7 #[.agg #[.int .i64 b, .int .i64 r, .int .i64 z, .int .i64 x, .int .i64 y, S]] w (LaidP b r z x y w) := by
  have hm : bytesN b = 2048 := by unfold bytesN; omega
  obtain ⟨X, hX⟩ : ∃ X, List.replicate 2048 (0 : UInt8) = X := ⟨_, rfl⟩
  have HN : ∀ W, Calls Try.prog 33 #[.int .i64 2048] W fun e w' => ∃ g gb lv, e = .returned (.tuple #[.pointer (some ⟨g, 0, none⟩), .int .i64 0]) ∧ Mem W.heap.size g gb lv X w' ∧ Below W.heap.size W w' := fun W => by rw [← hX]; exact new_ok 2048 W (by omega) (by omega)
  have HR : ∀ W, Calls Try.prog 34 #[.int .i64 2048] W fun e w' => ∃ g, e = .returned (.tuple #[.pointer (some ⟨g, 0, none⟩), .int .i64 0]) ∧ Mr W.heap.size g (.slice none 0 0) X [] w' ∧ Below W.heap.size W w' := fun W => by rw [← hX]; exact rnew_ok 2048 W (by omega) (by omega)
  have HN := Lib.hid HN
  have HR := Lib.hid HR
  rw [hX] at hL
  have HL := Lib.hid hL
  have HX := Lib.hid hX
  have HMM := Lib.hid hm
  have k0 := Blk.new w 26 #[.int .i64 b, .int .i64 r, .int .i64 z, .int .i64 x, .int .i64 y, S]
  have hB0 := ba (Below.refl w.heap.size w) (.cells #[.int .i64 b, .int .i64 r, .int .i64 z, .int .i64 x, .int .i64 y, S] 26)
  clear hm hL hX
  go_enter Try.func7, Try.ntmps7
  go_wp2_with fail
  refine (HN.out _).mono ?_
  rintro e w1 ⟨g, gb, lv, rfl, hM, hq⟩
  have k1 := k0.same (hq.block _ k0.lt)
  have hM1 := Lib.hid (hM.down hB0.size)
  have hB1 := Lib.hid (b0 hB0 hq)
  have k1 := Lib.hid k1
  clear hM hq hB0 k0
  go_wp2_with fail
  refine (HR.out _).mono ?_
  rintro e w2 ⟨gk, rfl, hR, hq⟩
  have L2 : LS w b r z x y S g gb gk lv X w2 := ⟨k1.out.same (hq.block _ k1.out.lt), hM1.out.below hq (Nat.le_refl _), hR.down hB1.out.size, b0 hB1.out hq⟩
  obtain ⟨⟨c1, c2, c3, c4⟩, _⟩ := LF.of L2
  have L2 := Lib.hid L2
  clear hR hq hM1 hB1 k1
  go_wp2_with fail
  refine (newbad L2.out.m r z x y HL.out).mono ?_
  rintro e w3 ⟨hq, rfl⟩
  have L3 := L2.out.next hq
  clear c1 c2 c3 c4
  obtain ⟨⟨c1, c2, c3, c4⟩, _⟩ := LF.of L3
  have L3 := Lib.hid L3
  clear hq
  clear L2
  go_wp2_with fail
  refine (rnewbad L3.out.k r z x y HL.out).mono ?_
  rintro e w4 ⟨hq, rfl⟩
  have L4 := L3.out.next hq
  clear hq c1 c2 c3 c4 L3
  go_wp2_with fail
  refine region_class (LC w b r z x y S g gb gk lv X w4) (by kernel_rfl) (by kernel_rfl) ⟨(LF.of L4).drew, (Below.refl _ _).drew⟩ ?_
  clear L4
  repeat (first
      | go_big_quiet_skip
      | (go_big_quiet_want; go_big_quiet_op; first
        | go_big_quiet_on
        | (refine ⟨_, fun _ _ => rfl, ?_⟩; go_big_quiet_on)
        | (apply Exists.intro; refine ⟨?_, ?_⟩; · (intro wq hC; first | (go_at_call 32; (with_reducible refine (chkbad hC.m r z x y HL.out).mono ?_); exact fun e w' h => ⟨h.1, hC.next h.2⟩) | (go_at_call 37; (with_reducible refine (rchkbad hC.k r z x y HL.out).mono ?_); exact fun e w' h => ⟨h.1, hC.next h.2⟩))
           go_big_quiet_on)
        | (refine ⟨.agg #[.int .i64 r, .int .i64 z, .int .i64 x, .int .i64 y], fun wq hC => ?_, ?_⟩; · (obtain ⟨⟨⟨c1, c2, c3, c4⟩, _⟩, _⟩ := hC; simp [c1, c2, c3, c4]; done)
           go_big_quiet_on)))
  refine wpQuiet_nil ?_
  intro w9 hM
  go_wp2
  (try simp only [Exit.inBlock, Exit.then])
  refine bodyPost_ret (results_tmp4 rfl _ _ _) rfl ?_
  unfold LaidP
  rw [HMM.out, HX.out, HL.out]
  refine ⟨hM.1.2.b, ?_⟩
  rw [if_neg (by simp)]
  exact ⟨_, rfl⟩
theorem laid_any (b r z x y : Int) (S : Value) (w : World) : Calls Try.prog 7 #[.agg #[.int .i64 b, .int .i64 r, .int .i64 z, .int .i64 x, .int .i64 y, S]] w (LaidP b r z x y w) := by
  by_cases h1 : 2048 < b
  · cases hL : layB (List.replicate 2048 0) r z x y
    · exact laid_badC b r z x y S w h1 hL
    · exact laid_goodC b r z x y S w h1 hL
  by_cases h2 : 64 < b
  · obtain ⟨n, rfl⟩ := Int.eq_ofNat_of_zero_le (show 0 ≤ b by omega)
    cases hL : layB (List.replicate n 0) r z x y
    · exact laid_badB n r z x y S w n rfl h1 h2 hL
    · exact laid_goodB n r z x y S w n rfl h1 h2 hL
  · cases hL : layB (List.replicate 64 0) r z x y
    · exact laid_badA b r z x y S w h1 h2 hL
    · exact laid_goodA b r z x y S w h1 h2 hL
end Go.Proofs.Ytoblemgeacllkaa

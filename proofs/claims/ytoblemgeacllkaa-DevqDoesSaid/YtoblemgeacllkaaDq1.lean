/-
  The code's queue while a call reads: its block, its memory, all else as it was; descriptor, offset, after, place, has, require.
-/
import Derived.Test.YtoblemgeacllkaaDqm
import Derived.BigQuiet
import Derived.Deep.QuietTactic
import Derived.StillTailTactics
namespace Go.Proofs.Ytoblemgeacllkaa
open Go.RowKit

/-- Nothing has turned but blocks of a memory's types. -/
structure Keep (w w' : World) : Prop where
  size : w.heap.size ≤ w'.heap.size
  block : ∀ (k : Nat) (t : TypeId) (cs : Array Value) (fr : Nat × Nat), w.heap[k]? = some (Obj.cells cs t fr) → t ≠ 91 → t ≠ 5 → t ≠ 111 → w'.heap[k]? = w.heap[k]?
theorem heap_lt {w : World} {k : Nat} {o : Obj} (h : w.heap[k]? = some o) : k < w.heap.size := by
  rcases Nat.lt_or_ge k w.heap.size with hlt | hge
  · exact hlt
  · rw [Array.getElem?_eq_none hge] at h; cases h
theorem Keep.refl (w : World) : Keep w w := ⟨Nat.le_refl _, fun _ _ _ _ _ _ _ _ => rfl⟩
theorem Keep.trans {w w1 w2 : World} (h : Keep w w1) (g : Keep w1 w2) : Keep w w2 :=
  ⟨Nat.le_trans h.size g.size, fun k t cs fr hk a b c => by
    have e := h.block k t cs fr hk a b c
    exact (g.block k t cs fr (e.trans hk) a b c).trans e⟩
theorem Keep.of_below {w w' : World} (h : Below w.heap.size w w') : Keep w w' := ⟨h.size, fun k _ _ _ hk _ _ _ => h.block k (heap_lt hk)⟩
theorem Keep.of_noted {B g gb : Nat} {lv : Value} {xs ys : List UInt8} {w w' : World} (hm : Mem B g gb lv xs w) (h : Noted B g gb lv ys w w') : Keep w w' := by
  obtain ⟨lv1, hM, hT, hL⟩ := h
  refine ⟨hT.size, fun k t cs fr hk a b c => ?_⟩
  obtain ⟨e1, e2, e3⟩ := hm.far hk a b c
  exact hT.block k (heap_lt hk) e1 e2 e3
theorem Keep.put {w0 w : World} (h : Keep w0 w) {k : Nat} (hk : w0.heap.size ≤ k) (i : Nat) (u : Value) : Keep w0 (w.setCell ⟨k, i, none⟩ u) :=
  ⟨by simpa [World.setCell] using h.size, fun j t cs fr hj a b c => (Below.heap_setCell w _ u j (by have := heap_lt hj; show j ≠ k; omega)).trans (h.block j t cs fr hj a b c)⟩
theorem Blk.keep {w w' : World} {k : Nat} {t : TypeId} {cs : Array Value} (h : Blk w k t cs) (hk : Keep w w') (a : t ≠ 91) (b : t ≠ 5) (c : t ≠ 111) : Blk w' k t cs := h.same (hk.block k t cs _ h a b c)
theorem own_keep {w w' : World} {base : Nat} {e : TypeId} {size n : Nat} {v : Value} {xs : List Value} (h : w.ownsRow base e size v n xs) (hk : Keep w w') (a : e ≠ 91) (b : e ≠ 5) (c : e ≠ 111) : w'.ownsRow base e size v n xs := by
  refine ⟨h.1, ?_⟩
  rcases h.2 with hn | ⟨g, cap, cur, rfl, h1, hgg, rest⟩
  · exact .inl hn
  · exact .inr ⟨g, cap, cur, rfl, h1, (hk.block g e cur _ hgg a b c).trans hgg, rest⟩

/-- What a call on a queue starts from. -/
structure Ctx where
  B : Nat
  gq : Nat
  g : Nat
  gb : Nat
  lv : Value
  xs : List UInt8
  q : Qs
  w0 : World
/-- .. and where it is: the queue and the memory's bytes as they were, and all else but the memory's log. wE: where an inner call began. -/
structure Rm (c : Ctx) (wE w : World) : Prop where
  blk : Blk w c.gq 93 (c.q.cells c.g)
  mem : Noted c.B c.g c.gb c.lv c.xs c.w0 w
  keep : Keep wE w
  base : c.w0.heap.size ≤ wE.heap.size
section
variable {c : Ctx} {wE w w' : World}
theorem Rm.enter (h : Rm c wE w) : Rm c w w := ⟨h.blk, h.mem, Keep.refl _, Nat.le_trans h.base h.keep.size⟩
theorem Rm.leave {w1 : World} (h : Rm c wE w1) (g : Rm c w1 w) : Rm c wE w := ⟨g.blk, g.mem, h.keep.trans g.keep, h.base⟩
theorem Rm.below (h : Rm c wE w) (hb : Below w.heap.size w w') : Rm c wE w' :=
  ⟨h.blk.same (hb.block _ h.blk.lt), h.mem.after hb, h.keep.trans (Keep.of_below hb), h.base⟩
theorem Rm.drew (h : Rm c wE w) : Rm c wE w.drew := h.below (Below.refl _ _).drew
theorem Rm.drewN (h : Rm c wE w) (n : Nat) : Rm c wE (w.drewN n) := h.below ⟨rfl, rfl, rfl, Nat.le_refl _, fun _ _ => rfl⟩
theorem Rm.alloc (h : Rm c wE w) (o : Obj) : Rm c wE (w.alloc o) := h.below ((Below.refl _ _).alloc (Nat.le_refl _) _)
theorem Rm.get (h : Rm c wE w) : ∃ lv1, Mem c.B c.g c.gb lv1 c.xs w := by
  obtain ⟨lv1, hM, _⟩ := h.mem
  exact ⟨lv1, hM⟩
/-- a call on the memory that leaves its bytes -/
theorem Rm.noted {lv1 : Value} (h : Rm c wE w) (hm : c.w0.heap.size ≤ w.heap.size → Touch c.g c.gb c.lv c.w0 w ∧ (∀ k, lv1.ownBlock = some k → c.lv.ownBlock = some k ∨ c.w0.heap.size ≤ k)) (hM : Mem c.B c.g c.gb lv1 c.xs w) (hn : Noted c.B c.g c.gb lv1 c.xs w w') : Rm c wE w' := by
  have hk := Keep.of_noted hM hn
  obtain ⟨hT, hL⟩ := hm (Nat.le_trans h.base h.keep.size)
  obtain ⟨lv2, hM2, hT2, hL2⟩ := hn
  refine ⟨h.blk.keep hk (by decide) (by decide) (by decide), ⟨lv2, hM2, hT.trans hT2 hL, fun k hk2 => ?_⟩, h.keep.trans hk, h.base⟩
  rcases hL2 k hk2 with e | e
  · exact hL k e
  · right; have := h.base; have := h.keep.size; omega
theorem Rm.read (h : Rm c wE w) (a n : Nat) (hn : a + n ≤ c.xs.length) :
    Calls Try.prog 59 #[.pointer (some ⟨c.g, 0, none⟩), .int .i64 a, .int .i64 n] w fun e w' => e = .returned (.tuple #[.string ⟨((c.xs.drop a).take n).toArray⟩, .int .i64 0]) ∧ Rm c w w' := by
  obtain ⟨lv1, hM, hT, hL⟩ := h.mem
  exact (read_ok hM a n hn).mono fun e w' ⟨he, hN⟩ => ⟨he, h.enter.noted (fun _ => ⟨hT, hL⟩) hM hN⟩
theorem Rm.may (h : Rm c wE w) (a n : Int) (hn : n < 9223372036854775808) :
    Calls Try.prog 38 #[.pointer (some ⟨c.g, 0, none⟩), .int .i64 a, .int .i64 n] w fun e w' => e = .returned (.bool (mayB c.xs a n)) ∧ w = w' := by
  obtain ⟨lv1, hM⟩ := h.get
  exact may_any hM a n hn
/-- a store into a variable of the call's own -/
theorem Rm.put (h : Rm c wE w) {k : Nat} {t : TypeId} {cs : Array Value} (hk : Blk w k t cs) (hE : wE.heap.size ≤ k) (a : t ≠ 91) (b : t ≠ 5) (d : t ≠ 111) (e : t ≠ 93) (i : Nat) (u : Value) : Rm c wE (w.setCell ⟨k, i, none⟩ u) := by
  obtain ⟨lv1, hM, hT, hL⟩ := h.mem
  obtain ⟨n1, n2, n3⟩ := hM.far hk a b d
  have o : ∀ j, j ≠ k → (w.setCell ⟨k, i, none⟩ u).heap[j]? = w.heap[j]? := fun j hj => Below.heap_setCell w _ u j hj
  refine ⟨h.blk.other (fun x => hk.ne h.blk e x.symm) i u, ⟨lv1, hM.kept (o _ n1.symm) (o _ n2.symm) (fun j hj => o j (fun x => n3 (x ▸ hj))), ⟨hT.os, hT.tape, hT.output, by simpa [World.setCell] using hT.size, fun j hj x y z => (o j (by have := h.base; omega)).trans (hT.block j hj x y z)⟩, hL⟩, h.keep.put hE i u, h.base⟩
theorem Rm.put4 (h : Rm c wE w) {k : Nat} {t : TypeId} {a0 a1 a2 a3 : Value} (hk : Blk w k t #[a0, a1, a2, a3]) (hE : wE.heap.size ≤ k) (a : t ≠ 91) (b : t ≠ 5) (d : t ≠ 111) (e : t ≠ 93) (b0 b1 b2 b3 : Value) :
    Rm c wE ((((w.setCell ⟨k, 0, none⟩ b0).setCell ⟨k, 1, none⟩ b1).setCell ⟨k, 2, none⟩ b2).setCell ⟨k, 3, none⟩ b3) ∧ Blk ((((w.setCell ⟨k, 0, none⟩ b0).setCell ⟨k, 1, none⟩ b1).setCell ⟨k, 2, none⟩ b2).setCell ⟨k, 3, none⟩ b3) k t #[b0, b1, b2, b3] := by
  have k1 := hk.put 0 b0
  have k2 := k1.put 1 b1
  have k3 := k2.put 2 b2
  have k4 := k3.put 3 b3
  exact ⟨(((h.put hk hE a b d e 0 b0).put k1 hE a b d e 1 b1).put k2 hE a b d e 2 b2).put k3 hE a b d e 3 b3, by simpa using k4⟩
theorem Rm.put2 (h : Rm c wE w) {k : Nat} {t : TypeId} {a0 a1 : Value} (hk : Blk w k t #[a0, a1]) (hE : wE.heap.size ≤ k) (a : t ≠ 91) (b : t ≠ 5) (d : t ≠ 111) (e : t ≠ 93) (b0 b1 : Value) :
    Rm c wE ((w.setCell ⟨k, 0, none⟩ b0).setCell ⟨k, 1, none⟩ b1) ∧ Blk ((w.setCell ⟨k, 0, none⟩ b0).setCell ⟨k, 1, none⟩ b1) k t #[b0, b1] := by
  have k1 := hk.put 0 b0
  have k2 := k1.put 1 b1
  exact ⟨(h.put hk hE a b d e 0 b0).put k1 hE a b d e 1 b1, by simpa using k2⟩
theorem Rm.lt (h : Rm c wE w) : c.gq < w.heap.size := h.blk.lt
/-- the queue's cells -/
theorem Rm.cells (h : Rm c wE w) : w.cell? ⟨c.gq, 0, none⟩ = some (.pointer (some ⟨c.g, 0, none⟩)) ∧ w.cell? ⟨c.gq, 1, none⟩ = some (.int .i64 (c.q.ring : Int)) ∧ w.cell? ⟨c.gq, 2, none⟩ = some (.int .i64 (c.q.size : Int)) ∧
    w.cell? ⟨c.gq, 3, none⟩ = some (.int .i64 (c.q.drv : Int)) ∧ w.cell? ⟨c.gq, 5, none⟩ = some (.int .i64 (c.q.na : Int)) ∧ w.cell? ⟨c.gq, 6, none⟩ = some (.bool c.q.nw) ∧ w.cell? ⟨c.gq, 7, none⟩ = some (.int .i64 (c.q.ba : Int)) ∧ w.cell? ⟨c.gq, 8, none⟩ = some (.bool c.q.bw) ∧ w.cell? ⟨c.gq, 9, none⟩ = some (.int .i64 (c.q.out : Int)) :=
  ⟨h.blk.cell 0, h.blk.cell 1, h.blk.cell 2, h.blk.cell 3, h.blk.cell 5, h.blk.cell 6, h.blk.cell 7, h.blk.cell 8, h.blk.cell 9⟩
end

theorem four_results (f : Func) (w : World) (tmps : Array Value) (t : Tmp) (gf : Nat) (hf : f.results = #[.cell t 35]) (h : tmps[t]?.getD undef = .pointer (some ⟨gf, 0, none⟩)) (a b c d : Value)
    (hF : Blk w gf 35 #[a, b, c, d]) : (results f tmps).run Try.prog w = .ok (.agg #[a, b, c, d]) w := by
  have c0 := hF.cell 0
  have c1 := hF.cell 1
  have c2 := hF.cell 2
  have c3 := hF.cell 3
  simp only [List.getElem?_toArray, List.getElem?_cons_zero, List.getElem?_cons_succ] at c0 c1 c2 c3
  simp [results, hf, go_sem, h, c0, c1, c2, c3]
theorem two_results (f : Func) (w : World) (tmps : Array Value) (t : Tmp) (gf : Nat) (hf : f.results = #[.cell t 46]) (h : tmps[t]?.getD undef = .pointer (some ⟨gf, 0, none⟩)) (a b : Value)
    (hF : Blk w gf 46 #[a, b]) : (results f tmps).run Try.prog w = .ok (.agg #[a, b]) w := by
  have c0 := hF.cell 0
  have c1 := hF.cell 1
  simp only [List.getElem?_toArray, List.getElem?_cons_zero, List.getElem?_cons_succ] at c0 c1
  simp [results, hf, go_sem, h, c0, c1]

/-! descriptor -/
theorem parse_cut (xs : List UInt8) (n : Nat) (h : n + 16 ≤ xs.length) (w : World) :
    Calls Try.prog 85 #[.string ⟨((xs.drop n).take 16).toArray⟩] w fun e w' => e = .returned (.tuple #[(deAt xs n).v, .int .i64 0]) ∧ Below w.heap.size w w' := parse_ok (cut16 xs n) (cut16_size xs n h) w
set_option maxHeartbeats 800000 in
theorem desc_any {c : Ctx} {wE w : World} (h : Rm c wE w) (n : Nat) (hn : n + 16 ≤ c.xs.length) :
    Calls Try.prog 63 #[.pointer (some ⟨c.gq, 0, none⟩), .int .i64 n] w fun e w' => e = .returned (deAt c.xs n).v ∧ Rm c w w' := by
  have H := Lib.hid h.enter
  have HP := Lib.hid (fun W => parse_cut c.xs n hn W)
  have HR := Lib.hid (fun W (h : Rm c w W) => h.read n 16 hn)
  generalize (⟨((c.xs.drop n).take 16).toArray⟩ : ByteArray) = S at HP HR
  obtain ⟨d, hd⟩ : ∃ d, deAt c.xs n = d := ⟨_, rfl⟩
  rw [hd] at HP ⊢
  obtain ⟨p0, -⟩ := h.cells
  have hlt := h.lt
  have hne := Nat.ne_of_lt hlt
  clear hd h
  unfold De.v at HP
  go_enter Try.func63, Try.ntmps63
  go_wp2_with fail
  refine (HR.out _ (H.out.alloc _)).mono ?_
  rintro e w1 ⟨rfl, h1⟩
  have k1 := (Blk.new w 35 #[.int .u64 0, .int .u32 0, .int .i64 0, .int .i64 0]).keep h1.keep (by decide) (by decide) (by decide)
  have h1 := (H.out.alloc _).leave h1
  clear HR
  go_wp2_with fail
  refine (HP.out _).mono ?_
  rintro e w2 ⟨rfl, hb⟩
  have k2 := k1.same (hb.block _ k1.lt)
  have h2 := h1.below hb
  clear hb h1 k1 p0
  have z0 := k2.frozen 0
  have z1 := k2.frozen 1
  have z2 := k2.frozen 2
  have z3 := k2.frozen 3
  have c0 := k2.cell 0
  have c1 := k2.cell 1
  have c2 := k2.cell 2
  have c3 := k2.cell 3
  simp only [List.getElem?_toArray, List.getElem?_cons_zero, List.getElem?_cons_succ] at c0 c1 c2 c3
  have hlt2 := k2.lt
  have hne2 := Nat.ne_of_lt hlt2
  have hE : w.heap.size ≤ w.heap.size := Nat.le_refl _
  have hF := h2.put4 k2 hE (by decide) (by decide) (by decide) (by decide) (.int .u64 (d.a : Int)) (.int .u32 (d.n : Int)) (.int .i64 (d.id : Int)) (.int .i64 (d.f : Int))
  have HF := Lib.hid hF
  clear hF hE
  go_wp2_with fail
  exact bodyPost_ret (v := d.v) (four_results _ _ _ 4 w.heap.size rfl rfl _ _ _ _ (HF.out.2.alloc _)) rfl ⟨rfl, HF.out.1.alloc _⟩

theorem bcell {w w1 : World} (hb : Below w.heap.size w w1) : (∀ b o, b < w.heap.size → w1.cell? ⟨b, o, none⟩ = w.cell? ⟨b, o, none⟩) ∧ (∀ b o, b < w.heap.size → w1.frozen? ⟨b, o, none⟩ = w.frozen? ⟨b, o, none⟩) :=
  ⟨fun b o h => hb.cell (p := ⟨b, o, none⟩) h, fun b o h => hb.frozen (p := ⟨b, o, none⟩) h⟩
/-! has, require, place, offset, after -/
theorem bit_and : ∀ b : Fin 256, (b.val &&& 1 != 0) = (b.val / 1 % 2 == 1) ∧ (b.val &&& 2 != 0) = (b.val / 2 % 2 == 1) ∧ (b.val &&& 4 != 0) = (b.val / 4 % 2 == 1) := by decide +kernel
theorem bit_low (n k : Nat) (hk : k < 256) : n &&& k = n % 256 &&& k := by
  have h := two_and n k
  rw [show k / 256 = 0 by omega, show k % 256 = k by omega, Nat.and_zero] at h
  omega
theorem has_bit (d : De) (h : d.Ok) (b : Nat) (hb : b = 1 ∨ b = 2 ∨ b = 4) : ∃ X : Nat, bits .and .i64 (d.f : Int) (b : Int) = (X : Int) ∧ ((X : Int) != 0) = d.bit b := by
  refine ⟨d.f &&& b, bits_and d.f b h.f (by omega), ?_⟩
  obtain ⟨e1, e2, e3⟩ := bit_and ⟨d.f % 256, by omega⟩
  simp only at e1 e2 e3
  have e : (((d.f &&& b : Nat) : Int) != 0) = (d.f &&& b != 0) := by
    rw [Bool.eq_iff_iff]; simp
  rw [e, bit_low d.f b (by omega)]
  unfold De.bit
  rcases hb with rfl | rfl | rfl
  · rw [e1]; congr 1; omega
  · rw [e2]; congr 1; omega
  · rw [e3]; congr 1; omega
theorem has_any (d : De) (h : d.Ok) (b : Nat) (hb : b = 1 ∨ b = 2 ∨ b = 4) (w : World) :
    Calls Try.prog 97 #[d.v, .int .i64 (b : Int)] w fun e w' => e = .returned (.bool (d.bit b)) ∧ Below w.heap.size w w' := by
  obtain ⟨X, hX, hd⟩ := has_bit d h b hb
  generalize d.bit b = r at *
  unfold De.v
  generalize (b : Int) = b at *
  clear h hb
  go_enter Try.func97, Try.ntmps97
  go_wp2_with fail
  go_ret
  exact ⟨rfl, (Below.refl _ _).alloc (Nat.le_refl _) _⟩
/-- the panic of a malformed chain -/
def badV : Value := .iface 113 (.agg #[])
def Bad (e : Ending) : Prop := e = .panicked [{ v := badV, recovered := false }]
theorem req_yes (w : World) : Calls Try.prog 98 #[.bool true] w fun e w' => e = .returned (.tuple #[]) ∧ w = w' := by
  go_enter Try.func98, Try.ntmps98
  go_wp2
  go_end0
  exact ⟨rfl, rfl⟩
theorem req_no (w : World) : Calls Try.prog 98 #[.bool false] w fun e w' => Bad e ∧ w = w' := by
  unfold Bad badV
  go_enter Try.func98, Try.ntmps98
  go_wp2
  exact ⟨rfl, rfl, rfl⟩
/-- where a descriptor's bytes begin, as a number with a sign -/
def plA (d : De) : Int := if d.a < 9223372036854775808 then (d.a : Int) else (d.a : Int) - 18446744073709551616
theorem place_any (d : De) (h : d.Ok) (w : World) :
    Calls Try.prog 99 #[d.v] w fun e w' => e = .returned (.tuple #[.int .i64 (plA d), .int .i64 (d.n : Int)]) ∧ Below w.heap.size w w' := by
  have v1 : IntKind.i64.wrap (d.a : Int) = plA d := by have := h.a; rw [IntKind.wrap_i64]; unfold plA; split <;> omega
  have v2 : IntKind.i64.wrap (d.n : Int) = (d.n : Int) := by have := h.n; rw [IntKind.wrap_i64]; omega
  unfold De.v
  generalize plA d = P at *
  generalize (d.n : Int) = n at *
  generalize (d.a : Int) = a at *
  clear h
  go_enter Try.func99, Try.ntmps99
  go_wp2_with fail
  go_quiet (fail)
  go_wp2_with fail
  go_ret2
  exact ⟨rfl, below_drewN ((Below.refl _ _).alloc (Nat.le_refl _) _) _⟩
theorem may_place {xs : List UInt8} (hx : xs.length ≤ 1048576) (d : De) (hd : d.Ok) : mayB xs (plA d) (d.n : Int) = decide (d.a + d.n ≤ xs.length) := by
  have ha := hd.a
  unfold mayB plA
  rw [Bool.eq_iff_iff]
  simp only [decide_eq_true_eq]
  split <;> omega
theorem offset_any {c : Ctx} {wE w : World} (h : Rm c wE w) (a : Nat) (v : Bool) (hr : c.q.ring + 16 * a ≤ 1048576) :
    Calls Try.prog 64 #[.pointer (some ⟨c.gq, 0, none⟩), .agg #[.int .i64 (a : Int), .bool v]] w fun e w' => e = .returned (.int .i64 ((c.q.ring + 16 * a : Nat) : Int)) ∧ Below w.heap.size w w' := by
  obtain ⟨-, p1, -⟩ := h.cells
  have hlt := h.lt
  have hne := Nat.ne_of_lt hlt
  have v1 : IntKind.i64.wrap ((a : Int) * 16) = (a : Int) * 16 := by rw [IntKind.wrap_i64]; omega
  have v2 : IntKind.i64.wrap ((c.q.ring : Int) + (a : Int) * 16) = ((c.q.ring + 16 * a : Nat) : Int) := by rw [IntKind.wrap_i64]; omega
  generalize ((c.q.ring + 16 * a : Nat) : Int) = R at *
  clear h hr
  go_enter Try.func64, Try.ntmps64
  go_wp2_with fail
  go_quiet (fail)
  go_wp2_with fail
  go_ret
  exact ⟨rfl, below_drewN ((Below.refl _ _).alloc (Nat.le_refl _) _) _⟩
/-- after under way: its box, its result, the queue's size, and all else -/
def AF (c : Ctx) (w : World) (a v : Value) (w' : World) : Prop :=
  (w'.cell? ⟨w.heap.size, 0, none⟩ = some a ∧ w'.cell? ⟨w.heap.size, 1, none⟩ = some v ∧ w'.cell? ⟨c.gq, 2, none⟩ = some (.int .i64 (c.q.size : Int))) ∧ Rm c w w' ∧ Blk w' w.heap.size 46 #[a, v] ∧ Blk w' (w.heap.size + 1) 46 #[.int .i64 0, .bool false]
section
variable {c : Ctx} {w w1 w' : World} {a v : Value}
theorem AF.of (h : Rm c w w') (k : Blk w' w.heap.size 46 #[a, v]) (r : Blk w' (w.heap.size + 1) 46 #[.int .i64 0, .bool false]) : AF c w a v w' := ⟨⟨k.cell 0, k.cell 1, h.cells.2.2.1⟩, h, k, r⟩
theorem AF.next (h : AF c w a v w1) (hq : Below w1.heap.size w1 w') : AF c w a v w' := AF.of (h.2.1.below hq) (h.2.2.1.same (hq.block _ h.2.2.1.lt)) (h.2.2.2.same (hq.block _ h.2.2.2.lt))
theorem AF.drew (h : AF c w a v w1) : AF c w a v w1.drew := h.next (Below.refl _ _).drew
theorem AF.alloc (h : AF c w a v w1) (o : Obj) : AF c w a v (w1.alloc o) := h.next ((Below.refl _ _).alloc (Nat.le_refl _) _)
theorem AF.store (h : AF c w a v w1) {k : Nat} {x y : Value} (hk : Blk w1 k 46 #[x, y]) (hlt : w.heap.size + 1 < k) (p q : Value) : AF c w a v ((w1.setCell ⟨k, 0, none⟩ p).setCell ⟨k, 1, none⟩ q) :=
  AF.of (h.2.1.put2 hk (by omega) (by decide) (by decide) (by decide) (by decide) p q).1 ((h.2.2.1.other (by omega) 0 p).other (by omega) 1 q) ((h.2.2.2.other (by omega) 0 p).other (by omega) 1 q)
theorem AF.stored (h : AF c w a v w1) {k : Nat} {x y : Value} (hk : Blk w1 k 46 #[x, y]) (hlt : w.heap.size + 1 < k) (p q : Value) : AF c w a v ((w1.setCell ⟨k, 0, none⟩ p).setCell ⟨k, 1, none⟩ q) ∧ Blk ((w1.setCell ⟨k, 0, none⟩ p).setCell ⟨k, 1, none⟩ q) k 46 #[p, q] :=
  ⟨h.store hk hlt p q, by have := (hk.put 0 p).put 1 q; simpa using this⟩
theorem AF.fresh (h : AF c w a v w1) (x y p q : Value) : AF c w a v (((w1.alloc (.cells #[x, y] 46)).setCell ⟨w1.heap.size, 0, none⟩ p).setCell ⟨w1.heap.size, 1, none⟩ q) :=
  (h.alloc _).store (Blk.new w1 46 #[x, y]) h.2.2.2.lt p q
end
theorem blk_third (w : World) (o o' : Obj) (t : TypeId) (cs : Array Value) : Blk ((((w.alloc o).alloc o').alloc (.cells cs t)).drew) (w.heap.size + 1 + 1) t cs := by
  have := (Blk.new ((w.alloc o).alloc o') t cs).drew
  have e : ((w.alloc o).alloc o').heap.size = w.heap.size + 1 + 1 := by simp
  rwa [e] at this
set_option maxHeartbeats 1600000 in
theorem after_any {c : Ctx} {wE w : World} (h : Rm c wE w) (a k : Nat) (v : Bool) (h1 : 1 ≤ c.q.size) (h2 : c.q.size ≤ 32768) (ha : a < c.q.size) (hk : k ≤ c.q.size) :
    Calls Try.prog 48 #[.pointer (some ⟨c.gq, 0, none⟩), .agg #[.int .i64 (a : Int), .bool v], .int .i64 (k : Int)] w fun e w' => e = .returned (.agg #[.int .i64 (stA c.q.size a k : Int), .bool (stW c.q.size a k v)]) ∧ Rm c w w' := by
  obtain ⟨e0, e1, e2⟩ := nx_st v h1 h2 ha hk
  have HN := fun W => Sp.next_any (a : Int) (c.q.size : Int) (k : Int) v W
  rw [e0, e1, e2] at HN
  unfold Sp.R2 at HN
  generalize (stA c.q.size a k : Int) = A at *
  generalize stW c.q.size a k v = V at *
  have HN := Lib.hid HN
  have HE := Lib.hid h.enter
  obtain ⟨-, -, p2, -⟩ := h.cells
  have hlt := h.lt
  have hne := Nat.ne_of_lt hlt
  clear e0 e1 e2 h h1 h2 ha hk
  go_enter Try.func48, Try.ntmps48
  go_wp2_with fail
  have C0 := Lib.hid (AF.of (c := c) (w := w) ((HE.out.alloc _).alloc _) ((Blk.new w 46 #[.int .i64 (a : Int), .bool v]).alloc _) (Sp.Blk.new2 w (.cells #[.int .i64 (a : Int), .bool v] 46) 46 #[.int .i64 0, .bool false]))
  go_region_held3 (fun w' => (w'.cell? ⟨w.heap.size, 0, none⟩ = some (.int .i64 (a : Int)) ∧ w'.cell? ⟨w.heap.size, 1, none⟩ = some (.bool v) ∧ w'.cell? ⟨c.gq, 2, none⟩ = some (.int .i64 (c.q.size : Int))) ∧ Rm c w w' ∧ Blk w' w.heap.size 46 #[.int .i64 (a : Int), .bool v] ∧ Blk w' (w.heap.size + 1) 46 #[.int .i64 0, .bool false])
    ((refine (id (α := AF c w (.int .i64 (a : Int)) (.bool v) _) ?_); with_reducible (first | exact C0.out.drew | exact (C0.out.alloc _).drew | exact AF.next C0.out.drew hq | exact AF.next (C0.out.alloc _).drew hq | exact AF.alloc (AF.next C0.out.drew hq) _ | exact AF.store (AF.next (C0.out.alloc _).drew hq) hk1 (by omega) _ _)))
    ((go_at_call 74; ((with_reducible refine (HN.out _).mono ?_); rintro e w' ⟨rfl, hq⟩; obtain ⟨hc1, hf1⟩ := bcell hq; have hz1 := hq.size; (try simp at hz1); (try (have hk1 := (blk_third w _ _ _ _).same (hq.block _ (by simp)))))))
  · have hA := AF.alloc (AF.next C0.out.drew hq) (.cells #[.int .i64 A, .bool V] 46)
    have hk := Blk.new w' 46 #[.int .i64 A, .bool V]
    obtain ⟨W, hW⟩ : ∃ W, w'.alloc (.cells #[.int .i64 A, .bool V] 46) = W := ⟨_, rfl⟩
    obtain ⟨K, hK⟩ : ∃ K, w'.heap.size = K := ⟨_, rfl⟩
    rw [hW] at hA hk ⊢
    rw [hK] at hk ⊢
    have q0 := hk.cell 0
    have q1 := hk.cell 1
    have r := hA.2.2.2
    have x0 := r.cell 0
    have x1 := r.cell 1
    have z0 := r.frozen 0
    have z1 := r.frozen 1
    simp only [List.getElem?_toArray, List.getElem?_cons_zero, List.getElem?_cons_succ] at q0 q1 x0 x1
    have HF := Lib.hid (hA.2.1.put2 r (by omega) (by decide) (by decide) (by decide) (by decide) (.int .i64 A) (.bool V))
    clear hA hk r hW hK hq hc1 hf1 hz1
    go_wp2_with fail
    exact bodyPost_ret (v := .agg #[.int .i64 A, .bool V]) (two_results _ _ _ 6 (w.heap.size + 1) rfl rfl _ _ HF.out.2) rfl ⟨rfl, HF.out.1⟩
  · obtain ⟨hA, hk⟩ := AF.stored (AF.next (C0.out.alloc _).drew hq) hk1 (by omega) (.int .i64 A) (.bool V)
    obtain ⟨W, hW⟩ : ∃ W, (w'.setCell ⟨w.heap.size + 1 + 1, 0, none⟩ (.int .i64 A)).setCell ⟨w.heap.size + 1 + 1, 1, none⟩ (.bool V) = W := ⟨_, rfl⟩
    obtain ⟨K, hK⟩ : ∃ K, w.heap.size + 1 + 1 = K := ⟨_, rfl⟩
    rw [hW] at hA hk ⊢
    rw [hK] at hk ⊢
    have q0 := hk.cell 0
    have q1 := hk.cell 1
    have r := hA.2.2.2
    have x0 := r.cell 0
    have x1 := r.cell 1
    have z0 := r.frozen 0
    have z1 := r.frozen 1
    simp only [List.getElem?_toArray, List.getElem?_cons_zero, List.getElem?_cons_succ] at q0 q1 x0 x1
    have HF := Lib.hid (hA.2.1.put2 r (by omega) (by decide) (by decide) (by decide) (by decide) (.int .i64 A) (.bool V))
    clear hA hk r hW hK hq hc1 hf1 hz1
    go_wp2_with fail
    exact bodyPost_ret (v := .agg #[.int .i64 A, .bool V]) (two_results _ _ _ 6 (w.heap.size + 1) rfl rfl _ _ HF.out.2) rfl ⟨rfl, HF.out.1⟩
end Go.Proofs.Ytoblemgeacllkaa
